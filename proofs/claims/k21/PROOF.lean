import PyProof.Rows.All
import KE.KTryMore
import KE.KRevSl
import PySem.Challenge.RW_lookwords_k21_seen_refused
noncomputable section
open PySem.W (Frag nsIn keepIn codeIn mg_of mg_none_of)
set_option Elab.async false
set_option linter.all false
set_option maxRecDepth 100000
namespace Kx
noncomputable section
open PySem PySem.W PySem.Calls PyProof.Rows
noncomputable def zP:Pos:=⟨0,0,0,0⟩
noncomputable def anV:Option Value:=some (.ref 6)
noncomputable def hA (P:Params):List Obj:=(boot_heap P).objs.toList++[⟨.type "tuple",none,.seq #[] 0,#[]⟩,⟨.none,none,.fields #[],#[]⟩,
 ⟨.type "code",none,.fields #[.str "<module>" 182,.str "<module>" 183,.str "/claim/cut.py" 184,.int 1 0,.int 0 0,.int 0 0,.int 0 0,.int 0 0,.ref 11,.bool false,.int 181 0,.ref 12,.none,.none,.none,.none,.int 185 0,.int 1 0,.str "/claim/cut.py" 186],#[]⟩,
 ⟨.type "frame",none,.plain,#[some (.ref 13),some (.ref 3),some (.ref 3),none,some (.str "__main__" 164),none,some (.ref 0)]⟩]
noncomputable def enP (p:Program):Env:={ scope:=p.main.scope,locals:=mainNs,globals:=mainNs,cells:=[],code:=.ref 13,frame:=some 14 }
noncomputable def cdP (p:Program):Code:=.body (behindTheImports p) (enP p)
noncomputable def trA:List Obj->Nat->BT->BT
 | [],_,t=>t
 | o::l,i,t=>trA l (i+1) (t.ins i o)
noncomputable def SA (w:World) (os:OsState):SharedT:=⟨trA (hA w.params) 0 .nil,15,(boot_heap w.params).life,Array.mk [],boot_drawn,187,os⟩
noncomputable def GP (p:Program) (w:World) (M:Nat) (os:OsState):Option (Flow×Code×Shared):=
 (segRunT treeTable p w 11 anV 1 M (SA w os) (piecesOf (behindTheImports p) (enP p) (cdP p) zP [topFrame zP])).bind fun r=>
  (topRun treeTable p w 11 anV 5 r.2.1.abs (restOf [] (enP p) (cdP p) r.2.2.2 [topFrame zP])).map fun s=>(r.1,r.2.2.1,s)
abbrev UY (p q:Program) (loose:List Str) (Xt:Shared->Bool) (w:World) (x:Flow×Code×Shared):=
 (x.1,x.2.1,(staticsOk (importedModules p.main.body) (boot_heap w.params) x.2.2.heap&&namesBound p x.2.2.heap&&gensDone x.2.2&&laidKept (boot_heap w.params) x.2.2.heap),openSeen q loose (importedModules p.main.body) Xt true x.2.2)
theorem left_T {p q:Program} {loose:List Str} {Xt:Shared->Bool} {α:Type} {Yf:Shared->α} {Ya:World->α} {N M:Nat}
  (e:opening p=plainProg p.main.scope.names) (hN:Nat.ble 600 N=true) (f:∀ s,fenceModules? p s=some s)
  (size:∀ w:World,((boot_heap w.params).isNs mainGlobals&&(Array.mk []:Array GenState).size == 0,(boot_heap w.params).objs.size,(boot_heap w.params).nsMap mainGlobals "__annotations__")=(true,11,anV))
  (pre:∀ (w:World) (os:OsState),topGo treeTable p w 11 anV 12 ⟨boot_heap w.params,Array.mk [],boot_drawn,boot_toks,os⟩ (topStub p)=some ((SA w os).abs,⟨denote treeTable (cdP p),cdP p,zP,[topFrame zP]⟩))
  (blk:∀ (w:World) (os:OsState),segRun treeTable p w 11 anV 1 1 (SA w os).abs (blockOf (behindTheImports p) (enP p) (cdP p) zP [topFrame zP])=some (.next,(SA w os).abs,cdP p,zP))
  (le:Nat.ble (12+(1+(M+5))) N=true)
  (m1:∀ (w:World) (os:OsState),(GP p w M os).map (UY p q loose Xt w)=some (.next,cdP p,true,openGood q loose))
  (m2:∀ (w:World) (os:OsState),(GP p w M os).map (fun x=>Yf x.2.2)=some (Ya w)):LeftO p q loose Xt Yf Ya N:=fun w=>by
 obtain ⟨⟨h,gs,d,k,os⟩,a,a'⟩:=Option.map_eq_some_iff.mp (boot_open e hN f w)
 obtain ⟨rfl,rfl,rfl,rfl⟩:h=boot_heap w.params/\gs=Array.mk []/\d=boot_drawn/\k=boot_toks:=by simpa using a'
 obtain ⟨x,hx,hl⟩:=Option.map_eq_some_iff.mp (m1 w os)
 obtain ⟨y,hy,hY⟩:=Option.map_eq_some_iff.mp (m2 w os)
 obtain rfl:y=x:=Option.some.inj (hy.symm.trans hx)
 obtain ⟨r,hr,hz⟩:=Option.bind_eq_some_iff.mp hx
 obtain ⟨s,hs,rfl⟩:=Option.map_eq_some_iff.mp hz
 obtain ⟨fl,st,co,po⟩:=r
 unfold UY at hl
 simp only [Prod.mk.injEq] at hl
 obtain ⟨rfl,rfl,l1,l2⟩:=hl
 have t1:=piece_app (rest:=[]) (segRun_of hr) hs
 rw [List.append_nil] at t1
 have t2:=piece_block (blk w os) t1
 have t3:=topRun_mono (N - (12+(1+(M+5)))) _ _ _ _ (go_top (pre w os) t2)
 rw [show 12+(1+(M+5))+(N - (12+(1+(M+5))))=N by have:=Nat.le_of_ble_eq_true le; omega] at t3
 obtain ⟨z1,z2,z3⟩:_/\_/\_:=by simpa only [Prod.mk.injEq] using size w
 have t:topFrom treeTable p w N ⟨boot_heap w.params,Array.mk [],boot_drawn,boot_toks,os⟩=some s:=by
  unfold topFrom
  dsimp only
  rw [z1,z2,z3,t3]
  show (match staticsOk (importedModules p.main.body) (boot_heap w.params) s.heap&&namesBound p s.heap&&gensDone s&&laidKept (boot_heap w.params) s.heap with | true=>_ | false=>_)=_
  rw [l1]
 unfold openEnds
 rw [a]
 show (topFrom treeTable p w N _).map _=_
 rw [t]
 exact congrArg some (Prod.ext l2 hY)
end
end Kx
noncomputable section
open PySem PySem.W PyProof.Rows
noncomputable def Kx.vq:Program:=view PySem.Challenge.pw_lookwords_k21_seen_refused [1,2,3,4,5,6,7,8,9,10,11,12,13,14,16,17,18,19,20,21,22,23,24,25,26,27,28,29,31,32,33,35,37,38,39,40,41,42,44,45,46,47,48,49,50,51,52,53,54,55]
noncomputable def Kx.xt (s:Shared):Bool:=xlAt Kx.vq [] s&&recOk (RowW.records (OpenRow.toRowW (OpenLaw.row PySem.Challenge.rw_lookwords_k21_seen_refused))) s
theorem Kx.m1:∀ (w:World) (os:OsState),(Kx.GP PySem.Challenge.pw_lookwords_k21_seen_refused w 15000 os).map (Kx.UY PySem.Challenge.pw_lookwords_k21_seen_refused Kx.vq [] Kx.xt w)=some (.next,Kx.cdP PySem.Challenge.pw_lookwords_k21_seen_refused,true,openGood Kx.vq []):=by intro w os; kernel_rfl
local macro_rules | `(tactic| o_head $H) => `(tactic| (refine holds_open (q := Kx.vq) (loose := []) (Xt := Kx.xt) (XP := XL Kx.vq []) (Yf := Hook.obs $H) (Ya := Hook.val $H) (YP := Hook.says $H) (N := 20000) ?hl (Hook.of $H) (Hook.keeps $H) (fun s e => xl_of s (Bool.and_eq_true_iff.mp e).1) XL.keeps (by rfl) (by rfl) (by rfl) (fun s e => recFacts_of (Bool.and_eq_true_iff.mp e).2) (by rfl) (by first | assumption | decide +kernel) (by decide +kernel) ⟨rfl, rfl, rfl, rfl, rfl, by decide +kernel⟩ ?hw ?hc; (case hl => refine Kx.left_T (p := PySem.Challenge.pw_lookwords_k21_seen_refused) (M := 15000) ?e rfl ?f ?s ?p ?b rfl Kx.m1 ?m; (case e => kernel_rfl); (case f => intro s; kernel_rfl); (case s => intro w; kernel_rfl); (case p => intro w os; kernel_rfl); (case b => intro w os; kernel_rfl); (case m => intro w os; kernel_rfl))))
set_option maxHeartbeats 0 in
open_top Kx.hd for PySem.Challenge.rw_lookwords_k21_seen_refused
end
namespace L2
open PySem PySem.Spec PyProof.Rows
abbrev Key:=Sum Int Str
noncomputable def gi:Key->Value->Bool
 | .inl k,v=>Value.isInt k v
 | .inr x,v=>Value.isStrOf x v
noncomputable def qbp (w:World):Key->Int
 | .inl k=>hashInt k
 | .inr x=>hashStr w x
theorem qN:∀ {k:Key} {v:Value},gi k v=true->(∃ i t,k=Sum.inl i/\v=Value.int i t)\/(∃ x t,k=Sum.inr x/\v=Value.str x t)
 | .inl i,v,h=>by
  obtain ⟨t,e⟩:=Value.isInt_shape (k:=i) (v:=v) h
  exact .inl ⟨i,t,rfl,e⟩
 | .inr x,v,h=>by
  obtain ⟨t,e⟩:=Value.isStrOf_shape (x:=x) (v:=v) h
  exact .inr ⟨x,t,rfl,e⟩
theorem xZ (i:Int) (t:Tok):gi (.inl i) (.int i t)=true:=by simp [gi,Value.isInt]
theorem za (x:Str) (t:Tok):gi (.inr x) (.str x t)=true:=by simp [gi,Value.isStrOf]
theorem XJ (a b:Int):decide ((Sum.inl a:Key)=Sum.inl b)=(a == b):=by
 by_cases e:a=b
 ·subst e; simp
 ·have h:¬(Sum.inl a:Key)=Sum.inl b:=fun q=>e (Sum.inl.inj q)
  rw [decide_eq_false h]
  exact (beq_eq_false_iff_ne.mpr e).symm
theorem XM (a b:Str):decide ((Sum.inr a:Key)=Sum.inr b)=decide (a=b):=by
 by_cases e:a=b
 ·subst e; simp
 ·have h:¬(Sum.inr a:Key)=Sum.inr b:=fun q=>e (Sum.inr.inj q)
  rw [decide_eq_false h,decide_eq_false e]
theorem XN (a:Int) (b:Str):decide ((Sum.inl a:Key)=Sum.inr b)=false:=decide_eq_false (fun q=>nomatch q)
theorem XO (a:Str) (b:Int):decide ((Sum.inr a:Key)=Sum.inl b)=false:=decide_eq_false (fun q=>nomatch q)
noncomputable def jz (prog:Program) (w:World):PySem.KeyKind prog w Key where
 is:=gi
 hash:=qbp w
 inj:=fun v a b ha hb=>by
  rcases qN ha with ⟨i,t,rfl,rfl⟩ | ⟨x,t,rfl,rfl⟩
  ·rcases qN hb with ⟨j,u,rfl,e⟩ | ⟨y,u,rfl,e⟩
   ·injection e with e1 _; rw [e1]
   ·exact nomatch e
  ·rcases qN hb with ⟨j,u,rfl,e⟩ | ⟨y,u,rfl,e⟩
   ·exact nomatch e
   ·injection e with e1 _; rw [e1]
 byValue:=fun k v h=>by
  rcases qN h with ⟨i,t,rfl,rfl⟩ | ⟨x,t,rfl,rfl⟩ <;> rfl
 pyHash:=fun hv h=>by
  rcases qN hv with ⟨i,t,rfl,rfl⟩ | ⟨x,t,rfl,rfl⟩
  ·exact wpAny_pyHash_int h
  ·exact wpAny_pyHash_str h
 eqBool:=fun hu hv h=>by
  rcases qN hu with ⟨i,t,rfl,rfl⟩ | ⟨x,t,rfl,rfl⟩
  ·rcases qN hv with ⟨j,u,rfl,rfl⟩ | ⟨y,u,rfl,rfl⟩
   ·rw [XJ] at h; exact wpAny_eqBool_int h
   ·rw [XN] at h; exact SeqAt.EqAt.int_str i t y u _ _ _ _ h
  ·rcases qN hv with ⟨j,u,rfl,rfl⟩ | ⟨y,u,rfl,rfl⟩
   ·rw [XO] at h; exact SeqAt.EqAt.str_int x t j u _ _ _ _ h
   ·rw [XM] at h; exact wpAny_eqBool_str h
 «strs»:=fun k x t v h=>by
  rcases qN h with ⟨i,u,rfl,e⟩ | ⟨y,u,rfl,e⟩
  ·exact nomatch e
  ·injection e with e1 _
   subst e1
   cases v <;> rfl
theorem gj (prog:Program) (w:World) (i:Int) (t:Tok):(jz prog w).is (.inl i) (.int i t)=true:=xZ i t
theorem gk (prog:Program) (w:World) (x:Str) (t:Tok):(jz prog w).is (.inr x) (.str x t)=true:=za x t
inductive V where
 | non | bl (b:Bool) | int (i:Int) | str (x:Str) | byt (b:Array UInt8) | flt (b:UInt64) | ref (a:Addr) | ty (n:String)
 deriving DecidableEq
def RelV:V->Value->Prop
 | .non,u=>u=Value.none
 | .bl b,u=>u=Value.bool b
 | .int i,u=>∃ t,u=Value.int i t
 | .str x,u=>∃ t,u=Value.str x t
 | .byt b,u=>∃ t,u=Value.bytes b t
 | .flt b,u=>∃ t,u=Value.float b t
 | .ref a,u=>u=Value.ref a
 | .ty n,u=>u=Value.type n
abbrev Vals:List V->List Value->Prop:=Paired RelV
theorem Vals.length {xs:List V} {us:List Value} (r:Vals xs us):xs.length=us.length:=Paired.length r
theorem Vals.get:∀ {xs:List V} {us:List Value} {i:Nat} {x:V},Vals xs us->xs[i]?=some x->∃ u,us[i]?=some u/\RelV x u
 | _,_,_,_,.nil,e=>by simp at e
 | _,_,0,_,.cons r _,e=>by simp at e; subst e; exact ⟨_,rfl,r⟩
 | _,_,i+1,x,.cons _ t,e=>by
  obtain ⟨u,h1,h2⟩:=Vals.get (i:=i) (x:=x) t (by simpa using e)
  exact ⟨u,by simpa using h1,h2⟩
theorem Vals.set {x:V} {u:Value} (r:RelV x u):∀ {xs:List V} {us:List Value} (i:Nat),Vals xs us->Vals (xs.set i x) (us.set i u)
 | _,_,_,.nil=>.nil
 | _,_,0,.cons _ t=>.cons r t
 | _,_,i+1,.cons q t=>.cons q (Vals.set r i t)
theorem Vals.append:∀ {xs ys:List V} {us ws:List Value},Vals xs us->Vals ys ws->Vals (xs++ys) (us++ws)
 | _,_,_,_,.nil,s=>s
 | _,_,_,_,.cons r t,s=>.cons r (Vals.append t s)
theorem Vals.take:∀ {xs:List V} {us:List Value} (n:Nat),Vals xs us->Vals (xs.take n) (us.take n)
 | _,_,0,_=>.nil
 | _,_,_+1,.nil=>.nil
 | _,_,n+1,.cons r t=>.cons r (Vals.take n t)
theorem Vals.none_of:∀ {xs:List V} {us:List Value} {i:Nat},Vals xs us->xs[i]?=none->us[i]?=none:=fun {xs us i} r e=>by
 have h1:=r.length
 have h2:xs.length<=i:=List.getElem?_eq_none_iff.mp e
 exact List.getElem?_eq_none_iff.mpr (by omega)
def RelO:Option V->Option Value->Prop
 | some v,some u=>RelV v u
 | none,none=>True
 | _,_=>False
def KV {κ:Type}:List (κ×V)->List (κ×Value)->Prop:=Paired fun (p:κ×V) (q:κ×Value)=>p.1=q.1/\RelV p.2 q.2
noncomputable def kV:Key->V
 | .inl i=>.int i
 | .inr x=>.str x
inductive HO where
 /-- a list -/
 | lst (xs:List V)
 /-- a tuple (never changes) -/
 | tup (xs:List V)
 /-- a dict whose keys are ints and texts; one whose keys are tuples of ints and texts (the empty one is both) -/
 | dK (kvs:List (Key×V)) | dT (kvs:List (List Key×V))
 /-- a set of ints: its members,its size -/
 | set (S:Int->Bool) (n:Nat)
 /-- an instance of the class at C,its dict at dx,its attributes -/
 | ins (C dx:Addr) (fs:List (Str×V))
 /-- the dict of the instance at x -/
 | own (x:Addr)
 /-- the dict of an exception -/
 | xd (fs:List (Str×V))
 /-- a bound method,f of x -/
 | met (f x:Addr)
 /-- a range object lo,lo+1,.. below hi -/
 | rng (lo hi:Int)
 /-- a thing that is known to the object (the script; a dict while a loop walks it): read,never written while it is so -/
 | frz (o:Obj) (u:HO)
 /-- a code object's table -/
 | tbl (ps:Array Value)
 /-- any other thing,by what is true of its one object (a def of one's own: SetO a S n:=HO.ext fun h=>..) -/
 | ext (φ:Heap->Prop)
abbrev Hp:=Addr->Option HO
noncomputable def upd (H:Hp) (a:Addr) (o:HO):Hp:=fun b=>if b=a then some o else H b
theorem qf {H:Hp} {a:Addr} {o:HO}:upd H a o a=some o:=by unfold upd; rw [if_pos rfl]
theorem qp {H:Hp} {a b:Addr} {o:HO} (h:b≠a):upd H a o b=H b:=by unfold upd; rw [if_neg h]
theorem qv {H:Hp} {a b:Addr} {o:HO} (h:H a=some o) (h':H b=none):a≠b:=by
 intro e; subst e; rw [h] at h'; cases h'
section
variable (P:Program) (w:World)
def ObjOk (H:Hp) (h:Heap) (a:Addr):HO->Prop
 | .lst xs=>xs.length<=sizeLine/\∃ (its:List Value) (n:Nat),Vals xs its/\h.get? a=some { cls:=.type "list",data:=.seq its.toArray n }
 | .tup xs=>(xs.length<=sizeLine/\∃ o,h.get? a=some o/\o.dict=none)/\∃ its:List Value,Vals xs its/\IsTup h a its.toArray
 | .dK kvs=>kvs.length<=sizeLine/\(a == sysModules)=false/\∃ vs,KV kvs vs/\h.DictOf (jz P w) a vs
 | .dT kvs=>kvs.length<=sizeLine/\(a == sysModules)=false/\∃ xs:List (List Key×Addr×Value),
   Paired (fun (p:List Key×V) (q:List Key×Addr×Value)=>p.1=q.1/\H q.2.1=some (.tup (p.1.map kV))/\RelV p.2 q.2.2) kvs xs /\
   ∃ o es ep,h.get? a=some o/\o.ExactDict/\o.data=.dict es ep/\es.toList=xs.map (entryOfKey (tupleKind (jz P w)))/\(xs.map (·.1)).Nodup
 | .set S n=>h.SetOf (intKind P w) a S n
 | .ins C dx fs=>H dx=some (.own a)/\fs.length<=1000/\dx≠a/\h.get? a=some (PySem.W.instObj C dx) /\
   ∃ mA,h.Ns1 dx mA/\(∀ f,RelO (fs.lookup f) (mA f))/\PySem.Within mA (fs.map (·.1))
 | .own _=>∃ o,h.get? a=some o
 | .xd fs=>∃ mA,h.Ns1 a mA/\∀ f,RelO (fs.lookup f) (mA f)
 | .rng lo hi=>∃ t u v,h.get? a=some { cls:=.type "range",data:=.fields #[.int lo t,.int hi u,.int 1 v] }
 | .frz o u=>h.get? a=some o/\ObjOk H h a u
 | .tbl ps=>h.get? a=some { cls:=.none,data:=.fields ps }
 | .met f x=>h.get? a=some (PySem.W.methodObj (.ref f) (.ref x))
 | .ext φ=>φ h/\(∃ o,h.get? a=some o)/\∀ h1 h2:Heap,φ h1->(∀ o,h1.get? a=some o->h2.get? a=some o)->φ h2
def HOk (H:Hp) (h:Heap):Prop:=∀ a o,H a=some o->ObjOk P w H h a o
end
section
variable {P:Program} {w:World} {H H':Hp} {h h':Heap} {a:Addr} {o:HO}
theorem ObjOk.lt (x:ObjOk P w H h a o):a < h.objs.size:=by
 cases o with
 | lst xs=>obtain ⟨_,_,_,_,e⟩:=x; exact Heap.lt_size e
 | tup xs=>obtain ⟨_,_,_,p⟩:=x; exact p.lt
 | dK kvs=>obtain ⟨_,_,_,_,o,_,_,e,_⟩:=x; exact Heap.lt_size e
 | dT kvs=>obtain ⟨_,_,_,_,o,_,_,e,_⟩:=x; exact Heap.lt_size e
 | set S n=>obtain ⟨o,_,_,_,e,_⟩:=x; exact Heap.lt_size e
 | ins C dx fs=>obtain ⟨_,_,_,e,_⟩:=x; exact Heap.lt_size e
 | own y=>obtain ⟨_,e⟩:=x; exact Heap.lt_size e
 | xd fs=>obtain ⟨_,⟨_,_,_,e,_⟩,_⟩:=x; exact Heap.lt_size e
 | rng lo hi=>obtain ⟨_,_,_,e⟩:=x; exact Heap.lt_size e
 | frz ob u=>obtain ⟨e,_⟩:=x; exact Heap.lt_size e
 | tbl ps=>exact Heap.lt_size (show h.get? a=some _ from x)
 | met f y=>exact Heap.lt_size (show h.get? a=some _ from x)
 | ext φ=>obtain ⟨_,⟨_,e⟩,_⟩:=x; exact Heap.lt_size e
theorem Paired.mapP {α β:Type} {F G:α->β->Prop}:∀ {l₁:List α} {l₂:List β},Paired F l₁ l₂->(∀ a b,F a b->G a b)->Paired G l₁ l₂
 | _,_,.nil,_=>.nil
 | _,_,.cons r t,f=>.cons (f _ _ r) (Paired.mapP t f)
theorem ObjOk.stay (x:ObjOk P w H h a o) (k:∀ b u,(b=a\/H b=some (.own a))->h.get? b=some u->h'.get? b=some u)
  (ho:∀ b,H b=some (.own a)->H' b=some (.own a)) (ht:∀ b xs,H b=some (.tup xs)->H' b=some (.tup xs)):ObjOk P w H' h' a o:=by
 induction o with
 | lst xs=>obtain ⟨z,its,n,r,e⟩:=x; exact ⟨z,its,n,r,k _ _ (.inl rfl) e⟩
 | tup xs=>obtain ⟨⟨z,o2,e2,d2⟩,its,r,ob,e,c⟩:=x; exact ⟨⟨z,o2,k _ _ (.inl rfl) e2,d2⟩,its,r,ob,k _ _ (.inl rfl) e,c⟩
 | dK kvs=>obtain ⟨z,y,vs,r,ob,es,ep,e,c⟩:=x; exact ⟨z,y,vs,r,ob,es,ep,k _ _ (.inl rfl) e,c⟩
 | dT kvs=>
  obtain ⟨z,y,xs,r,ob,es,ep,e,c⟩:=x
  exact ⟨z,y,xs,Paired.mapP r fun p q z=>⟨z.1,ht _ _ z.2.1,z.2.2⟩,ob,es,ep,k _ _ (.inl rfl) e,c⟩
 | set S n=>obtain ⟨ob,es,ep,t,e,c⟩:=x; exact ⟨ob,es,ep,t,k _ _ (.inl rfl) e,c⟩
 | ins C dx fs=>
  obtain ⟨d,z,ne,e,mA,⟨od,es,ep,e2,c⟩,r⟩:=x
  exact ⟨ho _ d,z,ne,k _ _ (.inl rfl) e,mA,⟨od,es,ep,k _ _ (.inr d) e2,c⟩,r⟩
 | own y=>obtain ⟨ob,e⟩:=x; exact ⟨ob,k _ _ (.inl rfl) e⟩
 | xd fs=>obtain ⟨mA,⟨od,es,ep,e,c⟩,r⟩:=x; exact ⟨mA,⟨od,es,ep,k _ _ (.inl rfl) e,c⟩,r⟩
 | rng lo hi=>obtain ⟨t,u,v,e⟩:=x; exact ⟨t,u,v,k _ _ (.inl rfl) e⟩
 | frz ob u ih=>obtain ⟨e,q⟩:=x; exact ⟨k _ _ (.inl rfl) e,ih q⟩
 | tbl ps=>
  have e:h.get? a=some { cls:=.none,data:=.fields ps }:=x
  show h'.get? a=some { cls:=.none,data:=.fields ps }
  exact k a _ (.inl rfl) e
 | met f y=>
  have e:h.get? a=some (PySem.W.methodObj (.ref f) (.ref y)):=x
  show h'.get? a=some (PySem.W.methodObj (.ref f) (.ref y))
  exact k a _ (.inl rfl) e
 | ext φ=>obtain ⟨p,⟨o,e⟩,st⟩:=x; exact ⟨st _ _ p fun o q=>k _ _ (.inl rfl) q,⟨o,k _ _ (.inl rfl) e⟩,st⟩
theorem HOk.lt (x:HOk P w H h) (e:H a=some o):a < h.objs.size:=(x a o e).lt
theorem HOk.fresh (x:HOk P w H h) (e:h.objs.size<=a):H a=none:=by
 cases q:H a with
 | none=>rfl
 | some u=>exact absurd (Nat.lt_of_lt_of_le (x.lt q) e) (Nat.lt_irrefl _)
theorem HOk.kept (x:HOk P w H h) (k:∀ b u,h.get? b=some u->h'.get? b=some u):HOk P w H h':=fun a o e=>
 (x a o e).stay (fun b u _ q=>k b u q) (fun _ q=>q) fun _ _ q=>q
theorem HOk.laid (x:HOk P w H h) (k:∀ b u,h.get? b=some u->h'.get? b=some u) (hp:h.objs.size<=a) (new:ObjOk P w (upd H a o) h' a o):HOk P w (upd H a o) h':=fun b u e=>by
 have hn:=x.fresh hp
 by_cases hb:b=a
 ·subst hb; rw [qf] at e; cases e; exact new
 ·rw [qp hb] at e
  exact (x b u e).stay (fun c v _ q=>k c v q) (fun c q=>by rw [qp (qv q hn)]; exact q) fun c xs q=>by rw [qp (qv q hn)]; exact q
end
def Rd (H:Hp) (a:Addr) (u:HO):Prop:=H a=some u\/∃ o,H a=some (.frz o u)
theorem Rd.ok {P:Program} {w:World} {H:Hp} {h:Heap} {a:Addr} {u:HO} (r:Rd H a u) (x:HOk P w H h):ObjOk P w H h a u:=by
 rcases r with r | ⟨o,r⟩
 ·exact x a u r
 ·obtain ⟨_,q⟩:=x a _ r
  exact q
def Mut:Option HO->Prop
 | some (.lst _)=>True
 | some (.dK _)=>True
 | some (.dT _)=>True
 | some (.set _ _)=>True
 | some (.ins _ _ _)=>True
 | some (.ext _)=>True
 | _=>False
section
variable {P:Program} {w:World} {H:Hp} {h h':Heap} {x e:Addr} {o':HO}
theorem HOk.write (ok:HOk P w H h) (mu:Mut (H x)) (he:e=x\/H e=some (.own x)) (k:∀ b u,b≠e->h.get? b=some u->h'.get? b=some u) (heo:∃ u,h'.get? e=some u)
  (new:ObjOk P w (upd H x o') h' x o'):HOk P w (upd H x o') h':=fun b u q=>by
 have nown:∀ c y,H c=some (.own y)->c≠x:=fun c y r z=>by subst z; rw [r] at mu; exact mu
 have ntup:∀ c xs,H c=some (.tup xs)->c≠x:=fun c xs r z=>by subst z; rw [r] at mu; exact mu
 by_cases hb:b=x
 ·subst hb; rw [qf] at q; cases q; exact new
 ·rw [qp hb] at q
  by_cases hbe:b=e
  ·have q':H b=some (.own x):=by
    rcases he with z | z
    ·exact absurd (hbe.trans z) hb
    ·rw [hbe]; exact z
   rw [q] at q'; cases q'
   obtain ⟨v,hv⟩:=heo
   exact ⟨v,by rw [hbe]; exact hv⟩
  ·refine (ok b u q).stay (fun c v hc r=>k c v ?_ r) (fun c r=>by rw [qp (nown c b r)]; exact r) fun c xs r=>by rw [qp (ntup c xs r)]; exact r
   rcases hc with rfl | hc
   ·exact hbe
   ·rintro rfl
    rcases he with z | z
    ·exact nown c b hc z
    ·rw [hc] at z; cases z; exact hb rfl
end
structure Un (fs ex:List Addr) (H H':Hp) (h h':Heap):Prop where
 keep:∀ b o,h.get? b=some o->H b=none->b∉fs->b∉ex->h'.get? b=some o
 slot:∀ b o,h.get? b=some o->H b=none->b∈fs->b∉ex->∃ sl,h'.get? b=some { o with slots:=sl }
 free:∀ b o,h.get? b=some o->H b=none->b∉ex->H' b=none
 there:∀ b o,h.get? b=some o->b∉ex->∃ o',h'.get? b=some o'
 tups:∀ b xs,H b=some (.tup xs)->H' b=some (.tup xs)
 frzs:∀ b o u,H b=some (.frz o u)->H' b=some (.frz o u)
 tbls:∀ b ps,H b=some (.tbl ps)->∃ more,H' b=some (.tbl (ps++more))
section
variable {fs fs' ex ex':List Addr} {H H1 H2:Hp} {h h1 h2 h':Heap} {a x e:Addr} {o:HO}
theorem Un.any (u:Un fs ex H H1 h h1) {b:Addr} {ob:Obj} (q:h.get? b=some ob) (n:H b=none) (hx:b∉ex):∃ sl,h1.get? b=some { ob with slots:=sl }:=by
 by_cases hb:b∈fs
 ·exact u.slot b ob q n hb hx
 ·exact ⟨ob.slots,u.keep b ob q n hb hx⟩
theorem Un.kept (k:∀ b u,h.get? b=some u->h'.get? b=some u):Un fs ex H H h h':=
 ⟨fun b ob q _ _ _=>k b ob q,fun b ob q _ _ _=>⟨ob.slots,k b ob q⟩,fun _ _ _ n _=>n,fun b ob q _=>⟨ob,k b ob q⟩,fun _ _ q=>q,fun _ _ _ q=>q,fun _ ps q=>⟨#[],by rw [q]; simp⟩⟩
theorem Un.refl:Un fs ex H H h h:=Un.kept fun _ _ q=>q
theorem Un.laid (k:∀ b u,h.get? b=some u->h'.get? b=some u) (hp:h.objs.size<=a) (hn:H a=none):Un fs ex H (upd H a o) h h' where
 keep:=fun b u q _ _ _=>k b u q
 slot:=fun b u q _ _ _=>⟨u.slots,k b u q⟩
 free:=fun b u q n _=>by rw [qp (Nat.ne_of_lt (Nat.lt_of_lt_of_le (Heap.lt_size q) hp))]; exact n
 there:=fun b u q _=>⟨u,k b u q⟩
 tups:=fun b xs q=>by rw [qp (qv q hn)]; exact q
 frzs:=fun b u xs q=>by rw [qp (qv q hn)]; exact q
 tbls:=fun b ps q=>⟨#[],by rw [qp (qv q hn),q]; simp⟩
theorem Un.write (mu:Mut (H x)) (he:e=x\/H e=some (.own x)) (k:∀ b u,b≠e->h.get? b=some u->h'.get? b=some u) (heo:∃ u,h'.get? e=some u):Un fs ex H (upd H x o) h h':=by
 have hx:∀ b,H b=none->b≠x:=fun b n z=>by subst z; rw [n] at mu; exact mu
 have hb:∀ b,H b=none->b≠e:=fun b n z=>by
  subst z
  rcases he with r | r
  ·exact hx b n r
  ·rw [n] at r; cases r
 have hm:∀ b u,H b=some u->¬Mut (some u)->b≠x:=fun b u q nm z=>by subst z; rw [q] at mu; exact nm mu
 refine ⟨fun b u q n _ _=>k b u (hb b n) q,fun b u q n _ _=>⟨u.slots,k b u (hb b n) q⟩,fun b u q n _=>by rw [qp (hx b n)]; exact n,fun b u q _=>?_,
  fun b xs q=>by rw [qp (hm b _ q fun z=>z)]; exact q,fun b u xs q=>by rw [qp (hm b _ q fun z=>z)]; exact q,fun b ps q=>⟨#[],by rw [qp (hm b _ q fun z=>z),q]; simp⟩⟩
 by_cases hbe:b=e
 ·subst hbe; exact heo
 ·exact ⟨u,k b u hbe q⟩
end
noncomputable def trk (h:Heap) (H:Hp):List Addr:=(List.range h.objs.size).filter fun a=>(H a).isSome
noncomputable def Wk (h:Heap) (H:Hp):Heap:=PySem.W.hideAll h (trk h H)
theorem JZ (h:Heap) (H:Hp):(Wk h H).objs.size=h.objs.size:=PySem.W.hideAll_size _ _
theorem Wl {h:Heap} {H:Hp} {b:Addr} {o:Obj} (e:h.get? b=some o) (n:H b=none):(Wk h H).get? b=some o:=
 PySem.W.hideAll_get _ e fun hm=>by
  have q:(H b).isSome=true:=(List.mem_filter.mp hm).2
  rw [n] at q; simp at q
theorem UZ {h:Heap} {H:Hp} {b:Addr} {o:Obj} (e:(Wk h H).get? b=some o):h.get? b=some o/\H b=none:=by
 have e':h.get? b=some o:=PySem.W.of_hideAll (trk h H) e
 refine ⟨e',?_⟩
 cases q:H b with
 | none=>rfl
 | some x=>
  have hm:b∈trk h H:=List.mem_filter.mpr ⟨List.mem_range.mpr (Heap.lt_size e'),by simp [q]⟩
  have z:(Wk h H).get? b=none:=PySem.W.hideAll_none (trk h H) hm
  rw [z] at e; cases e
noncomputable def Yb (g h:Heap) (L:Addr):List (Addr×Obj):=(List.range h.objs.size).filterMap fun a=>if a=L\/(g.get? a).isSome=true then none else (h.get? a).map fun o=>(a,o)
noncomputable def rest (g h:Heap) (L d:Addr):List (Addr×Obj):=(Yb g h L).filter fun p=>decide (p.1≠d)
structure Mod (K:Frag) (mg:Str->Option Value) (base:Heap):Prop where
 kin:K.In base
 glob:base.Ns mainGlobals mg
 blt:∃ mb,base.Ns builtinsNs mb/\∀ x:Str,x ≠ "__name__"->mb x=bootBuiltins x
 nolimit:base.NoLimit
structure Cx where
 prog:Program
 w:World
 K:Frag
 mg:Str->Option Value
 base:Heap
 A:Around
 N:List Str
 s₀:Shared
 H₀:Hp
 env:Env
 outer:List Env
 stack:List Env
 ex:List Addr
 fn:Str->Bool
 calm:Bool
 pn:List (Addr×Obj)
 xe:Value->Shared->Prop
noncomputable def frs (l:List Env):List Addr:=l.filterMap (·.frame)
abbrev Cx.fs (X:Cx):List Addr:=frs X.outer
def Vis (sc:Scope) (x:Str):Prop:=sc.names.lookup x=some .local\/sc.names.lookup x=some .cell\/sc.names.lookup x=some .free
def Loc (sc:Scope) (x:Str):Prop:=sc.names.lookup x=some .local\/sc.names.lookup x=some .cell
def qaX (env:Env) (h:Heap) (m:Str->Option Value) (x:Str) (u:Value):Prop:=
 (env.kindOf x=some .local/\m x=some u)\/((env.kindOf x=some .cell\/env.kindOf x=some .free)/\∃ c,env.cells.lookup x=some c/\h.IsCell c (some u))
structure Cx.Ok (X:Cx):Prop where
 mod:Mod X.K X.mg X.base
 kind:X.env.scope.kind=.function
 glob:X.env.globals=mainGlobals
 blt:X.env.builtins=builtinsNs
 above:X.s₀.heap.objs.size<=X.env.locals
 inj:∀ x y c,X.env.cells.lookup x=some c->X.env.cells.lookup y=some c->x=y
 has:∀ x,(X.env.kindOf x=some .cell\/X.env.kindOf x=some .free)->∃ c,X.env.cells.lookup x=some c
 cab:∀ x c,X.fn x=true->X.env.cells.lookup x=some c->X.s₀.heap.objs.size<=c
 hd:X.calm=true->X.A.handled=none
 frames:X.A.frames=some X.stack
 stk:X.stack=X.outer\/(X.stack=X.env::X.outer/\X.env.frame=some X.env.locals)
 exf:∀ b∈X.ex,b≠X.env.locals/\∀ x c,X.env.cells.lookup x=some c->c≠b
 bs:∀ b o,X.base.get? b=some o->X.s₀.heap.get? b=some o/\X.H₀ b=none
 bsz:X.base.objs.size<=X.s₀.heap.objs.size
 noex:∀ b o,X.base.get? b=some o->b∉X.ex
 exfs:∀ b∈X.ex,b∉X.fs
 funs:X.s₀.heap.FunFrames X.base X.outer
 frf:∀ b∈X.fs,X.H₀ b=none
structure Inv (X:Cx) (pins:List (Addr×Obj)) (σ:List (Option V)) (H:Hp) (s:Shared):Prop where
 ok:X.Ok
 os:s.os=X.s₀.os
 bare:AllBare s.gens
 base:Un X.fs X.ex X.H₀ H X.s₀.heap s.heap
 loc:∃ m,s.heap.Ns X.env.locals m/\∀ (i:Nat) (x:Str) (v:V),X.N[i]?=some x->σ[i]?=some (some v)->Vis X.env.scope x->∃ u,RelV v u/\qaX X.env s.heap m x u
 cell:∀ x c,X.env.cells.lookup x=some c->∃ v,s.heap.IsCell c v
 free:H X.env.locals=none
 freeC:∀ x c,X.env.cells.lookup x=some c->H c=none
 pin:∀ p∈X.pn++pins,s.heap.get? p.1=some p.2/\H p.1=none/\p.1≠X.env.locals/\p.1∉X.fs/\∀ v,p.2.data≠.cell v
 hok:HOk X.prog X.w H s.heap
 len:σ.length=X.N.length
section
variable {X:Cx} {pins:List (Addr×Obj)} {σ:List (Option V)} {H H':Hp} {s:Shared} {h':Heap}
theorem Cx.Ok.nofr (ok:X.Ok) {b:Addr} {o:Obj} (e:X.base.get? b=some o):b∉X.fs:=fun hb=>by
 have:=(ok.funs.mem hb).1
 rw [e] at this; cases this
theorem Inv.bs (I:Inv X pins σ H s):∀ b o,X.base.get? b=some o->s.heap.get? b=some o/\H b=none:=fun b o e=>
 ⟨I.base.keep b o (I.ok.bs b o e).1 (I.ok.bs b o e).2 (I.ok.nofr e) (I.ok.noex b o e),I.base.free b o (I.ok.bs b o e).1 (I.ok.bs b o e).2 (I.ok.noex b o e)⟩
theorem Inv.bk (I:Inv X pins σ H s):∀ b o,X.base.get? b=some o->s.heap.get? b=some o:=fun b o e=>(I.bs b o e).1
theorem Inv.mod (I:Inv X pins σ H s):Mod X.K X.mg X.base:=I.ok.mod
theorem Inv.kIn (I:Inv X pins σ H s):X.K.In s.heap:=I.ok.mod.kin.keeps I.bk
theorem Inv.nolimit (I:Inv X pins σ H s):s.heap.NoLimit:=I.ok.mod.nolimit.keeps I.bk
theorem Inv.fr (I:Inv X pins σ H s):∃ m,Fr X.base X.env.locals s.heap m:=
 let ⟨m,hn,_⟩:=I.loc
 ⟨m,hn,I.bk,Nat.le_trans I.ok.bsz I.ok.above⟩
theorem Inv.lt (I:Inv X pins σ H s):X.env.locals < s.heap.objs.size:=let ⟨_,hn,_⟩:=I.loc; hn.lt
theorem Inv.sz (I:Inv X pins σ H s):X.s₀.heap.objs.size<=s.heap.objs.size:=Nat.le_trans I.ok.above (Nat.le_of_lt I.lt)
theorem Inv.nofs (I:Inv X pins σ H s) {a:Addr} (h:s.heap.objs.size<=a):a∉X.fs:=fun hb=>by
 obtain ⟨_,o,ho,_⟩:=I.ok.funs.mem hb
 exact absurd (Nat.lt_of_lt_of_le (Heap.lt_size ho) (Nat.le_trans I.sz h)) (Nat.lt_irrefl _)
theorem Inv.cne (I:Inv X pins σ H s):∀ x c,X.env.cells.lookup x=some c->c≠X.env.locals:=fun x c e z=>by
 obtain ⟨v,o,ho,hd⟩:=I.cell x c e
 obtain ⟨m,⟨o',es,ep,ho',hd',_⟩,_⟩:=I.loc
 rw [z,ho'] at ho; cases ho; rw [hd'] at hd; cases hd
theorem Inv.funs (I:Inv X pins σ H s):s.heap.FunFrames X.base X.outer:=by
 have all:∀ (l:List Env),(∀ b∈frs l,b∈X.fs)->X.s₀.heap.FunFrames X.base l->s.heap.FunFrames X.base l:=by
  intro l
  induction l with
  | nil=>intro _ _; trivial
  | cons env r ih=>
   intro hs hl
   obtain ⟨hk,⟨L,o,hf,hn,ho,hd⟩,hr⟩:=hl
   have hL:L∈X.fs:=hs L (by unfold frs; rw [List.filterMap_cons,hf]; exact List.mem_cons_self)
   obtain ⟨sl,e⟩:=I.base.slot L o ho (I.ok.frf L hL) hL fun z=>I.ok.exfs L z hL
   exact ⟨hk,⟨L,_,hf,hn,e,hd⟩,ih (fun b hb=>hs b (by unfold frs; rw [List.filterMap_cons,hf]; exact List.mem_cons_of_mem _ hb)) hr⟩
 exact all X.outer (fun _ hb=>hb) I.ok.funs
theorem Inv.stack (I:Inv X pins σ H s):s.heap.FunFrames X.base X.stack:=by
 rcases I.ok.stk with e | ⟨e,hf⟩
 ·rw [e]; exact I.funs
 ·rw [e]
  obtain ⟨m,hn,_⟩:=I.loc
  refine .cons (by rw [I.ok.kind]; decide) hf hn ?_ I.funs
  exact Heap.get?_none_of_le (Nat.le_trans I.ok.bsz I.ok.above)
theorem Inv.stkSub (I:Inv X pins σ H s):∀ b∈frs X.stack,b∈X.env.locals::X.fs:=fun b hb=>by
 rcases I.ok.stk with e | ⟨e,hf⟩
 ·rw [e] at hb; exact List.mem_cons_of_mem _ hb
 ·rw [e] at hb
  unfold frs at hb
  rw [List.filterMap_cons,hf] at hb
  exact hb
theorem Inv.stkFree (I:Inv X pins σ H s):∀ b∈frs X.stack,H b=none:=fun b hb=>by
 rcases List.mem_cons.mp (I.stkSub b hb) with e | hb
 ·rw [e]; exact I.free
 ·obtain ⟨_,o,ho,_⟩:=I.ok.funs.mem hb
  exact I.base.free b o ho (I.ok.frf b hb) fun z=>I.ok.exfs b z hb
theorem Inv.step {g':Array GenState} {t':Nat} {d':Drawn} {ch:List Addr} (I:Inv X pins σ H s)
  (hch:∀ b∈ch,(b∈X.ex\/X.s₀.heap.objs.size<=b)/\b≠X.env.locals/\(∀ x c,X.env.cells.lookup x=some c->c≠b)/\∀ p∈X.pn++pins,p.1≠b)
  (keep:∀ b o,b≠X.env.locals->b∉X.fs->b∉ch->s.heap.get? b=some o->H b=none->h'.get? b=some o)
  (slot:∀ b o,b≠X.env.locals->b∈X.fs->b∉ch->s.heap.get? b=some o->H b=none->∃ sl,h'.get? b=some { o with slots:=sl }) (free:∀ b o,b∉ch->s.heap.get? b=some o->H b=none->H' b=none)
  (there:∀ b o,b∉ch->s.heap.get? b=some o->∃ o',h'.get? b=some o')
  (tups:∀ b xs,H b=some (.tup xs)->H' b=some (.tup xs)) (frzs:∀ b o u,H b=some (.frz o u)->H' b=some (.frz o u)) (tbls:∀ b ps,H b=some (.tbl ps)->∃ more,H' b=some (.tbl (ps++more)))
  (ns:∀ m,s.heap.Ns X.env.locals m->h'.Ns X.env.locals m) (hok:HOk X.prog X.w H' h') (hg:AllBare g') :
  Inv X pins σ H' { s with heap:=h',gens:=g',drawn:=d',toks:=t' }:=by
 have neL:∀ b o,X.s₀.heap.get? b=some o->b≠X.env.locals:=fun b o e=>Nat.ne_of_lt (Nat.lt_of_lt_of_le (Heap.lt_size e) I.ok.above)
 have neC:∀ b o,X.s₀.heap.get? b=some o->b∉X.ex->b∉ch:=fun b o e hx hb=>by
  rcases (hch b hb).1 with z | z
  ·exact hx z
  ·exact absurd (Nat.lt_of_lt_of_le (Heap.lt_size e) z) (Nat.lt_irrefl _)
 have cellK:∀ x c,X.env.cells.lookup x=some c->∀ v,s.heap.IsCell c v->h'.IsCell c v:=fun x c e v ⟨o,ho,hd⟩=>by
  have nch:c∉ch:=fun z=>(hch c z).2.2.1 x c e rfl
  by_cases hc:c∈X.fs
  ·obtain ⟨sl,q⟩:=slot c o (I.cne x c e) hc nch ho (I.freeC x c e)
   exact ⟨_,q,hd⟩
  ·exact ⟨o,keep c o (I.cne x c e) hc nch ho (I.freeC x c e),hd⟩
 refine ⟨I.ok,I.os,hg,⟨fun b o e n hb hx=>?_,fun b o e n hb hx=>?_,fun b o e n hx=>?_,fun b o e hx=>?_,fun b xs e=>tups b xs (I.base.tups b xs e),fun b o xs e=>frzs b o xs (I.base.frzs b o xs e),fun b ps e=>?_⟩,?_,fun x c e=>?_,?_,fun x c e=>?_,fun p hp=>?_,hok,I.len⟩
 ·exact keep b o (neL b o e) hb (neC b o e hx) (I.base.keep b o e n hb hx) (I.base.free b o e n hx)
 ·obtain ⟨sl,e1⟩:=I.base.slot b o e n hb hx
  obtain ⟨sl',e2⟩:=slot b _ (neL b o e) hb (neC b o e hx) e1 (I.base.free b o e n hx)
  exact ⟨sl',e2⟩
 ·obtain ⟨o',e1⟩:=I.base.there b o e hx
  exact free b o' (neC b o e hx) e1 (I.base.free b o e n hx)
 ·obtain ⟨o',e1⟩:=I.base.there b o e hx
  exact there b o' (neC b o e hx) e1
 ·obtain ⟨m1,e1⟩:=I.base.tbls b ps e
  obtain ⟨m2,e2⟩:=tbls b _ e1
  exact ⟨m1++m2,by rw [e2,Array.append_assoc]⟩
 ·obtain ⟨m,hn,hl⟩:=I.loc
  refine ⟨m,ns m hn,fun i x v e1 e2 e3=>?_⟩
  obtain ⟨u,r,l⟩:=hl i x v e1 e2 e3
  refine ⟨u,r,?_⟩
  rcases l with l | ⟨k,c,e,z⟩
  ·exact .inl l
  ·exact .inr ⟨k,c,e,cellK x c e _ z⟩
 ·obtain ⟨v,z⟩:=I.cell x c e
  exact ⟨v,cellK x c e v z⟩
 ·obtain ⟨m,⟨o,_,_,ho,_⟩,_⟩:=I.loc
  exact free _ o (fun z=>(hch _ z).2.1 rfl) ho I.free
 ·obtain ⟨v,o,ho,hd⟩:=I.cell x c e
  exact free c o (fun z=>(hch c z).2.2.1 x c e rfl) ho (I.freeC x c e)
 ·obtain ⟨e,n,ne,nf,d⟩:=I.pin p hp
  have nch:p.1∉ch:=fun z=>(hch p.1 z).2.2.2 p hp rfl
  exact ⟨keep p.1 p.2 ne nf nch e n,free p.1 p.2 nch e n,ne,nf,d⟩
theorem Inv.un {t':Nat} (I:Inv X pins σ H s) (u:Un X.fs [] H H' s.heap h') (hok:HOk X.prog X.w H' h'):Inv X pins σ H' { s with heap:=h',toks:=t' }:=by
 obtain ⟨m,⟨o,es,ep,ho,r⟩,_⟩:=id I.loc
 obtain ⟨sl,hL⟩:=u.any ho I.free (by simp)
 exact I.step (g':=s.gens) (d':=s.drawn) (ch:=[]) (fun _ z=>nomatch z) (fun b o _ hb _ e n=>u.keep b o e n hb (by simp)) (fun b o _ hb _ e n=>u.slot b o e n hb (by simp)) (fun b o _ e n=>u.free b o e n (by simp)) (fun b o _ e=>u.there b o e (by simp)) u.tups u.frzs u.tbls (fun m' hm=>by
  obtain ⟨o',es',ep',ho',r'⟩:=hm
  rw [ho] at ho'; cases ho'
  exact ⟨_,es',ep',hL,r'⟩) hok I.bare
theorem Inv.call {g':Array GenState} {t':Nat} {d':Drawn} {ch:List Addr} (I:Inv X pins σ H s) (u:Un (frs X.stack) ch H H' s.heap h') (hok:HOk X.prog X.w H' h') (hg:AllBare g')
  (hch:∀ b∈ch,(b∈X.ex\/X.s₀.heap.objs.size<=b)/\b≠X.env.locals/\(∀ x c,X.env.cells.lookup x=some c->c≠b)/\∀ p∈X.pn++pins,p.1≠b) :
  Inv X pins σ H' { s with heap:=h',gens:=g',drawn:=d',toks:=t' }:=by
 obtain ⟨m,⟨o,es,ep,ho,r⟩,_⟩:=id I.loc
 obtain ⟨sl,hL⟩:=u.any ho I.free fun z=>(hch _ z).2.1 rfl
 exact I.step (ch:=ch) hch (fun b o hL hb hc e n=>u.keep b o e n (fun z=>(List.mem_cons.mp (I.stkSub b z)).elim hL hb) hc) (fun b o _ _ hc e n=>u.any e n hc) (fun b o hc e n=>u.free b o e n hc) (fun b o hc e=>u.there b o e hc) u.tups u.frzs u.tbls (fun m' hm=>by
  obtain ⟨o',es',ep',ho',r'⟩:=hm
  rw [ho] at ho'; cases ho'
  exact ⟨_,es',ep',hL,r'⟩) hok hg
theorem Inv.turned {t':Nat} {it:Addr} (I:Inv X pins σ H s) (k:∀ b o,b≠it->s.heap.get? b=some o->h'.get? b=some o) (hn:H it=none) (hL:it≠X.env.locals)
  (h1:it∈X.ex\/X.s₀.heap.objs.size<=it) (h2:∀ x c,X.env.cells.lookup x=some c->c≠it) (h3:∀ p∈X.pn++pins,p.1≠it):Inv X pins σ H { s with heap:=h',toks:=t' }:=by
 have nit:∀ b u,H b=some u->b≠it:=fun b u e z=>by rw [z,hn] at e; cases e
 refine I.step (g':=s.gens) (d':=s.drawn) (ch:=[it]) (fun b hb=>?_) (fun b o _ _ hc e _=>k b o (fun z=>hc (by simp [z])) e) (fun b o _ _ hc e _=>⟨o.slots,k b o (fun z=>hc (by simp [z])) e⟩) (fun _ _ _ _ n=>n)
  (fun b o hc e=>⟨o,k b o (fun z=>hc (by simp [z])) e⟩) (fun _ _ e=>e) (fun _ _ _ e=>e) (fun b ps e=>⟨#[],by rw [e]; simp⟩) (fun m hm=>?_) (fun b u e=>?_) I.bare
 ·have e:b=it:=by simpa using hb
  subst e
  exact ⟨h1,hL,h2,h3⟩
 ·obtain ⟨o,es,ep,ho,r⟩:=hm
  exact ⟨o,es,ep,k _ o (Ne.symm hL) ho,r⟩
 ·refine (I.hok b u e).stay (fun c v hc q=>k c v ?_ q) (fun _ q=>q) fun _ _ q=>q
  rcases hc with z | z
  ·rw [z]; exact nit b u e
  ·exact nit c _ z
theorem Inv.tok (I:Inv X pins σ H s) (t:Nat):Inv X pins σ H { s with toks:=t }:=I.un (h':=s.heap) (t':=t) Un.refl I.hok
theorem Inv.kept {t':Nat} (I:Inv X pins σ H s) (k:∀ b u,s.heap.get? b=some u->h'.get? b=some u):Inv X pins σ H { s with heap:=h',toks:=t' }:=I.un (Un.kept k) (I.hok.kept k)
theorem Inv.laid {a:Addr} {o:HO} {t':Nat} (I:Inv X pins σ H s) (k:∀ b u,s.heap.get? b=some u->h'.get? b=some u) (hp:s.heap.objs.size<=a) (new:ObjOk X.prog X.w (upd H a o) h' a o) :
  Inv X pins σ (upd H a o) { s with heap:=h',toks:=t' }:=I.un (Un.laid k hp (I.hok.fresh hp)) (I.hok.laid k hp new)
theorem Inv.write {x e:Addr} {o:HO} {t':Nat} (I:Inv X pins σ H s) (mu:Mut (H x)) (he:e=x\/H e=some (.own x)) (k:∀ b u,b≠e->s.heap.get? b=some u->h'.get? b=some u) (heo:∃ u,h'.get? e=some u)
  (new:ObjOk X.prog X.w (upd H x o) h' x o):Inv X pins σ (upd H x o) { s with heap:=h',toks:=t' }:=I.un (Un.write mu he k heo) (I.hok.write mu he k heo new)
theorem Inv.weak {σ':List (Option V)} (I:Inv X pins σ H s) (hl:σ'.length=σ.length) (w:∀ (i:Nat) v,σ'[i]?=some (some v)->σ[i]?=some (some v)):Inv X pins σ' H s:=
 ⟨I.ok,I.os,I.bare,I.base,let ⟨m,hn,hl'⟩:=I.loc; ⟨m,hn,fun i x v e1 e2 e3=>hl' i x v e1 (w i v e2) e3⟩,I.cell,I.free,I.freeC,I.pin,I.hok,hl.trans I.len⟩
theorem Inv.pins_of {pins':List (Addr×Obj)} (I:Inv X pins σ H s) (h:∀ p∈pins',s.heap.get? p.1=some p.2/\H p.1=none/\p.1≠X.env.locals/\p.1∉X.fs/\∀ v,p.2.data≠.cell v):Inv X pins' σ H s:=
 ⟨I.ok,I.os,I.bare,I.base,I.loc,I.cell,I.free,I.freeC,fun p hp=>(List.mem_append.mp hp).elim (fun z=>I.pin p (List.mem_append_left _ z)) (h p),I.hok,I.len⟩
theorem Qm {N:List Str} (hN:N.Nodup) {i j:Nat} {x:Str} (a:N[i]?=some x) (b:N[j]?=some x):i=j:=by
 obtain ⟨h1,e1⟩:=List.getElem?_eq_some_iff.mp a
 obtain ⟨h2,e2⟩:=List.getElem?_eq_some_iff.mp b
 exact (List.getElem_inj hN).mp (e1.trans e2.symm)
theorem zb {M:Model} {A:Around} {E:Value->Shared->Prop} {i:Nat} {x:Str} {v:V} {u:Value} {Q:Unit->Shared->Prop} (I:Inv X pins σ H s) (hN:X.N.Nodup) (hi:X.N[i]?=some x) (hx:Loc X.env.scope x) (r:RelV v u)
  (h:∀ s',Inv X pins (σ.set i (some v)) H s'->(∃ a,Heap.SameBut a s.heap s'.heap/\(a=X.env.locals\/X.env.cells.lookup x=some a))->Q () s') (hf:X.fn x=true\/X.env.scope.names.lookup x=some .local:=by first | exact .inl rfl | exact .inr rfl | assumption):wpAny M A (storeName X.env x u) Q E s:=by
 obtain ⟨m,hn,hl⟩:=id I.loc
 have hcls:(X.env.scope.kind == .class||(X.env.scope.kind == .module&&X.env.locals != X.env.globals))=false:=by rw [I.ok.kind]; rfl
 have hiσ:i < σ.length:=by rw [I.len]; exact (List.getElem?_eq_some_iff.mp hi).1
 have cne:=I.cne
 have tracked:∀ {a:Addr} {h':Heap},(∃ o,s.heap.get? a=some o/\H a=none)->Heap.SameBut a s.heap h'->HOk X.prog X.w H h':=fun {a h'} ha hs b ob e=>by
  obtain ⟨_,_,hfree⟩:=ha
  refine (I.hok b ob e).stay (fun c w' hc q=>(hs.2 c ?_).trans q) (fun _ q=>q) fun _ _ q=>q
  rintro rfl
  rcases hc with rfl | hc
  ·rw [hfree] at e; cases e
  ·rw [hfree] at hc; cases hc
 rcases hx with hk | hk
 ·refine wpAny_storeName_local hk hn (fun h' hn' hs=>?_) hcls
  obtain ⟨oL,_,_,hoL,_⟩:=id hn
  refine h _ ⟨I.ok,I.os,I.bare,⟨fun b o e n hb hx=>?_,fun b o e n hb hx=>?_,I.base.free,fun b o e hx=>?_,I.base.tups,I.base.frzs,I.base.tbls⟩,⟨_,hn',fun j y v' e1 e2 e3=>?_⟩,fun y c e=>?_,I.free,I.freeC,fun p hp=>?_,tracked ⟨oL,hoL,I.free⟩ hs,by simpa using I.len⟩ ⟨_,hs,.inl rfl⟩
  ·exact (hs.2 b (Nat.ne_of_lt (Nat.lt_of_lt_of_le (Heap.lt_size e) I.ok.above))).trans (I.base.keep b o e n hb hx)
  ·obtain ⟨sl,e1⟩:=I.base.slot b o e n hb hx
   exact ⟨sl,(hs.2 b (Nat.ne_of_lt (Nat.lt_of_lt_of_le (Heap.lt_size e) I.ok.above))).trans e1⟩
  ·obtain ⟨o',e1⟩:=I.base.there b o e hx
   exact ⟨o',(hs.2 b (Nat.ne_of_lt (Nat.lt_of_lt_of_le (Heap.lt_size e) I.ok.above))).trans e1⟩
  ·by_cases hj:j=i
   ·subst hj
    rw [hi] at e1; cases e1
    rw [List.getElem?_set_self hiσ] at e2
    cases e2
    exact ⟨u,r,.inl ⟨hk,by simp⟩⟩
   ·rw [List.getElem?_set_ne (Ne.symm hj)] at e2
    obtain ⟨u',r',q⟩:=hl j y v' e1 e2 e3
    refine ⟨u',r',?_⟩
    rcases q with ⟨k,e⟩ | ⟨k,c,e,z⟩
    ·refine .inl ⟨k,?_⟩
     have:y≠x:=fun e=>hj (Qm hN e1 (e ▸ hi))
     simp [this,e]
    ·exact .inr ⟨k,c,e,z.sameBut hs (cne y c e)⟩
  ·obtain ⟨w',z⟩:=I.cell y c e
   exact ⟨w',z.sameBut hs (cne y c e)⟩
  ·obtain ⟨e,n,ne,nf,d⟩:=I.pin p hp
   exact ⟨(hs.2 p.1 ne).trans e,n,ne,nf,d⟩
 ·have hfn:X.fn x=true:=by
   rcases hf with z | z
   ·exact z
   ·rw [z] at hk; cases hk
  obtain ⟨c,hc⟩:=I.ok.has x (.inl hk)
  obtain ⟨w',z⟩:=I.cell x c hc
  refine wpAny_storeName_cell I.ok.kind hk hc z (fun h' hc' hs=>?_)
  obtain ⟨oc,hoc,hocd⟩:=id z
  refine h { s with heap:=h' } ⟨I.ok,I.os,I.bare,⟨fun b o e n hb hx=>?_,fun b o e n hb hx=>?_,I.base.free,fun b o e hx=>?_,I.base.tups,I.base.frzs,I.base.tbls⟩,⟨m,hn.sameBut hs (Ne.symm (cne x c hc)),fun j y v' e1 e2 e3=>?_⟩,fun y c' e=>?_,I.free,I.freeC,fun p hp=>?_,tracked ⟨oc,hoc,I.freeC x c hc⟩ hs,by simpa using I.len⟩ ⟨c,hs,.inr hc⟩
  ·exact (hs.2 b (Nat.ne_of_lt (Nat.lt_of_lt_of_le (Heap.lt_size e) (I.ok.cab x c hfn hc)))).trans (I.base.keep b o e n hb hx)
  ·obtain ⟨sl,e1⟩:=I.base.slot b o e n hb hx
   exact ⟨sl,(hs.2 b (Nat.ne_of_lt (Nat.lt_of_lt_of_le (Heap.lt_size e) (I.ok.cab x c hfn hc)))).trans e1⟩
  ·obtain ⟨o',e1⟩:=I.base.there b o e hx
   exact ⟨o',(hs.2 b (Nat.ne_of_lt (Nat.lt_of_lt_of_le (Heap.lt_size e) (I.ok.cab x c hfn hc)))).trans e1⟩
  ·by_cases hj:j=i
   ·subst hj
    rw [hi] at e1; cases e1
    rw [List.getElem?_set_self hiσ] at e2
    cases e2
    exact ⟨u,r,.inr ⟨.inl hk,c,hc,hc'⟩⟩
   ·rw [List.getElem?_set_ne (Ne.symm hj)] at e2
    obtain ⟨u',r',q⟩:=hl j y v' e1 e2 e3
    refine ⟨u',r',?_⟩
    rcases q with q | ⟨k,c',e,z'⟩
    ·exact .inl q
    ·refine .inr ⟨k,c',e,z'.sameBut hs ?_⟩
     rintro rfl
     exact hj (Qm hN e1 (I.ok.inj _ _ _ e hc ▸ hi))
  ·by_cases hcc:c'=c
   ·subst hcc; exact ⟨_,hc'⟩
   ·obtain ⟨w2,z2⟩:=I.cell y c' e
    exact ⟨w2,z2.sameBut hs hcc⟩
  ·obtain ⟨e,n,ne,nf,d⟩:=I.pin p hp
   refine ⟨(hs.2 p.1 ?_).trans e,n,ne,nf,d⟩
   intro q
   rw [q,hoc] at e
   have q':oc=p.2:=Option.some.inj e
   exact d w' (by rw [<-q']; exact hocd)
theorem yV {M:Model} {A:Around} {E:Value->Shared->Prop} {i:Nat} {x:Str} {v:V} {u:Value} {Q:Unit->Shared->Prop} (I:Inv X pins σ H s) (hN:X.N.Nodup) (hi:X.N[i]?=some x) (hx:Loc X.env.scope x) (r:RelV v u)
  (h:∀ s',Inv X pins (σ.set i (some v)) H s'->Q () s') (hf:X.fn x=true\/X.env.scope.names.lookup x=some .local:=by first | exact .inl rfl | exact .inr rfl | assumption):wpAny M A (storeName X.env x u) Q E s:=
 zb I hN hi hx r (fun s' I' _=>h s' I') hf
theorem Inv.call' {s':Shared} {ch:List Addr} (I:Inv X pins σ H s) (ho:s'.os=s.os) (u:Un (frs X.stack) ch H H' s.heap s'.heap) (hok:HOk X.prog X.w H' s'.heap) (hg:AllBare s'.gens)
  (hch:∀ b∈ch,(b∈X.ex\/X.s₀.heap.objs.size<=b)/\b≠X.env.locals/\(∀ x c,X.env.cells.lookup x=some c->c≠b)/\∀ p∈X.pn++pins,p.1≠b):Inv X pins σ H' s':=by
 obtain ⟨h',g',d',t',o'⟩:=s'
 have e:o'=s.os:=ho
 subst e
 exact I.call (g':=g') (t':=t') (d':=d') u hok hg hch
end
abbrev XK:=Value->Option Addr->Hp->Prop
abbrev St:=List (Option V)
abbrev VK:=V->Hp->Prop
abbrev TE:=St->Hp->VK->Prop
abbrev TT:=St->Hp->(Bool->Hp->Prop)->Prop
abbrev TA:=St->Hp->(List V->Hp->Prop)->Prop
structure Ends where
 nx:St->Hp->Prop
 rt:VK
 bk:St->Hp->Prop:=fun _ _=>False
 ct:St->Hp->Prop:=fun _ _=>False
abbrev TS:=Ends->St->Hp->Prop
def EP (X:Cx) (pins:List (Addr×Obj)) (σ:St) (Q:VK) (u:Value) (s':Shared):Prop:=∃ v H',Inv X pins σ H' s'/\RelV v u/\Q v H'
def TP (X:Cx) (pins:List (Addr×Obj)) (σ:St) (Q:Bool->Hp->Prop) (b:Bool) (s':Shared):Prop:=∃ H',Inv X pins σ H' s'/\Q b H'
def AP (X:Cx) (pins:List (Addr×Obj)) (σ:St) (Q:List V->Hp->Prop) (us:List Value) (s':Shared):Prop:=∃ vs H',Inv X pins σ H' s'/\Vals vs us/\Q vs H'
def SP (X:Cx) (pins:List (Addr×Obj)) (D:Ends) (f:Flow) (s':Shared):Prop:=
 match f with
 | .next=>∃ σ' H',Inv X pins σ' H' s'/\D.nx σ' H'
 | .brk=>∃ σ' H',Inv X pins σ' H' s'/\D.bk σ' H'
 | .cont=>∃ σ' H',Inv X pins σ' H' s'/\D.ct σ' H'
 | .ret u=>∃ v σ' H',Inv X pins σ' H' s'/\RelV v u/\D.rt v H'
structure PE (X:Cx) (e:Expr) (t:TE):Prop where
 run:∀ (pins:List (Addr×Obj)) (s:Shared) (σ:St) (H:Hp) (Q:VK),Inv X pins σ H s->t σ H Q->wpAny (model X.prog X.w) X.A (eval e X.env) (EP X pins σ Q) X.xe s
instance {X:Cx} {e:Expr} {t:TE}:CoeFun (PE X e t) (fun _=>∀ (pins:List (Addr×Obj)) (s:Shared) (σ:St) (H:Hp) (Q:VK),Inv X pins σ H s->t σ H Q->wpAny (model X.prog X.w) X.A (eval e X.env) (EP X pins σ Q) X.xe s):=⟨fun h=>h.run⟩
structure PT (X:Cx) (e:Expr) (t:TT):Prop where
 run:∀ (pins:List (Addr×Obj)) (s:Shared) (σ:St) (H:Hp) (Q:Bool->Hp->Prop),Inv X pins σ H s->t σ H Q->wpAny (model X.prog X.w) X.A (isTrue e X.env (eval e X.env)) (TP X pins σ Q) X.xe s
instance {X:Cx} {e:Expr} {t:TT}:CoeFun (PT X e t) (fun _=>∀ (pins:List (Addr×Obj)) (s:Shared) (σ:St) (H:Hp) (Q:Bool->Hp->Prop),Inv X pins σ H s->t σ H Q->wpAny (model X.prog X.w) X.A (isTrue e X.env (eval e X.env)) (TP X pins σ Q) X.xe s):=⟨fun h=>h.run⟩
structure PW (X:Cx) (e:Expr) (t:TT):Prop where
 run:∀ (whole:Sem Value) (pins:List (Addr×Obj)) (s:Shared) (σ:St) (H:Hp) (Q:Bool->Hp->Prop),Inv X pins σ H s->t σ H Q->wpAny (model X.prog X.w) X.A (isTrue e X.env whole) (TP X pins σ Q) X.xe s
instance {X:Cx} {e:Expr} {t:TT}:CoeFun (PW X e t) (fun _=>∀ (whole:Sem Value) (pins:List (Addr×Obj)) (s:Shared) (σ:St) (H:Hp) (Q:Bool->Hp->Prop),Inv X pins σ H s->t σ H Q->wpAny (model X.prog X.w) X.A (isTrue e X.env whole) (TP X pins σ Q) X.xe s):=⟨fun h=>h.run⟩
theorem PW.pt {X:Cx} {e:Expr} {t:TT} (h:PW X e t):PT X e t:=⟨h.run _⟩
structure PA (X:Cx) (es:List Expr) (t:TA):Prop where
 run:∀ (pos:Pos) (pins:List (Addr×Obj)) (s:Shared) (σ:St) (H:Hp) (Q:List V->Hp->Prop),Inv X pins σ H s->t σ H Q->wpAny (model X.prog X.w) X.A (spliced (backTo pos (starEach es X.env))) (AP X pins σ Q) X.xe s
instance {X:Cx} {es:List Expr} {t:TA}:CoeFun (PA X es t) (fun _=>∀ (pos:Pos) (pins:List (Addr×Obj)) (s:Shared) (σ:St) (H:Hp) (Q:List V->Hp->Prop),Inv X pins σ H s->t σ H Q->wpAny (model X.prog X.w) X.A (spliced (backTo pos (starEach es X.env))) (AP X pins σ Q) X.xe s):=⟨fun h=>h.run⟩
structure PS (X:Cx) (st:Stmt) (t:TS):Prop where
 run:∀ (pins:List (Addr×Obj)) (s:Shared) (σ:St) (H:Hp) (D:Ends),Inv X pins σ H s->t D σ H->wpAny (model X.prog X.w) X.A (exec st X.env) (SP X pins D) X.xe s
instance {X:Cx} {st:Stmt} {t:TS}:CoeFun (PS X st t) (fun _=>∀ (pins:List (Addr×Obj)) (s:Shared) (σ:St) (H:Hp) (D:Ends),Inv X pins σ H s->t D σ H->wpAny (model X.prog X.w) X.A (exec st X.env) (SP X pins D) X.xe s):=⟨fun h=>h.run⟩
structure PSs (X:Cx) (st:List Stmt) (t:TS):Prop where
 run:∀ (pins:List (Addr×Obj)) (s:Shared) (σ:St) (H:Hp) (D:Ends),Inv X pins σ H s->t D σ H->wpAny (model X.prog X.w) X.A (execs st X.env) (SP X pins D) X.xe s
instance {X:Cx} {st:List Stmt} {t:TS}:CoeFun (PSs X st t) (fun _=>∀ (pins:List (Addr×Obj)) (s:Shared) (σ:St) (H:Hp) (D:Ends),Inv X pins σ H s->t D σ H->wpAny (model X.prog X.w) X.A (execs st X.env) (SP X pins D) X.xe s):=⟨fun h=>h.run⟩
theorem thn {α:Type} {t:Sem α} {Q Q':α->Shared->Prop} {M:Model} {A:Around} {E:Value->Shared->Prop} {s:Shared} (h:wpAny M A t Q E s) (hQ:∀ a s,Q a s->Q' a s):wpAny M A t Q' E s:=wpAny_mono h hQ fun _ _ x=>x
section
variable {X:Cx}
def qbq (i:Nat):TE:=fun σ H Q=>∃ v,σ[i]?=some (some v)/\Q v H
def tC (v:V):TE:=fun _ H Q=>Q v H
theorem zc {i:Nat} {x:Str} {pos:Pos} (hN:X.N[i]?=some x) (hv:Vis X.env.scope x) (hd:(x == ("__debug__":Str))=false:=by decide) (hcd:(x == ("__classdict__":Str))=false:=by decide):PE X (.Name x pos) (qbq i):=by
 refine ⟨?_⟩
 intro pins s σ H Q I h
 obtain ⟨v,e,h⟩:=h
 obtain ⟨m,hn,hl⟩:=I.loc
 obtain ⟨u,r,l⟩:=hl i x v hN e hv
 have fin:EP X pins σ Q u s:=⟨v,H,I,r,h⟩
 rcases l with ⟨hk,hm⟩ | ⟨hk,c,hc,hcell⟩
 ·exact wpAny_Name (wpAny_loadName_local I.ok.kind hk hn hm fin) hd
 ·rcases hk with hk | hk
  ·exact wpAny_Name (wpAny_loadName_cell I.ok.kind hk hc hcell fin) hd
  ·exact wpAny_Name (wpAny_loadName_free I.ok.kind hk hc hcell fin hcd) hd
theorem XQ {i j pos}:PE X (.Constant (.int i) j pos) (tC (.int i)):=⟨fun _ _ _ H _ I h=>wpAny_Constant_int ⟨.int i,H,I.tok _,⟨_,rfl⟩,h⟩⟩
theorem Yc {b j pos}:PE X (.Constant (.bool b) j pos) (tC (.bl b)):=⟨fun _ _ _ H _ I h=>Constant_bool ⟨.bl b,H,I,rfl,h⟩⟩
theorem XR {j pos}:PE X (.Constant .none j pos) (tC .non):=⟨fun _ _ _ H _ I h=>Constant_none ⟨.non,H,I,rfl,h⟩⟩
theorem UC {x j pos}:PE X (.Constant (.str x) j pos) (tC (.str x)):=⟨fun _ _ _ H _ I h=>Calls.Constant_str ⟨.str x,H,I.tok _,⟨_,rfl⟩,h⟩⟩
def Gl (X:Cx) (x:Str):Prop:=X.env.kindOf x=some .globalImplicit
theorem wm {E:Value->Shared->Prop} {pins:List (Addr×Obj)} {s:Shared} {σ:St} {H:Hp} {x:Str} {u:Value} {pos:Pos} {Q:Value->Shared->Prop} (I:Inv X pins σ H s) (hg:Gl X x) (hm:X.mg x=some u) (h:Q u s)
  (hd:(x == ("__debug__":Str))=false:=by decide):wpAny (model X.prog X.w) X.A (eval (.Name x pos) X.env) Q E s:=
 Calls.Name_function_global I.ok.kind hg (Calls.loadGlobal_global (by rw [I.ok.glob]; exact I.mod.glob.keeps I.bk) hm h) hd
theorem zd {E:Value->Shared->Prop} {pins:List (Addr×Obj)} {s:Shared} {σ:St} {H:Hp} {x:Str} {u:Value} {pos:Pos} {Q:Value->Shared->Prop} (I:Inv X pins σ H s) (hg:Gl X x) (hm:X.mg x=none) (hv:bootBuiltins x=some u) (h:Q u s)
  (hn:x ≠ "__name__":=by decide) (hd:(x == ("__debug__":Str))=false:=by decide):wpAny (model X.prog X.w) X.A (eval (.Name x pos) X.env) Q E s:=by
 obtain ⟨mb,h1,h2⟩:=I.mod.blt
 exact Calls.Name_function_global I.ok.kind hg (Calls.loadGlobal_builtin (by rw [I.ok.glob]; exact I.mod.glob.keeps I.bk) hm (by rw [I.ok.blt]; exact h1.keeps I.bk) ((h2 x hn).trans hv) h) hd
theorem Ka {x:Str} {v:V} {u:Value} {pos:Pos} (hg:Gl X x) (hm:X.mg x=some u) (r:RelV v u) (hd:(x == ("__debug__":Str))=false:=by decide):PE X (.Name x pos) (tC v):=⟨fun _ _ _ H _ I h=>wm I hg hm ⟨v,H,I,r,h⟩ hd⟩
theorem Kb {x:Str} {v:V} {u:Value} {pos:Pos} (hg:Gl X x) (hm:X.mg x=none) (hv:bootBuiltins x=some u) (r:RelV v u) (hn:x ≠ "__name__":=by decide) (hd:(x == ("__debug__":Str))=false:=by decide):PE X (.Name x pos) (tC v):=⟨fun _ _ _ H _ I h=>zd I hg hm hv ⟨v,H,I,r,h⟩ hn hd⟩
variable {a b:Expr} {ta tb:TE} {pos:Pos}
variable {tA tB':TT} {rest:List Expr}
def tOr (t u:TT):TT:=fun σ H Q=>t σ H fun c H1=>if c=true then Q true H1 else u σ H1 Q
def qbr (t:TT):TT:=fun σ H Q=>t σ H fun c H1=>Q (!c) H1
theorem Yd (ha:PT X a tA):PW X (.BoolOp .And [a] pos) tA:=by
 refine ⟨?_⟩
 intro wh pins s σ H Q I h
 refine isTrue_and (thn (ha pins s σ H Q I h) fun c s1 e=>?_)
 cases c with
 | true=>exact isTrue_and_nil e
 | false=>exact e
theorem XS (ha:PT X a tA):PW X (.BoolOp .Or [a] pos) tA:=by
 refine ⟨?_⟩
 intro wh pins s σ H Q I h
 refine isTrue_or (thn (ha pins s σ H Q I h) fun c s1 e=>?_)
 cases c with
 | false=>exact isTrue_or_nil e
 | true=>exact e
theorem GQ (ha:PT X a tA) (hb:PW X (.BoolOp .Or (b::rest) pos) tB'):PW X (.BoolOp .Or (a::b::rest) pos) (tOr tA tB'):=by
 refine ⟨?_⟩
 intro wh pins s σ H Q I h
 refine isTrue_or (thn (ha pins s σ H _ I h) fun c s1 ⟨H1,I1,q1⟩=>?_)
 cases c with
 | true=>exact ⟨H1,I1,q1⟩
 | false=>exact hb wh pins s1 σ H1 Q I1 q1
theorem XT (ha:PT X a tA):PT X (.UnaryOp .Not a pos) (qbr tA):=by
 refine ⟨?_⟩
 intro pins s σ H Q I h
 exact isTrue_not (ha pins s σ H (fun c H1=>Q (!c) H1) I h)
def GR (ta tb:TE):TE:=fun σ H Q=>ta σ H fun x H1=>∃ c,x=.bl c/\if c=true then tb σ H1 Q else Q (.bl false) H1
def qbs (ta tb:TE):TE:=fun σ H Q=>ta σ H fun x H1=>∃ c,x=.bl c/\if c=true then Q (.bl true) H1 else tb σ H1 Q
theorem XU {op} {t:TE} (h:PE X a t):PE X (.BoolOp op [a] pos) t:=⟨fun pins s σ H Q I hw=>BoolOp_one (h pins s σ H Q I hw)⟩
theorem XV (ha:PE X a ta) (hb:PE X (.BoolOp .And (b::rest) pos) tb):PE X (.BoolOp .And (a::b::rest) pos) (GR ta tb):=by
 refine ⟨?_⟩
 intro pins s σ H Q I h
 refine BoolOp_and (thn (ha pins s σ H _ I h) fun v s1 ⟨x,H1,I1,r1,q1⟩=>?_)
 obtain ⟨c,rfl,q1⟩:=q1
 cases r1
 refine wpAny_truthy_bool ?_
 cases c with
 | true=>exact hb pins s1 σ H1 Q I1 q1
 | false=>exact ⟨.bl false,H1,I1,rfl,q1⟩
theorem GS (ha:PE X a ta) (hb:PE X (.BoolOp .Or (b::rest) pos) tb):PE X (.BoolOp .Or (a::b::rest) pos) (qbs ta tb):=by
 refine ⟨?_⟩
 intro pins s σ H Q I h
 refine BoolOp_or (thn (ha pins s σ H _ I h) fun v s1 ⟨x,H1,I1,r1,q1⟩=>?_)
 obtain ⟨c,rfl,q1⟩:=q1
 cases r1
 refine wpAny_truthy_bool ?_
 cases c with
 | false=>exact hb pins s1 σ H1 Q I1 q1
 | true=>exact ⟨.bl true,H1,I1,rfl,q1⟩
def tIf (t:TT) (ta tb:TE):TE:=fun σ H Q=>t σ H fun c H1=>if c=true then ta σ H1 Q else tb σ H1 Q
theorem Wm {c:Expr} (hc:PT X c tA) (ha:PE X a ta) (hb:PE X b tb):PE X (.IfExp c a b pos) (tIf tA ta tb):=by
 refine ⟨?_⟩
 intro pins s σ H Q I h
 refine wpAny_IfExp (thn (hc pins s σ H _ I h) fun d s1 ⟨H1,I1,q1⟩=>?_)
 cases d with
 | true=>exact ha pins s1 σ H1 Q I1 q1
 | false=>exact hb pins s1 σ H1 Q I1 q1
end
def SqL (K:Frag) (H:Hp) (a:Addr) (xs:List V):Prop:=
 Rd H a (.lst xs) \/
  ∃ (o:Obj) (its:Array Value) (n:Nat),K.lookup a=some o/\o.cls=.type "list"/\o.dict=none/\o.data=.seq its n/\its.size<=sizeLine/\Vals xs its.toList
def SqT (K:Frag) (H:Hp) (a:Addr) (xs:List V):Prop:=
 Rd H a (.tup xs) \/
  ∃ (o:Obj) (its:Array Value) (n:Nat),K.lookup a=some o/\(o.cls=.type "tuple"/\o.dict=none)/\o.data=.seq its n/\its.size<=sizeLine/\Vals xs its.toList
noncomputable def qbt:Value->Option V
 | .none=>some .non
 | .bool b=>some (.bl b)
 | .int i _=>some (.int i)
 | .str x _=>some (.str x)
 | .bytes b _=>some (.byt b)
 | .float b _=>some (.flt b)
 | .ref a=>some (.ref a)
 | .type n=>some (.ty n)
 | _=>none
theorem RelV.abs {x:V} {u:Value} (r:RelV x u):qbt u=some x:=by
 cases x with
 | non=>cases r; rfl
 | bl _=>cases r; rfl
 | int _=>obtain ⟨t,rfl⟩:=r; rfl
 | str _=>obtain ⟨t,rfl⟩:=r; rfl
 | byt _=>obtain ⟨t,rfl⟩:=r; rfl
 | flt _=>obtain ⟨t,rfl⟩:=r; rfl
 | ref _=>cases r; rfl
 | ty _=>cases r; rfl
theorem RelV.inj {x y:V} {u:Value} (r:RelV x u) (q:RelV y u):x=y:=Option.some.inj (r.abs.symm.trans q.abs)
theorem Vals.inj:∀ {xs ys:List V} {us:List Value},Vals xs us->Vals ys us->xs=ys
 | _,_,_,.nil,.nil=>rfl
 | _,_,_,.cons r t,.cons r' t'=>by rw [r.inj r',Vals.inj t t']
section
variable {X:Cx} {pins:List (Addr×Obj)} {σ:St} {H:Hp} {s:Shared} {a:Addr} {xs ys:List V}
theorem SqT.of {K:Frag} (h:H a=some (.tup xs)):SqT K H a xs:=.inl (.inl h)
theorem Inv.list (I:Inv X pins σ H s) (h:SqL X.K H a xs):∃ its:List Value,Vals xs its/\PlainL s.heap a its.toArray/\xs.length<=sizeLine:=by
 rcases h with h | ⟨o,its,n,hk,hc,hd,hs,hz,r⟩
 ·obtain ⟨z,its,n,r,e⟩:=h.ok I.hok
  exact ⟨its,r,⟨_,n,e,rfl,rfl,rfl⟩,z⟩
 ·refine ⟨its.toList,r,⟨o,n,I.kIn a o hk,hc,hd,by simpa using hs⟩,?_⟩
  have e:=r.length
  simp only [Array.length_toList] at e
  omega
theorem Inv.tuple (I:Inv X pins σ H s) (h:SqT X.K H a xs):∃ its:List Value,Vals xs its/\IsTup s.heap a its.toArray/\xs.length<=sizeLine:=by
 rcases h with h | ⟨o,its,n,hk,hc,hs,hz,r⟩
 ·obtain ⟨⟨z,_⟩,its,r,p⟩:=h.ok I.hok
  exact ⟨its,r,p,z⟩
 ·refine ⟨its.toList,r,⟨o,I.kIn a o hk,hc.1,n,by simpa using hs⟩,?_⟩
  have e:=r.length
  simp only [Array.length_toList] at e
  omega
theorem Inv.list_inj (I:Inv X pins σ H s) (h:SqL X.K H a xs) (h':SqL X.K H a ys):xs=ys:=by
 obtain ⟨its,r,⟨o,n,e,_,_,d⟩,_⟩:=I.list h
 obtain ⟨its',r',⟨o',n',e',_,_,d'⟩,_⟩:=I.list h'
 rw [e] at e'; cases e'
 rw [d] at d'
 injection d' with d1 _
 have:its=its':=by simpa using congrArg Array.toList d1
 subst this
 exact r.inj r'
theorem Inv.tuple_inj (I:Inv X pins σ H s) (h:SqT X.K H a xs) (h':SqT X.K H a ys):xs=ys:=by
 obtain ⟨its,r,⟨o,e,_,n,d⟩,_⟩:=I.tuple h
 obtain ⟨its',r',⟨o',e',_,n',d'⟩,_⟩:=I.tuple h'
 rw [e] at e'; cases e'
 rw [d] at d'
 injection d' with d1 _
 have:its=its':=by simpa using congrArg Array.toList d1
 subst this
 exact r.inj r'
end
section
variable {X:Cx} {st:Stmt} {rest:List Stmt} {t u:TS} {e:Expr} {te:TE} {pos:Pos}
def GT:TS:=fun D σ H=>D.nx σ H
def qbu (t u:TS):TS:=fun D σ H=>t { D with nx:=u D } σ H
theorem Kc:PSs X [] GT:=⟨fun _ _ σ H _ I h=>wpAny_execs_nil ⟨σ,H,I,h⟩⟩
theorem Wn (h1:PS X st t) (h2:PSs X rest u):PSs X (st::rest) (qbu t u):=by
 refine ⟨?_⟩
 intro pins s σ H D I h
 refine wpAny_execs_cons (thn (h1 pins s σ H { D with nx:=u D } I h) fun f s1 q=>?_)
 cases f with
 | next=>
  obtain ⟨σ',H',I',q⟩:=q
  exact h2 pins s1 σ' H' D I' q
 | ret v=>exact q
 | brk=>exact q
 | cont=>exact q
theorem Ye (h1:PS X st t):PSs X [st] t:=by
 refine ⟨?_⟩
 intro pins s σ H D I h
 refine wpAny_execs_cons (thn (h1 pins s σ H D I h) fun f s1 q=>?_)
 cases f with
 | next=>exact wpAny_execs_nil q
 | ret v=>exact q
 | brk=>exact q
 | cont=>exact q
theorem Inv.quiet {pins:List (Addr×Obj)} {σ:St} {H:Hp} {s:Shared} (I:Inv X pins σ H s):interactive X.env=false:=by simp [interactive,I.ok.kind]
def GU (te:TE):TS:=fun D σ H=>te σ H fun _ H1=>D.nx σ H1
theorem Yg (he:PE X e te) (hs:swapsWith e none pos.line X.env=pure false:=by rfl):PS X (.Expr e pos) (GU te):=by
 refine ⟨?_⟩
 intro pins s σ H D I h
 exact wpAny_Expr_any (thn (he pins s σ H _ I h) fun v s1 ⟨x,H1,I1,r1,q1⟩=>⟨σ,H1,I1,q1⟩) I.quiet hs
def qbv (te:TE):TS:=fun D σ H=>te σ H D.rt
theorem XW (he:PE X e te):PS X (.Return (some e) pos) (qbv te):=by
 refine ⟨?_⟩
 intro pins s σ H D I h
 exact wpAny_Return_some (thn (he pins s σ H _ I h) fun v s1 ⟨x,H1,I1,r1,q1⟩=>⟨x,σ,H1,I1,r1,q1⟩)
def qbw (c:TT) (t u:TS):TS:=fun D σ H=>c σ H fun b H1=>if b=true then t D σ H1 else u D σ H1
theorem GV {c:Expr} {a b:List Stmt} {tc:TT} (hc:PT X c tc) (ha:PSs X a t) (hb:PSs X b u):PS X (.If c a b pos) (qbw tc t u):=by
 refine ⟨?_⟩
 intro pins s σ H D I h
 refine wpAny_If (thn (hc pins s σ H _ I h) fun d s1 ⟨H1,I1,q1⟩=>?_)
 cases d with
 | true=>exact ha pins s1 σ H1 D I1 q1
 | false=>exact hb pins s1 σ H1 D I1 q1
end
abbrev TG:=V->St->Hp->(St->Hp->Prop)->Prop
abbrev TGs:=List V->St->Hp->(St->Hp->Prop)->Prop
structure PG (X:Cx) (target:Expr) (t:TG):Prop where
 run:∀ (pins:List (Addr×Obj)) (s:Shared) (σ:St) (H:Hp) (v:V) (u:Value) (Q:St->Hp->Prop),Inv X pins σ H s->RelV v u->t v σ H Q ->
  wpAny (model X.prog X.w) X.A (assign target X.env u) (fun _ s'=>∃ σ' H',Inv X pins σ' H' s'/\Q σ' H') X.xe s
instance {X:Cx} {target:Expr} {t:TG}:CoeFun (PG X target t) (fun _=>∀ (pins:List (Addr×Obj)) (s:Shared) (σ:St) (H:Hp) (v:V) (u:Value) (Q:St->Hp->Prop),Inv X pins σ H s->RelV v u->t v σ H Q ->
  wpAny (model X.prog X.w) X.A (assign target X.env u) (fun _ s'=>∃ σ' H',Inv X pins σ' H' s'/\Q σ' H') X.xe s):=⟨fun h=>h.run⟩
structure PGs (X:Cx) (ts:List Expr) (t:TGs):Prop where
 run:∀ (pins:List (Addr×Obj)) (s:Shared) (σ:St) (H:Hp) (vs:List V) (us:List Value) (Q:St->Hp->Prop),Inv X pins σ H s->Vals vs us->t vs σ H Q ->
  wpAny (model X.prog X.w) X.A (assignInOrder ((assignEach ts X.env).map (·.2)) us) (fun _ s'=>∃ σ' H',Inv X pins σ' H' s'/\Q σ' H') X.xe s
instance {X:Cx} {ts:List Expr} {t:TGs}:CoeFun (PGs X ts t) (fun _=>∀ (pins:List (Addr×Obj)) (s:Shared) (σ:St) (H:Hp) (vs:List V) (us:List Value) (Q:St->Hp->Prop),Inv X pins σ H s->Vals vs us->t vs σ H Q ->
  wpAny (model X.prog X.w) X.A (assignInOrder ((assignEach ts X.env).map (·.2)) us) (fun _ s'=>∃ σ' H',Inv X pins σ' H' s'/\Q σ' H') X.xe s):=⟨fun h=>h.run⟩
section
variable {X:Cx} {pos:Pos}
def XX (i:Nat):TG:=fun v σ H Q=>Q (σ.set i (some v)) H
theorem Yh {i:Nat} {x:Str} (hN:X.N.Nodup) (hi:X.N[i]?=some x) (hx:Loc X.env.scope x) (hf:X.fn x=true\/X.env.scope.names.lookup x=some .local:=by first | exact .inl rfl | exact .inr rfl | assumption):PG X (.Name x pos) (XX i):=by
 refine ⟨?_⟩
 intro pins s σ H v u Q I r h
 exact wpAny_assign_Name (yV I hN hi hx r (fun s' I'=>⟨_,H,I',h⟩) hf)
def qbx:TGs:=fun vs σ H Q=>vs=[]/\Q σ H
def GW (t:TG) (u:TGs):TGs:=fun vs σ H Q=>∃ v r,vs=v::r/\t v σ H fun σ' H'=>u r σ' H' Q
theorem Yi:PGs X [] qbx:=by
 refine ⟨?_⟩
 intro pins s σ H vs us Q I r h
 obtain ⟨e,h⟩:=h
 subst e
 cases r
 exact assignInOrder_nil ⟨σ,H,I,h⟩
theorem Wo {e:Expr} {es:List Expr} {t:TG} {u:TGs} (h1:PG X e t) (h2:PGs X es u)
  (hs:(assignEach (e::es) X.env).map (·.2)=assign e X.env::(assignEach es X.env).map (·.2):=by rfl):PGs X (e::es) (GW t u):=by
 refine ⟨?_⟩
 intro pins s σ H vs us Q I r h
 obtain ⟨v,vr,e1,h⟩:=h
 subst e1
 cases r with
 | cons r rr=>
  rw [hs]
  refine assignInOrder_cons (thn (h1 pins s σ H _ _ _ I r h) fun _ s1 ⟨σ1,H1,I1,q1⟩=>?_)
  exact h2 pins s1 σ1 H1 _ _ Q I1 rr q1
def qby (K:Frag) (n:Nat) (t:TGs):TG:=fun v σ H Q=>∃ a xs,v=.ref a/\SqT K H a xs/\xs.length=n/\t xs σ H Q
theorem XY {es:List Expr} {k:Nat} {t:TGs} {n:Nat} (hc:X.calm=true) (h:PGs X es t)
  (hn:(assignEach es X.env).length=n:=by rfl) (hst:(assignEach es X.env).findIdx? (·.1)=none:=by rfl):PG X (.Tuple es k pos) (qby X.K n t):=by
 refine ⟨?_⟩
 intro pins s σ H v u Q I r hw
 obtain ⟨a,xs,e1,hq,hl,hw⟩:=hw
 subst e1
 cases r
 obtain ⟨its,rv,ht,hz⟩:=I.tuple hq
 refine assign_Tuple_tuple (I.ok.hd hc) ht (by simp [hn,<-hl,rv.length]) hst fun h' hx=>?_
 have I1:Inv X pins σ H { s with heap:=h' }:=I.kept (t':=s.toks) fun b o e=>hx b o (Nat.ne_of_lt (Heap.lt_size e)) e
 exact h pins _ σ H xs _ Q I1 (by simpa using rv) hw
def qaY (te:TE) (g:TG):TS:=fun D σ H=>te σ H fun x H1=>g x σ H1 D.nx
theorem XZ {tg e:Expr} {te:TE} {g:TG} (he:PE X e te) (hg:PG X tg g) (hs:swapsWithSole [tg] e pos.line X.env=pure false:=by rfl) (hw:swappedStores [tg] e X.env=pure none:=by rfl)
  (h1:(assignEach [tg] X.env).map (·.2)=[assign tg X.env]:=by rfl):PS X (.Assign [tg] e pos) (qaY te g):=by
 refine ⟨?_⟩
 intro pins s σ H D I h
 refine wpAny_Assign_stores (thn (he pins s σ H _ I h) fun v s1 ⟨x,H1,I1,r1,q1⟩=>?_) hs hw
 rw [h1]
 exact thn (hg pins s1 σ H1 x v _ I1 r1 q1) fun _ s2 q=>q
theorem UD {i:Nat} {x:Str} {e:Expr} {te:TE} {pos':Pos} (hN:X.N.Nodup) (hi:X.N[i]?=some x) (hx:Loc X.env.scope x) (he:PE X e te) (hs:swapsWith e (some (.Name x pos')) pos.line X.env=pure false:=by rfl) (hf:X.fn x=true\/X.env.scope.names.lookup x=some .local:=by first | exact .inl rfl | exact .inr rfl | assumption) :
  PS X (.Assign [.Name x pos'] e pos) (qaY te (XX i)):=by
 refine ⟨?_⟩
 intro pins s σ H D I h
 refine wpAny_Assign_Name (thn (he pins s σ H _ I h) fun v s1 ⟨y,H1,I1,r1,q1⟩=>?_) hs
 exact yV I1 hN hi hx r1 (fun s2 I2=>⟨_,H1,I2,q1⟩) hf
end
structure It where
 go:Nat->Hp->Prop
 yld:Nat->Hp->V->Hp->Prop
 stop:Nat->Hp->Prop
def uw (X:Cx) (pins:List (Addr×Obj)) (H:Hp) (b:Addr):Prop:=
 H b=none/\b≠X.env.locals/\b∉X.fs/\(b∈X.ex\/X.s₀.heap.objs.size<=b)/\(∀ x c,X.env.cells.lookup x=some c->c≠b)/\∀ p∈X.pn++pins,p.1≠b
theorem Inv.fpOk {X:Cx} {pins:List (Addr×Obj)} {σ:St} {H H':Hp} {s:Shared} {b:Addr} (I:Inv X pins σ H s) (hb:s.heap.objs.size<=b) (hn:H' b=none):uw X pins H' b:=by
 refine ⟨hn,Nat.ne_of_gt (Nat.lt_of_lt_of_le I.lt hb),I.nofs hb,.inr (Nat.le_trans I.sz hb),fun x c e z=>?_,fun p hp z=>?_⟩
 ·obtain ⟨v,q⟩:=I.cell x c e
  exact absurd (Nat.lt_of_lt_of_le q.lt (by rw [z]; exact hb)) (Nat.lt_irrefl _)
 ·exact absurd (Nat.lt_of_lt_of_le (Heap.lt_size (I.pin p hp).1) (by rw [z]; exact hb)) (Nat.lt_irrefl _)
structure Turn (P:Program) (w:World) (K:Frag) (tg:Expr) (J:It) (fp:List Addr) (it:Addr) (tn:Nat->Heap->Prop):Prop where
 mem:it∈fp
 obj:∀ i h,tn i h->∀ b∈fp,∃ o,h.get? b=some o/\∀ v,o.data≠.cell v
 keep:∀ i h h',tn i h->(∀ b∈fp,∀ o,h.get? b=some o->h'.get? b=some o)->tn i h'
 item:∀ (X:Cx),X.prog=P->X.w=w->X.K=K->X.calm=true->∀ (i:Nat) (pins:List (Addr×Obj)) (s:Shared) (σ:St) (H:Hp) (E:Value->Shared->Prop),Inv X pins σ H s->(∀ b∈fp,uw X pins H b)->tn i s.heap->J.go i H ->
  wpAny (model P w) X.A (pyNext (.ref it)) (fun r s1=>∃ u,r=some u /\
   wpAny (model P w) X.A (letOwnedTupleGo tg (.ref it) u) (fun _ s2=>∃ x H',Inv X pins σ H' s2/\RelV x u/\J.yld i H x H'/\tn (i+1) s2.heap/\∀ b∈fp,H' b=none) E s1) E s
 done:∀ (X:Cx),X.prog=P->X.w=w->X.K=K->X.calm=true->∀ (i:Nat) (pins:List (Addr×Obj)) (s:Shared) (σ:St) (H:Hp) (E:Value->Shared->Prop),Inv X pins σ H s->(∀ b∈fp,uw X pins H b)->tn i s.heap->J.stop i H ->
  wpAny (model P w) X.A (pyNext (.ref it)) (fun r s1=>r=none/\Inv X pins σ H s1) E s
 self:∀ (A:Around) (i:Nat) (s:Shared) (Q:Value->Shared->Prop) (E:Value->Shared->Prop),tn i s.heap->Q (.ref it) s->wpAny (model P w) A (pyIter (.ref it)) Q E s
abbrev TI:=St->Hp->(It->Hp->Prop)->Prop
def PIE (X:Cx) (pins:List (Addr×Obj)) (σ:St) (tg:Expr) (R:It->Hp->Prop) (itv:Value) (s2:Shared):Prop:=
 ∃ (it:Addr) (fp:List Addr) (tn:Nat->Heap->Prop) (J:It) (H':Hp),itv=.ref it/\Inv X pins σ H' s2/\Turn X.prog X.w X.K tg J fp it tn/\tn 0 s2.heap/\(∀ b∈fp,uw X pins H' b)/\R J H'
structure PI (X:Cx) (tg iter:Expr) (wi:TI):Prop where
 run:∀ (pins:List (Addr×Obj)) (s:Shared) (σ:St) (H:Hp) (R:It->Hp->Prop),Inv X pins σ H s->wi σ H R ->
  wpAny (model X.prog X.w) X.A (eval iter X.env) (fun v s1=>wpAny (model X.prog X.w) X.A (pyIter v) (PIE X pins σ tg R) X.xe s1) X.xe s
instance {X:Cx} {tg iter:Expr} {wi:TI}:CoeFun (PI X tg iter wi) (fun _=>∀ (pins:List (Addr×Obj)) (s:Shared) (σ:St) (H:Hp) (R:It->Hp->Prop),Inv X pins σ H s->wi σ H R ->
  wpAny (model X.prog X.w) X.A (eval iter X.env) (fun v s1=>wpAny (model X.prog X.w) X.A (pyIter v) (PIE X pins σ tg R) X.xe s1) X.xe s):=⟨fun h=>h.run⟩
theorem Wp {M:Model} {A:Around} {E:Value->Shared->Prop} {s:Shared} {tg:Expr} {it:Addr} {u:Value} {o:Obj} {n:String} {vs:Array Value} {Q:Unit->Shared->Prop} (ho:s.heap.get? it=some o) (hc:o.cls=.type n) (hd:o.data=.fields vs)
    (hn:["enumerate", "zip", "dict_itemiterator", "dict_reverseitemiterator", "odict_iterator", "itertools.zip_longest", "itertools.pairwise"].contains n=false) (hQ:Q () s):wpAny M A (letOwnedTupleGo tg (.ref it) u) Q E s:=by
  unfold letOwnedTupleGo
  cases tg <;> first
    | exact wpAny_pure hQ
    | (cases u <;> first
        | exact wpAny_pure hQ
        | (refine wpAny_bind (wpAny_load ho ?_)
           rw [hc,hd]
           show wpAny M A (if (["enumerate", "zip", "dict_itemiterator", "dict_reverseitemiterator", "odict_iterator", "itertools.zip_longest", "itertools.pairwise"].contains n&&vs[0]? == some (rawInt _))=true then _ else _) Q E s
           rw [if_neg (by intro h; rw [hn,Bool.false_and] at h; cases h)]
           exact wpAny_pure hQ))
noncomputable def Itl (K:Frag) (a:Addr):It:=
 ⟨fun i H=>∃ xs x,SqL K H a xs/\xs[i]?=some x,fun i H x H'=>H'=H/\∀ xs,SqL K H a xs->xs[i]?=some x,fun i H=>∃ xs,SqL K H a xs/\xs.length<=i⟩
noncomputable def Itt (K:Frag) (a:Addr):It:=
 ⟨fun i H=>∃ xs x,SqT K H a xs/\xs[i]?=some x,fun i H x H'=>H'=H/\∀ xs,SqT K H a xs->xs[i]?=some x,fun i H=>∃ xs,SqT K H a xs/\xs.length<=i⟩
noncomputable def Itr (lo:Int) (n:Nat):It:=⟨fun i _=>i < n,fun i H x H'=>H'=H/\x=.int (lo+i),fun i _=>n<=i⟩
theorem Kd {P:Program} {w:World} {K:Frag} {tg:Expr} (a it:Addr):Turn P w K tg (Itl K a) [it] it (fun i h=>h.IsListIter it a i) where
 mem:=by simp
 obj:=fun i h st b hb=>by
  have e:b=it:=by simpa using hb
  subst e
  obtain ⟨o,e,c,d⟩:=st
  exact ⟨o,e,fun v z=>by rw [d] at z; cases z⟩
 keep:=fun i h h' st k=>st.at fun o e=>k it (by simp) o e
 item:=by
  intro X hP hw hK hc i pins s σ H E I hf st hg
  subst hP hw hK
  obtain ⟨xs,x,hq,hx⟩:=hg
  obtain ⟨its,rv,p,hz⟩:=I.list hq
  obtain ⟨u,hu,ru⟩:=rv.get hx
  obtain ⟨f0,f1,f2,f3,f4,f5⟩:=hf it (by simp)
  refine wpAny_pyNext_list_item st p.isList (x:=u) (by simpa using hu) fun h' st' sb=>?_
  have I1:Inv X pins σ H { s with heap:=h' }:=I.turned (t':=s.toks) (fun b o hb e=>(sb.2 b hb).trans e) f0 f1 f3 f4 f5
  obtain ⟨o,e,c,d⟩:=id st'
  exact ⟨u,rfl,Wp (s:={ s with heap:=h' }) e c d (by decide) ⟨x,H,I1,ru,⟨rfl,fun ys hy=>by rw [I.list_inj hy hq]; exact hx⟩,st',fun b hb=>(hf b hb).1⟩⟩
 done:=by
  intro X hP hw hK hc i pins s σ H E I hf st hg
  subst hP hw hK
  obtain ⟨xs,hq,hx⟩:=hg
  obtain ⟨its,rv,p,hz⟩:=I.list hq
  obtain ⟨f0,f1,f2,f3,f4,f5⟩:=hf it (by simp)
  have hl:=rv.length
  exact wpAny_pyNext_list_end (I.ok.hd hc) st p.isList (by simp; omega) fun h' eb=>⟨rfl,I.turned (t':=s.toks) (fun b o hb e=>eb b o hb e) f0 f1 f3 f4 f5⟩
 self:=fun _ _ _ _ _ st h=>wpAny_pyIter_listiter st h
theorem Jj {P:Program} {w:World} {K:Frag} {tg:Expr} (a it:Addr):Turn P w K tg (Itt K a) [it] it (fun i h=>h.IsTupleIter it a i) where
 mem:=by simp
 obj:=fun i h st b hb=>by
  have e:b=it:=by simpa using hb
  subst e
  obtain ⟨o,e,c,d⟩:=st
  exact ⟨o,e,fun v z=>by rw [d] at z; cases z⟩
 keep:=fun i h h' st k=>st.at fun o e=>k it (by simp) o e
 item:=by
  intro X hP hw hK hc i pins s σ H E I hf st hg
  subst hP hw hK
  obtain ⟨xs,x,hq,hx⟩:=hg
  obtain ⟨its,rv,p,hz⟩:=I.tuple hq
  obtain ⟨u,hu,ru⟩:=rv.get hx
  obtain ⟨f0,f1,f2,f3,f4,f5⟩:=hf it (by simp)
  refine wpAny_pyNext_tuple_item st (show s.heap.IsTuple a its.toArray from p) (x:=u) (by simpa using hu) fun h' st' sb=>?_
  have I1:Inv X pins σ H { s with heap:=h' }:=I.turned (t':=s.toks) (fun b o hb e=>(sb.2 b hb).trans e) f0 f1 f3 f4 f5
  obtain ⟨o,e,c,d⟩:=id st'
  exact ⟨u,rfl,Wp (s:={ s with heap:=h' }) e c d (by decide) ⟨x,H,I1,ru,⟨rfl,fun ys hy=>by rw [I.tuple_inj hy hq]; exact hx⟩,st',fun b hb=>(hf b hb).1⟩⟩
 done:=by
  intro X hP hw hK hc i pins s σ H E I hf st hg
  subst hP hw hK
  obtain ⟨xs,hq,hx⟩:=hg
  obtain ⟨its,rv,p,hz⟩:=I.tuple hq
  obtain ⟨f0,f1,f2,f3,f4,f5⟩:=hf it (by simp)
  have hl:=rv.length
  exact wpAny_pyNext_tuple_end (I.ok.hd hc) st (show s.heap.IsTuple a its.toArray from p) (by simp; omega) fun h' eb=>⟨rfl,I.turned (t':=s.toks) (fun b o hb e=>eb b o hb e) f0 f1 f3 f4 f5⟩
 self:=fun _ _ _ _ _ st h=>wpAny_pyIter_tupleiter st h
theorem Jk {P:Program} {w:World} {K:Frag} {tg:Expr} (it:Addr) (lo:Int) (n:Nat):Turn P w K tg (Itr lo n) [it] it (fun i h=>IsRangeIter h it (lo+(i:Nat) * 1) ((n:Int) - (i:Nat)) 1) where
 mem:=by simp
 obj:=fun i h st b hb=>by
  have e:b=it:=by simpa using hb
  subst e
  exact ⟨_,st,fun v z=>by
   have z':Data.fields _=Data.cell v:=z
   cases z'⟩
 keep:=fun i h h' st k=>k it (by simp) _ st
 item:=by
  intro X hP hw hK hc i pins s σ H E I hf st hg
  subst hP hw hK
  obtain ⟨f0,f1,f2,f3,f4,f5⟩:=hf it (by simp)
  have W:=Walks.range (prog:=X.prog) (w:=X.w) (I.ok.hd hc) it lo 1 n
  refine W.item i s _ _ hg st fun v h' tk hv st' kk=>?_
  obtain ⟨t,rfl⟩:=hv
  have I1:Inv X pins σ H { s with heap:=h',toks:=tk }:=I.turned (fun b o hb e=>kk b o (by simpa using hb) e) f0 f1 f3 f4 f5
  refine ⟨_,rfl,Wp (s:={ s with heap:=h',toks:=tk }) (n := "range_iterator") st' rfl rfl (by decide) ⟨.int (lo+i),H,I1,⟨t,?_⟩,⟨rfl,rfl⟩,st',fun b hb=>(hf b hb).1⟩⟩
  rw [Int.mul_one]
 done:=by
  intro X hP hw hK hc i pins s σ H E I hf st hg
  subst hP hw hK
  obtain ⟨f0,f1,f2,f3,f4,f5⟩:=hf it (by simp)
  exact wpAny_pyNext_range_end (I.ok.hd hc) st (by have:n<=i:=hg; omega) fun h' eb=>⟨rfl,I.turned (t':=s.toks) (fun b o hb e=>eb b o hb e) f0 f1 f3 f4 f5⟩
 self:=fun _ _ _ _ _ st h=>wpAny_pyIter_rangeiter st h
section
variable {X:Cx} {tg:Expr}
theorem Wq {pins:List (Addr×Obj)} {σ:St} {H:Hp} {s:Shared} {R:It->Hp->Prop} {E:Value->Shared->Prop} {lo hi:Int} {t u v:Tok} {tk:Nat} (I:Inv X pins σ H s) (h1:-(2 ^ 62)<=lo) (h2:lo < 2 ^ 62) (h3:-(2 ^ 62)<=hi) (h4:hi < 2 ^ 62)
  (q:R (Itr lo (hi - lo).toNat) H):wpAny (model X.prog X.w) X.A (pyIter (.ref s.heap.objs.size)) (PIE X pins σ tg R) E { s with heap:=s.heap.push { cls:=.type "range",data:=.fields #[.int lo t,.int hi u,.int 1 v] },toks:=tk }:=by
 refine wpAny_pyIter_range (IsRange.new ..) (small_one h1 h2 h3 h4) ?_
 have I1:Inv X pins σ H { s with heap:=s.heap.push { cls:=.type "range",data:=.fields #[.int lo t,.int hi u,.int 1 v] },toks:=tk }:=I.kept fun b o e=>Heap.get?_push_of_some _ e
 refine ⟨(s.heap.push { cls:=.type "range",data:=.fields #[.int lo t,.int hi u,.int 1 v] }).objs.size,[(s.heap.push { cls:=.type "range",data:=.fields #[.int lo t,.int hi u,.int 1 v] }).objs.size],_,_,H,rfl,
  I1.kept (t':=tk) fun b o e=>Heap.get?_push_of_some _ e,Jk _ lo (hi - lo).toNat,?_,fun b hb=>?_,q⟩
 ·have e1:lo+((0:Nat):Int) * 1=lo:=by simp
  have e2:(((hi - lo).toNat:Nat):Int) - ((0:Nat):Int)=Builtin.Range.rangeSize lo hi 1:=by rw [rangeSize_one]; split <;> omega
  show IsRangeIter _ _ (lo+((0:Nat):Int) * 1) ((((hi - lo).toNat:Nat):Int) - ((0:Nat):Int)) 1
  rw [e1,e2]
  exact Heap.get?_push_size _ rfl
 ·have e:b=(s.heap.push { cls:=.type "range",data:=.fields #[.int lo t,.int hi u,.int 1 v] }).objs.size:=by simpa using hb
  subst e
  exact I1.fpOk (Nat.le_refl _) (I1.hok.fresh (Nat.le_refl _))
def GX (ta:TA):TI:=fun σ H R=>ta σ H fun vs H1=>∃ j:Int,vs=[.int j]/\-(2 ^ 62)<=j/\j < 2 ^ 62/\R (Itr 0 j.toNat) H1
theorem Ke {a:Expr} {ta:TA} {p pos:Pos} (hg:Gl X "range") (hm:X.mg "range"=none) (ha:PA X [a] ta) (hs:starEach [a] X.env=[(false,eval a X.env)]:=by rfl):PI X tg (.Call (.Name "range" p) [a] [] pos) (GX ta):=by
 refine ⟨?_⟩
 intro pins s σ H R I h
 refine Call_ (zd I hg hm boot_range (PyProof.Rows.callWith_type1 (thn (ha pos pins s σ H _ I h) fun us s1 ⟨vs,H1,I1,r1,q1⟩=>?_) hs rfl))
 obtain ⟨j,e,q1,q2,q⟩:=q1
 subst e
 cases r1 with
 | cons r rr=>
  cases rr
  obtain ⟨t,rfl⟩:=r
  exact call_range_1 (Wq I1 (by omega) (by omega) q1 q2 (by simpa using q))
def qbz (wi:TI) (g:TG) (tb:TS):TS:=fun D σ H=>wi σ H fun J H1=>∃ W:Nat->Nat->St->Hp->Prop,(∃ m,W 0 m σ H1)/\∀ i m σ H,W i m σ H ->
 (J.stop i H/\D.nx σ H)\/(J.go i H/\∃ N:St->Hp->Prop,(∀ σ' H',N σ' H'->∃ m',m' < m/\W (i+1) m' σ' H')/\∀ x H',J.yld i H x H'->g x σ H' fun σ2 H2=>tb { D with nx:=N,ct:=N,bk:=D.nx } σ2 H2)
noncomputable def wH (fp:List Addr) (h:Heap):List (Addr×Obj):=fp.filterMap fun b=>(h.get? b).map fun o=>(b,o)
theorem jv {fp:List Addr} {h:Heap} {b:Addr} {o:Obj} (hb:b∈fp) (e:h.get? b=some o):(b,o)∈wH fp h:=List.mem_filterMap.mpr ⟨b,hb,by rw [e]; rfl⟩
theorem Kf {fp:List Addr} {h:Heap} {p:Addr×Obj} (hp:p∈wH fp h):p.1∈fp/\h.get? p.1=some p.2:=by
 obtain ⟨b,hb,e⟩:=List.mem_filterMap.mp hp
 cases q:h.get? b with
 | none=>rw [q] at e; cases e
 | some o=>
  rw [q] at e
  have e':(b,o)=p:=Option.some.inj e
  subst e'
  exact ⟨hb,q⟩
theorem Inv.pinned {pins:List (Addr×Obj)} {σ:St} {H:Hp} {s:Shared} {fp:List Addr} (I:Inv X pins σ H s) (hf:∀ b∈fp,uw X pins H b) (ho:∀ b∈fp,∃ o,s.heap.get? b=some o/\∀ v,o.data≠.cell v):Inv X (pins++wH fp s.heap) σ H s:=
 I.pins_of fun p hp=>(List.mem_append.mp hp).elim (fun z=>I.pin p (List.mem_append_right _ z)) fun z=>by
  obtain ⟨hb,e⟩:=Kf z
  obtain ⟨f0,f1,f2,_⟩:=hf p.1 hb
  obtain ⟨o,e',d⟩:=ho p.1 hb
  rw [e] at e'; cases e'
  exact ⟨e,f0,f1,f2,d⟩
theorem Inv.unpinned {pins pl:List (Addr×Obj)} {σ:St} {H:Hp} {s:Shared} (I:Inv X (pins++pl) σ H s):Inv X pins σ H s:=I.pins_of fun p hp=>I.pin p (List.mem_append_right _ (List.mem_append_left _ hp))
theorem Za {iter:Expr} {body:List Stmt} {wi:TI} {g:TG} {tb:TS} {pos:Pos} (hp:PassesOwn (model X.prog X.w) X.A X.env X.xe) (hc:X.calm=true) (hi:PI X tg iter wi) (hg:PG X tg g) (hb:PSs X body tb)
  (hs:∀ x,foldedSetIterable iter X.env x=pure x:=by intro _; rfl):PS X (.For tg iter body [] pos) (qbz wi g tb):=by
 refine ⟨?_⟩
 intro pins s σ H D I h
 refine wpAny_For (thn (hi pins s σ H _ I h) fun v s1 h1=>thn h1 fun itv s2 h2=>?_) hs
 obtain ⟨it,fp,tn,J,H2,e,I2,T,st2,f2,W,⟨m0,w0⟩,turn⟩:=h2
 subst e
 have stat:∀ {H':Hp},(∀ b∈fp,H' b=none)->∀ b∈fp,uw X pins H' b:=fun hn b hb=>⟨hn b hb,(f2 b hb).2⟩
 refine codeAny_forLoop_any (fun n s'=>∃ i σ' H',Inv X pins σ' H' s'/\tn i s'.heap/\(∀ b∈fp,H' b=none)/\W i n σ' H') ?_ m0 ⟨0,σ,H2,I2,st2,fun b hb=>(f2 b hb).1,w0⟩
 rintro n s3 ⟨i,σ3,H3,I3,st3,fr3,w3⟩
 rcases turn i n σ3 H3 w3 with ⟨stop,qn⟩ | ⟨go,N,hN,step⟩
 ·refine wpAny_passesOwn hp (thn (T.done X rfl rfl rfl hc i pins s3 σ3 H3 X.xe I3 (stat fr3) st3 stop) fun r s4 ⟨hr,I4⟩=>?_)
  subst hr
  exact wpAny_execs_nil ⟨σ3,H3,I4,qn⟩
 ·refine wpAny_passesOwn hp (thn (T.item X rfl rfl rfl hc i pins s3 σ3 H3 X.xe I3 (stat fr3) st3 go) fun r s4 ⟨u,hr,h4⟩=>?_)
  subst hr
  refine wpAny_passesOwn hp (thn h4 fun _ s5 ⟨x,H5,I5,r5,y5,st5,fr5⟩=>?_)
  have I5':=I5.pinned (stat fr5) (T.obj _ _ st5)
  refine wpAny_passesOwn hp (thn (hg _ s5 σ3 H5 x u _ I5' r5 (step x H5 y5)) fun _ s6 ⟨σ6,H6,I6,q6⟩=>?_)
  refine wpAny_passesOwn hp (thn (hb _ s6 σ6 H6 _ I6 q6) fun f s7 q7=>?_)
  have again:∀ {σ7:St} {H7:Hp},Inv X (pins++wH fp s5.heap) σ7 H7 s7->N σ7 H7->∃ m,m < n/\∃ i σ' H',Inv X pins σ' H' s7/\tn i s7.heap/\(∀ b∈fp,H' b=none)/\W i m σ' H':=fun {σ7 H7} I7 n7=>by
   obtain ⟨m',hm,w7⟩:=hN σ7 H7 n7
   refine ⟨m',hm,i+1,σ7,H7,I7.unpinned,T.keep _ _ _ st5 fun b hb o e=>(I7.pin (b,o) (List.mem_append_right _ (List.mem_append_right _ (jv hb e)))).1,fun b hb=>?_,w7⟩
   obtain ⟨o,e,d⟩:=T.obj _ _ st5 b hb
   exact (I7.pin (b,o) (List.mem_append_right _ (List.mem_append_right _ (jv hb e)))).2.1
  cases f with
  | next=>obtain ⟨σ7,H7,I7,n7⟩:=q7; exact again I7 n7
  | cont=>obtain ⟨σ7,H7,I7,n7⟩:=q7; exact again I7 n7
  | brk=>obtain ⟨σ7,H7,I7,q7⟩:=q7; exact ⟨σ7,H7,I7.unpinned,q7⟩
  | ret v=>obtain ⟨x7,σ7,H7,I7,r7,q7⟩:=q7; exact ⟨x7,σ7,H7,I7.unpinned,r7,q7⟩
end
abbrev R2:=V->V->Hp->VK->Prop
def OpR (X:Cx) (f:Value->Value->Sem Value) (r:R2):Prop:=
 ∀ (pins:List (Addr×Obj)) (s:Shared) (σ:St) (H:Hp) (x y:V) (v u:Value) (Q:VK),Inv X pins σ H s->RelV x v->RelV y u->r x y H Q ->
  wpAny (model X.prog X.w) X.A (f v u) (EP X pins σ Q) X.xe s
def UnR (X:Cx) (f:Value->Sem Value) (r:V->Hp->VK->Prop):Prop:=
 ∀ (pins:List (Addr×Obj)) (s:Shared) (σ:St) (H:Hp) (x:V) (v:Value) (Q:VK),Inv X pins σ H s->RelV x v->r x H Q ->
  wpAny (model X.prog X.w) X.A (f v) (EP X pins σ Q) X.xe s
def vD (X:Cx) (f:Value) (r:List V->Hp->VK->Prop):Prop:=
 ∀ (pins:List (Addr×Obj)) (s:Shared) (σ:St) (H:Hp) (xs:List V) (us:List Value) (Q:VK),Inv X pins σ H s->Vals xs us->r xs H Q ->
  wpAny (model X.prog X.w) X.A (call f us) (EP X pins σ Q) X.xe s
def qbA (X:Cx) (r:V->Hp->(Bool->Hp->Prop)->Prop):Prop:=
 ∀ (pins:List (Addr×Obj)) (s:Shared) (σ:St) (H:Hp) (x:V) (v:Value) (Q:Bool->Hp->Prop),Inv X pins σ H s->RelV x v->r x H Q ->
  wpAny (model X.prog X.w) X.A (truthy v) (TP X pins σ Q) X.xe s
def tOp (r:R2) (ta tb:TE):TE:=fun σ H Q=>ta σ H fun x H1=>tb σ H1 fun y H2=>r x y H2 Q
def tUn (r:V->Hp->VK->Prop) (ta:TE):TE:=fun σ H Q=>ta σ H fun x H1=>r x H1 Q
def rI (C:Int->Int->Prop) (g:Int->Int->V):R2:=fun x y H Q=>∃ i j,x=.int i/\y=.int j/\C i j/\Q (g i j) H
def rI0 (g:Int->Int->V):R2:=fun x y H Q=>∃ i j,x=.int i/\y=.int j/\Q (g i j) H
def rU (g:Int->V):V->Hp->VK->Prop:=fun x H Q=>∃ i,x=.int i/\Q (g i) H
section
variable {X:Cx} {a b c:Expr} {ta tb tc:TE} {pos:Pos}
theorem GY (ha:PE X a ta) (hb:PE X b tb) {pins:List (Addr×Obj)} {s:Shared} {σ:St} {H:Hp} {R:V->V->Hp->Prop} (I:Inv X pins σ H s)
  (h:ta σ H fun x H1=>tb σ H1 fun y H2=>R x y H2) {Q:Value->Shared->Prop} {f:Value->Value->Sem Value}
  (hf:∀ v u s2 x y H2,Inv X pins σ H2 s2->RelV x v->RelV y u->R x y H2->wpAny (model X.prog X.w) X.A (f v u) Q X.xe s2) :
  wpAny (model X.prog X.w) X.A (eval a X.env) (fun v s₁=>wpAny (model X.prog X.w) X.A (eval b X.env) (fun u s₂=>wpAny (model X.prog X.w) X.A (f v u) Q X.xe s₂) X.xe s₁) X.xe s:=by
 refine thn (ha pins s σ H _ I h) fun v s1 ⟨x,H1,I1,r1,q1⟩=>?_
 refine thn (hb pins s1 σ H1 _ I1 q1) fun u s2 ⟨y,H2,I2,r2,q2⟩=>?_
 exact hf v u s2 x y H2 I2 r1 r2 q2
theorem GZ {op:Operator} {r:R2} (ho:OpR X (binaryOp op) r) (ha:PE X a ta) (hb:PE X b tb):PE X (.BinOp a op b pos) (tOp r ta tb):=by
 refine ⟨?_⟩
 intro pins s σ H Q I h
 exact wpAny_BinOp (GY ha hb I h fun v u s2 x y H2 I2 rx ry q=>ho pins s2 σ H2 x y v u Q I2 rx ry q)
theorem qaa {op:UnaryOp} {r:V->Hp->VK->Prop} (ho:UnR X (unaryOp op) r) (ha:PE X a ta):PE X (.UnaryOp op a pos) (tUn r ta):=by
 refine ⟨?_⟩
 intro pins s σ H Q I h
 exact UnaryOp_ (thn (ha pins s σ H _ I h) fun v s1 ⟨x,H1,I1,r1,q1⟩=>ho pins s1 σ H1 x v Q I1 r1 q1)
theorem opI {f:Value->Value->Sem Value} {C:Int->Int->Prop} {g:Int->Int->Int}
  (rule:∀ (i j:Int) (t u:Tok) (s:Shared) (Q:Value->Shared->Prop) (E:Value->Shared->Prop),C i j->Q (.int (g i j) s.toks) { s with toks:=s.toks+1 }->wpAny (model X.prog X.w) X.A (f (.int i t) (.int j u)) Q E s) :
  OpR X f (rI C fun i j=>.int (g i j)):=by
 intro pins s σ H x y v u Q I rx ry h
 obtain ⟨i,j,rfl,rfl,hc,q⟩:=h
 obtain ⟨t,rfl⟩:=rx
 obtain ⟨t',rfl⟩:=ry
 exact rule i j t t' s _ _ hc ⟨.int (g i j),H,I.tok _,⟨_,rfl⟩,q⟩
theorem qaZ {f:Value->Value->Sem Value} {g:Int->Int->Int}
  (rule:∀ (i j:Int) (t u:Tok) (s:Shared) (Q:Value->Shared->Prop) (E:Value->Shared->Prop),Q (.int (g i j) s.toks) { s with toks:=s.toks+1 }->wpAny (model X.prog X.w) X.A (f (.int i t) (.int j u)) Q E s) :
  OpR X f (rI0 fun i j=>.int (g i j)):=by
 intro pins s σ H x y v u Q I rx ry h
 obtain ⟨i,j,rfl,rfl,q⟩:=h
 obtain ⟨t,rfl⟩:=rx
 obtain ⟨t',rfl⟩:=ry
 exact rule i j t t' s _ _ ⟨.int (g i j),H,I.tok _,⟨_,rfl⟩,q⟩
theorem qab {f:Value->Value->Sem Value} {g:Int->Int->Bool}
  (rule:∀ (i j:Int) (t u:Tok) (s:Shared) (Q:Value->Shared->Prop) (E:Value->Shared->Prop),Q (.bool (g i j)) s->wpAny (model X.prog X.w) X.A (f (.int i t) (.int j u)) Q E s) :
  OpR X f (rI0 fun i j=>.bl (g i j)):=by
 intro pins s σ H x y v u Q I rx ry h
 obtain ⟨i,j,rfl,rfl,q⟩:=h
 obtain ⟨t,rfl⟩:=rx
 obtain ⟨t',rfl⟩:=ry
 exact rule i j t t' s _ _ ⟨.bl (g i j),H,I,rfl,q⟩
def qbB (i j:Int):Prop:=0 < j/\j < 1073741824
def XB (i j:Int):Prop:=0<=j/\j<=1000000/\i.natAbs < 2 ^ 64
def CMul (i j:Int):Prop:=(-(2 ^ 64) < i/\i < 2 ^ 64)\/(-(2 ^ 64) < j/\j < 2 ^ 64)
theorem CMul.ok {i j:Int} (h:CMul i j):IntMulOk i j:=by
 rcases h with ⟨h1,h2⟩ | ⟨h1,h2⟩
 ·exact .of_left (intBits_le_64 h1 h2)
 ·exact .of_right (intBits_le_64 h1 h2)
theorem Zb:OpR X (binaryOp .Add) (rI0 fun i j=>.int (i+j)):=qaZ fun _ _ _ _ _ _ _ q=>add_int q
theorem Zc:OpR X (binaryOp .Sub) (rI0 fun i j=>.int (i - j)):=qaZ fun _ _ _ _ _ _ _ q=>sub_int q
theorem Zd:OpR X (binaryOp .Mult) (rI CMul fun i j=>.int (i * j)):=opI fun _ _ _ _ _ _ _ hc q=>mul_int q hc.ok
theorem Ze:OpR X (binaryOp .Mod) (rI (fun _ j=>0 < j) fun i j=>.int (i % j)):=opI fun i j _ _ _ _ _ hc q=>by
 have h1:(0:Int) < j:=hc
 exact mod_int' (by omega) (by rw [Int.fmod_eq_emod_of_nonneg i (by omega)]; exact q)
theorem UE:OpR X (binaryOp .Pow) (rI XB fun i j=>.int (i ^ j.toNat)):=opI fun _ _ _ _ _ _ _ hc q=>pow_int_small hc.1 hc.2.1 hc.2.2 q
theorem unI {f:Value->Sem Value} {g:Int->Int}
  (rule:∀ (i:Int) (t:Tok) (s:Shared) (Q:Value->Shared->Prop) (E:Value->Shared->Prop),Q (.int (g i) s.toks) { s with toks:=s.toks+1 }->wpAny (model X.prog X.w) X.A (f (.int i t)) Q E s) :
  UnR X f (rU fun i=>.int (g i)):=by
 intro pins s σ H x v Q I rx h
 obtain ⟨i,rfl,q⟩:=h
 obtain ⟨t,rfl⟩:=rx
 exact rule i t s _ _ ⟨.int (g i),H,I.tok _,⟨_,rfl⟩,q⟩
theorem Zf:UnR X (unaryOp .USub) (rU fun i=>.int (-i)):=unI fun _ _ _ _ _ q=>neg_int q
end
section
variable {X:Cx} {a b c:Expr} {ta tb tc:TE} {pos:Pos}
theorem UF {pins:List (Addr×Obj)} {σ:St} {H:Hp} {s:Shared} {Q:VK} {k k':Bool} (I:Inv X pins σ H s) (q:Q (.bl k) H) (e:k=k'):EP X pins σ Q (.bool k') s:=by
 subst e
 exact ⟨.bl k,H,I,rfl,q⟩
theorem qac:OpR X (compareOp .Lt) (rI0 fun i j=>.bl (decide (i < j))):=qab fun _ _ _ _ _ _ _ q=>lt_int q
theorem qad:OpR X (compareOp .LtE) (rI0 fun i j=>.bl (decide (i<=j))):=qab fun _ _ _ _ _ _ _ q=>le_int q
theorem qae:OpR X (compareOp .GtE) (rI0 fun i j=>.bl (decide (j<=i))):=qab fun _ _ _ _ _ _ _ q=>ge_int q
theorem Kg:OpR X (compareOp .Lt) (fun x y H Q=>∃ i j,x=.str i/\y=.str j/\Q (.bl (decide (i.cps.toList < j.cps.toList))) H):=by
 intro pins s σ H x y v u Q I rx ry h
 obtain ⟨i,j,rfl,rfl,q⟩:=h
 obtain ⟨t,rfl⟩:=rx
 obtain ⟨t',rfl⟩:=ry
 exact lt_str (UF I q rfl)
theorem UG (b:Expr) {op:CmpOp} (h:op≠.In:=by decide) (h2:op≠.NotIn:=by decide):behindInMarks op b=false:=by
 have e1:(op == CmpOp.In)=false:=by cases op <;> first | rfl | exact absurd rfl h
 have e2:(op == CmpOp.NotIn)=false:=by cases op <;> first | rfl | exact absurd rfl h2
 cases b <;> simp [behindInMarks,e1,e2]
theorem Yj {op:CmpOp} {r:R2} (ho:OpR X (compareOp op) r) (ha:PE X a ta) (hb:PE X b tb) (hm:behindInMarks op b=false):PE X (.Compare a [op] [b] pos) (tOp r ta tb):=by
 refine ⟨?_⟩
 intro pins s σ H Q I h
 exact wpAny_Compare1 (GY ha hb I h fun v u s2 x y H2 I2 rx ry q=>ho pins s2 σ H2 x y v u Q I2 rx ry q) hm
def Zg (t:TE):TT:=fun σ H Q=>t σ H fun x H'=>∃ k,x=.bl k/\Q k H'
theorem Yk {op:CmpOp} {r:R2} (ho:OpR X (compareOp op) r) (ha:PE X a ta) (hb:PE X b tb) (hm:behindInMarks op b=false):PT X (.Compare a [op] [b] pos) (Zg (tOp r ta tb)):=by
 refine ⟨?_⟩
 intro pins s σ H Q I h
 refine wpAny_isTrue_Compare1 (thn (ha pins s σ H _ I h) fun v s1 ⟨x,H1,I1,r1,q1⟩=>thn (hb pins s1 σ H1 _ I1 q1) fun u s2 ⟨y,H2,I2,r2,q2⟩=>
  thn (ho pins s2 σ H2 x y v u _ I2 r1 r2 q2) fun c s3 ⟨z,H3,I3,r3,k,e,q3⟩=>?_) hm
 subst e
 cases r3
 exact wpAny_truthy_bool ⟨H3,I3,q3⟩
def Kh (r r':R2) (ta tb tc:TE):TE:=fun σ H Q=>ta σ H fun x H1=>tb σ H1 fun y H2=>r x y H2 fun z H3=>∃ k,z=.bl k /\
 (if k=true then tc σ H3 fun w' H4=>r' y w' H4 Q else Q (.bl false) H3)
theorem Wr {op op':CmpOp} {r r':R2} (ho:OpR X (compareOp op) r) (ho':OpR X (compareOp op') r') (ha:PE X a ta) (hb:PE X b tb) (hc:PE X c tc)
  (hm:lastMarks [op,op'] [b,c]=false:=by with_unfolding_all rfl):PE X (.Compare a [op,op'] [b,c] pos) (Kh r r' ta tb tc):=by
 refine ⟨?_⟩
 intro pins s σ H Q I h
 refine Compare_chain (thn (ha pins s σ H _ I h) fun v s1 ⟨x,H1,I1,r1,q1⟩=>chain_link (thn (hb pins s1 σ H1 _ I1 q1) fun u s2 ⟨y,H2,I2,r2,q2⟩=>
  thn (ho pins s2 σ H2 x y v u _ I2 r1 r2 q2) fun d s3 ⟨z,H3,I3,r3,k,e,q3⟩=>?_)) hm
 subst e
 cases r3
 refine wpAny_truthy_bool ?_
 cases k with
 | false=>exact ite_ff ⟨.bl false,H3,I3,rfl,q3⟩
 | true=>exact ite_tt (chain_last (thn (hc pins s3 σ H3 _ I3 q3) fun w' s4 ⟨z',H4,I4,r4,q4⟩=>ho' pins s4 σ H4 y z' u w' Q I4 r2 r4 q4))
theorem Ws {op op':CmpOp} {r r':R2} (ho:OpR X (compareOp op) r) (ho':OpR X (compareOp op') r') (ha:PE X a ta) (hb:PE X b tb) (hc:PE X c tc)
  (hm:lastMarks [op,op'] [b,c]=false:=by with_unfolding_all rfl):PT X (.Compare a [op,op'] [b,c] pos) (Zg (Kh r r' ta tb tc)):=by
 refine ⟨?_⟩
 intro pins s σ H Q I h
 refine isTrue_chain (thn (ha pins s σ H _ I h) fun v s1 ⟨x,H1,I1,r1,q1⟩=>test_link (thn (hb pins s1 σ H1 _ I1 q1) fun u s2 ⟨y,H2,I2,r2,q2⟩=>
  thn (ho pins s2 σ H2 x y v u _ I2 r1 r2 q2) fun d s3 ⟨z,H3,I3,r3,k,e,q3⟩=>?_)) hm
 subst e
 cases r3
 refine wpAny_truthy_bool ?_
 cases k with
 | false=>
  obtain ⟨k',e',q'⟩:=q3
  cases e'
  exact ite_ff ⟨H3,I3,q'⟩
 | true=>
  refine ite_tt (test_last (thn (hc pins s3 σ H3 _ I3 q3) fun w' s4 ⟨z',H4,I4,r4,q4⟩=>thn (ho' pins s4 σ H4 y z' u w' _ I4 r2 r4 q4) fun d' s5 ⟨z2,H5,I5,r5,k2,e2,q5⟩=>?_))
  subst e2
  cases r5
  exact wpAny_truthy_bool ⟨H5,I5,q5⟩
def qaf (K:Frag) (x:V) (H:Hp) (k:Bool):Prop:=
 match x with
 | .non=>k=false
 | .bl b=>k=b
 | .int i=>k=(i != 0)
 | .str y=>y.length<=sizeLine/\k=((y.length:Int) != 0)
 | .byt y=>y.size<=sizeLine/\k=((y.size:Int) != 0)
 | .ref p=>(∃ xs,SqL K H p xs/\k=!xs.isEmpty)\/(∃ xs,SqT K H p xs/\k=!xs.isEmpty)\/∃ kvs,H p=some (.dK kvs)/\k=!kvs.isEmpty
 | _=>False
theorem Jl {κ:Type} {kvs:List (κ×V)} {vs:List (κ×Value)} (r:KV kvs vs):(!vs.isEmpty)=!kvs.isEmpty:=by
 cases r <;> rfl
theorem yz {xs:List V} {its:List Value} (r:Vals xs its):(!its.toArray.isEmpty)=!xs.isEmpty:=by
 cases r <;> simp
theorem ze:(sizeLine:Nat) < 2 ^ 63:=by rw [sizeLine_eq]; decide
theorem Zh:qbA X (fun x H Q=>∃ k,qaf X.K x H k/\Q k H):=by
 intro pins s σ H x v Q I rx h
 obtain ⟨k,e,q⟩:=h
 have hl:=ze
 have hs:sizeLine=16777216:=sizeLine_eq
 cases x with
 | non=>
  cases rx
  have e':k=false:=e
  subst e'
  exact truthy_none ⟨H,I,q⟩
 | bl b=>
  cases rx
  have e':k=b:=e
  subst e'
  exact wpAny_truthy_bool ⟨H,I,q⟩
 | int i=>
  obtain ⟨t,rfl⟩:=rx
  have e':k=(i != 0):=e
  subst e'
  exact PySem.P.truthy_int ⟨H,I,q⟩
 | str y=>
  obtain ⟨t,rfl⟩:=rx
  obtain ⟨hy,e'⟩:y.length<=sizeLine/\k=((y.length:Int) != 0):=e
  subst e'
  exact PySem.P.truthy_str (by omega) ⟨H,I.tok _,q⟩
 | byt y=>
  obtain ⟨t,rfl⟩:=rx
  obtain ⟨hy,e'⟩:y.size<=sizeLine/\k=((y.size:Int) != 0):=e
  subst e'
  exact PySem.W.truthy_bytes (by omega) ⟨H,I.tok _,q⟩
 | ref p=>
  cases rx
  have e':(∃ xs,SqL X.K H p xs/\k=!xs.isEmpty)\/(∃ xs,SqT X.K H p xs/\k=!xs.isEmpty)\/∃ kvs,H p=some (.dK kvs)/\k=!kvs.isEmpty:=e
  rcases e' with ⟨xs,hx,e'⟩ | ⟨xs,hx,e'⟩ | ⟨kvs,hx,e'⟩
  ·subst e'
   obtain ⟨its,r,pl,hz⟩:=I.list hx
   have hlen:=r.length
   exact wpAny_truthy_list pl.isList (by simp only [List.size_toArray]; omega) ⟨H,I.tok _,by rw [yz r]; exact q⟩
  ·subst e'
   obtain ⟨its,r,pl,hz⟩:=I.tuple hx
   have hlen:=r.length
   exact truthy_tuple pl (by simp only [List.size_toArray]; omega) ⟨H,I.tok _,by rw [yz r]; exact q⟩
  ·subst e'
   obtain ⟨hz,hS,vs,r,m⟩:kvs.length<=sizeLine/\(p == sysModules)=false/\∃ vs,KV kvs vs/\s.heap.DictOf (jz X.prog X.w) p vs:=I.hok p _ hx
   have hlen:kvs.length=vs.length:=Paired.length r
   exact wpAny_truthy_dict hS m (by omega) ⟨H,I.tok _,by rw [Jl r]; exact q⟩
 | _=>exact (show False from e).elim
theorem Wt (ha:PE X a ta) (he:∀ whole,isTrue a X.env whole=(do let v <-whole; standAt a.pos; holding [v] (truthy v))) :
  PT X a (fun σ H Q=>ta σ H fun x H'=>∃ k,qaf X.K x H' k/\Q k H'):=by
 refine ⟨?_⟩
 intro pins s σ H Q I h
 exact isTrue_plain (thn (ha pins s σ H _ I h) fun v s1 ⟨x,H1,I1,r1,q1⟩=>Zh pins s1 σ H1 x v Q I1 r1 q1) (he _)
theorem Jm:OpR X (binaryOp .Add) (fun x y H Q=>∃ i j,x=.str i/\y=.str j/\i.length+j.length<=sizeLine/\Q (.str (i++j)) H):=by
 intro pins s σ H x y v u Q I rx ry h
 obtain ⟨i,j,rfl,rfl,hz,q⟩:=h
 obtain ⟨t,rfl⟩:=rx
 obtain ⟨t',rfl⟩:=ry
 exact add_str (fun t' tk=>⟨.str (i++j),H,I.tok _,⟨_,rfl⟩,q⟩) hz
theorem ua {x:V} {us:List Value} (r:Vals [x] us):∃ u,us=[u]/\RelV x u:=by
 cases r with
 | cons r1 r2=>cases r2; exact ⟨_,rfl,r1⟩
theorem Wu {x y:V} {us:List Value} (r:Vals [x,y] us):∃ u w',us=[u,w']/\RelV x u/\RelV y w':=by
 cases r with
 | cons r1 r2=>
  cases r2 with
  | cons r3 r4=>cases r4; exact ⟨_,_,rfl,r1,r3⟩
theorem Ki (hc:X.calm=true):vD X (.builtin "max") (fun xs H Q=>∃ i j,xs=[.int i,.int j]/\Q (.int (if j > i then j else i)) H):=by
 intro pins s σ H xs us Q I r h
 obtain ⟨i,j,rfl,q⟩:=h
 obtain ⟨u,w',rfl,⟨t,rfl⟩,⟨t',rfl⟩⟩:=Wu r
 refine max_two_ints (I.ok.hd hc) fun h' tk k=>⟨_,H,I.kept k,?_,q⟩
 by_cases hj:j > i
 ·rw [if_pos hj,if_pos hj]; exact ⟨_,rfl⟩
 ·rw [if_neg hj,if_neg hj]; exact ⟨_,rfl⟩
theorem Kj (hc:X.calm=true):vD X (.builtin "min") (fun xs H Q=>∃ i j,xs=[.int i,.int j]/\Q (.int (if j < i then j else i)) H):=by
 intro pins s σ H xs us Q I r h
 obtain ⟨i,j,rfl,q⟩:=h
 obtain ⟨u,w',rfl,⟨t,rfl⟩,⟨t',rfl⟩⟩:=Wu r
 refine min_two_ints (I.ok.hd hc) fun h' tk k=>⟨_,H,I.kept k,?_,q⟩
 by_cases hj:j < i
 ·rw [if_pos hj,if_pos hj]; exact ⟨_,rfl⟩
 ·rw [if_neg hj,if_neg hj]; exact ⟨_,rfl⟩
def qbC (K:Frag) (x:V) (H:Hp) (n:Nat):Prop:=
 match x with
 | .str y=>y.length<=sizeLine/\n=y.length
 | .byt y=>y.size<=sizeLine/\n=y.size
 | .ref p=>(∃ xs,SqL K H p xs/\n=xs.length)\/∃ xs,SqT K H p xs/\n=xs.length
 | _=>False
theorem yW:vD X (.builtin "len") (fun xs H Q=>∃ x n,xs=[x]/\qbC X.K x H n/\Q (.int n) H):=by
 intro pins s σ H xs us Q I r h
 obtain ⟨x,n,rfl,e,q⟩:=h
 obtain ⟨u,rfl,rx⟩:=ua r
 have hl:=ze
 have hs:sizeLine=16777216:=sizeLine_eq
 cases x with
 | str y=>
  obtain ⟨t,rfl⟩:=rx
  obtain ⟨hy,e'⟩:y.length<=sizeLine/\n=y.length:=e
  subst e'
  exact len_str (by omega) ⟨.int _,H,I.tok _,⟨_,rfl⟩,q⟩
 | byt y=>
  obtain ⟨t,rfl⟩:=rx
  obtain ⟨hy,e'⟩:y.size<=sizeLine/\n=y.size:=e
  subst e'
  exact PySem.W.len_bytes (by omega) ⟨.int _,H,I.tok _,⟨_,rfl⟩,q⟩
 | ref p=>
  cases rx
  have e':(∃ xs,SqL X.K H p xs/\n=xs.length)\/∃ xs,SqT X.K H p xs/\n=xs.length:=e
  rcases e' with ⟨xs,hx,e'⟩ | ⟨xs,hx,e'⟩
  ·subst e'
   obtain ⟨its,r',pl,hz⟩:=I.list hx
   have hlen:=r'.length
   exact Calls.call_len_list pl.isList (by simp only [List.size_toArray]; omega) ⟨.int xs.length,H,I.tok _,⟨_,by simp only [List.size_toArray]; rw [hlen]⟩,q⟩
  ·subst e'
   obtain ⟨its,r',pl,hz⟩:=I.tuple hx
   have hlen:=r'.length
   exact len_tuple pl (by simp only [List.size_toArray]; omega) ⟨.int xs.length,H,I.tok _,⟨_,by simp only [List.size_toArray]; rw [hlen]⟩,q⟩
 | _=>exact (show False from e).elim
end
structure ObjM (h:Heap) (x dx C:Addr) (mA:Str->Option Value):Prop where
 obj:h.get? x=some (PySem.W.instObj C dx)
 ns:h.Ns1 dx mA
 ne:dx≠x
theorem Kk {h:Heap} {dx:Addr} {mA:Str->Option Value} (n:h.Ns1 dx mA):∃ od,h.get? dx=some od/\∀ name,PySem.W.lookIn name od=some (mA name):=by
 obtain ⟨o,es,ep,ho,hd,hk,_,hm⟩:=n
 refine ⟨o,ho,fun name=>?_⟩
 have e:=hm name
 unfold nsFind findBy at e
 rw [<-Array.find?_toList] at e
 unfold PySem.W.lookIn
 rw [hd]
 dsimp only
 split
 ·rename_i y q
  rw [q] at e
  exact congrArg some e
 ·rename_i q
  rw [q] at e
  have a:es.toList.any (·.refKey)=false:=by
   rw [List.any_eq_false]
   intro y hy
   obtain ⟨z,t,hkey⟩:=hk y (Array.mem_toList_iff.mp hy)
   simp [DictEntry.refKey,hkey]
  have a':¬es.toList.any (·.refKey)=true:=by rw [a]; exact Bool.false_ne_true
  rw [if_neg a']
  exact congrArg some e
theorem ObjM.look {h:Heap} {x dx C:Addr} {mA:Str->Option Value} (I:ObjM h x dx C mA):∃ od,PySem.W.InstAt h x (PySem.W.instObj C dx) C (some od)/\∀ name,PySem.W.lookIn name od=some (mA name):=
 let ⟨od,ho,hl⟩:=Kk I.ns
 ⟨od,⟨I.obj,rfl,rfl,ho⟩,hl⟩
theorem RelO.some_of {v:V} {o:Option Value} (r:RelO (some v) o):∃ u,o=some u/\RelV v u:=by
 cases o with
 | none=>exact (show False from r).elim
 | some u=>exact ⟨u,rfl,r⟩
section
variable {X:Cx} {pins:List (Addr×Obj)} {σ:St} {H:Hp} {s:Shared} {a C dx:Addr} {fs:List (Str×V)} {f:Str} {v:V} {A:Around} {E:Value->Shared->Prop}
theorem Inv.made (I:Inv X pins σ H s):Inv X pins σ (upd (upd H s.heap.objs.size (.own (s.heap.objs.size+1))) (s.heap.objs.size+1) (.ins C s.heap.objs.size []))
  { s with heap:=(s.heap.push PySem.W.emptyDict).push (PySem.W.instObj C s.heap.objs.size) }:=by
 have e1:(s.heap.push PySem.W.emptyDict).get? s.heap.objs.size=some PySem.W.emptyDict:=Heap.get?_push_size s.heap rfl
 have e2:((s.heap.push PySem.W.emptyDict).push (PySem.W.instObj C s.heap.objs.size)).get? (s.heap.objs.size+1)=some (PySem.W.instObj C s.heap.objs.size):=by
  have:=Heap.get?_push_size (s.heap.push PySem.W.emptyDict) (o:=PySem.W.instObj C s.heap.objs.size) rfl
  rwa [Heap.size_push] at this
 have e3:(s.heap.push PySem.W.emptyDict).Ns s.heap.objs.size (fun _=>none):=⟨PySem.W.emptyDict,#[],_,e1,rfl,(fun e he=>absurd he (by simp)),fun _=>rfl⟩
 have I1:=I.laid (a:=s.heap.objs.size) (o:=.own (s.heap.objs.size+1)) (h':=s.heap.push PySem.W.emptyDict) (t':=s.toks) (fun b u q=>Heap.get?_push_of_some _ q) (Nat.le_refl _) ⟨_,e1⟩
 refine I1.laid (a:=s.heap.objs.size+1) (o:=.ins C s.heap.objs.size []) (t':=s.toks) (fun b u q=>Heap.get?_push_of_some _ q) (Nat.le_of_eq (Heap.size_push _ _)) ?_
 have ne:s.heap.objs.size≠s.heap.objs.size+1:=Nat.ne_of_lt (Nat.lt_succ_self _)
 refine ⟨by rw [qp ne,qf],Nat.zero_le _,ne,e2,fun _=>none,(Heap.Ns1.of_empty e3).at fun o q=>Heap.get?_push_of_some _ q,fun _=>True.intro,fun y hy=>absurd rfl hy⟩
end
structure Room (k:Nat) (A:Around):Prop where
 hd:A.handled=none
 dp:A.depth+3 * k+5 < recursionLimit
 un:A.units+16 * k+200 < cLine
theorem Room.mono {j k:Nat} {A:Around} (r:Room k A) (h:j<=k):Room j A:=⟨r.hd,by have:=r.dp; omega,by have:=r.un; omega⟩
theorem Room.deeper {k:Nat} {A:Around} (r:Room (k+1) A) (env:Env):Room k (A.deeper env):=
 ⟨r.hd,by have:=r.dp; show A.depth+1+3 * k+5 < _; omega,by have:=r.un; show A.units+3+16 * k+200 < _; omega⟩
theorem Room.in1 {k:Nat} {A:Around} (r:Room (k+1) A):Room k A.in1:=
 ⟨r.hd,by have:=r.dp; show A.depth+3 * k+5 < _; omega,by have:=r.un; show A.units+1+16 * k+200 < _; omega⟩
theorem Room.depth {k:Nat} {A:Around} (r:Room k A):A.depth < recursionLimit:=by have:=r.dp; omega
theorem Room.units {k:Nat} {A:Around} (r:Room k A):A.units+64 < cLine:=by have:=r.un; omega
def Zi:TA:=fun _ H Q=>Q [] H
def Jn (ta:TE) (tr:TA):TA:=fun σ H Q=>ta σ H fun x H1=>tr σ H1 fun xs H2=>Q (x::xs) H2
section
variable {X:Cx} {e:Expr} {es:List Expr} {te:TE} {t:TA} {pos:Pos}
theorem qZ:PA X [] Zi:=⟨fun _ _ _ _ H Q I h=>Calls.spliced_nil ⟨[],H,I,.nil,h⟩⟩
theorem qG (ha:PE X e te) (hr:PA X es t) (hs:starEach (e::es) X.env=(false,eval e X.env)::starEach es X.env:=by rfl):PA X (e::es) (Jn te t):=by
 refine ⟨?_⟩
 intro pos pins s σ H Q I h
 rw [hs]
 show wpAny _ _ (spliced ((false,eval e X.env)::backTo pos (starEach es X.env))) _ _ s
 refine Calls.spliced_cons (thn (ha pins s σ H _ I h) fun u s1 ⟨x,H1,I1,r1,q1⟩=>?_)
 exact thn (hr pos pins s1 σ H1 _ I1 q1) fun us s2 ⟨xs,H2,I2,r2,q2⟩=>⟨x::xs,H2,I2,.cons r1 r2,q2⟩
def qbD (t:TA):TE:=fun σ H Q=>t σ H fun xs H1=>xs.length<=sizeLine/\∀ p,H1 p=none->Q (.ref p) (upd H1 p (.tup xs))
def qbE (t:TA):TE:=fun σ H Q=>t σ H fun xs H1=>xs.length<=sizeLine/\∀ p,H1 p=none->Q (.ref p) (upd H1 p (.lst xs))
theorem Zj {x1} (h:PA X es t):PE X (.Tuple es x1 pos) (qbD t):=by
 refine ⟨?_⟩
 intro pins s σ H Q I hq
 refine wpAny_Tuple_spliced (thn (h pos pins s σ H _ I hq) fun us s1 ⟨xs,H1,I1,r,z,q⟩=>⟨by rw [<-r.length]; exact z,?_⟩)
 have hf:H1 s1.heap.objs.size=none:=I1.hok.fresh (Nat.le_refl _)
 refine ⟨.ref s1.heap.objs.size,upd H1 s1.heap.objs.size (.tup xs),I1.laid (t':=s1.toks) (fun b u e=>Heap.get?_push_of_some _ e) (Nat.le_refl _) ?_,rfl,q _ hf⟩
 exact ⟨⟨z,_,Heap.get?_push_size _ rfl,rfl⟩,us,r,⟨_,Heap.get?_push_size _ rfl,rfl,_,rfl⟩⟩
theorem Zk (h:PA X es t):PE X (.List es pos) (qbE t):=by
 refine ⟨?_⟩
 intro pins s σ H Q I hq
 refine wpAny_List_spliced (thn (h pos pins s σ H _ I hq) fun us s1 ⟨xs,H1,I1,r,z,q⟩=>⟨by rw [<-r.length]; exact z,?_⟩)
 have hf:H1 s1.heap.objs.size=none:=I1.hok.fresh (Nat.le_refl _)
 refine ⟨.ref s1.heap.objs.size,upd H1 s1.heap.objs.size (.lst xs),I1.laid (t':=s1.toks) (fun b u e=>Heap.get?_push_of_some _ e) (Nat.le_refl _) ?_,rfl,q _ hf⟩
 exact ⟨z,us,0,r,Heap.get?_push_size _ rfl⟩
end
abbrev Sp:=List V->Hp->VK->XK->Prop
abbrev CXT:=List Env->Hp->Shared->XK->Value->Shared->Prop
structure Env0 (P:Program) (w:World) (K:Frag) (mg:Str->Option Value) (base:Heap) (A:Around) (outer:List Env) (s:Shared) (H:Hp):Prop where
 frames:A.frames=some outer
 mod:Mod K mg base
 bs:∀ b o,base.get? b=some o->s.heap.get? b=some o/\H b=none
 bsz:base.objs.size<=s.heap.objs.size
 funs:s.heap.FunFrames base outer
 frf:∀ b∈frs outer,H b=none
 hok:HOk P w H s.heap
 bare:AllBare s.gens
def CE (outer:List Env) (P:Program) (w:World) (H:Hp) (s:Shared) (Q:VK) (u:Value) (s':Shared):Prop:=
 ∃ v H',s'.os=s.os/\AllBare s'.gens/\Un (frs outer) [] H H' s.heap s'.heap/\HOk P w H' s'.heap/\RelV v u/\Q v H'
def CR (CX:CXT) (outer:List Env) (P:Program) (w:World) (H:Hp) (s:Shared) (Q:VK) (E:XK) (r:Result) (s':Shared):Prop:=
 match r with
 | .ok (.ret u)=>CE outer P w H s Q u s'
 | .ok _=>False
 | .error e=>CX outer H s E e s'
structure FnOk (P:Program) (w:World) (K:Frag) (mg:Str->Option Value) (base:Heap) (CX:CXT) (k:Nat) (f:Addr) (fd:FuncData) (ps:List Str) (sp:Sp):Prop where
 len:∀ vs H Q E,sp vs H Q E->vs.length=ps.length
 run:∀ (A:Around) (outer:List Env) (s:Shared) (H:Hp) (args:Args) (us:List Value) (vs:List V) (Q:VK) (E:XK),Room k A->Env0 P w K mg base A outer s H->BindsTo s fd args (ps.zip us)->Vals vs us->sp vs H Q E ->
  codeAny (model P w) A (.call (.ref f) args) (CR CX outer P w H s Q E) s
theorem FnOk.mono {P:Program} {w:World} {K:Frag} {mg:Str->Option Value} {base:Heap} {CX:CXT} {j k:Nat} {f:Addr} {fd:FuncData} {ps:List Str} {sp:Sp} (F:FnOk P w K mg base CX j f fd ps sp) (h:j<=k) :
  FnOk P w K mg base CX k f fd ps sp:=⟨F.len,fun A outer s H args us vs Q E hr=>F.run A outer s H args us vs Q E (hr.mono h)⟩
theorem FnOk.imp {P:Program} {w:World} {K:Frag} {mg:Str->Option Value} {base:Heap} {CX:CXT} {k:Nat} {f:Addr} {fd:FuncData} {ps:List Str} {sp sp':Sp} (F:FnOk P w K mg base CX k f fd ps sp)
  (h:∀ vs H Q E,sp' vs H Q E->sp vs H Q E):FnOk P w K mg base CX k f fd ps sp':=
 ⟨fun vs H Q E q=>F.len vs H Q E (h _ _ _ _ q),fun A outer s H args us vs Q E hr he hb hv hs=>F.run A outer s H args us vs Q E hr he hb hv (h _ _ _ _ hs)⟩
theorem Env0.in1 {P:Program} {w:World} {K:Frag} {mg:Str->Option Value} {base:Heap} {A:Around} {outer:List Env} {s:Shared} {H:Hp} (e:Env0 P w K mg base A outer s H) :
  Env0 P w K mg base A.in1 outer s H:=⟨e.frames,e.mod,e.bs,e.bsz,e.funs,e.frf,e.hok,e.bare⟩
section
variable {X:Cx} {pins:List (Addr×Obj)} {σ:St} {H:Hp} {s s':Shared}
theorem Inv.env0 (I:Inv X pins σ H s):Env0 X.prog X.w X.K X.mg X.base X.A X.stack s H:=
 ⟨I.ok.frames,I.ok.mod,I.bs,Nat.le_trans I.ok.bsz I.sz,I.stack,I.stkFree,I.hok,I.bare⟩
theorem Inv.after {Q:VK} {u:Value} (I:Inv X pins σ H s) (h:CE X.stack X.prog X.w H s Q u s'):EP X pins σ Q u s':=by
 obtain ⟨v,H',os,bare,un,hok,r,q⟩:=h
 obtain ⟨hh,g,d,t,os'⟩:=s'
 obtain rfl:os'=s.os:=os
 exact ⟨v,H',I.call (h':=hh) (g':=g) (d':=d) (t':=t) (ch:=[]) un hok bare (fun b z=>absurd z (by simp)),r,q⟩
end
def Zl (sp:Sp) (dvs:List V) (E:XK) (t:TA):TE:=fun σ H Q=>t σ H fun vs H1=>sp (vs++dvs) H1 Q E
def Binds (K:Frag) (fd:FuncData) (ps:List Str) (ds:List Value):Prop:=
 ∀ (s:Shared) (us:List Value),K.In s.heap->(us++ds).length=ps.length->BindsTo s fd ⟨us,[]⟩ (ps.zip (us++ds))
theorem Binds.all {K:Frag} {fd:FuncData} {ps:List Str} (h:∀ us:List Value,us.length=ps.length->bindArgs fd ⟨us,[]⟩=pure (ps.zip us)):Binds K fd ps []:=fun s us _ hl=>by
 rw [List.append_nil] at hl ⊢
 exact .of_eq (h us hl)
def jh (CX:CXT) (X:Cx) (E:XK):Prop:=∀ (pins:List (Addr×Obj)) (σ:St) (H:Hp) (s:Shared) (e:Value) (s':Shared),Inv X pins σ H s->CX X.stack H s E e s'->X.xe e s'
section
variable {X:Cx} {CX:CXT} {k:Nat} {f C:Addr} {fd:FuncData} {ps:List Str} {sp:Sp} {dvs:List V} {ds:List Value} {E:XK} {x m:Str} {p pos apos:Pos} {e o:Expr} {es:List Expr} {ta:TE} {t:TA}
theorem Kl {pins:List (Addr×Obj)} {σ:St} {H:Hp} {s:Shared} {Q:VK} {us:List Value} {vs:List V} (F:FnOk X.prog X.w X.K X.mg X.base CX k f fd ps sp) (hr:Room k X.A) (hb:Binds X.K fd ps ds) (hd:Vals dvs ds) (hx:jh CX X E)
  (I:Inv X pins σ H s) (r:Vals vs us) (h:sp (vs++dvs) H Q E):wpAny (model X.prog X.w) X.A (call (.ref f) us) (EP X pins σ Q) X.xe s:=by
 have r2:Vals (vs++dvs) (us++ds):=r.append hd
 have hl:(us++ds).length=ps.length:=by rw [<-r2.length]; exact F.len _ _ _ _ h
 refine wpAny_call (codeAny_mono (F.run X.A X.stack s H ⟨us,[]⟩ (us++ds) (vs++dvs) Q E hr I.env0 (hb s us I.kIn hl) r2 h) fun r s' hq=>?_)
 cases r with
 | error e=>exact hx pins σ H s e s' I hq
 | ok fl=>
  cases fl with
  | ret u=>exact I.after hq
  | next=>exact False.elim hq
  | brk=>exact False.elim hq
  | cont=>exact False.elim hq
theorem Yl (F:FnOk X.prog X.w X.K X.mg X.base CX k f fd ps sp) (hr:Room k X.A) (hg:Gl X x) (hm:X.mg x=some (.ref f)) (hk:keepIn X.K (.ref f)=true) (hb:Binds X.K fd ps ds) (hd:Vals dvs ds) (hx:jh CX X E)
  (ha:PA X (e::es) t) (hdb:(x == ("__debug__":Str))=false:=by decide) (he:starEach (e::es) X.env=(false,eval e X.env)::starEach es X.env:=by rfl) (hpl:(backTo pos (starEach es X.env)).any (·.1)=false:=by rfl) :
  PE X (.Call (.Name x p) (e::es) [] pos) (Zl sp dvs E t):=by
 refine ⟨?_⟩
 intro pins s σ H Q I h
 refine wpAny_Call_Name_kw (wm I hg hm ?_ hdb)
 refine PySem.W.callWith_K (h₀:=X.base) I.ok.mod.kin hk (thn (ha pos pins s σ H _ I h) fun us s1 ⟨vs,H1,I1,r,q⟩=>⟨I1.kIn,?_⟩) he hpl
 exact Kl F hr hb hd hx I1 r q
theorem Wv (F:FnOk X.prog X.w X.K X.mg X.base CX k f fd ps sp) (hr:Room k X.A) (hg:Gl X x) (hm:X.mg x=some (.ref f)) (hk:keepIn X.K (.ref f)=true) (hb:Binds X.K fd ps ds) (hd:Vals dvs ds) (hx:jh CX X E)
  (hdb:(x == ("__debug__":Str))=false:=by decide):PE X (.Call (.Name x p) [] [] pos) (Zl sp dvs E Zi):=by
 refine ⟨?_⟩
 intro pins s σ H Q I h
 refine wpAny_Call_Name_kw (wm I hg hm ?_ hdb)
 exact PySem.W.callWith_K0 I.kIn hk (Kl (us:=[]) F hr hb hd hx I .nil h)
end
section
variable {X:Cx} {CX:CXT} {k:Nat} {f C:Addr} {fd:FuncData} {ps ks:List Str} {sp:Sp} {E:XK} {x m:Str} {p pos apos kpos:Pos} {e o:Expr} {es:List Expr} {kws:List Keyword} {te ta:TE} {t tk:TA} {nm:Option Str}
variable {g:List Value->List Value->List Value} {gV:List V->List V->List V}
end
structure FnScope (N P:List Str) (sc:Scope):Prop where
 kind:sc.kind=.function
 co:sc.isCoroutine=false
 gen:sc.isGenerator=false
 nd:N.Nodup
 pre:N.take P.length=P
 par:∀ x∈P,sc.names.lookup x=some .local\/sc.names.lookup x=some .cell
 nofree:∀ y∈sc.names,y.2≠.free
theorem zf {kindOf:Str->Option NameKind} {x:Str}:∀ {binds:List (Str×Value)} {m:Str->Option Value},(∀ v,(x,v)∉binds)->bindL kindOf binds m x=m x
 | [],_,_=>rfl
 | (n,v)::r,m,h=>by
  unfold bindL
  rw [zf fun w hw=>h w (List.mem_cons_of_mem _ hw)]
  split
  ·have:x≠n:=by rintro rfl; exact h v List.mem_cons_self
   simp [this]
  ·rfl
theorem zg {kindOf:Str->Option NameKind} {x:Str}:∀ {binds:List (Str×Value)} {m:Str->Option Value},(∀ v,(x,v)∉binds)->bindC kindOf binds m x=m x
 | [],_,_=>rfl
 | (n,v)::r,m,h=>by
  unfold bindC
  rw [zg fun w hw=>h w (List.mem_cons_of_mem _ hw)]
  split
  ·rfl
  ·have:x≠n:=by rintro rfl; exact h v List.mem_cons_self
   simp [this]
theorem ux {kindOf:Str->Option NameKind} {x:Str} {v:Value}:∀ {P:List Str} {vs:List Value} {i:Nat} {m:Str->Option Value},P.Nodup->P[i]?=some x->vs[i]?=some v->kindOf x=some .local ->
  bindL kindOf (P.zip vs) m x=some v
 | [],_,_,_,_,h,_,_=>by simp at h
 | _::_,[],_,_,_,_,h,_=>by simp at h
 | p::P,w::vs,0,m,nd,h1,h2,hk=>by
  simp at h1 h2; subst h1; subst h2
  show bindL kindOf ((p,w)::P.zip vs) m p=_
  unfold bindL
  rw [zf fun v hv=>(List.nodup_cons.mp nd).1 (List.of_mem_zip hv).1,if_pos hk]
  simp
 | p::P,w::vs,i+1,m,nd,h1,h2,hk=>by
  show bindL kindOf ((p,w)::P.zip vs) m x=_
  unfold bindL
  exact ux (i:=i) (List.nodup_cons.mp nd).2 (by simpa using h1) (by simpa using h2) hk
theorem uy {kindOf:Str->Option NameKind} {x:Str} {v:Value}:∀ {P:List Str} {vs:List Value} {i:Nat} {m:Str->Option Value},P.Nodup->P[i]?=some x->vs[i]?=some v->kindOf x≠some .local ->
  bindC kindOf (P.zip vs) m x=some v
 | [],_,_,_,_,h,_,_=>by simp at h
 | _::_,[],_,_,_,_,h,_=>by simp at h
 | p::P,w::vs,0,m,nd,h1,h2,hk=>by
  simp at h1 h2; subst h1; subst h2
  show bindC kindOf ((p,w)::P.zip vs) m p=_
  unfold bindC
  rw [zg fun v hv=>(List.nodup_cons.mp nd).1 (List.of_mem_zip hv).1,if_neg hk]
  simp
 | p::P,w::vs,i+1,m,nd,h1,h2,hk=>by
  show bindC kindOf ((p,w)::P.zip vs) m x=_
  unfold bindC
  exact uy (i:=i) (List.nodup_cons.mp nd).2 (by simpa using h1) (by simpa using h2) hk
noncomputable def jS (N:List Str) (vs:List V):St:=vs.map some++List.replicate (N.length - vs.length) none
def Ym (CX:CXT) (P:Program) (w:World) (K:Frag) (mg:Str->Option Value) (base:Heap) (N:List Str) (qual:Str) (scope:Scope) (f:Addr) (cd:Value) (A:Around) (outer:List Env) (s:Shared) (H:Hp) (E:XK):Cx where
 prog:=P
 w:=w
 K:=K
 mg:=mg
 base:=base
 A:=A.deeper (envOfC qual scope s.heap.objs.size f cd)
 N:=N
 s₀:=s
 H₀:=H
 env:=envOfC qual scope s.heap.objs.size f cd
 outer:=outer
 stack:=envOfC qual scope s.heap.objs.size f cd::outer
 ex:=[]
 calm:=true
 fn:=fun _=>true
 pn:=[]
 xe:=fun e s'=>wpAny (model P w) (A.deeper (envOfC qual scope s.heap.objs.size f cd)) (leaving (envOfC qual scope s.heap.objs.size f cd) e) (fun _ s''=>CX outer H s E e s'') (fun e' s''=>CX outer H s E e' s'') s'
theorem uh {sc:Scope} {n:Nat} {x:Str} (h:sc.names.lookup x=some .cell):∃ c,(cellsFrom n sc.names []).lookup x=some c:=by
 have q:=PySem.W.cellsFrom_some sc.names n [] (.inl h)
 exact Option.isSome_iff_exists.mp q
theorem Km {CX:CXT} {P:Program} {w:World} {K:Frag} {mg:Str->Option Value} {base:Heap} {N ps:List Str} {qual:Str} {scope:Scope} {f:Addr} {cd:Value} {A:Around} {outer:List Env} {s s1:Shared} {H:Hp} {E:XK} {us:List Value} {vs:List V}
  (S:FnScope N ps scope) (hd:A.handled=none) (e0:Env0 P w K mg base A outer s H) (hl:vs.length=ps.length) (r:Vals vs us)
  (x:InCallC s s.heap.objs.size (bindL (envOfC qual scope s.heap.objs.size f cd).kindOf (ps.zip us) fun _=>none) (cellsFrom (s.heap.objs.size+1) scope.names []) (bindC (envOfC qual scope s.heap.objs.size f cd).kindOf (ps.zip us) fun _=>none) s1) :
  Inv (Ym CX P w K mg base N qual scope f cd A outer s H E) [] (jS N vs) H s1:=by
 have hpl:ps.length<=N.length:=by have:=congrArg List.length S.pre; rw [List.length_take] at this; omega
 obtain ⟨h1,tk,rfl,hk⟩:=x.done
 have noA:∀ b:Addr,b∉(Ym CX P w K mg base N qual scope f cd A outer s H E).ex:=fun b z=>absurd (show b∈([]:List Addr) from z) (by simp)
 refine ⟨⟨e0.mod,S.kind,rfl,rfl,Nat.le_refl _,fun y z c h1 h2=>?_,fun y hy=>?_,fun y c _ h=>?_,fun _=>hd,Around.frames_deeper e0.frames,.inr ⟨rfl,rfl⟩,fun b z=>absurd z (noA b),e0.bs,e0.bsz,fun b _ _=>noA b,fun b z=>absurd z (noA b),e0.funs,e0.frf⟩,
  rfl,e0.bare,Un.kept hk,⟨_,x.toInCall.ns,fun i y v h1 h2 h3=>?_⟩,fun y c h=>⟨_,x.cell y c h⟩,e0.hok.fresh (Nat.le_refl _),fun y c h=>?_,fun p hp=>absurd (show p∈([]:List (Addr×Obj)) from hp) (by simp),e0.hok.kept hk,?_⟩
 ·exact name_of_addr x.apart (PySem.mem_of_lookup h1) (PySem.mem_of_lookup h2)
 ·have hy:scope.names.lookup y=some .cell\/scope.names.lookup y=some .free:=hy
  rcases hy with hy | hy
  ·exact uh hy
  ·exact absurd rfl (S.nofree _ (PySem.mem_of_lookup hy))
 ·exact Nat.le_of_lt (x.above y c (PySem.mem_of_lookup h))
 ·have hi:i < vs.length:=by
   unfold jS at h2
   by_cases hi:i < vs.length
   ·exact hi
   ·rw [List.getElem?_append_right (by simpa using hi)] at h2
    rw [List.getElem?_replicate] at h2
    split at h2 <;> cases h2
  have ha:vs[i]?=some v:=by
   unfold jS at h2
   rw [List.getElem?_append_left (by simpa using hi),List.getElem?_map] at h2
   cases e:vs[i]? with
   | none=>rw [e] at h2; cases h2
   | some a=>rw [e] at h2; cases h2; rfl
  obtain ⟨u,hu,rv⟩:=r.get ha
  have hp:ps[i]?=some y:=by
   rw [<-S.pre,List.getElem?_take_of_lt (by omega)]; exact h1
  have ndP:ps.Nodup:=by rw [<-S.pre]; exact S.nd.sublist (List.take_sublist _ _)
  refine ⟨u,rv,?_⟩
  rcases S.par y (List.mem_of_getElem? hp) with k | k
  ·exact .inl ⟨k,ux ndP hp hu k⟩
  ·obtain ⟨c,e⟩:=uh (n:=s.heap.objs.size+1) k
   refine .inr ⟨.inl k,c,e,?_⟩
   have q:=x.cell y c e
   rw [uy ndP hp hu (by show scope.names.lookup y≠_; rw [k]; decide)] at q
   exact q
 ·exact e0.hok.fresh (Nat.le_of_lt (x.above y c (PySem.mem_of_lookup h)))
 ·unfold jS
  show _=N.length
  rw [List.length_append,List.length_map,List.length_replicate]
  omega
theorem qag {CX:CXT} {P:Program} {w:World} {K:Frag} {mg:Str->Option Value} {base:Heap} {k:Nat} {f:Addr} {name qual:Str} {params:Arguments} {body:List Stmt} {scope:Scope} {dV kV doc pm cdv ct oc:Value} {an od:Option Addr}
  {osl:Array (Option Value)} {N ps:List Str} {sp:Sp} (lk:K.lookup f=some ⟨oc,od,.func (PySem.W.fnOf name qual params body scope dV kV doc pm an cdv ct),osl⟩) (hcd:codeIn K cdv qual=true) (S:FnScope N ps scope)
  (len:∀ vs H Q E,sp vs H Q E->vs.length=ps.length)
  (hbody:∀ (A:Around) (outer:List Env) (s:Shared) (H:Hp) (vs:List V) (Q:VK) (E:XK),Room k (A.deeper (envOfC qual scope s.heap.objs.size f cdv))->sp vs H Q E ->
   ∃ t,PSs (Ym CX P w K mg base N qual scope f cdv A outer s H E) body t/\t { nx:=fun _ H'=>Q .non H',rt:=Q } (jS N vs) H) :
  FnOk P w K mg base CX (k+1) f (PySem.W.fnOf name qual params body scope dV kV doc pm an cdv ct) ps sp:=by
 refine ⟨len,fun A outer s H args us vs Q E hr e0 hb r hsp=>?_⟩
 have hl:=len _ _ _ _ hsp
 have KX:K.In s.heap:=e0.mod.kin.keeps fun b o e=>(e0.bs b o e).1
 have lim:s.heap.NoLimit:=e0.mod.nolimit.keeps fun b o e=>(e0.bs b o e).1
 have hkind:∀ y∈ps.zip us,scope.names.lookup y.1=some .local\/(scope.names.lookup y.1=some .cell/\((cellsFrom (s.heap.objs.size+1) scope.names []).lookup y.1).isSome=true):=fun ⟨n,v⟩ hy=>by
  rcases S.par n (List.of_mem_zip hy).1 with q | q
  ·exact .inl q
  ·exact .inr ⟨q,PySem.W.cellsFrom_some _ _ _ (.inl q)⟩
 refine codeAny_call_function hr.depth (KX _ _ lk) rfl S.co S.gen rfl (PySem.W.codeRec_of KX hcd) (hb _ _ _ _ ?_)
 refine wpAny_newFunctionEnv_cells S.kind hkind fun env he s1 x=>?_
 subst he
 refine ⟨lim.keeps x.toInCall.keep,codeAny_func ?_⟩
 obtain ⟨t,ht,hq⟩:=hbody A outer s H vs Q E (hr.deeper _) hsp
 have I:Inv (Ym CX P w K mg base N qual scope f cdv A outer s H E) [] (jS N vs) H s1:=Km S hr.hd e0 hl r x
 refine wpAny_mono (ht [] s1 (jS N vs) H _ I hq) (fun fl s' hs=>?_) fun e s' hs=>hs
 have fin:∀ {σ':St} {H':Hp} {v:V} {u:Value},Inv (Ym CX P w K mg base N qual scope f cdv A outer s H E) [] σ' H' s'->RelV v u->Q v H'->CE outer P w H s Q u s':=
  fun {σ' H' v u} J rv q=>⟨v,H',J.os,J.bare,J.base,J.hok,rv,q⟩
 cases fl with
 | ret u=>
  obtain ⟨v,σ',H',J,rv,q⟩:=hs
  exact fin J rv q
 | next=>
  obtain ⟨σ',H',J,q⟩:=hs
  exact fin (v:=V.non) (u:=Value.none) J rfl q
 | brk=>
  obtain ⟨_,_,_,q⟩:=hs
  exact False.elim q
 | cont=>
  obtain ⟨_,_,_,q⟩:=hs
  exact False.elim q
section
variable {X:Cx} {x:Str} {p pos:Pos} {e:Expr} {es:List Expr} {t:TA} {id T:String} {r:List V->Hp->VK->Prop}
def tCB (r:List V->Hp->VK->Prop) (t:TA):TE:=fun σ H Q=>t σ H fun vs H1=>r vs H1 Q
theorem vg (hc:vD X (.builtin id) r) (hg:Gl X x) (hm:X.mg x=none) (hv:bootBuiltins x=some (.builtin id)) (ha:PA X (e::es) t) (hn:x ≠ "__name__":=by decide) (hdb:(x == ("__debug__":Str))=false:=by decide)
  (he:starEach (e::es) X.env=(false,eval e X.env)::starEach es X.env:=by rfl) (hpl:(backTo pos (starEach es X.env)).any (·.1)=false:=by rfl):PE X (.Call (.Name x p) (e::es) [] pos) (tCB r t):=by
 refine ⟨?_⟩
 intro pins s σ H Q I h
 refine wpAny_Call_Name_kw (zd I hg hm hv ?_ hn hdb)
 exact PyProof.Rows.callWith_builtin1 (thn (ha pos pins s σ H _ I h) fun us s1 ⟨vs,H1,I1,r1,q1⟩=>hc pins s1 σ H1 vs us Q I1 r1 q1) he hpl
theorem vM (hc:vD X (.type T) r) (hg:Gl X x) (hm:X.mg x=none) (hv:bootBuiltins x=some (.type T)) (ha:PA X (e::es) t) (hn:x ≠ "__name__":=by decide) (hdb:(x == ("__debug__":Str))=false:=by decide)
  (he:starEach (e::es) X.env=(false,eval e X.env)::starEach es X.env:=by rfl) (hpl:(backTo pos (starEach es X.env)).any (·.1)=false:=by rfl):PE X (.Call (.Name x p) (e::es) [] pos) (tCB r t):=by
 refine ⟨?_⟩
 intro pins s σ H Q I h
 refine wpAny_Call_Name_kw (zd I hg hm hv ?_ hn hdb)
 exact PyProof.Rows.callWith_type1 (thn (ha pos pins s σ H _ I h) fun us s1 ⟨vs,H1,I1,r1,q1⟩=>hc pins s1 σ H1 vs us Q I1 r1 q1) he hpl
end
end L2
namespace HT
open PySem PyProof.Rows
section
open PySem.SeqAt
open PySem.AutoSeq1 (wpAny_loadPart')
open PySem.MeetsSeq PySem.MeetsSeq2 PySem.MeetsSeq3
end
section
variable {prog:Program} {w:World} {A:Around} {E:Value->Shared->Prop} {s:Shared}
theorem cat_tup {t b:Addr} {vs ws:List Value} {Q:Value->Shared->Prop} (ht:IsTup s.heap t vs.toArray) (hb:IsTup s.heap b ws.toArray) (hv:vs≠[])
  (h1:ws=[]->Q (.ref t) s) (h2:ws≠[]->Q (.ref s.heap.objs.size) { s with heap:=s.heap.push { cls:=.type "tuple",data:=.seq (vs++ws).toArray } })
  (hsz:vs.length+ws.length<=sizeLine):wpAny (model prog w) A (binaryOp .Add (.ref t) (.ref b)) Q E s:=by
 obtain ⟨⟨cls,dd,data,sl⟩,ho,hc,n,hd⟩:=id ht
 obtain ⟨⟨cls2,dd2,data2,sl2⟩,ho2,hc2,n2,hd2⟩:=id hb
 simp only at hc hd hc2 hd2
 subst hc hd hc2 hd2
 have e:vs.toArray++ws.toArray=(vs++ws).toArray:=by simp
 by_cases hw:ws=[]
 ·exact concat_meets ⟨_,ho,rfl⟩ ⟨_,ho2,rfl⟩ noFill_tuple_add seq_tuple_add PySem.F.slot_tuple_add PySem.F.entry_tuple_add (PySem.F.args_tuple_add_2 _ _)
   (tuple_addW1 t b vs.toArray ws.toArray n n2 dd dd2 sl sl2 (by simpa using hv) (by simp [hw])) ⟨ho,ho2,h1 hw⟩
 ·refine concat_meets ⟨_,ho,rfl⟩ ⟨_,ho2,rfl⟩ noFill_tuple_add seq_tuple_add PySem.F.slot_tuple_add PySem.F.entry_tuple_add (PySem.F.args_tuple_add_2 _ _)
   (tuple_addW2 t b vs.toArray ws.toArray n n2 dd dd2 sl sl2 (by simpa using hv) (by simpa using hw) (by rw [List.size_toArray,List.size_toArray]; exact hsz)) ⟨ho,ho2,?_⟩
  rw [e]
  exact h2 hw
theorem slicePart_ {v:Value} {o:Option Int} {Q:Option Int->Shared->Prop} (p:IsPart v o) (h:Q o s):wpAny (model prog w) A (Builtin.Slice.slicePartIndex v) Q E s:=by
 cases p with
 | none=>exact slicePart_none h
 | int i t=>exact slicePart_int h
end
end HT
namespace L2
open PySem PySem.Spec PyProof.Rows
abbrev TO:=St->Hp->(Option Int->Hp->Prop)->Prop
def PO (X:Cx) (e:Option Expr) (t:TO):Prop:=
 ∀ (pins:List (Addr×Obj)) (s:Shared) (σ:St) (H:Hp) (Q:Option Int->Hp->Prop),Inv X pins σ H s->t σ H Q ->
  wpAny (model X.prog X.w) X.A (evalPart e X.env) (fun u s'=>∃ o H',Inv X pins σ H' s'/\IsPart u o/\Q o H') X.xe s
def Yn:TO:=fun _ H Q=>Q none H
def qah (t:TE):TO:=fun σ H Q=>t σ H fun x H1=>∃ i,x=.int i/\Q (some i) H1
section
variable {X:Cx} {e:Expr} {te:TE} {lo hi:Option Expr} {tl th:TO} {pos p2:Pos}
theorem Yo:PO X none Yn:=by
 intro pins s σ H Q I h
 rw [evalPart_none]
 exact wpAny_pure ⟨none,H,I,.none,h⟩
theorem Yp (h:PE X e te):PO X (some e) (qah te):=by
 intro pins s σ H Q I hw
 rw [evalPart_some]
 refine thn (h pins s σ H _ I hw) fun u s1 ⟨x,H1,I1,r1,q1⟩=>?_
 obtain ⟨i,rfl,q⟩:=q1
 obtain ⟨t,rfl⟩:=r1
 exact ⟨some i,H1,I1,.int i t,q⟩
def qai (K:Frag):R2:=fun x y H Q=>∃ a b xs ys,x=.ref a/\y=.ref b/\SqT K H a xs/\SqT K H b ys/\xs≠[]/\xs.length+ys.length<=sizeLine /\
 (ys=[]->Q (.ref a) H)/\(ys≠[]->∀ p,H p=none->Q (.ref p) (upd H p (.tup (xs++ys))))
theorem Vals.nil_iff {xs:List V} {us:List Value} (r:Vals xs us):us=[]↔xs=[]:=by
 cases r with
 | nil=>simp
 | cons _ _=>simp
theorem Yq:OpR X (binaryOp .Add) (qai X.K):=by
 intro pins s σ H x y v u Q I rx ry h
 obtain ⟨a,b,xs,ys,rfl,rfl,ha,hb,hx,hz,q1,q2⟩:=h
 cases rx
 cases ry
 obtain ⟨its,r1,p1,_⟩:=I.tuple ha
 obtain ⟨its2,r2,p2,_⟩:=I.tuple hb
 refine HT.cat_tup p1 p2 (fun z=>hx (r1.nil_iff.mp z)) (fun z=>⟨.ref a,H,I,rfl,q1 (r2.nil_iff.mp z)⟩) (fun z=>?_) (by rw [<-r1.length,<-r2.length]; exact hz)
 refine ⟨.ref s.heap.objs.size,_,I.laid (t':=s.toks) (o:=.tup (xs++ys)) (fun b ob q=>Heap.get?_push_of_some _ q) (Nat.le_refl _) ?_,rfl,q2 (fun w=>z (r2.nil_iff.mpr w)) _ (I.hok.fresh (Nat.le_refl _))⟩
 exact ⟨⟨by rw [List.length_append]; exact hz,_,Heap.get?_push_size _ rfl,rfl⟩,_,r1.append r2,IsTup.new _ _⟩
end
noncomputable def ixN (n:Nat) (i:Int):Option Nat:=if 0<=i then (if i < n then some i.toNat else none) else if -(n:Int)<=i then some (i+n).toNat else none
noncomputable def atI {α:Type} (xs:List α) (i:Int):Option α:=(ixN xs.length i).bind fun j=>xs[j]?
theorem Yr {n:Nat} {i:Int} {j:Nat} (h:ixN n i=some j):seqIndex? i n=some j/\j < n/\-(n:Int)<=i/\i < n:=by
 unfold ixN at h
 by_cases h0:0<=i
 ·rw [if_pos h0] at h
  by_cases h1:i < n
  ·rw [if_pos h1] at h
   have e:i.toNat=j:=Option.some.inj h
   exact ⟨by rw [seqIndex_of h0 h1,e],by omega,by omega,h1⟩
  ·rw [if_neg h1] at h; cases h
 ·rw [if_neg h0] at h
  by_cases h1:-(n:Int)<=i
  ·rw [if_pos h1] at h
   have e:(i+n).toNat=j:=Option.some.inj h
   exact ⟨by rw [seqIndex_neg (by omega) h1,e],by omega,h1,by omega⟩
  ·rw [if_neg h1] at h; cases h
theorem gl {α:Type} {xs:List α} {i:Int} {v:α} (h:atI xs i=some v):∃ j,seqIndex? i xs.length=some j/\xs[j]?=some v/\j < xs.length/\-(xs.length:Int)<=i/\i < xs.length:=by
 unfold atI at h
 cases e:ixN xs.length i with
 | none=>rw [e] at h; cases h
 | some j=>
  rw [e] at h
  obtain ⟨h1,h2,h3,h4⟩:=Yr e
  exact ⟨j,h1,h,h2,h3,h4⟩
theorem uz {α:Type} {xs:List α} {j:Nat} {v:α} (h:xs[j]?=some v):atI xs (j:Int)=some v:=by
 have hj:j < xs.length:=(List.getElem?_eq_some_iff.mp h).1
 have e:ixN xs.length (j:Int)=some j:=by
  unfold ixN
  rw [if_pos (by omega),if_pos (by omega)]; simp
 unfold atI; rw [e]; exact h
def Kn (b:Expr):Prop:=∀ o i,subscripted b false o i=operate [o,i] (getItem o i)
def IxR (X:Cx) (r:R2):Prop:=
 ∀ (value slice:Expr) (pins:List (Addr×Obj)) (s:Shared) (σ:St) (H:Hp) (x y:V) (v u:Value) (Q:VK),Inv X pins σ H s->RelV x v->RelV y u->r x y H Q ->
  subscripted slice false v u=operate [v,u] (getItem v u)->wpAny (model X.prog X.w) X.A (subscriptTail value slice v u) (EP X pins σ Q) X.xe s
def MtR (X:Cx) (id:String) (r:V->List V->Hp->VK->Prop):Prop:=
 ∀ (pins:List (Addr×Obj)) (s:Shared) (σ:St) (H:Hp) (x:V) (xs:List V) (v:Value) (us:List Value) (Q:VK),Inv X pins σ H s->RelV x v->Vals xs us->r x xs H Q ->
  wpAny (model X.prog X.w) X.A (call (.builtin id) (v::us)) (EP X pins σ Q) X.xe s
section
variable {X:Cx} {a b:Expr} {ta tb:TE} {pos:Pos}
theorem IxR.or {r r':R2} (h:IxR X r) (h':IxR X r'):IxR X (fun x y H Q=>r x y H Q\/r' x y H Q):=by
 intro value slice pins s σ H x y v u Q I rx ry q hs
 rcases q with q | q
 ·exact h value slice pins s σ H x y v u Q I rx ry q hs
 ·exact h' value slice pins s σ H x y v u Q I rx ry q hs
theorem qaj {r:R2} (hr:IxR X r) (ha:PE X a ta) (hb:PE X b tb) (hs:Kn b):PE X (.Subscript a b pos) (tOp r ta tb):=by
 refine ⟨?_⟩
 intro pins s σ H Q I h
 exact Subscript_ (GY ha hb I h fun v u s2 x y H2 I2 rx ry q=>hr a b pins s2 σ H2 x y v u Q I2 rx ry q (hs _ _))
def qa0 (K:Frag):R2:=fun x y H Q=>∃ p xs i v,x=.ref p/\y=.int i/\SqL K H p xs/\atI xs i=some v/\Q v H
def qa1 (K:Frag):R2:=fun x y H Q=>∃ p xs i v,x=.ref p/\y=.int i/\SqT K H p xs/\atI xs i=some v/\Q v H
def qa2:R2:=fun x y H Q=>∃ z i c,x=.str z/\y=.int i/\z.length<=sizeLine/\atI z.cps.toList i=some c/\Q (.str ⟨#[c]⟩) H
theorem ix_list:IxR X (qa0 X.K):=by
 intro value slice pins s σ H x y v u Q I rx ry h hs
 obtain ⟨p,xs,i,z,rfl,rfl,hq,he,q⟩:=h
 cases rx
 obtain ⟨t,rfl⟩:=ry
 obtain ⟨its,r,pl,hz⟩:=I.list hq
 obtain ⟨j,h1,h2,h3,h4,h5⟩:=gl he
 obtain ⟨w,ew,rw'⟩:=r.get h2
 have hl:=r.length
 have hn:=ze
 have fin:EP X pins σ Q w s:=⟨z,H,I,rw',q⟩
 by_cases h0:0<=i
 ·have hj:i.toNat=j:=by
   rw [seqIndex_of h0 h5] at h1
   exact Option.some.inj h1
  exact item_listR pl.isList h0 (by omega) (by rw [hj]; simpa using ew) fin hs
 ·have hj:(i+(its.toArray.size:Int)).toNat=j:=by
   rw [seqIndex_neg (by omega) h4] at h1
   rw [List.size_toArray,<-hl]
   exact Option.some.inj h1
  exact subscriptTail_builtinR (x:=w) pl.isList.typeIs slot_list_getitem.lookup
   (wpAny_getItem_list_neg (Q:=fun r s'=>r=w/\EP X pins σ Q r s') pl.isList (by omega) (by rw [List.size_toArray] <;> omega) (by omega) (by rw [hj]; simpa using ew) ⟨rfl,fin⟩) hs
theorem ix_tup:IxR X (qa1 X.K):=by
 intro value slice pins s σ H x y v u Q I rx ry h hs
 obtain ⟨p,xs,i,z,rfl,rfl,hq,he,q⟩:=h
 cases rx
 obtain ⟨t,rfl⟩:=ry
 obtain ⟨its,r,pl,hz⟩:=I.tuple hq
 obtain ⟨j,h1,h2,h3,h4,h5⟩:=gl he
 obtain ⟨w,ew,rw'⟩:=r.get h2
 have hl:=r.length
 have hn:=ze
 have fin:EP X pins σ Q w s:=⟨z,H,I,rw',q⟩
 exact subscriptTail_builtinR (x:=w) pl.typeIs slot_tuple_getitem.lookup
  (getItem_tuple (j:=j) (Q:=fun r s'=>r=w/\EP X pins σ Q r s') pl (by omega) (by omega) (by rw [List.size_toArray,<-hl]; exact h1) (by simpa using ew) ⟨rfl,fin⟩) hs
theorem Zm:IxR X qa2:=by
 intro value slice pins s σ H x y v u Q I rx ry h hs
 obtain ⟨z,i,c,rfl,rfl,hz,he,q⟩:=h
 obtain ⟨t,rfl⟩:=rx
 obtain ⟨t',rfl⟩:=ry
 obtain ⟨j,h1,h2,h3,h4,h5⟩:=gl he
 have hl:z.cps.toList.length=z.length:=by simp [Str.length]
 rw [hl] at h1 h4 h5
 have hn:=ze
 exact tail_any (typeIs_str s z t) slot_str_getitem.lookup (getItem_str (c:=c) (by
  have e1:decide (i < -(2 ^ 63:Int))=false:=decide_eq_false (by omega)
  have e2:decide (i ≥ 2 ^ 63)=false:=decide_eq_false (by omega)
  rw [e1,e2,Bool.or_false]) (by rw [h1]; simpa using h2) ⟨.str ⟨#[c]⟩,H,I.tok _,⟨_,rfl⟩,q⟩) hs
def rIx (K:Frag):R2:=fun x y H Q=>qa0 K x y H Q\/qa1 K x y H Q\/qa2 x y H Q
theorem Zn:IxR X (rIx X.K):=ix_list.or (ix_tup.or Zm)
theorem vN:vD X (.type "tuple") (fun xs H Q=>∃ p ys,xs=[.ref p]/\((SqL X.K H p ys/\∀ l,H l=none->Q (.ref l) (upd H l (.tup ys)))\/(SqT X.K H p ys/\Q (.ref p) H))):=by
 intro pins s σ H xs us Q I r h
 obtain ⟨p,ys,rfl,h⟩:=h
 obtain ⟨u,rfl,rx⟩:=ua r
 cases rx
 rcases h with ⟨hq,q⟩ | ⟨hq,q⟩
 ·obtain ⟨its,r',pl,hz⟩:=I.list hq
  have hlen:=r'.length
  refine call_tuple_list pl.isList (fun h' kp=>?_) (by simp only [List.size_toArray] <;> omega)
  have I1:Inv X pins σ H { s with heap:=h' }:=I.kept (t':=s.toks) kp
  have I2:Inv X pins σ (upd H h'.objs.size (.tup ys)) { s with heap:=h'.push { cls:=.type "tuple",data:=.seq its.toArray } }:=
   I1.laid (t':=s.toks) (fun b o e=>Heap.get?_push_of_some _ e) (Nat.le_refl _) (show ObjOk X.prog X.w _ _ _ (.tup ys) from ⟨⟨hz,_,Heap.get?_push_size _ rfl,rfl⟩,its,r',IsTup.new _ _⟩)
  exact ⟨.ref h'.objs.size,_,I2,rfl,q _ (I1.hok.fresh (Nat.le_refl _))⟩
 ·obtain ⟨its,r',pl,hz⟩:=I.tuple hq
  exact call_tuple_same pl ⟨.ref p,H,I,rfl,q⟩
def tyV (K:Frag) (T:String) (x:V) (H:Hp):Prop:=match x with
 | .str _=>T = "str"
 | .int _=>T = "int"
 | .ref p=>(T = "list"/\∃ xs,SqL K H p xs)\/(T = "tuple"/\∃ o,K.lookup p=some o/\o.cls=.type "tuple"/\o.dict=none) \/
   (T = "dict"/\((∃ kvs,H p=some (.dK kvs))\/∃ kvs,H p=some (.dT kvs)))\/(T = "set"/\∃ S n,H p=some (.set S n))
 | _=>False
theorem UH {pins:List (Addr×Obj)} {σ:St} {H:Hp} {s:Shared} {T:String} {x:V} {v:Value} (I:Inv X pins σ H s) (r:RelV x v) (ty:tyV X.K T x H) :
  s.TypeIs v T/\∀ a,v=.ref a->∃ ob,s.heap.get? a=some ob/\ob.dict=none:=by
 cases x with
 | str z=>
  obtain ⟨t,rfl⟩:=r
  cases (show T = "str" from ty)
  exact ⟨typeIs_str s z t,fun _ e=>nomatch e⟩
 | int i=>
  obtain ⟨t,rfl⟩:=r
  cases (show T = "int" from ty)
  exact ⟨typeIs_int s i t,fun _ e=>nomatch e⟩
 | ref p=>
  cases r
  rcases ty with ⟨rfl,xs,hq⟩ | ⟨rfl,o,hk,hc,hd⟩ | ⟨rfl,hk⟩ | ⟨rfl,S,n,hk⟩
  ·obtain ⟨its,_,pl,_⟩:=I.list hq
   refine ⟨pl.isList.typeIs,fun a e=>?_⟩
   cases e
   obtain ⟨o,n,e,c,hd,_⟩:=pl
   exact ⟨o,e,hd⟩
  ·refine ⟨⟨o,I.kIn p o hk,hc⟩,fun a e=>?_⟩
   cases e
   exact ⟨o,I.kIn _ o hk,hd⟩
  ·have z:∃ o,s.heap.get? p=some o/\o.ExactDict:=by
    rcases hk with ⟨kvs,hk⟩ | ⟨kvs,hk⟩
    ·obtain ⟨_,_,_,_,o,_,_,e,ex,_⟩:=I.hok p _ hk
     exact ⟨o,e,ex⟩
    ·obtain ⟨_,_,_,_,o,_,_,e,ex,_⟩:=I.hok p _ hk
     exact ⟨o,e,ex⟩
   obtain ⟨o,e,ex⟩:=z
   refine ⟨⟨o,e,ex.1⟩,fun a e2=>?_⟩
   cases e2
   exact ⟨o,e,ex.2.1⟩
  ·obtain ⟨o,_,_,_,e,ex,_⟩:=I.hok p _ hk
   refine ⟨⟨o,e,ex.1⟩,fun a e2=>?_⟩
   cases e2
   exact ⟨o,e,ex.2.1⟩
 | _=>exact False.elim ty
def qbF (K:Frag) (T:String) (r:V->List V->Hp->VK->Prop) (to:TE):TE:=fun σ H Q=>to σ H fun x H1=>tyV K T x H1/\r x [] H1 Q
def tBM (K:Frag) (T:String) (r:V->List V->Hp->VK->Prop) (to:TE) (t:TA):TE:=fun σ H Q=>to σ H fun x H1=>tyV K T x H1/\t σ H1 fun xs H2=>r x xs H2 Q
variable {o e:Expr} {es:List Expr} {to:TE} {t:TA} {name:Str} {apos cpos:Pos} {T id:String} {r:V->List V->Hp->VK->Prop}
theorem Zo (pa:PlainAttrs T) (slot:Slot T name id) (hty:typeOf (.builtin id)=pure (.type "method_descriptor")) (hm:MtR X id r) (ho:PE X o to)
  (hbase:attributeBase o name X.env (eval o X.env)=eval o X.env:=by rfl) (hline:(apos.endLine == cpos.line)=true:=by rfl):PE X (.Call (.Attribute o name apos) [] [] cpos) (qbF X.K T r to):=by
 refine ⟨?_⟩
 intro pins s σ H Q I h
 refine wpAny_Call_method0_late hbase hline (thn (ho pins s σ H _ I h) fun v s1 ⟨x,H1,I1,r1,ty,q1⟩=>?_)
 obtain ⟨h1,h2⟩:=UH I1 r1 ty
 exact ⟨T,id,pa,slot,hty,h1,h2,Calls.callWith_builtin rfl (PySem.evalArgs_none (hm pins s1 σ H1 x [] v [] Q I1 r1 .nil q1))⟩
theorem Jo (pa:PlainAttrs T) (slot:Slot T name id) (hty:typeOf (.builtin id)=pure (.type "method_descriptor")) (hm:MtR X id r) (ho:PE X o to) (ha:PA X (e::es) t)
  (hbase:attributeBase o name X.env (eval o X.env)=eval o X.env:=by rfl)
  (hfew:((backTo cpos (starEach (e::es) X.env)).all (fun x=>!x.1)&&(backToKw cpos (keywordEach [] X.env)).all (fun x=>x.1.isSome)
   && decide ((e::es).length+([]:List Keyword).length+(if ([]:List Keyword).isEmpty then 0 else 1) < 30))=true:=by rfl)
  (hline:(apos.endLine == cpos.line)=true:=by rfl) (hs:starEach (e::es) X.env=(false,eval e X.env)::starEach es X.env:=by rfl) (hplain:(backTo cpos (starEach es X.env)).any (·.1)=false:=by rfl) :
  PE X (.Call (.Attribute o name apos) (e::es) [] cpos) (tBM X.K T r to t):=by
 refine ⟨?_⟩
 intro pins s σ H Q I h
 refine wpAny_Call_method_late hbase hfew hline rfl (thn (ho pins s σ H _ I h) fun v s1 ⟨x,H1,I1,r1,ty,q1⟩=>?_)
 obtain ⟨h1,h2⟩:=UH I1 r1 ty
 refine ⟨T,id,pa,slot,hty,h1,h2,?_⟩
 have hA:=ha cpos pins s1 σ H1 _ I1 q1
 rw [hs] at hA ⊢
 refine Calls.callWith_builtin (by show (false||(backTo cpos (starEach es X.env)).any (·.1))=false; rw [hplain] <;> rfl) (Calls.evalArgs_plain ?_)
 exact thn hA fun us s2 ⟨vs,H2,I2,r2,q2⟩=>hm pins s2 σ H2 x vs v us Q I2 r1 r2 q2
end
def MtM (X:Cx) (id:String) (r:V->List V->Hp->VK->Prop):Prop:=
 ∀ (pins:List (Addr×Obj)) (s:Shared) (σ:St) (H:Hp) (x:V) (xs:List V) (v:Value) (us:List Value) (Q:VK),Inv X pins σ H s->RelV x v->Vals xs us->r x xs H Q ->
  wpAny (model X.prog X.w) X.A (call (.builtin id) (v::us)) (EP X pins σ Q) X.xe s
theorem Vals.one:∀ {x:V} {us:List Value},Vals [x] us->∃ u,us=[u]/\RelV x u
 | _,_,.cons r .nil=>⟨_,rfl,r⟩
theorem Vals.two:∀ {x y:V} {us:List Value},Vals [x,y] us->∃ u v,us=[u,v]/\RelV x u/\RelV y v
 | _,_,_,.cons r (.cons q .nil)=>⟨_,_,rfl,r,q⟩
theorem Vals.zero:∀ {us:List Value},Vals [] us->us=[]
 | _,.nil=>rfl
theorem Vals.rep {xs:List V} {us:List Value} (h:Vals xs us):∀ k:Nat,Vals (List.replicate k xs).flatten (List.replicate k us).flatten
 | 0=>.nil
 | k+1=>by
  rw [List.replicate_succ,List.replicate_succ,List.flatten_cons,List.flatten_cons]
  exact Vals.append h (Vals.rep h k)
section
variable {X:Cx} {pins:List (Addr×Obj)} {σ:St} {H:Hp} {s:Shared} {l b:Addr} {xs ys zs:List V}
theorem Inv.lset {its its':List Value} {n:Nat} {f:Array Value->Array Value} {t':Nat} (I:Inv X pins σ H s) (hH:H l=some (.lst xs))
  (e:s.heap.get? l=some { cls:=.type "list",data:=.seq its.toArray n }) (hf:f its.toArray=its'.toArray) (hv:Vals ys its') (hz:ys.length<=sizeLine) :
  Inv X pins σ (upd H l (.lst ys)) { s with heap:=s.heap.update l (Obj.mapSeq f),toks:=t' }:=by
 have q:=PySem.IsL.update e f
 rw [hf] at q
 refine I.write (x:=l) (e:=l) (by rw [hH]; exact trivial) (.inl rfl) (fun b' u hb hu=>(Heap.get?_update_other s.heap (Obj.mapSeq f) (Ne.symm hb)).trans hu) ⟨_,q⟩ ?_
 exact ⟨hz,its',_,hv,q⟩
theorem Inv.lnew {its:List Value} {t':Nat} (I:Inv X pins σ H s) (hv:Vals ys its) (hz:ys.length<=sizeLine) :
  Inv X pins σ (upd H s.heap.objs.size (.lst ys)) { s with heap:=s.heap.push { cls:=.type "list",data:=.seq its.toArray },toks:=t' }:=
 I.laid (fun _ _ q=>Heap.get?_push_of_some _ q) (Nat.le_refl _) ⟨hz,its,0,hv,Heap.get?_push_size _ rfl⟩
theorem Inv.fresh (I:Inv X pins σ H s):H s.heap.objs.size=none:=I.hok.fresh (Nat.le_refl _)
theorem Inv.lstM (I:Inv X pins σ H s) (hH:H l=some (.lst xs)):xs.length<=sizeLine/\∃ (its:List Value) (n:Nat),Vals xs its/\xs.length=its.length/\s.heap.get? l=some { cls:=.type "list",data:=.seq its.toArray n }:=by
 obtain ⟨z,its,n,r,e⟩:=I.hok l _ hH
 exact ⟨z,its,n,r,r.length,e⟩
theorem Ww {n:Nat} (h:n<=sizeLine):Builtin.List.listTooLong n=false:=by
 unfold Builtin.List.listTooLong
 exact decide_eq_false (by omega)
end
section
variable {X:Cx}
def gm:V->List V->Hp->VK->Prop:=fun x vs H Q=>∃ l xs y,x=.ref l/\vs=[y]/\H l=some (.lst xs)/\xs.length < sizeLine/\Q .non (upd H l (.lst (xs++[y])))
theorem uA:MtM X "list.append" gm:=by
 intro pins s σ H x vs v us Q I rx rv h
 obtain ⟨l,xs,y,rfl,rfl,hH,hz,q⟩:=h
 cases rx
 obtain ⟨u,rfl,ru⟩:=rv.one
 obtain ⟨z,its,n,r,hl,e⟩:=I.lstM hH
 refine call_meets F.slot_list_append ⟨_,e,rfl⟩ F.entry_list_append (F.args_list_append_2 _ _) (PySem.list_append l its.toArray n u (by rw [List.size_toArray]; omega)) ⟨e,?_⟩
 refine ⟨.non,_,I.lset (its':=its++[u]) hH e (by simp) (r.append (.cons ru .nil)) ?_,rfl,q⟩
 rw [List.length_append,List.length_singleton]
 omega
def Ys:V->List V->Hp->VK->Prop:=fun x vs H Q=>∃ l b xs zs,x=.ref l/\vs=[.ref b]/\H l=some (.lst xs)/\H b=some (.lst zs)/\xs.length+zs.length<=sizeLine/\Q .non (upd H l (.lst (xs++zs)))
theorem Ko:MtM X "list.extend" Ys:=by
 intro pins s σ H x vs v us Q I rx rv h
 obtain ⟨l,b,xs,zs,rfl,rfl,hH,hB,hz,q⟩:=h
 cases rx
 obtain ⟨u,rfl,ru⟩:=rv.one
 cases ru
 obtain ⟨z,its,n,r,hl,e⟩:=I.lstM hH
 obtain ⟨z2,its2,n2,r2,hl2,e2⟩:=I.lstM hB
 have hsz:its.toArray.size+its2.toArray.size<=sizeLine:=by rw [List.size_toArray,List.size_toArray]; omega
 have hlong:¬(!its.toArray.isEmpty&&Builtin.List.listTooLong (its.toArray.size+its2.toArray.size))=true:=by
  rw [Ww hsz,Bool.and_false]
  exact Bool.false_ne_true
 refine call_meets F.slot_list_extend ⟨_,e,rfl⟩ F.entry_list_extend (F.args_list_extend_2 _ _)
  (AutoSeq1.list_extend_list_list_0 l its.toArray n b its2.toArray n2 hlong (by rw [List.size_toArray]; omega) (by omega)) ⟨e,e2,?_⟩
 refine ⟨.non,_,I.lset (its':=its++its2) hH e (by simp) (r.append r2) ?_,rfl,q⟩
 rw [List.length_append]
 omega
end
end L2
namespace Att
open PySem PySem.W PySem.Calls PyProof.Rows
theorem uB {P:Params} {h:Heap}:∀ (ns:List Int) (vs:List Value),WellAll P h vs (ns.map WData.int)->IntsAre vs ns:=by
 intro ns
 induction ns with
 | nil=>
  intro vs w
  rw [List.map_nil] at w
  cases w
  exact .nil
 | cons n ns ih=>
  intro vs w
  rw [List.map_cons] at w
  cases w with
  | cons a b=>
   cases a
   exact .cons _ _ (ih _ b)
theorem Kp {l:OpenLaw} {n:Nat} (hn:l.most=some n) {P:Params} {h:Heap} {args:List WData} {vals:List Value}
  (hpre:l.row.toRowW.claim.pre args=true) (hwl:WellAll P h vals args) :
  ∃ a vs ns,vals=[Value.ref a]/\args=[WData.list (ns.map WData.int)]/\h.get? a=some { cls:=.type "list",data:=.seq vs.toArray }/\IntsAre vs ns/\ns.length<=n:=by
 have hsh:WShape.hasAll [] args [.list .int]=true:=(pre_splitW hpre).1
 have hc:l.pre.holds [] { args:=args }=true:=(pre_splitW hpre).2
 obtain ⟨d,r,rfl,h1,h2⟩:=hasAllW_cons hsh
 obtain rfl:=hasAllW_nil h2
 obtain ⟨xs,rfl,h3⟩:=hasW_list h1
 obtain ⟨ns,rfl⟩:=items_int h3
 have hlen:ns.length<=n:=by
  unfold OpenLaw.pre at hc
  have h4:(WTm.not (.lt (.lit (.int (n:Int))) (.len (.arg 0)))).holds [] { args:=[.list (ns.map .int)] }=true:=by
   have h4:=(holds_andW hc).1
   rw [hn] at h4
   exact h4
  have h5:=condW_of h4 (w_not (w_lt w_lit (w_len_list (w_arg rfl))))
  rw [List.length_map] at h5
  refine Nat.le_of_not_lt fun q=>?_
  have q':(n:Int) < ((ns.length:Nat):Int):=by omega
  first
   | (rw [decide_eq_true q'] at h5; exact absurd h5 (by decide))
   | (simp at h5; omega)
 cases hwl with
 | cons w1 w2=>
  cases w2
  cases w1 with
  | list ho hall=>exact ⟨_,_,ns,rfl,rfl,ho,uB ns _ hall,hlen⟩
theorem Kq (l:OpenLaw) (args:List WData):l.row.toRowW.claim.post args (.bool true) args=true:=
 postW_of (r:=l.row.toRowW) (X:=(true == true))
  (show WShape.has [] (.bool true) .bool=true by first | rfl | decide | simp [WShape.has,WShape.arms,WShape.armsAll])
  (show (WTm.eq .res (.lit (.bool true))).value [] { args:=args,res:=some (.bool true),after:=args }=some (.bool (true == true)) from w_eq_bool (w_res rfl) w_lit) rfl
theorem attach_call {l:OpenLaw} {n:Nat} {q:Program} {loose:List Str} {XP:(Str->Option Value)->Heap->Prop} {YP:World->Heap->Prop} {d:DefRec}
  (hn:l.most=some n) (hdf:d.params.defaults=[])
  (call:∀ (w:World) (s₀ s₁:Shared) (mg mb:Str->Option Value) (fa:Addr) (o:Obj) (pm cd doc:Value) (a:Addr) (vs:List Value) (ns:List Int),
   Ground q loose [] XP w s₀ mg mb s₁.heap->YP w s₁.heap ->
   s₁.heap.get? fa=some o->o.data=.func (docDef d.name d.params d.body d.scope pm cd doc)->s₁.heap.CodeRec cd d.name->mg d.name=some (.ref fa) ->
   s₁.heap.get? a=some { cls:=.type "list",data:=.seq vs.toArray }->IntsAre vs ns->ns.length<=n->s₁.gens=#[] ->
   codeAny (model l.prog w) callerA (.call (.ref fa) ⟨[.ref a],[]⟩) (fun r s'=>r=.ok (.ret (.bool true))/\OldK s₁.heap s'.heap/\s'.os=s₁.os/\AllBare s'.gens) s₁) :
  WalkO q loose XP YP l.row.toRowW d [] (fun f vs=>PySem.call f vs):=by
 intro w s₀ s₁ mg mb G Y fa o pm cd doc dV kV ho hd hcd hD hmg hg args vals as hpre hlay hrd hwl hlo
 obtain rfl:dV=.none:=Dflts.none hD hdf
 obtain rfl:kV=.none:=Dflts.noKw hD
 obtain ⟨a,vs,ns,rfl,rfl,hobj,hints,hlen⟩:=Kp hn hpre hwl
 refine enter_call (codeAny_mono (call w s₀ s₁ mg mb fa o pm cd doc a vs ns G Y ho (fd_plain hd) hcd hmg hobj hints hlen hg) fun r s' hq=>?_)
 obtain ⟨rfl,h2,h3,h4⟩:=hq
 exact ⟨.inl ⟨.bool true,.bool true,[],rfl,fun _=>rfl,.bool true,Kq l _,fun _=>⟨List.Pairwise.nil,fun _ hm=>(nomatch hm)⟩⟩,h2,h3,h4⟩
end Att
namespace L2
open PySem PySem.Spec PyProof.Rows
theorem zh:∀ {vs:List Value} {ns:List Int},IntsAre vs ns->Vals (ns.map V.int) vs
 | _,_,.nil=>.nil
 | _,_,.cons n t h=>.cons ⟨t,rfl⟩ (zh h)
def qak (H:Hp):Prop:=∀ b,H b=none\/∃ o xs,H b=some (.frz o (.lst xs))
theorem Wx {P:Program} {w:World} {K:Frag} {mg mb:Str->Option Value} {CX:CXT} {k:Nat} {fa a:Addr} {fd:FuncData} {x:Str} {sp:Sp} {s₁:Shared} {vs:List Value} {ns:List Int}
  (KX:K.In s₁.heap) (hns:s₁.heap.Ns mainGlobals mg) (hb:s₁.heap.Ns builtinsNs mb) (hbb:∀ x:Str,x ≠ "__name__"->mb x=bootBuiltins x) (hlim:s₁.heap.NoLimit) (hg:s₁.gens=#[])
  (ha:s₁.heap.get? a=some { cls:=.type "list",data:=.seq vs.toArray }) (hi:IntsAre vs ns) (hl:ns.length<=sizeLine) (hr:Room k callerA)
  (F:∀ base:Heap,K.In base->base.Ns mainGlobals mg->FnOk P w K mg base CX k fa fd [x] sp) (hbind:∀ (s:Shared) (u:Value),BindsTo s fd ⟨[u],[]⟩ [(x,u)])
  (hsp:∀ H:Hp,qak H->SqL K H a (ns.map V.int)->sp [.ref a] H (fun v _=>v=.bl true) fun _ _ _=>False)
  (hCX:∀ H e s',CX [] H s₁ (fun _ _ _=>False) e s'->False) :
  codeAny (model P w) callerA (.call (.ref fa) ⟨[.ref a],[]⟩) (fun r s'=>r=.ok (.ret (.bool true))/\OldK s₁.heap s'.heap/\s'.os=s₁.os/\AllBare s'.gens) s₁:=by
 have rv:=zh hi
 have lenV:=hi.length
 have core:∀ H:Hp,qak H->SqL K H a (ns.map V.int)->HOk P w H s₁.heap->(∀ b,H b≠none->b=a)->(H a≠none->K.lookup a=none) ->
   codeAny (model P w) callerA (.call (.ref fa) ⟨[.ref a],[]⟩) (fun r s'=>r=.ok (.ret (.bool true))/\OldK s₁.heap s'.heap/\s'.os=s₁.os/\AllBare s'.gens) s₁:=by
  intro H hO hS hok hA hK
  have base_of:∀ {b:Addr} {o:Obj},s₁.heap.get? b=some o->H b=none->(Wk s₁.heap H).get? b=some o:=fun e n=>Wl e n
  have noA:∀ {b:Addr} {o:Obj} {es:Array DictEntry} {ep:Nat},s₁.heap.get? b=some o->o.data=.dict es ep->H b=none:=fun {b o es ep} e d=>by
   cases q:H b with
   | none=>rfl
   | some u=>
    have e':b=a:=hA b (by rw [q]; simp)
    subst e'
    rw [ha] at e; cases e
    have d':Data.seq vs.toArray _=Data.dict es ep:=d
    cases d'
  have nsK:∀ {b:Addr} {m:Str->Option Value},s₁.heap.Ns b m->(Wk s₁.heap H).Ns b m:=fun {b m} ⟨o,es,ep,e,d,r⟩=>⟨o,es,ep,base_of e (noA e d),d,r⟩
  have hKb:K.In (Wk s₁.heap H):=fun b o e=>base_of (KX b o e) (by
   cases q:H b with
   | none=>rfl
   | some u=>
    have e':b=a:=hA b (by rw [q]; simp)
    subst e'
    rw [hK (by rw [q]; simp)] at e; cases e)
  have hM:Mod K mg (Wk s₁.heap H):=⟨hKb,nsK hns,⟨mb,nsK hb,hbb⟩,let ⟨mc,h1,h2⟩:=hlim; ⟨mc,nsK h1,h2⟩⟩
  have e0:Env0 P w K mg (Wk s₁.heap H) callerA [] s₁ H:=⟨rfl,hM,fun b o e=>UZ e,Nat.le_of_eq (JZ _ _),trivial,fun b hb=>absurd (show b∈([]:List Addr) from hb) (by simp),hok,.of_eq hg⟩
  refine codeAny_mono ((F _ hKb (nsK hns)).run callerA [] s₁ H ⟨[.ref a],[]⟩ [.ref a] [.ref a] _ _ hr e0 (hbind s₁ (.ref a)) (.cons rfl .nil) (hsp H hO hS)) fun r s' h=>?_
  cases r with
  | error e=>exact (hCX H e s' h).elim
  | ok fl=>
   cases fl with
   | next=>exact False.elim h
   | brk=>exact False.elim h
   | cont=>exact False.elim h
   | ret u=>
    obtain ⟨v,H',os,bare,un,hok',r',q⟩:=h
    have q':v=.bl true:=q
    subst q'
    obtain rfl:u=Value.bool true:=r'
    refine ⟨rfl,OldK.of_keep fun b o e=>?_,os,bare⟩
    cases q:H b with
    | none=>exact un.keep b o e q (by intro z; exact absurd (show b∈([]:List Addr) from z) (by simp)) (by simp)
    | some u=>
     rcases hO b with z | ⟨ob,xs,z⟩
     ·rw [q] at z; cases z
     ·have z2:=un.frzs b ob _ z
      obtain ⟨e1,_⟩:=hok b _ z
      obtain ⟨e2,_⟩:=hok' b _ z2
      rw [e] at e1; cases e1
      exact e2
 cases hk:K.lookup a with
 | some o=>
  have e:=KX a o hk
  rw [ha] at e
  cases e
  refine core (fun _=>none) (fun _=>.inl rfl) (.inr ⟨_,vs.toArray,_,hk,rfl,rfl,rfl,by rw [List.size_toArray,lenV]; exact hl,by simpa using rv⟩) (fun b u z=>by have z':(none:Option HO)=some u:=z; cases z') (fun b z=>absurd rfl z) fun z=>absurd rfl z
 | none=>
  refine core (fun b=>if b=a then some (.frz { cls:=.type "list",data:=.seq vs.toArray } (.lst (ns.map V.int))) else none) (fun b=>?_) (.inl (.inr ⟨{ cls:=.type "list",data:=.seq vs.toArray },if_pos rfl⟩)) (fun b u z=>?_) (fun b z=>?_) fun _=>hk
  ·by_cases hb:b=a
   ·exact .inr ⟨_,_,if_pos hb⟩
   ·exact .inl (if_neg hb)
  ·by_cases hb:b=a
   ·have z':=(if_pos hb).symm.trans z
    cases z'
    subst hb
    exact ⟨ha,by rw [List.length_map]; exact hl,vs,_,rv,ha⟩
   ·have z':=(if_neg hb).symm.trans z
    cases z'
  ·by_cases hb:b=a
   ·exact hb
   ·exact absurd (if_neg hb) z
theorem Yt {l:PySem.W.OpenLaw} {n k:Nat} {q:Program} {loose:List Str} {XP:(Str->Option Value)->Heap->Prop} {YP:World->Heap->Prop} {d:DefRec} {K:Params->Frag} {CX:World->CXT} {sp:World->Sp} {x:Str}
  (hn:l.most=some n) (hn2:n<=sizeLine) (hdf:d.params.defaults=[]) (hr:Room k callerA)
  (hY:∀ (w:World) (h:Heap),YP w h->(K w.params).In h)
  (F:∀ (w:World) (mg:Str->Option Value) (fa:Addr) (h:Heap),(K w.params).In h->h.Ns mainGlobals mg->mg d.name=some (.ref fa) ->
   ∃ fd:FuncData,(∀ (s:Shared) (u:Value),BindsTo s fd ⟨[u],[]⟩ [(x,u)]) /\
    ∀ base:Heap,(K w.params).In base->base.Ns mainGlobals mg->FnOk l.prog w (K w.params) mg base (CX w) k fa fd [x] (sp w))
  (hsp:∀ (w:World) (H:Hp) (a:Addr) (ns:List Int),ns.length<=n->qak H->SqL (K w.params) H a (ns.map V.int)->sp w [.ref a] H (fun v _=>v=.bl true) fun _ _ _=>False)
  (hCX:∀ (w:World) (H:Hp) (s:Shared) (e:Value) (s':Shared),CX w [] H s (fun _ _ _=>False) e s'->False) :
  PySem.W.WalkO q loose XP YP l.row.toRowW d [] (fun f vs=>PySem.call f vs):=by
 refine Att.attach_call hn hdf fun w s₀ s₁ mg mb fa o pm cd doc a vs ns G Y ho hd hcd hmg hobj hints hlen hg=>?_
 have KX:=hY w _ Y
 obtain ⟨fd,hb,hF⟩:=F w mg fa _ KX G.T.g hmg
 exact Wx KX G.T.g G.T.b G.T.builtins G.T.nolimit hg hobj hints (Nat.le_trans hlen hn2) hr hF hb (fun H hO hS=>hsp w H a ns hlen hO hS) fun H e s'=>hCX w H s₁ e s'
noncomputable def vE (s:Stmt):Arguments:=match s with
 | .FunctionDef _ a _ _ _ _ _ _ _ _=>a
 | _=>{ posonlyargs:=[],args:=[],vararg:=none,kwonlyargs:=[],kw_defaults:=[],kwarg:=none,defaults:=[] }
noncomputable def jA (s:Stmt):List Stmt:=match s with
 | .FunctionDef _ _ b _ _ _ _ _ _ _=>b
 | _=>[]
noncomputable def qc (s:Stmt):Scope:=match s with
 | .FunctionDef _ _ _ _ _ _ sc _ _ _=>sc
 | _=>{ kind:=.function,names:=[],isGenerator:=false,isCoroutine:=false }
structure Fun (K:Frag) (x qual:Str) (st:Stmt) (f:Addr) (fd:FuncData):Prop where
 ex:∃ (oc:Value) (od:Option Addr) (kV doc pm:Value) (an:Option Addr) (cdv ct:Value) (osl:Array (Option Value)),
  fd=PySem.W.fnOf x qual (vE st) (jA st) (qc st) .none kV doc pm an cdv ct/\K.lookup f=some ⟨oc,od,.func fd,osl⟩/\codeIn K cdv qual=true
 kp:keepIn K (.ref f)=true
section
variable {P:Program} {w:World} {K:Frag} {mg:Str->Option Value} {base:Heap}
theorem Fun.binds {x qual:Str} {st:Stmt} {f:Addr} {fd:FuncData} {ps:List Str} (F:Fun K x qual st f fd)
  (h:∀ (kV doc pm:Value) (an:Option Addr) (cdv ct:Value) (us:List Value),us.length=ps.length->bindArgs (PySem.W.fnOf x qual (vE st) (jA st) (qc st) .none kV doc pm an cdv ct) ⟨us,[]⟩=pure (ps.zip us)):Binds K fd ps []:=by
 obtain ⟨oc,od,kV,doc,pm,an,cdv,ct,osl,rfl,lk,hcd⟩:=F.ex
 exact .all (h kV doc pm an cdv ct)
theorem Kr {x qual:Str} {st:Stmt} {f:Addr} {oc:Value} {od an:Option Addr} {osl:Array (Option Value)} {kV doc pm cdv ct:Value} (l:K.lookup f=some ⟨oc,od,.func (PySem.W.fnOf x qual (vE st) (jA st) (qc st) .none kV doc pm an cdv ct),osl⟩)
  (c:codeIn K cdv qual=true) (k:keepIn K (.ref f)=true):Fun K x qual st f (PySem.W.fnOf x qual (vE st) (jA st) (qc st) .none kV doc pm an cdv ct):=⟨⟨oc,od,kV,doc,pm,an,cdv,ct,osl,rfl,l,c⟩,k⟩
end
def Same (H H':Hp):Prop:=∀ b o,H b=some o->H' b=some o
theorem Same.refl (H:Hp):Same H H:=fun _ _ h=>h
theorem Same.trans {H H1 H2:Hp} (a:Same H H1) (b:Same H1 H2):Same H H2:=fun c o h=>b c o (a c o h)
theorem Same.free {H H':Hp} (e:Same H H') {l:Addr} (h:H' l=Option.none):H l=Option.none:=by
 cases q:H l with
 | none=>rfl
 | some o=>
  rw [e l o q] at h
  cases h
theorem Same.seq {K:Frag} {H H':Hp} {a:Addr} {xs:List V} (e:Same H H') (h:SqL K H a xs):SqL K H' a xs:=by
 rcases h with (h | ⟨o,h⟩) | h
 ·exact .inl (.inl (e _ _ h))
 ·exact .inl (.inr ⟨o,e _ _ h⟩)
 ·exact .inr h
section
variable {κ:Type} [DecidableEq κ]
noncomputable def Qn (kvs:List (κ×V)) (k:κ):Option V:=(kvs.find? fun kv=>decide (kv.1=k)).map (·.2)
noncomputable def qal (kvs:List (κ×V)) (k:κ) (v:V):List (κ×V):=
 if (kvs.any fun kv=>decide (kv.1=k))=true then kvs.map (fun kv=>if kv.1=k then (kv.1,v) else kv) else kvs++[(k,v)]
theorem ui {p:κ×V} {r:List (κ×V)} {k:κ} (e:p.1=k):Qn (p::r) k=some p.2:=by simp [Qn,List.find?_cons,e]
theorem uj {p:κ×V} {r:List (κ×V)} {k:κ} (e:¬p.1=k):Qn (p::r) k=Qn r k:=by simp [Qn,List.find?_cons,e]
theorem Qo (k:κ):∀ kvs:List (κ×V),(kvs.any fun kv=>decide (kv.1=k))=(Qn kvs k).isSome
 | []=>rfl
 | p::r=>by
  rw [List.any_cons]
  by_cases e:p.1=k
  ·simp only [ui e,decide_eq_true e,Bool.true_or,Option.isSome_some]
  ·rw [uj e,decide_eq_false e,Bool.false_or]; exact Qo k r
theorem RelO.isSome_eq {o:Option V} {u:Option Value} (r:RelO o u):o.isSome=u.isSome:=by
 cases o with
 | none=>cases u with
  | none=>rfl
  | some _=>exact (show False from r).elim
 | some _=>cases u with
  | none=>exact (show False from r).elim
  | some _=>rfl
theorem KV.val {kvs:List (κ×V)} {vs:List (κ×Value)} (r:KV kvs vs) (k:κ):RelO (Qn kvs k) (valueAt vs k):=by
 unfold KV at r
 induction r with
 | nil=>exact True.intro
 | @cons p q ps qs h t ih=>
  obtain ⟨h1,h2⟩:=h
  by_cases e:p.1=k
  ·have e':q.1=k:=h1.symm.trans e
   have b:valueAt (q::qs) k=some q.2:=by simp [valueAt,List.find?_cons,e']
   rw [ui e,b]; exact h2
  ·have e':¬q.1=k:=fun z=>e (h1.trans z)
   have b:valueAt (q::qs) k=valueAt qs k:=by simp [valueAt,List.find?_cons,e']
   rw [uj e,b]; exact ih
theorem KV.keys {kvs:List (κ×V)} {vs:List (κ×Value)} (r:KV kvs vs):kvs.map (·.1)=vs.map (·.1):=by
 unfold KV at r
 induction r with
 | nil=>rfl
 | cons h t ih=>rw [List.map_cons,List.map_cons,ih,h.1]
theorem KV.length {kvs:List (κ×V)} {vs:List (κ×Value)} (r:KV kvs vs):kvs.length=vs.length:=Paired.length r
end
theorem Yu {P:Program} {w:World} {k:Key} {u:Value} (r:RelV (kV k) u):(jz P w).is k u=true:=by
 cases k with
 | inl i=>obtain ⟨t,e⟩:=(show ∃ t,u=Value.int i t from r); subst e; exact gj P w i t
 | inr x=>obtain ⟨t,e⟩:=(show ∃ t,u=Value.str x t from r); subst e; exact gk P w x t
theorem zi {P:Program} {w:World}:∀ {ks:List Key} {us:List Value},Vals (ks.map kV) us->ItemsAre (jz P w) ks us
 | [],_,r=>by rw [List.map_nil] at r; cases r; exact .nil
 | k::ks,_,r=>by
  rw [List.map_cons] at r
  cases r with
  | cons h t=>exact .cons (Yu h) (zi t)
abbrev KT (H:Hp):List (List Key×V)->List (List Key×Addr×Value)->Prop:=Paired fun p q=>p.1=q.1/\H q.2.1=some (.tup (p.1.map kV))/\RelV p.2 q.2.2
theorem KT.val {H:Hp} {kvs:List (List Key×V)} {xs:List (List Key×Addr×Value)} (r:KT H kvs xs) (k:List Key):RelO (Qn kvs k) ((atKey xs k).map (·.2)):=by
 induction r with
 | nil=>exact True.intro
 | @cons p q ps qs h t ih=>
  obtain ⟨h1,_,h2⟩:=h
  by_cases e:p.1=k
  ·have e':q.1=k:=h1.symm.trans e
   have b:atKey (q::qs) k=some q.2:=by simp [atKey,List.find?_cons,e']
   rw [ui e,b]; exact h2
  ·have e':¬q.1=k:=fun z=>e (h1.trans z)
   have b:atKey (q::qs) k=atKey qs k:=by simp [atKey,List.find?_cons,e']
   rw [uj e,b]; exact ih
theorem KT.keeps {H H':Hp} {kvs:List (List Key×V)} {xs:List (List Key×Addr×Value)} (r:KT H kvs xs) (ht:∀ b ys,H b=some (.tup ys)->H' b=some (.tup ys)):KT H' kvs xs:=
 Paired.mapP r fun _ _ z=>⟨z.1,ht _ _ z.2.1,z.2.2⟩
section
variable {P:Program} {w:World} {H:Hp} {h:Heap} {a:Addr}
theorem Zp {u:HO} (ok:HOk P w H h) (e:Rd H a u):ObjOk P w H h a u:=e.ok ok
theorem Wy {kvs:List (Key×V)} (ok:HOk P w H h) (e:Rd H a (.dK kvs)):kvs.length<=sizeLine/\(a == sysModules)=false/\∃ vs,KV kvs vs/\h.DictOf (jz P w) a vs:=
 show ObjOk P w H h a (.dK kvs) from Zp ok e
theorem Qp {ks:List Key} (ok:HOk P w H h) (e:H a=some (.tup (ks.map kV))):(tupleKind (jz P w)).is h ks a:=by
 obtain ⟨_,its,r,o,h1,h2,n,h3⟩:=(show ObjOk P w H h a (.tup (ks.map kV)) from ok a _ e)
 exact ⟨o,its.toArray,n,h1,h2,h3,by simpa using zi r⟩
theorem Yv {kvs:List (List Key×V)} (ok:HOk P w H h) (e:Rd H a (.dT kvs)):kvs.length<=sizeLine/\(a == sysModules)=false /\
  ∃ xs,KT H kvs xs/\h.DictOfH (tupleKind (jz P w)) a xs:=by
 obtain ⟨z,y,xs,r,o,es,ep,h1,h2,h3,h4,h5⟩:=(show ObjOk P w H h a (.dT kvs) from Zp ok e)
 refine ⟨z,y,xs,r,o,es,ep,h1,h2,h3,h4,fun x hx=>?_,h5⟩
 have all:∀ {l:List (List Key×V)} {m:List (List Key×Addr×Value)},KT H l m->∀ x∈m,(tupleKind (jz P w)).is h x.1 x.2.1:=by
  intro l m q
  induction q with
  | nil=>intro x hx; exact nomatch hx
  | @cons p q ps qs hq t ih=>
   intro x hx
   rcases List.mem_cons.mp hx with e | hx
   ·subst e
    exact Qp ok (by rw [<-hq.1]; exact hq.2.1)
   ·exact ih x hx
 exact all r x hx
end
def DGet (H:Hp) (a:Addr) (y:V) (r:Option V):Prop:=
 (∃ kvs k,Rd H a (.dK kvs)/\y=kV k/\r=Qn kvs k)\/∃ kvs k b,Rd H a (.dT kvs)/\y=.ref b/\H b=some (.tup (k.map kV))/\r=Qn kvs k
def DPut (H:Hp) (a:Addr) (y v:V) (H':Hp):Prop:=
 (∃ kvs k,H a=some (.dK kvs)/\y=kV k/\kvs.length < sizeLine/\H'=upd H a (.dK (qal kvs k v))) \/
 ∃ kvs k b,H a=some (.dT kvs)/\y=.ref b/\H b=some (.tup (k.map kV))/\kvs.length < sizeLine/\H'=upd H a (.dT (qal kvs k v))
theorem DGet.k {H:Hp} {a:Addr} {kvs:List (Key×V)} {k:Key} (e:H a=some (.dK kvs)):DGet H a (kV k) (Qn kvs k):=.inl ⟨kvs,k,.inl e,rfl,rfl⟩
theorem DGet.t {H:Hp} {a b:Addr} {kvs:List (List Key×V)} {k:List Key} (e:H a=some (.dT kvs)) (eb:H b=some (.tup (k.map kV))):DGet H a (.ref b) (Qn kvs k):=.inr ⟨kvs,k,b,.inl e,rfl,eb,rfl⟩
theorem DPut.t {H:Hp} {a b:Addr} {kvs:List (List Key×V)} {k:List Key} {v:V} (e:H a=some (.dT kvs)) (eb:H b=some (.tup (k.map kV))) (hl:kvs.length < sizeLine) :
  DPut H a (.ref b) v (upd H a (.dT (qal kvs k v))):=.inr ⟨kvs,k,b,e,rfl,eb,hl,rfl⟩
section
variable {X:Cx} {pins:List (Addr×Obj)} {σ:St} {H:Hp} {s:Shared} {a:Addr} {y v:V} {u r:Value} {o:Option V} {A:Around} {E:Value->Shared->Prop}
theorem Ks {Q:Value->Shared->Prop} (hu:A.units+1 < cLine) (I:Inv X pins σ H s) (g:DGet H a y (some v)) (ry:RelV y u) (h:∀ w' s',Inv X pins σ H s'->RelV v w'->Q w' s') :
  wpAny (model X.prog X.w) A (getItem (.ref a) u) Q E s:=by
 rcases g with ⟨kvs,k,e,ey,l⟩ | ⟨kvs,k,b,e,ey,eb,l⟩
 ·subst ey
  obtain ⟨z,hd,vs,rel,dd⟩:=Wy I.hok e
  obtain ⟨w',hw,rw'⟩:=RelO.some_of (v:=v) (o:=valueAt vs k) (by rw [l]; exact rel.val k)
  exact wpAny_getItem_of (Yu ry) dd.mapOf hw (h w' _ (I.tok _) rw')
 ·subst ey
  cases (show u=Value.ref b from ry)
  obtain ⟨z,hd,xs,rel,dd⟩:=Yv I.hok e
  obtain ⟨w',hw,rw'⟩:=RelO.some_of (v:=v) (o:=(atKey xs k).map (·.2)) (by rw [l]; exact rel.val k)
  obtain ⟨p,hp,hp2⟩:=Option.map_eq_some_iff.mp hw
  refine wpAny_getItem_heap (tupleKind_room_in1 hu) (Qp I.hok eb) dd hp ?_
  rw [hp2]
  exact h w' _ (I.tok _) rw'
theorem Yw {Q:Value->Shared->Prop} (hu:A.units+1 < cLine) (I:Inv X pins σ H s) (g:DGet H a y o) (ry:RelV y u) (h:∀ s',Inv X pins σ H s'->Q (.bool (!o.isSome)) s') :
  wpAny (model X.prog X.w) A (compareOp .NotIn u (.ref a)) Q E s:=by
 rcases g with ⟨kvs,k,e,ey,l⟩ | ⟨kvs,k,b,e,ey,eb,l⟩
 ·subst ey
  obtain ⟨z,hd,vs,rel,dd⟩:=Wy I.hok e
  refine wpAny_notIn_of (Yu ry) hd dd.mapOf ?_
  rw [<-(rel.val k).isSome_eq,<-l]
  exact h _ (I.tok _)
 ·subst ey
  cases (show u=Value.ref b from ry)
  obtain ⟨z,hd,xs,rel,dd⟩:=Yv I.hok e
  refine wpAny_notIn_heap (tupleKind_room_in1 hu) (Qp I.hok eb) hd dd ?_
  have q:=(rel.val k).isSome_eq
  rw [Option.isSome_map] at q
  rw [<-q,<-l]
  exact h _ (I.tok _)
end
section
variable {X:Cx} {pins:List (Addr×Obj)} {σ:St} {H:Hp} {s:Shared} {a:Addr} {kvs:List (Key×V)} {k:Key} {u:Value} {A:Around} {E:Value->Shared->Prop}
theorem qam {Q:Value->Shared->Prop} (I:Inv X pins σ H s) (e:Rd H a (.dK kvs)) (h:∀ t s',Inv X pins σ H s'->Q (.int kvs.length t) s'):wpAny (model X.prog X.w) A (call (.builtin "len") [.ref a]) Q E s:=by
 obtain ⟨z,hd,vs,rel,dd⟩:=Wy I.hok e
 refine call_len_dict hd dd (by rw [<-rel.length]; rw [sizeLine_eq] at z; omega) ?_
 rw [<-rel.length]
 exact h _ _ (I.tok _)
end
theorem gn {X:Cx} {pins:List (Addr×Obj)} {σ:St} {H:Hp} {s:Shared} {a:Addr} {y:V} {o:Option V} (I:Inv X pins σ H s) (g:DGet H a y o):s.TypeIs (.ref a) "dict":=by
 rcases g with ⟨kvs,k,e,_,_⟩ | ⟨kvs,k,b,e,_,_,_⟩
 ·obtain ⟨_,_,vs,_,dd⟩:=Wy I.hok e
  exact dd.typeIs
 ·obtain ⟨_,_,xs,_,dd⟩:=Yv I.hok e
  exact dd.typeIs
section
variable {X:Cx}
theorem Kt:vD X (.builtin "len") (fun xs H Q=>∃ a kvs,xs=[V.ref a]/\H a=some (.dK kvs)/\Q (.int kvs.length) H):=by
 intro pins s σ H xs us Q I r h
 obtain ⟨a,kvs,rfl,ha,q⟩:=h
 obtain ⟨u,rfl,ru⟩:=ua r
 cases ru
 exact qam I (.inl ha) fun t s' I'=>⟨.int kvs.length,H,I',⟨t,rfl⟩,q⟩
end
end L2
namespace L2.D2
open PySem PySem.Spec PyProof.Rows
theorem jI {a b:List Nat} (h:(a.all fun i=>decide (i∈b))=true):∀ i∈a,i∈b:=fun i hi=>of_decide_eq_true (List.all_eq_true.mp h i hi)
theorem Qq {i:Nat} {b:List Nat} (h:decide (i∈b)=false):i∉b:=of_decide_eq_false h
noncomputable def Ku:Expr->Bool
 | .Starred ..=>false
 | _=>true
theorem qT {e:Expr} {es:List Expr} {env:Env} (h:Ku e=true):starEach (e::es) env=(false,eval e env)::starEach es env:=by cases e <;> first | rfl | cases h
theorem qM {e:Expr} {env:Env} (h:Ku e=true):starEach [e] env=[(false,eval e env)]:=qT h
theorem vh {pos:Pos} {env:Env}:∀ {es:List Expr},es.all Ku=true->(backTo pos (starEach es env)).any (·.1)=false
 | [],_=>rfl
 | e::es,h=>by
  rw [List.all_cons,Bool.and_eq_true] at h
  rw [qT h.1]
  exact vh h.2
theorem vi {pos:Pos} {env:Env} {e:Expr} (h:Ku e=true):((backTo pos (starEach [e] env)).all (fun x=>!x.1)&&(backToKw pos (keywordEach [] env)).all (fun x=>x.1.isSome)
   && decide ([e].length+([]:List Keyword).length+(if ([]:List Keyword).isEmpty then 0 else 1) < 30))=true:=by rw [qM h]; rfl
inductive D where
 | non | bl (b:Bool) | int (i:Int) | str (x:Str)
 | tup (xs:List D) | lst (xs:List D) | dct (kvs:List (Key×D)) | raw (v:V)
 | xcp (C:Addr) | ins (C:Addr) (fs:List (Str×D)) | at_ (a:Addr) (xs:List D)
 deriving Inhabited
abbrev Sl:=List (Option D)
inductive Out (α:Type) where
 | ok (a:α) | exc (c:Str) (o:Sl) | bad
noncomputable def Out.bind {α β:Type} (o:Out α) (k:α->Out β):Out β:=match o with
 | .ok a=>k a
 | .exc c o=>.exc c o
 | .bad=>.bad
@[simp] theorem Out.ok_bind {α β:Type} (a:α) (k:α->Out β):(Out.ok a).bind k=k a:=rfl
@[simp] theorem Out.exc_bind {α β:Type} (c:Str) (o:Sl) (k:α->Out β):(Out.exc c o:Out α).bind k=.exc c o:=rfl
@[simp] theorem Out.bad_bind {α β:Type} (k:α->Out β):(Out.bad:Out α).bind k=.bad:=rfl
noncomputable def gp (a C:Addr):HO:=.ext fun h=>∃ oe vs,h.get? a=some oe/\oe.cls=.ref C/\oe.data=.fields vs
mutual
/-- the value v is the data d,all its objects in F -/
inductive Is (K:Frag) (F:Hp):V->D->Prop
 | non:Is K F .non .non
 | bl (b:Bool):Is K F (.bl b) (.bl b)
 | int (i:Int):Is K F (.int i) (.int i)
 | str {x:Str} (h:x.length<=sizeLine):Is K F (.str x) (.str x)
 | tup {a:Addr} {xs:List V} {ds:List D} (h:SqT K F a xs) (t:IsL K F xs ds):Is K F (.ref a) (.tup ds)
 | lst {a:Addr} {xs:List V} {ds:List D} (h:SqL K F a xs) (t:IsL K F xs ds):Is K F (.ref a) (.lst ds)
 | dct {a:Addr} {kv:List (Key×V)} {kvs:List (Key×D)} (h:F a=some (.dK kv)) (t:IsK K F kv kvs):Is K F (.ref a) (.dct kvs)
 | raw (v:V):Is K F v (.raw v)
 | xcp {a C:Addr} (h:F a=some (gp a C)):Is K F (.ref a) (.xcp C)
 | ins {a C dx:Addr} {fv:List (Str×V)} {fs:List (Str×D)} (h:F a=some (.ins C dx fv)) (t:IsF K F fv fs):Is K F (.ref a) (.ins C fs)
 | at_ {a:Addr} {xs:List V} {ds:List D} (h:SqL K F a xs) (t:IsL K F xs ds):Is K F (.ref a) (.at_ a ds)
inductive IsL (K:Frag) (F:Hp):List V->List D->Prop
 | nil:IsL K F [] []
 | cons {v:V} {d:D} {vs:List V} {ds:List D} (h:Is K F v d) (t:IsL K F vs ds):IsL K F (v::vs) (d::ds)
inductive IsK (K:Frag) (F:Hp):List (Key×V)->List (Key×D)->Prop
 | nil:IsK K F [] []
 | cons {k:Key} {v:V} {d:D} {vs:List (Key×V)} {ds:List (Key×D)} (h:Is K F v d) (t:IsK K F vs ds):IsK K F ((k,v)::vs) ((k,d)::ds)
inductive IsF (K:Frag) (F:Hp):List (Str×V)->List (Str×D)->Prop
 | nil:IsF K F [] []
 | cons {k:Str} {v:V} {d:D} {vs:List (Str×V)} {ds:List (Str×D)} (h:Is K F v d) (t:IsF K F vs ds):IsF K F ((k,v)::vs) ((k,d)::ds)
end
theorem qA {K:Frag} {H H':Hp} {a:Addr} {xs:List V} (e:Same H H') (h:SqT K H a xs):SqT K H' a xs:=by
 rcases h with (h | ⟨o,h⟩) | h
 ·exact .inl (.inl (e _ _ h))
 ·exact .inl (.inr ⟨o,e _ _ h⟩)
 ·exact .inr h
mutual
theorem Is.mono {K:Frag} {F F':Hp} (e:Same F F'):∀ {v:V} {d:D},Is K F v d->Is K F' v d
 | _,_,.non=>.non
 | _,_,.bl b=>.bl b
 | _,_,.int i=>.int i
 | _,_,.str h=>.str h
 | _,_,.tup h t=>.tup (qA e h) (IsL.mono e t)
 | _,_,.lst h t=>.lst (e.seq h) (IsL.mono e t)
 | _,_,.dct h t=>.dct (e _ _ h) (IsK.mono e t)
 | _,_,.raw v=>.raw v
 | _,_,.xcp h=>.xcp (e _ _ h)
 | _,_,.ins h t=>.ins (e _ _ h) (IsF.mono e t)
 | _,_,.at_ h t=>.at_ (e.seq h) (IsL.mono e t)
theorem IsL.mono {K:Frag} {F F':Hp} (e:Same F F'):∀ {vs:List V} {ds:List D},IsL K F vs ds->IsL K F' vs ds
 | _,_,.nil=>.nil
 | _,_,.cons h t=>.cons (Is.mono e h) (IsL.mono e t)
theorem IsK.mono {K:Frag} {F F':Hp} (e:Same F F'):∀ {vs:List (Key×V)} {ds:List (Key×D)},IsK K F vs ds->IsK K F' vs ds
 | _,_,.nil=>.nil
 | _,_,.cons h t=>.cons (Is.mono e h) (IsK.mono e t)
theorem IsF.mono {K:Frag} {F F':Hp} (e:Same F F'):∀ {vs:List (Str×V)} {ds:List (Str×D)},IsF K F vs ds->IsF K F' vs ds
 | _,_,.nil=>.nil
 | _,_,.cons h t=>.cons (Is.mono e h) (IsF.mono e t)
end
theorem IsL.length {K:Frag} {F:Hp}:∀ {vs:List V} {ds:List D},IsL K F vs ds->vs.length=ds.length
 | _,_,.nil=>rfl
 | _,_,.cons _ t=>congrArg (·+1) (IsL.length t)
theorem IsL.get {K:Frag} {F:Hp}:∀ {vs:List V} {ds:List D} {i:Nat} {v:V},IsL K F vs ds->vs[i]?=some v->∃ d,ds[i]?=some d/\Is K F v d
 | _,_,_,_,.nil,e=>by simp at e
 | _,_,0,_,.cons h _,e=>by simp at e; subst e; exact ⟨_,rfl,h⟩
 | _,_,i+1,v,.cons _ t,e=>by
  obtain ⟨d,h1,h2⟩:=IsL.get (i:=i) (v:=v) t (by simpa using e)
  exact ⟨d,by simpa using h1,h2⟩
theorem IsL.getD {K:Frag} {F:Hp}:∀ {vs:List V} {ds:List D} {i:Nat} {d:D},IsL K F vs ds->ds[i]?=some d->∃ v,vs[i]?=some v/\Is K F v d
 | _,_,_,_,.nil,e=>by simp at e
 | _,_,0,_,.cons h _,e=>by simp at e; subst e; exact ⟨_,rfl,h⟩
 | _,_,i+1,v,.cons _ t,e=>by
  obtain ⟨d,h1,h2⟩:=IsL.getD (i:=i) (d:=v) t (by simpa using e)
  exact ⟨d,by simpa using h1,h2⟩
theorem IsL.append {K:Frag} {F:Hp}:∀ {vs ws:List V} {ds es:List D},IsL K F vs ds->IsL K F ws es->IsL K F (vs++ws) (ds++es)
 | _,_,_,_,.nil,s=>s
 | _,_,_,_,.cons h t,s=>.cons h (IsL.append t s)
theorem IsL.take {K:Frag} {F:Hp}:∀ {vs:List V} {ds:List D} (n:Nat),IsL K F vs ds->IsL K F (vs.take n) (ds.take n)
 | _,_,0,_=>.nil
 | _,_,_+1,.nil=>.nil
 | _,_,n+1,.cons h t=>.cons h (IsL.take n t)
theorem IsL.set {K:Frag} {F:Hp} {v:V} {d:D} (h:Is K F v d):∀ {vs:List V} {ds:List D} (i:Nat),IsL K F vs ds->IsL K F (vs.set i v) (ds.set i d)
 | _,_,_,.nil=>.nil
 | _,_,0,.cons _ t=>.cons h t
 | _,_,i+1,.cons q t=>.cons q (IsL.set h i t)
def OwnIs (K:Frag) (F H:Hp) (a:Addr):D->Prop
 | .lst ds=>∃ xs,H a=some (.lst xs)/\IsL K F xs ds
 | .dct kvs=>∃ kv,H a=some (.dK kv)/\IsK K F kv kvs
 | .ins C fs=>∃ dx fv,H a=some (.ins C dx fv)/\IsF K F fv fs
 | .at_ b ds=>b=a/\∃ xs,H a=some (.lst xs)/\IsL K F xs ds
 | _=>False
def TopIs (K:Frag) (F H:Hp) (v:V) (d:D):Prop:=Is K F v d\/∃ a,v=.ref a/\OwnIs K F H a d
inductive Mo where
 | sh | fr | any
def MoIs (K:Frag) (m:Mo) (H0 F H:Hp) (v:V) (d:D):Prop:=match m with
 | .sh=>Is K F v d
 | .fr=>∃ a,v=.ref a/\H0 a=none/\F a=none/\OwnIs K F H a d
 | .any=>TopIs K F H v d
theorem MoIs.top {K:Frag} {m:Mo} {H0 F H:Hp} {v:V} {d:D} (h:MoIs K m H0 F H v d):TopIs K F H v d:=by
 cases m with
 | sh=>exact .inl h
 | fr=>obtain ⟨a,e,_,_,o⟩:=h; exact .inr ⟨a,e,o⟩
 | any=>exact h
structure Chg (A:Addr->Prop) (F H F' H':Hp):Prop where
 keep:∀ b o,H b=some o->¬A b->H' b=some o
 stay:∀ b,H b≠none->H' b≠none
 grow:Same F F'
 new:∀ b,F' b≠none->F b≠none\/H b=none\/A b
theorem Chg.refl {A:Addr->Prop} {F H:Hp}:Chg A F H F H:=⟨fun _ _ e _=>e,fun _ h=>h,Same.refl _,fun _ h=>.inl h⟩
theorem Chg.trans {A A1:Addr->Prop} {F H F1 H1 F2 H2:Hp} (a:Chg A F H F1 H1) (b:Chg A1 F1 H1 F2 H2) (hA:∀ x,A1 x->A x\/H x=none):Chg A F H F2 H2 where
 keep:=fun x o e n=>b.keep x o (a.keep x o e n) fun z=>(hA x z).elim n fun q=>by rw [e] at q; cases q
 stay:=fun x h=>b.stay x (a.stay x h)
 grow:=a.grow.trans b.grow
 new:=fun x h=>by
  rcases b.new x h with q | q | q
  ·exact a.new x q
  ·refine .inr (.inl ?_)
   cases e:H x with
   | none=>rfl
   | some o=>exact absurd q (a.stay x (by rw [e]; simp))
  ·rcases hA x q with z | z
   ·exact .inr (.inr z)
   ·exact .inr (.inl z)
theorem Chg.trans' {A:Addr->Prop} {F H F1 H1 F2 H2:Hp} (a:Chg A F H F1 H1) (b:Chg A F1 H1 F2 H2):Chg A F H F2 H2:=a.trans b fun _ z=>.inl z
theorem Chg.mono {A A':Addr->Prop} {F H F1 H1:Hp} (a:Chg A F H F1 H1) (h:∀ x,A x->A' x):Chg A' F H F1 H1:=
 ⟨fun b o e n=>a.keep b o e fun z=>n (h b z),a.stay,a.grow,fun b z=>(a.new b z).imp id (Or.imp id (h b))⟩
abbrev No:Addr->Prop:=fun _=>False
theorem Chg.ofNo {A:Addr->Prop} {F H F1 H1:Hp} (a:Chg No F H F1 H1):Chg A F H F1 H1:=a.mono fun _ z=>z.elim
structure Rep (K:Frag) (own:List Nat) (F H:Hp) (σ:St) (ρ:Sl):Prop where
 sub:Same F H
 len:σ.length=ρ.length
 val:∀ i d,i∉own->ρ[i]?=some (some d)->∃ v,σ[i]?=some (some v)/\Is K F v d
 ow:∀ i d,i∈own->ρ[i]?=some (some d)->∃ a,σ[i]?=some (some (.ref a))/\F a=none/\OwnIs K F H a d
 opn:∀ i,i∈own->∃ d,ρ[i]?=some (some d)
 dis:∀ i j a,i∈own->j∈own->σ[i]?=some (some (V.ref a))->σ[j]?=some (some (V.ref a))->i=j
def OA (own:List Nat) (σ:St):Addr->Prop:=fun b=>∃ i∈own,σ[i]?=some (some (V.ref b))
theorem OwnIs.there {K:Frag} {F H:Hp} {a:Addr} {d:D} (h:OwnIs K F H a d):H a≠none:=by
 cases d with
 | lst ds=>obtain ⟨xs,e,_⟩:=h; rw [e]; simp
 | dct ds=>obtain ⟨xs,e,_⟩:=h; rw [e]; simp
 | ins C fs=>obtain ⟨dx,xs,e,_⟩:=h; rw [e]; simp
 | at_ b ds=>obtain ⟨_,xs,e,_⟩:=h; rw [e]; simp
 | _=>exact h.elim
theorem OwnIs.grow {K:Frag} {F H F' H':Hp} {a:Addr} {d:D} (h:OwnIs K F H a d) (g:Same F F') (k:∀ o,H a=some o->H' a=some o):OwnIs K F' H' a d:=by
 cases d with
 | lst ds=>obtain ⟨xs,e,t⟩:=h; exact ⟨xs,k _ e,t.mono g⟩
 | dct ds=>obtain ⟨xs,e,t⟩:=h; exact ⟨xs,k _ e,t.mono g⟩
 | ins C fs=>obtain ⟨dx,xs,e,t⟩:=h; exact ⟨dx,xs,k _ e,t.mono g⟩
 | at_ b ds=>obtain ⟨eb,xs,e,t⟩:=h; exact ⟨eb,xs,k _ e,t.mono g⟩
 | _=>exact h.elim
theorem Rep.OA_there {K:Frag} {own:List Nat} {F H:Hp} {σ:St} {ρ:Sl} (r:Rep K own F H σ ρ) {b:Addr} (h:OA own σ b):H b≠none/\F b=none:=by
 obtain ⟨i,hi,e⟩:=h
 obtain ⟨d,hd⟩:=r.opn i hi
 obtain ⟨a,e1,e2,o⟩:=r.ow i d hi hd
 rw [e] at e1
 cases e1
 exact ⟨o.there,e2⟩
theorem Rep.grow {K:Frag} {own:List Nat} {F H F' H':Hp} {σ:St} {ρ:Sl} (r:Rep K own F H σ ρ) (c:Chg No F H F' H') (s:Same F' H'):Rep K own F' H' σ ρ where
 sub:=s
 len:=r.len
 val:=fun i d hi e=>let ⟨v,h1,h2⟩:=r.val i d hi e; ⟨v,h1,h2.mono c.grow⟩
 ow:=fun i d hi e=>by
  obtain ⟨a,h1,h2,h3⟩:=r.ow i d hi e
  refine ⟨a,h1,?_,h3.grow c.grow fun o q=>c.keep a o q fun z=>z⟩
  cases q:F' a with
  | none=>rfl
  | some o=>
   rcases c.new a (by rw [q]; simp) with z | z | z
   ·exact absurd h2 z
   ·exact absurd z h3.there
   ·exact z.elim
 opn:=r.opn
 dis:=r.dis
theorem MoIs.grow {K:Frag} {A:Addr->Prop} {m:Mo} {H0 F H F' H':Hp} {v:V} {d:D} (h:MoIs K m H0 F H v d) (hm:m≠.any) (c:Chg A F H F' H') (hA:∀ x,A x->H0 x≠none):MoIs K m H0 F' H' v d:=by
 cases m with
 | sh=>exact Is.mono c.grow h
 | fr=>
  obtain ⟨a,e,h0,hF,o⟩:=h
  have nA:¬A a:=fun z=>hA a z h0
  refine ⟨a,e,h0,?_,o.grow c.grow fun o q=>c.keep a o q nA⟩
  cases q:F' a with
  | none=>rfl
  | some u=>
   rcases c.new a (by rw [q]; simp) with z | z | z
   ·exact absurd hF z
   ·exact absurd z o.there
   ·exact absurd z nA
 | any=>exact absurd rfl hm
def JU (K:Frag) (io:List Nat) (F H:Hp) (σ:St) (ρ:Sl):Prop:=∀ i∈io,∃ d a,ρ[i]?=some (some d)/\σ[i]?=some (some (V.ref a))/\F a=none/\OwnIs K F H a d
theorem Rep.ioIs {K:Frag} {own io:List Nat} {F H:Hp} {σ:St} {ρ:Sl} (r:Rep K own F H σ ρ) (h:∀ i∈io,i∈own):JU K io F H σ ρ:=fun i hi=>by
 obtain ⟨d,hd⟩:=r.opn i (h i hi)
 obtain ⟨a,h1,h2,h3⟩:=r.ow i d (h i hi) hd
 exact ⟨d,a,hd,h1,h2,h3⟩
structure Ct where
 K:Frag
 cv:Str->Value
 E:XK
 io:List Nat
 mr:Mo
 ol:List Nat
 ox:List Nat
 oxs:∀ i∈ox,i∈io
def Po (C:Ct) (own:List Nat) (m:Mo) (σ:St) (F H:Hp) (r:Out (D×Sl)) (Q:VK):Prop:=match r with
 | .ok (d,ρ')=>∀ v F' H',Rep C.K own F' H' σ ρ'->Chg (OA own σ) F H F' H'->MoIs C.K m H F' H' v d->Q v H'
 | .exc c ρ'=>∀ F' H',Same F' H'->JU C.K C.ox F' H' σ ρ'->Chg (OA own σ) F H F' H'->C.E (C.cv c) none H'
 | .bad=>False
def tE (C:Ct) (own:List Nat) (m:Mo) (f:Sl->Out (D×Sl)):TE:=fun σ H Q=>∃ F ρ,Rep C.K own F H σ ρ/\Po C own m σ F H (f ρ) Q
theorem MoIs.back {K:Frag} {m:Mo} {A:Addr->Prop} {H0 F H F1 H1:Hp} {Fa Ha:Hp} {v:V} {d:D} (c:Chg A Fa H0 F1 H1) (h:MoIs K m H1 F H v d):MoIs K m H0 F H v d:=by
 cases m with
 | sh=>exact h
 | fr=>
  obtain ⟨a,e,h0,r⟩:=h
  refine ⟨a,e,?_,r⟩
  cases q:H0 a with
  | none=>rfl
  | some o=>exact absurd h0 (c.stay a (by rw [q]; simp))
 | any=>exact h
theorem Po.shift {C:Ct} {own:List Nat} {m:Mo} {σ:St} {F H F1 H1:Hp} {r:Out (D×Sl)} {Q:VK} (h:Po C own m σ F H r Q) (c:Chg (OA own σ) F H F1 H1):Po C own m σ F1 H1 r Q:=by
 cases r with
 | ok p=>exact fun v F' H' rp c' mo=>h v F' H' rp (c.trans' c') (MoIs.back (Ha:=H1) c mo)
 | exc x=>exact fun F' H' s io c'=>h F' H' s io (c.trans' c')
 | bad=>exact h.elim
theorem Po.bind {C:Ct} {own:List Nat} {m ma:Mo} {σ:St} {F H:Hp} {o:Out (D×Sl)} {k:D×Sl->Out (D×Sl)} {Q R:VK} (hp:Po C own m σ F H (o.bind k) Q)
  (h:∀ v F1 H1 d ρ1,Rep C.K own F1 H1 σ ρ1->Chg (OA own σ) F H F1 H1->MoIs C.K ma H F1 H1 v d->Po C own m σ F1 H1 (k (d,ρ1)) Q->R v H1):Po C own ma σ F H o R:=by
 cases o with
 | ok p=>
  obtain ⟨d,ρ1⟩:=p
  exact fun v F1 H1 rp c mo=>h v F1 H1 d ρ1 rp c mo (Po.shift (show Po C own m σ F H (k (d,ρ1)) Q from hp) c)
 | exc x=>exact hp
 | bad=>exact hp.elim
def PoV (C:Ct) (m:Mo) (F H:Hp) (r:Out D) (Q:VK):Prop:=match r with
 | .ok d=>∀ v F' H',Same F' H'->Chg No F H F' H'->MoIs C.K m H F' H' v d->Q v H'
 | _=>False
def OpD (X:Cx) (C:Ct) (m:Mo) (f:Value->Value->Sem Value) (g:D->D->Out D):Prop:=
 OpR X f (fun x y H Q=>∃ F dx dy,Same F H/\TopIs C.K F H x dx/\TopIs C.K F H y dy/\PoV C m F H (g dx dy) Q)
def UnD (X:Cx) (C:Ct) (m:Mo) (f:Value->Sem Value) (g:D->Out D):Prop:=
 UnR X f (fun x H Q=>∃ F dx,Same F H/\TopIs C.K F H x dx/\PoV C m F H (g dx) Q)
noncomputable def Out.plain {α:Type}:Out α->Out α
 | .ok a=>.ok a
 | _=>.bad
theorem PoV.of {C:Ct} {own:List Nat} {m:Mo} {σ:St} {F H:Hp} {o:Out D} {ρ:Sl} {Q:VK} (rp:Rep C.K own F H σ ρ) (h:Po C own m σ F H (o.plain.bind fun d=>.ok (d,ρ)) Q):PoV C m F H o Q:=by
 cases o with
 | ok d=>exact fun v F' H' s c mo=>h v F' H' (rp.grow c s) c.ofNo mo
 | exc c=>exact h.elim
 | bad=>exact h.elim
noncomputable def d2 (g:D->D->Out D) (fa fb:Sl->Out (D×Sl)):Sl->Out (D×Sl):=fun ρ=>(fa ρ).bind fun p=>(fb p.2).bind fun q=>(g p.1 q.1).plain.bind fun d=>.ok (d,q.2)
noncomputable def d1 (g:D->Out D) (fa:Sl->Out (D×Sl)):Sl->Out (D×Sl):=fun ρ=>(fa ρ).bind fun p=>(g p.1).plain.bind fun d=>.ok (d,p.2)
section
variable {X:Cx} {C:Ct} {own:List Nat} {a b:Expr} {fa fb:Sl->Out (D×Sl)} {m ma mb:Mo} {pos:Pos}
theorem zj {g:D->D->Out D} {σ:St} {H:Hp} {Q:VK} (hma:ma≠.any) (h:tE C own m (d2 g fa fb) σ H Q) :
  tE C own ma fa σ H fun x H1=>tE C own mb fb σ H1 fun y H2=>∃ F dx dy,Same F H2/\TopIs C.K F H2 x dx/\TopIs C.K F H2 y dy/\PoV C m F H2 (g dx dy) Q:=by
 obtain ⟨F,ρ,rp,h⟩:=h
 refine ⟨F,ρ,rp,Po.bind h fun v F1 H1 d ρ1 rp1 c1 mo1 h1=>⟨F1,ρ1,rp1,Po.bind h1 fun w F2 H2 e ρ2 rp2 c2 mo2 h2=>?_⟩⟩
 exact ⟨F2,d,e,rp2.sub,(mo1.grow hma c2 fun x z=>(rp.OA_there z).1).top,mo2.top,PoV.of rp2 h2⟩
theorem zk {g:D->Out D} {σ:St} {H:Hp} {Q:VK} (h:tE C own m (d1 g fa) σ H Q) :
  tE C own ma fa σ H fun x H1=>∃ F dx,Same F H1/\TopIs C.K F H1 x dx/\PoV C m F H1 (g dx) Q:=by
 obtain ⟨F,ρ,rp,h⟩:=h
 refine ⟨F,ρ,rp,Po.bind h fun v F1 H1 d ρ1 rp1 c1 mo1 h1=>?_⟩
 exact ⟨F1,d,rp1.sub,mo1.top,PoV.of rp1 h1⟩
theorem qS {e:Expr} {t t':TE} (h:PE X e t) (i:∀ σ H Q,t' σ H Q->t σ H Q):PE X e t':=⟨fun pins s σ H Q I hw=>h pins s σ H Q I (i σ H Q hw)⟩
theorem Wz {e:Expr} {t t':TT} (h:PT X e t) (i:∀ σ H Q,t' σ H Q->t σ H Q):PT X e t':=⟨fun pins s σ H Q I hw=>h pins s σ H Q I (i σ H Q hw)⟩
theorem js {op:Operator} {g:D->D->Out D} (ho:OpD X C m (binaryOp op) g) (ha:PE X a (tE C own ma fa)) (hb:PE X b (tE C own mb fb)) (hma:ma≠.any:=by decide):PE X (.BinOp a op b pos) (tE C own m (d2 g fa fb)):=
 qS (GZ ho ha hb) fun _ _ _ h=>zj hma h
theorem wI {op:CmpOp} {g:D->D->Out D} (ho:OpD X C m (compareOp op) g) (ha:PE X a (tE C own ma fa)) (hb:PE X b (tE C own mb fb)) (hma:ma≠.any:=by decide)
  (hk:behindInMarks op b=false:=by first | exact UG _ | with_unfolding_all rfl):PE X (.Compare a [op] [b] pos) (tE C own m (d2 g fa fb)):=
 qS (Yj ho ha hb hk) fun _ _ _ h=>zj hma h
theorem Jp {op:UnaryOp} {g:D->Out D} (ho:UnD X C m (unaryOp op) g) (ha:PE X a (tE C own ma fa)):PE X (.UnaryOp op a pos) (tE C own m (d1 g fa)):=
 qS (qaa ho ha) fun _ _ _ h=>zk h
end
instance:DecidableEq Mo:=fun a b=>by cases a <;> cases b <;> first | exact isTrue rfl | exact isFalse (by intro h; cases h)
theorem WA {K:Frag} {own:List Nat} {H0 F H:Hp} {σ:St} {ρ:Sl} {v:V} {d:D} (rp:Rep K own F H σ ρ) (hA:∀ b,OA own σ b->H0 b≠none) (h:MoIs K .fr H0 F H v d) :
  ∃ F',Rep K own F' H σ ρ/\Same F F'/\Is K F' v d/\∀ b,F' b≠none->F b≠none\/H0 b=none:=by
 obtain ⟨a,rfl,h0,hF,o⟩:=h
 obtain ⟨u,hu⟩:∃ u,H a=some u:=by
  cases q:H a with
  | none=>exact absurd q o.there
  | some u=>exact ⟨u,rfl⟩
 have gr:Same F (upd F a u):=fun b w e=>by rw [qp (qv e hF)]; exact e
 have sb:Same (upd F a u) H:=fun b w e=>by
  by_cases q:b=a
  ·subst q; rw [qf] at e; cases e; exact hu
  ·rw [qp q] at e; exact rp.sub b w e
 refine ⟨upd F a u,⟨sb,rp.len,fun i d hi e=>?_,fun i d hi e=>?_,rp.opn,rp.dis⟩,gr,?_,fun b hb=>?_⟩
 ·obtain ⟨v,h1,h2⟩:=rp.val i d hi e
  exact ⟨v,h1,h2.mono gr⟩
 ·obtain ⟨c,h1,h2,h3⟩:=rp.ow i d hi e
  refine ⟨c,h1,?_,h3.grow gr fun _ q=>q⟩
  have nc:c≠a:=fun q=>by subst q; exact hA c ⟨i,hi,h1⟩ h0
  rw [qp nc]; exact h2
 ·cases d with
  | lst ds=>obtain ⟨xs,e,t⟩:=o; rw [hu] at e; cases e; exact .lst (.inl (.inl qf)) (t.mono gr)
  | dct ds=>obtain ⟨xs,e,t⟩:=o; rw [hu] at e; cases e; exact .dct qf (t.mono gr)
  | ins C fs=>obtain ⟨dx,xs,e,t⟩:=o; rw [hu] at e; cases e; exact .ins qf (t.mono gr)
  | at_ b ds=>obtain ⟨eb,xs,e,t⟩:=o; rw [hu] at e; cases e; subst eb; exact .at_ (.inl (.inl qf)) (t.mono gr)
  | _=>exact o.elim
 ·by_cases q:b=a
  ·exact .inr (by rw [q]; exact h0)
  ·rw [qp q] at hb; exact .inl hb
theorem Po.toSh {C:Ct} {own:List Nat} {m:Mo} {σ:St} {F H:Hp} {ρ0:Sl} {r:Out (D×Sl)} {Q:VK} (rp:Rep C.K own F H σ ρ0) (hm:m≠.any) (h:Po C own .sh σ F H r Q):Po C own m σ F H r Q:=by
 cases r with
 | ok p=>
  intro v F' H' rp' c mo
  cases m with
  | sh=>exact h v F' H' rp' c mo
  | fr=>
   obtain ⟨F2,rp2,gr,is,nw⟩:=WA rp' (fun b z=>(rp.OA_there z).1) mo
   refine h v F2 H' rp2 ⟨c.keep,c.stay,c.grow.trans gr,fun b hb=>?_⟩ is
   rcases nw b hb with z | z
   ·exact c.new b z
   ·exact .inr (.inl z)
  | any=>exact absurd rfl hm
 | exc x=>exact h
 | bad=>exact h.elim
section
variable {X:Cx} {C:Ct} {own:List Nat} {a b e:Expr} {f fa fb:Sl->Out (D×Sl)} {m ma mb:Mo} {pos:Pos}
theorem wn (h:PE X e (tE C own m f)) (hm:m≠.any):PE X e (tE C own .sh f):=qS h fun _ _ _ ⟨F,ρ,rp,p⟩=>⟨F,ρ,rp,p.toSh rp hm⟩
noncomputable def qu (i:Nat):Sl->Out (D×Sl):=fun ρ=>match ρ[i]? with
 | some (some d)=>.ok (d,ρ)
 | _=>.bad
noncomputable def dC (d:D):Sl->Out (D×Sl):=fun ρ=>.ok (d,ρ)
theorem Zq {i:Nat} {x:Str} (hN:X.N[i]?=some x) (hv:Vis X.env.scope x) (ho:i∉own) (hd:(x == ("__debug__":Str))=false:=by decide) (hcd:(x == ("__classdict__":Str))=false:=by decide):PE X (.Name x pos) (tE C own .sh (qu i)):=by
 refine qS (zc hN hv hd hcd) fun σ H Q ⟨F,ρ,rp,h⟩=>?_
 unfold qu at h
 cases e:ρ[i]? with
 | none=>rw [e] at h; exact h.elim
 | some o=>
  cases o with
  | none=>rw [e] at h; exact h.elim
  | some d=>
   rw [e] at h
   obtain ⟨v,h1,h2⟩:=rp.val i d ho e
   exact ⟨v,h1,h v F H rp .refl h2⟩
theorem gq {i:Nat} {x:Str} (hN:X.N[i]?=some x) (hv:Vis X.env.scope x) (ho:i∈own) (hd:(x == ("__debug__":Str))=false:=by decide) (hcd:(x == ("__classdict__":Str))=false:=by decide):PE X (.Name x pos) (tE C own .any (qu i)):=by
 refine qS (zc hN hv hd hcd) fun σ H Q ⟨F,ρ,rp,h⟩=>?_
 unfold qu at h
 cases e:ρ[i]? with
 | none=>rw [e] at h; exact h.elim
 | some o=>
  cases o with
  | none=>rw [e] at h; exact h.elim
  | some d=>
   rw [e] at h
   obtain ⟨a,h1,h2,h3⟩:=rp.ow i d ho e
   exact ⟨_,h1,h _ F H rp .refl (.inr ⟨a,rfl,h3⟩)⟩
theorem Zr {v:V} {d:D} (h:PE X e (tC v)) (i:∀ F,Is C.K F v d):PE X e (tE C own .sh (dC d)):=qS h fun σ H Q ⟨F,ρ,rp,h⟩=>h v F H rp .refl (i F)
theorem qw {i j pos}:PE X (.Constant (.int i) j pos) (tE C own .sh (dC (.int i))):=Zr XQ fun _=>.int i
theorem gt {i j pos}:PE X (.Constant (.bool i) j pos) (tE C own .sh (dC (.bl i))):=Zr Yc fun _=>.bl i
theorem Qr {j pos}:PE X (.Constant .none j pos) (tE C own .sh (dC .non)):=Zr XR fun _=>.non
theorem ji {x j pos} (h:Str.length x<=sizeLine:=by decide):PE X (.Constant (.str x) j pos) (tE C own .sh (dC (.str x))):=Zr UC fun _=>.str h
theorem gu {x:Str} {v:V} {d:D} {u:Value} (hg:Gl X x) (hm:X.mg x=some u) (r:RelV v u) (i:∀ F,Is C.K F v d) (hd:(x == ("__debug__":Str))=false:=by decide):PE X (.Name x pos) (tE C own .sh (dC d)):=Zr (Ka hg hm r hd) i
noncomputable def JV (g:Int->Int->Out D):D->D->Out D
 | .int i,.int j=>g i j
 | _,_=>.bad
theorem TopIs.int {K:Frag} {F H:Hp} {v:V} {i:Int} (h:TopIs K F H v (.int i)):v=.int i:=by
 rcases h with h | ⟨a,_,h⟩
 ·cases h; rfl
 ·exact h.elim
theorem TopIs.str {K:Frag} {F H:Hp} {v:V} {x:Str} (h:TopIs K F H v (.str x)):v=.str x/\x.length<=sizeLine:=by
 rcases h with h | ⟨a,_,h⟩
 ·cases h; exact ⟨rfl,by assumption⟩
 ·exact h.elim
theorem TopIs.bl {K:Frag} {F H:Hp} {v:V} {x:Bool} (h:TopIs K F H v (.bl x)):v=.bl x:=by
 rcases h with h | ⟨a,_,h⟩
 ·cases h; rfl
 ·exact h.elim
theorem TopIs.non {K:Frag} {F H:Hp} {v:V} (h:TopIs K F H v .non):v=.non:=by
 rcases h with h | ⟨a,_,h⟩
 ·cases h; rfl
 ·exact h.elim
theorem TopIs.raw {K:Frag} {F H:Hp} {v u:V} (h:TopIs K F H v (.raw u)):v=u:=by
 rcases h with h | ⟨a,_,h⟩
 ·cases h; rfl
 ·exact h.elim
theorem TopIs.lst {K:Frag} {F H:Hp} {v:V} {ds:List D} (s:Same F H) (h:TopIs K F H v (.lst ds)):∃ a xs,v=.ref a/\SqL K H a xs/\IsL K F xs ds:=by
 rcases h with h | ⟨a,e,h⟩
 ·cases h with
  | lst h t=>exact ⟨_,_,rfl,s.seq h,t⟩
 ·obtain ⟨xs,e2,t⟩:=h
  exact ⟨a,xs,e,.inl (.inl e2),t⟩
theorem TopIs.tup {K:Frag} {F H:Hp} {v:V} {ds:List D} (s:Same F H) (h:TopIs K F H v (.tup ds)):∃ a xs,v=.ref a/\SqT K H a xs/\IsL K F xs ds:=by
 rcases h with h | ⟨a,e,h⟩
 ·cases h with
  | tup h t=>exact ⟨_,_,rfl,qA s h,t⟩
 ·exact h.elim
theorem TopIs.dct {K:Frag} {F H:Hp} {v:V} {ds:List (Key×D)} (s:Same F H) (h:TopIs K F H v (.dct ds)):∃ a kv,v=.ref a/\H a=some (.dK kv)/\IsK K F kv ds:=by
 rcases h with h | ⟨a,e,h⟩
 ·cases h with
  | dct h t=>exact ⟨_,_,rfl,s _ _ h,t⟩
 ·obtain ⟨xs,e2,t⟩:=h
  exact ⟨a,xs,e,e2,t⟩
theorem Kv {fn:Value->Value->Sem Value} {P:Int->Int->Prop} [∀ i j,Decidable (P i j)] {g:Int->Int->V} {gd:Int->Int->D} (ho:OpR X fn (rI P g)) (hg:∀ F i j,Is C.K F (g i j) (gd i j)) :
  OpD X C .sh fn (JV fun i j=>if P i j then .ok (gd i j) else .bad):=by
 intro pins s σ H x y v u Q I rx ry h
 obtain ⟨F,dx,dy,sb,tx,ty,po⟩:=h
 cases dx <;> try exact po.elim
 cases dy <;> try exact po.elim
 rename_i i j
 have po:PoV C .sh F H (if P i j then .ok (gd i j) else .bad) Q:=po
 obtain rfl:=tx.int
 obtain rfl:=ty.int
 by_cases q:P i j
 ·rw [if_pos q] at po
  exact ho pins s σ H _ _ v u Q I rx ry ⟨i,j,rfl,rfl,q,po (g i j) F H sb .refl (hg F i j)⟩
 ·rw [if_neg q] at po; exact po.elim
theorem Kw {fn:Value->Value->Sem Value} {g:Int->Int->V} {gd:Int->Int->D} (ho:OpR X fn (rI0 g)) (hg:∀ F i j,Is C.K F (g i j) (gd i j)):OpD X C .sh fn (JV fun i j=>.ok (gd i j)):=by
 intro pins s σ H x y v u Q I rx ry h
 obtain ⟨F,dx,dy,sb,tx,ty,po⟩:=h
 cases dx <;> try exact po.elim
 cases dy <;> try exact po.elim
 rename_i i j
 obtain rfl:=tx.int
 obtain rfl:=ty.int
 exact ho pins s σ H _ _ v u Q I rx ry ⟨i,j,rfl,rfl,po (g i j) F H sb .refl (hg F i j)⟩
noncomputable def XC:D->D->Out D:=JV fun i j=>.ok (.int (i - j))
theorem Qs:OpD X C .sh (binaryOp .Sub) XC:=Kw Zc fun _ _ _=>.int _
instance:∀ i j,Decidable (CMul i j):=fun i j=>inferInstanceAs (Decidable (_\/_))
instance:∀ i j,Decidable (qbB i j):=fun i j=>inferInstanceAs (Decidable (_/\_))
noncomputable def XD:D->D->Out D:=JV fun i j=>if CMul i j then .ok (.int (i * j)) else .bad
theorem Ky:OpD X C .sh (binaryOp .Mult) XD:=Kv Zd fun _ _ _=>.int _
noncomputable def UI:D->D->Out D:=JV fun i j=>if 0 < j then .ok (.int (i % j)) else .bad
theorem zl:OpD X C .sh (binaryOp .Mod) UI:=Kv Ze fun _ _ _=>.int _
noncomputable def vF (x y:Str):Bool:=decide (x.cps.toList < y.cps.toList)
noncomputable def ltD:D->D->Out D
 | .int i,.int j=>.ok (.bl (decide (i < j)))
 | .str x,.str y=>.ok (.bl (vF x y))
 | _,_=>.bad
theorem Zs:OpD X C .sh (compareOp .Lt) ltD:=by
 intro pins s σ H x y v u Q I rx ry h
 obtain ⟨F,dx,dy,sb,tx,ty,po⟩:=h
 cases dx <;> try exact po.elim
 ·cases dy <;> try exact po.elim
  obtain rfl:=tx.int
  obtain rfl:=ty.int
  exact qac pins s σ H _ _ v u Q I rx ry ⟨_,_,rfl,rfl,po _ F H sb .refl (.bl _)⟩
 ·cases dy <;> try exact po.elim
  obtain ⟨rfl,_⟩:=tx.str
  obtain ⟨rfl,_⟩:=ty.str
  exact Kg pins s σ H _ _ v u Q I rx ry ⟨_,_,rfl,rfl,po _ F H sb .refl (.bl _)⟩
end
noncomputable def eqS:D->D->Option Bool
 | .non,.non=>some true
 | .non,.bl _=>some false
 | .non,.int _=>some false
 | .non,.str _=>some false
 | .non,.tup _=>some false
 | .non,.lst _=>some false
 | .bl _,.non=>some false
 | .bl a,.bl b=>some (a == b)
 | .bl a,.int b=>some ((if a then 1 else 0) == b)
 | .bl _,.str _=>some false
 | .bl _,.tup _=>some false
 | .bl _,.lst _=>some false
 | .int _,.non=>some false
 | .int a,.bl b=>some (a == (if b then 1 else 0))
 | .int a,.int b=>some (a == b)
 | .int _,.str _=>some false
 | .int _,.tup _=>some false
 | .int _,.lst _=>some false
 | .str _,.non=>some false
 | .str _,.bl _=>some false
 | .str _,.int _=>some false
 | .str a,.str b=>some (a == b)
 | .str _,.tup _=>some false
 | .str _,.lst _=>some false
 | .tup _,.non=>some false
 | .tup _,.bl _=>some false
 | .tup _,.int _=>some false
 | .tup _,.str _=>some false
 | .tup _,.lst _=>some false
 | .lst _,.non=>some false
 | .lst _,.bl _=>some false
 | .lst _,.int _=>some false
 | .lst _,.str _=>some false
 | .lst _,.tup _=>some false
 | _,_=>none
noncomputable def kP (f:D->D->Option Bool):List D->List D->Option Bool
 | x::xs,y::ys=>(f x y).bind fun a=>(kP f xs ys).bind fun b=>some (a&&b)
 | _,_=>some true
noncomputable def eqN:Nat->D->D->Option Bool
 | n+1,.tup xs,.tup ys=>(kP (eqN n) xs ys).map fun b=>b&&xs.length == ys.length
 | n+1,.lst xs,.lst ys=>if xs.length=ys.length then kP (eqN n) xs ys else some false
 | _,a,b=>eqS a b
theorem Qt {n:Nat} {a b:D} (h1:∀ xs ys,a=.tup xs->b≠.tup ys) (h2:∀ xs ys,a=.lst xs->b≠.lst ys):eqN n a b=eqS a b:=by
 cases n with
 | zero=>rfl
 | succ n=>
  cases a with
  | tup xs=>cases b with
   | tup ys=>exact absurd rfl (h1 xs ys rfl)
   | _=>rfl
  | lst xs=>cases b with
   | lst ys=>exact absurd rfl (h2 xs ys rfl)
   | _=>rfl
  | _=>rfl
noncomputable def itE (f:D->D->Option Bool) (xs ys:List D) (j:Nat):Bool:=((xs[j]?).bind fun x=>(ys[j]?).bind fun y=>f x y).getD false
theorem kg {f:D->D->Option Bool}:∀ {xs ys:List D} {b:Bool},kP f xs ys=some b->b=(List.range (min xs.length ys.length)).all (itE f xs ys)
 | [],ys,b,h=>by simp [kP] at h ⊢; exact h
 | x::xs,[],b,h=>by simp [kP] at h ⊢; exact h
 | x::xs,y::ys,b,h=>by
  unfold kP at h
  cases e:f x y with
  | none=>rw [e] at h; simp at h
  | some a=>
   cases e2:kP f xs ys with
   | none=>rw [e,e2] at h; simp at h
   | some c=>
    rw [e,e2] at h
    have h:(a&&c)=b:=by simpa using h
    have ih:=kg e2
    have hm:min (x::xs).length (y::ys).length=min xs.length ys.length+1:=by simp only [List.length_cons]; omega
    rw [hm,List.range_succ_eq_map,List.all_cons,List.all_map]
    have e0:itE f (x::xs) (y::ys) 0=a:=by simp [itE,e]
    have e1:(itE f (x::xs) (y::ys)) ∘ Nat.succ=itE f xs ys:=by
     funext j
     simp [itE]
    rw [e0,e1,<-ih]
    exact h.symm
theorem Kz {f:D->D->Option Bool}:∀ {xs ys:List D} {b:Bool},kP f xs ys=some b->∀ (j:Nat) (x y:D),xs[j]?=some x->ys[j]?=some y->f x y=some (itE f xs ys j)
 | [],ys,b,_,j,x,y,hx,_=>by simp at hx
 | x::xs,[],b,_,j,_,y,_,hy=>by simp at hy
 | x::xs,y::ys,b,h,0,x',y',hx,hy=>by
  simp at hx hy
  subst hx hy
  unfold kP at h
  cases e:f x y with
  | none=>rw [e] at h; simp at h
  | some a=>simp [itE,e]
 | x::xs,y::ys,b,h,j+1,x',y',hx,hy=>by
  unfold kP at h
  cases e:f x y with
  | none=>rw [e] at h; simp at h
  | some a=>
   cases e2:kP f xs ys with
   | none=>rw [e,e2] at h; simp at h
   | some c=>
    have q:=Kz e2 j x' y' (by simpa using hx) (by simpa using hy)
    rw [q]
    simp [itE]
section
variable {X:Cx} {pins:List (Addr×Obj)} {σ:St} {F H:Hp} {s:Shared}
theorem KA (I:Inv X pins σ H s) (sb:Same F H):∀ (n:Nat) {v:V} {d e:D} {b:Bool},Is X.K F v d->Is X.K F v e->eqN n d e=some b->b=true:=by
 intro n
 induction n with
 | zero=>
  intro v d e b h1 h2 h
  cases h1 <;> cases h2 <;> simp [eqN,eqS] at h <;> try exact h.symm
  all_goals first
   | exact h
   | (rename_i p1 _ _ _ p2 _; obtain ⟨_,_,q1,_⟩:=I.list (sb.seq (by assumption)); obtain ⟨_,_,q2,_⟩:=I.tuple (qA sb (by assumption)); exact absurd rfl (PySem.SeqAt.ne_of_list_tuple q1.isList q2))
   | (rename_i p1 _ _ _ p2 _; obtain ⟨_,_,q1,_⟩:=I.list (sb.seq (by assumption)); obtain ⟨_,_,q2,_⟩:=I.tuple (qA sb (by assumption)); exact absurd rfl (PySem.SeqAt.ne_of_list_tuple q1.isList q2).symm)
   | skip
 | succ n ih=>
  have lists:∀ {xs:List V} {ds es:List D} {b:Bool},IsL X.K F xs ds->IsL X.K F xs es->kP (eqN n) ds es=some b->b=true:=by
   intro xs
   induction xs with
   | nil=>intro ds es b h1 h2 h; cases h1; cases h2; simp [kP] at h; exact h
   | cons x xs ihx=>
    intro ds es b h1 h2 h
    cases h1 with
    | cons a1 t1=>
     cases h2 with
     | cons a2 t2=>
      rename_i d ds e es
      unfold kP at h
      cases q:eqN n d e with
      | none=>rw [q] at h; simp at h
      | some a=>
       cases q2:kP (eqN n) ds es with
       | none=>rw [q,q2] at h; simp at h
       | some c=>
        rw [q,q2] at h
        rw [ih a1 a2 q,ihx t1 t2 q2] at h
        simpa using h.symm
  intro v d e b h1 h2 h
  cases h1 with
  | tup p1 t1=>
   cases h2 with
   | tup p2 t2=>
    have e:=I.tuple_inj (qA sb p1) (qA sb p2)
    subst e
    simp only [eqN] at h
    rename_i xs ds es
    cases q:kP (eqN n) ds es with
    | none=>rw [q] at h; simp at h
    | some c=>
     rw [q] at h
     have hl:ds.length=es.length:=by rw [<-t1.length,<-t2.length]
     have hb:(ds.length == es.length)=true:=by simp [hl]
     rw [lists t1 t2 q] at h
     simpa [hb] using h.symm
   | lst p2 t2=>
    obtain ⟨_,_,q1,_⟩:=I.list (sb.seq p2)
    obtain ⟨_,_,q2,_⟩:=I.tuple (qA sb p1)
    exact absurd rfl (PySem.SeqAt.ne_of_list_tuple q1.isList q2)
   | _=>simp [eqN,eqS] at h
  | lst p1 t1=>
   cases h2 with
   | lst p2 t2=>
    have e:=I.list_inj (sb.seq p1) (sb.seq p2)
    subst e
    simp only [eqN] at h
    have hl:=t1.length.symm.trans t2.length
    rw [if_pos hl] at h
    exact lists t1 t2 h
   | tup p2 t2=>
    obtain ⟨_,_,q1,_⟩:=I.list (sb.seq p1)
    obtain ⟨_,_,q2,_⟩:=I.tuple (qA sb p2)
    exact absurd rfl (PySem.SeqAt.ne_of_list_tuple q1.isList q2)
   | _=>simp [eqN,eqS] at h
  | _=>cases h2 <;> simp [eqN,eqS] at h <;> first | exact h.symm | exact h | skip
end
open PySem.SeqAt
section
variable {X:Cx} {pins:List (Addr×Obj)} {σ:St} {F H:Hp} {s:Shared}
theorem Vals.getE {xs:List V} {us:List Value} (r:Vals xs us) {j:Nat} (h:j < us.length):∃ x,xs[j]?=some x/\RelV x us[j]:=by
 have hl:=r.length
 have hj:j < xs.length:=by omega
 obtain ⟨u,e1,e2⟩:=Vals.get (i:=j) (x:=xs[j]) r (by simp [hj])
 refine ⟨xs[j],by simp [hj],?_⟩
 rw [List.getElem?_eq_getElem h] at e1
 cases e1
 exact e2
theorem vj {A:Around} {n:Nat} {xs ys:List V} {ds es:List D} {us ws:List Value} {b:Bool} (ih:∀ {v w:V} {d e:D} {u t:Value} {b:Bool},Is X.K F v d->Is X.K F w e->RelV v u->RelV w t->eqN n d e=some b->EqAt A s u t b)
  (r1:Vals xs us) (r2:Vals ys ws) (i1:IsL X.K F xs ds) (i2:IsL X.K F ys es) (h:kP (eqN n) ds es=some b) :
  ∀ j (h1:j < us.toArray.size) (h2:j < ws.toArray.size),EqAt A s us.toArray[j] ws.toArray[j] (itE (eqN n) ds es j):=by
 intro j h1 h2
 have h1':j < us.length:=by simpa using h1
 have h2':j < ws.length:=by simpa using h2
 obtain ⟨x,ex,rx⟩:=Vals.getE r1 h1'
 obtain ⟨y,ey,ry⟩:=Vals.getE r2 h2'
 obtain ⟨d,ed,idd⟩:=i1.get ex
 obtain ⟨e,ee,ie⟩:=i2.get ey
 have q:=Kz h j d e ed ee
 simpa using ih idd ie rx ry q
theorem Qu {A:Around} {n:Nat} {a c:Addr} {xs ys:List V} {ds es:List D} {b:Bool} (I:Inv X pins σ H s) (ih:∀ {v w:V} {d e:D} {u t:Value} {b:Bool},Is X.K F v d->Is X.K F w e->RelV v u->RelV w t->eqN n d e=some b->EqAt A.in1 s u t b)
  (p1:SqT X.K H a xs) (p2:SqT X.K H c ys) (i1:IsL X.K F xs ds) (i2:IsL X.K F ys es) (h:eqN (n+1) (.tup ds) (.tup es)=some b) (hu:A.units < cLine):RcAt A s (.ref a) (.ref c) b:=by
 obtain ⟨us,r1,t1,_⟩:=I.tuple p1
 obtain ⟨ws,r2,t2,_⟩:=I.tuple p2
 simp only [eqN] at h
 cases q:kP (eqN n) ds es with
 | none=>rw [q] at h; simp at h
 | some k=>
  rw [q] at h
  have l1:us.toArray.size=ds.length:=by rw [List.size_toArray,<-r1.length,i1.length]
  have l2:ws.toArray.size=es.length:=by rw [List.size_toArray,<-r2.length,i2.length]
  have z:=RcAt.tuples (A:=A) t1 t2 hu (vj (A:=A.in1) ih r1 r2 i1 i2 q)
  rw [l1,l2,<-kg q] at z
  have e:b=(k&&ds.length == es.length):=by simpa using h.symm
  rw [e]; exact z
theorem Qv {A:Around} {n:Nat} {a c:Addr} {xs ys:List V} {ds es:List D} {b:Bool} (I:Inv X pins σ H s) (ih:∀ {v w:V} {d e:D} {u t:Value} {b:Bool},Is X.K F v d->Is X.K F w e->RelV v u->RelV w t->eqN n d e=some b->EqAt A.in1 s u t b)
  (p1:SqL X.K H a xs) (p2:SqL X.K H c ys) (i1:IsL X.K F xs ds) (i2:IsL X.K F ys es) (h:eqN (n+1) (.lst ds) (.lst es)=some b) (hu:A.units < cLine):RcAt A s (.ref a) (.ref c) b:=by
 obtain ⟨us,r1,t1,_⟩:=I.list p1
 obtain ⟨ws,r2,t2,_⟩:=I.list p2
 have l1:us.toArray.size=ds.length:=by rw [List.size_toArray,<-r1.length,i1.length]
 have l2:ws.toArray.size=es.length:=by rw [List.size_toArray,<-r2.length,i2.length]
 simp only [eqN] at h
 by_cases hl:ds.length=es.length
 ·rw [if_pos hl] at h
  have z:=RcAt.lists (A:=A) t1.isList t2.isList (by omega) hu (vj (A:=A.in1) ih r1 r2 i1 i2 h)
  have e:=kg h
  rw [l1] at z
  rw [e,show min ds.length es.length=ds.length by omega]
  exact z
 ·rw [if_neg hl] at h
  cases h
  exact RcAt.lists_lengths t1.isList t2.isList (bne_iff_ne.mpr (by rw [l1,l2]; exact hl)) hu
theorem KB (I:Inv X pins σ H s) (sb:Same F H):∀ (n:Nat) {A:Around} {v w:V} {d e:D} {u t:Value} {b:Bool},A.units+n < cLine->Is X.K F v d->Is X.K F w e->RelV v u->RelV w t->eqN n d e=some b->EqAt A s u t b:=by
 intro n
 induction n with
 | zero=>
  intro A v w d e u t b hu h1 h2 rx ry h
  have hu:A.units < cLine:=by omega
  have h:eqS d e=some b:=h
  cases h1 with
  | non=>cases rx; cases h2 with
   | non=>cases ry; cases h; exact EqAt.same _
   | bl=>cases ry; cases h; exact EqAt.none_bool _
   | int=>obtain ⟨_,rfl⟩:=ry; cases h; exact EqAt.none_int _ _
   | str=>obtain ⟨_,rfl⟩:=ry; cases h; exact EqAt.none_str _ _
   | tup p _=>cases ry; cases h; obtain ⟨_,_,q,_⟩:=I.tuple (qA sb p); exact EqAt.none_tuple q hu
   | lst p _=>cases ry; cases h; obtain ⟨_,_,q,_⟩:=I.list (sb.seq p); exact EqAt.none_list q.isList hu
   | dct=>cases h
   | raw=>cases h
   | xcp=>cases h
   | ins=>cases h
   | at_=>cases h
  | bl=>cases rx; cases h2 with
   | non=>cases ry; cases h; exact EqAt.bool_none _
   | bl=>cases ry; cases h; exact EqAt.bool_bool _ _
   | int=>obtain ⟨_,rfl⟩:=ry; cases h; exact EqAt.bool_int _ _ _
   | str=>obtain ⟨_,rfl⟩:=ry; cases h; exact EqAt.bool_str _ _ _
   | tup p _=>cases ry; cases h; obtain ⟨_,_,q,_⟩:=I.tuple (qA sb p); exact EqAt.bool_tuple _ q hu
   | lst p _=>cases ry; cases h; obtain ⟨_,_,q,_⟩:=I.list (sb.seq p); exact EqAt.bool_list _ q.isList hu
   | dct=>cases h
   | raw=>cases h
   | xcp=>cases h
   | ins=>cases h
   | at_=>cases h
  | int=>obtain ⟨_,rfl⟩:=rx; cases h2 with
   | non=>cases ry; cases h; exact EqAt.int_none _ _
   | bl=>cases ry; cases h; exact EqAt.int_bool _ _ _
   | int=>obtain ⟨_,rfl⟩:=ry; cases h; exact EqAt.int_int _ _ _ _
   | str=>obtain ⟨_,rfl⟩:=ry; cases h; exact EqAt.int_str _ _ _ _
   | tup p _=>cases ry; cases h; obtain ⟨_,_,q,_⟩:=I.tuple (qA sb p); exact EqAt.int_tuple _ _ q hu
   | lst p _=>cases ry; cases h; obtain ⟨_,_,q,_⟩:=I.list (sb.seq p); exact EqAt.int_list _ _ q.isList hu
   | dct=>cases h
   | raw=>cases h
   | xcp=>cases h
   | ins=>cases h
   | at_=>cases h
  | str=>obtain ⟨_,rfl⟩:=rx; cases h2 with
   | non=>cases ry; cases h; exact EqAt.str_none _ _
   | bl=>cases ry; cases h; exact EqAt.str_bool _ _ _
   | int=>obtain ⟨_,rfl⟩:=ry; cases h; exact EqAt.str_int _ _ _ _
   | str=>obtain ⟨_,rfl⟩:=ry; cases h; exact EqAt.str_str _ _ _ _
   | tup p _=>cases ry; cases h; obtain ⟨_,_,q,_⟩:=I.tuple (qA sb p); exact EqAt.str_tuple _ _ q hu
   | lst p _=>cases ry; cases h; obtain ⟨_,_,q,_⟩:=I.list (sb.seq p); exact EqAt.str_list _ _ q.isList hu
   | dct=>cases h
   | raw=>cases h
   | xcp=>cases h
   | ins=>cases h
   | at_=>cases h
  | tup p0 _=>
   cases rx
   obtain ⟨_,_,q0,_⟩:=I.tuple (qA sb p0)
   cases h2 with
   | non=>cases ry; cases h; exact EqAt.tuple_none q0 hu
   | bl=>cases ry; cases h; exact EqAt.tuple_bool _ q0 hu
   | int=>obtain ⟨_,rfl⟩:=ry; cases h; exact EqAt.tuple_int _ _ q0 hu
   | str=>obtain ⟨_,rfl⟩:=ry; cases h; exact EqAt.tuple_str _ _ q0 hu
   | tup p _=>cases h
   | lst p _=>cases ry; cases h; obtain ⟨_,_,q,_⟩:=I.list (sb.seq p); exact EqAt.tuple_list q0 q.isList hu
   | dct=>cases h
   | raw=>cases h
   | xcp=>cases h
   | ins=>cases h
   | at_=>cases h
  | lst p0 _=>
   cases rx
   obtain ⟨_,_,q0,_⟩:=I.list (sb.seq p0)
   cases h2 with
   | non=>cases ry; cases h; exact EqAt.list_none q0.isList hu
   | bl=>cases ry; cases h; exact EqAt.list_bool _ q0.isList hu
   | int=>obtain ⟨_,rfl⟩:=ry; cases h; exact EqAt.list_int _ _ q0.isList hu
   | str=>obtain ⟨_,rfl⟩:=ry; cases h; exact EqAt.list_str _ _ q0.isList hu
   | tup p _=>cases ry; cases h; obtain ⟨_,_,q,_⟩:=I.tuple (qA sb p); exact EqAt.list_tuple q0.isList q hu
   | lst p _=>cases h
   | dct=>cases h
   | raw=>cases h
   | xcp=>cases h
   | ins=>cases h
   | at_=>cases h
  | dct=>cases h2 <;> cases h
  | raw=>cases h2 <;> cases h
  | xcp=>cases h2 <;> cases h
  | ins=>cases h2 <;> cases h
  | at_=>cases h2 <;> cases h
 | succ n ih=>
  intro A v w d e u t b hu h1 h2 rx ry h
  have hu1:A.in1.units+n < cLine:=by show A.units+1+n < cLine; omega
  by_cases both:(∃ xs ys,d=.tup xs/\e=.tup ys)\/(∃ xs ys,d=.lst xs/\e=.lst ys)
  ·rcases both with ⟨ds,es,rfl,rfl⟩ | ⟨ds,es,rfl,rfl⟩
   ·have h1':=h1
    have h2':=h2
    cases h1 with
    | tup p1 t1=>
     cases h2 with
     | tup p2 t2=>
      rename_i a xs c ys
      cases rx
      cases ry
      by_cases ne:a=c
      ·subst ne
       rw [KA I sb (n+1) h1' h2' h]
       exact EqAt.same _
      ·exact EqAt.of_refs ne (Qu I (fun a1 a2 a3 a4 a5=>ih hu1 a1 a2 a3 a4 a5) (qA sb p1) (qA sb p2) t1 t2 h (by omega))
   ·have h1':=h1
    have h2':=h2
    cases h1 with
    | lst p1 t1=>
     cases h2 with
     | lst p2 t2=>
      rename_i a xs c ys
      cases rx
      cases ry
      by_cases ne:a=c
      ·subst ne
       rw [KA I sb (n+1) h1' h2' h]
       exact EqAt.same _
      ·exact EqAt.of_refs ne (Qv I (fun a1 a2 a3 a4 a5=>ih hu1 a1 a2 a3 a4 a5) (sb.seq p1) (sb.seq p2) t1 t2 h (by omega))
  ·have e1:eqN (n+1) d e=eqS d e:=Qt (fun xs ys a1 a2=>both (.inl ⟨xs,ys,a1,a2⟩)) (fun xs ys a1 a2=>both (.inr ⟨xs,ys,a1,a2⟩))
   have e2:eqN n d e=eqS d e:=Qt (fun xs ys a1 a2=>both (.inl ⟨xs,ys,a1,a2⟩)) (fun xs ys a1 a2=>both (.inr ⟨xs,ys,a1,a2⟩))
   exact ih (by omega) h1 h2 rx ry (by rw [e2,<-e1]; exact h)
end
end L2.D2
namespace L2.D2
open PySem PySem.Spec PyProof.Rows
open PySem.SeqAt
section
variable {X:Cx} {pins:List (Addr×Obj)} {σ:St} {F H:Hp} {s:Shared}
theorem WB {A:Around} {n:Nat} {a c:Addr} {xs ys:List V} {ds es:List D} {b:Bool} (I:Inv X pins σ H s) (ih:∀ {v w:V} {d e:D} {u t:Value} {b:Bool},Is X.K F v d->Is X.K F w e->RelV v u->RelV w t->eqN n d e=some b->EqAt A.in1 s u t b)
  (p1:SqT X.K H a xs) (p2:SqT X.K H c ys) (i1:IsL X.K F xs ds) (i2:IsL X.K F ys es) (h:eqN (n+1) (.tup ds) (.tup es)=some b) (hu:A.units < cLine):RcNeAt A s (.ref a) (.ref c) (!b):=by
 obtain ⟨us,r1,t1,_⟩:=I.tuple p1
 obtain ⟨ws,r2,t2,_⟩:=I.tuple p2
 simp only [eqN] at h
 cases q:kP (eqN n) ds es with
 | none=>rw [q] at h; simp at h
 | some k=>
  rw [q] at h
  have l1:us.toArray.size=ds.length:=by rw [List.size_toArray,<-r1.length,i1.length]
  have l2:ws.toArray.size=es.length:=by rw [List.size_toArray,<-r2.length,i2.length]
  have z:=RcNeAt.tuples (A:=A) t1 t2 hu (vj (A:=A.in1) ih r1 r2 i1 i2 q)
  rw [l1,l2,<-kg q] at z
  have e:b=(k&&ds.length == es.length):=by simpa using h.symm
  rw [e]; exact z
theorem WC {A:Around} {n:Nat} {a c:Addr} {xs ys:List V} {ds es:List D} {b:Bool} (I:Inv X pins σ H s) (ih:∀ {v w:V} {d e:D} {u t:Value} {b:Bool},Is X.K F v d->Is X.K F w e->RelV v u->RelV w t->eqN n d e=some b->EqAt A.in1 s u t b)
  (p1:SqL X.K H a xs) (p2:SqL X.K H c ys) (i1:IsL X.K F xs ds) (i2:IsL X.K F ys es) (h:eqN (n+1) (.lst ds) (.lst es)=some b) (hu:A.units < cLine):RcNeAt A s (.ref a) (.ref c) (!b):=by
 obtain ⟨us,r1,t1,_⟩:=I.list p1
 obtain ⟨ws,r2,t2,_⟩:=I.list p2
 have l1:us.toArray.size=ds.length:=by rw [List.size_toArray,<-r1.length,i1.length]
 have l2:ws.toArray.size=es.length:=by rw [List.size_toArray,<-r2.length,i2.length]
 simp only [eqN] at h
 by_cases hl:ds.length=es.length
 ·rw [if_pos hl] at h
  have z:=RcNeAt.lists (A:=A) t1.isList t2.isList (by omega) hu (vj (A:=A.in1) ih r1 r2 i1 i2 h)
  have e:=kg h
  rw [l1] at z
  rw [e,show min ds.length es.length=ds.length by omega]
  exact z
 ·rw [if_neg hl] at h
  cases h
  exact RcNeAt.lists_lengths t1.isList t2.isList (bne_iff_ne.mpr (by rw [l1,l2]; exact hl)) hu
theorem Zu (I:Inv X pins σ H s) (sb:Same F H) {n:Nat} {A:Around} {v w:V} {d e:D} {u t:Value} {b:Bool} (hu':A.units+n+1 < cLine) (t1:TopIs X.K F H v d) (t2:TopIs X.K F H w e) (rx:RelV v u) (ry:RelV w t) (h:eqN (n+1) d e=some b):RcAt A s u t b:=by
 have hu:A.units < cLine:=by omega
 have ih:∀ {v w:V} {d e:D} {u t:Value} {b:Bool},Is X.K F v d->Is X.K F w e->RelV v u->RelV w t->eqN n d e=some b->EqAt A.in1 s u t b:=fun a1 a2 a3 a4 a5=>KB I sb n (by show A.units+1+n < cLine; omega) a1 a2 a3 a4 a5
 cases d with
 | non  =>
  obtain rfl:=t1.non; cases rx
  cases e with
  | non  => obtain rfl:=t2.non; cases ry; cases h; exact RcAt.none_none 
  | bl y=>obtain rfl:=t2.bl; cases ry; cases h; exact RcAt.none_bool _
  | int y=>obtain rfl:=t2.int; obtain ⟨_,rfl⟩:=ry; cases h; exact RcAt.none_int _ _
  | str y=>obtain ⟨rfl,_⟩:=t2.str; obtain ⟨_,rfl⟩:=ry; cases h; exact RcAt.none_str _ _
  | tup y=>obtain ⟨c,ys,rfl,p2,i2⟩:=t2.tup sb; cases ry; obtain ⟨_,_,q2,_⟩:=I.tuple p2; cases h; exact RcAt.none_tuple  q2 hu
  | lst y=>obtain ⟨c,ys,rfl,p2,i2⟩:=t2.lst sb; cases ry; obtain ⟨_,_,q2,_⟩:=I.list p2; cases h; exact RcAt.none_list  q2.isList hu
  | dct y=>cases h
  | raw y=>cases h
  | xcp y=>cases h
  | ins y z=>cases h
  | at_ y z=>cases h
 | bl x=>
  obtain rfl:=t1.bl; cases rx
  cases e with
  | non  => obtain rfl:=t2.non; cases ry; cases h; exact RcAt.bool_none _
  | bl y=>obtain rfl:=t2.bl; cases ry; cases h; exact RcAt.bool_bool _ _
  | int y=>obtain rfl:=t2.int; obtain ⟨_,rfl⟩:=ry; cases h; exact RcAt.bool_int _ _ _
  | str y=>obtain ⟨rfl,_⟩:=t2.str; obtain ⟨_,rfl⟩:=ry; cases h; exact RcAt.bool_str _ _ _
  | tup y=>obtain ⟨c,ys,rfl,p2,i2⟩:=t2.tup sb; cases ry; obtain ⟨_,_,q2,_⟩:=I.tuple p2; cases h; exact RcAt.bool_tuple _ q2 hu
  | lst y=>obtain ⟨c,ys,rfl,p2,i2⟩:=t2.lst sb; cases ry; obtain ⟨_,_,q2,_⟩:=I.list p2; cases h; exact RcAt.bool_list _ q2.isList hu
  | dct y=>cases h
  | raw y=>cases h
  | xcp y=>cases h
  | ins y z=>cases h
  | at_ y z=>cases h
 | int x=>
  obtain rfl:=t1.int; obtain ⟨_,rfl⟩:=rx
  cases e with
  | non  => obtain rfl:=t2.non; cases ry; cases h; exact RcAt.int_none _ _
  | bl y=>obtain rfl:=t2.bl; cases ry; cases h; exact RcAt.int_bool _ _ _
  | int y=>obtain rfl:=t2.int; obtain ⟨_,rfl⟩:=ry; cases h; exact RcAt.int_int _ _ _ _
  | str y=>obtain ⟨rfl,_⟩:=t2.str; obtain ⟨_,rfl⟩:=ry; cases h; exact RcAt.int_str _ _ _ _
  | tup y=>obtain ⟨c,ys,rfl,p2,i2⟩:=t2.tup sb; cases ry; obtain ⟨_,_,q2,_⟩:=I.tuple p2; cases h; exact RcAt.int_tuple _ _ q2 hu
  | lst y=>obtain ⟨c,ys,rfl,p2,i2⟩:=t2.lst sb; cases ry; obtain ⟨_,_,q2,_⟩:=I.list p2; cases h; exact RcAt.int_list _ _ q2.isList hu
  | dct y=>cases h
  | raw y=>cases h
  | xcp y=>cases h
  | ins y z=>cases h
  | at_ y z=>cases h
 | str x=>
  obtain ⟨rfl,_⟩:=t1.str; obtain ⟨_,rfl⟩:=rx
  cases e with
  | non  => obtain rfl:=t2.non; cases ry; cases h; exact RcAt.str_none _ _
  | bl y=>obtain rfl:=t2.bl; cases ry; cases h; exact RcAt.str_bool _ _ _
  | int y=>obtain rfl:=t2.int; obtain ⟨_,rfl⟩:=ry; cases h; exact RcAt.str_int _ _ _ _
  | str y=>obtain ⟨rfl,_⟩:=t2.str; obtain ⟨_,rfl⟩:=ry; cases h; exact RcAt.str_str _ _ _ _
  | tup y=>obtain ⟨c,ys,rfl,p2,i2⟩:=t2.tup sb; cases ry; obtain ⟨_,_,q2,_⟩:=I.tuple p2; cases h; exact RcAt.str_tuple _ _ q2 hu
  | lst y=>obtain ⟨c,ys,rfl,p2,i2⟩:=t2.lst sb; cases ry; obtain ⟨_,_,q2,_⟩:=I.list p2; cases h; exact RcAt.str_list _ _ q2.isList hu
  | dct y=>cases h
  | raw y=>cases h
  | xcp y=>cases h
  | ins y z=>cases h
  | at_ y z=>cases h
 | tup x=>
  obtain ⟨a,xs,rfl,p1,i1⟩:=t1.tup sb; cases rx; obtain ⟨_,_,q1,_⟩:=I.tuple p1
  cases e with
  | non  => obtain rfl:=t2.non; cases ry; cases h; exact RcAt.tuple_none  q1 hu
  | bl y=>obtain rfl:=t2.bl; cases ry; cases h; exact RcAt.tuple_bool _ q1 hu
  | int y=>obtain rfl:=t2.int; obtain ⟨_,rfl⟩:=ry; cases h; exact RcAt.tuple_int _ _ q1 hu
  | str y=>obtain ⟨rfl,_⟩:=t2.str; obtain ⟨_,rfl⟩:=ry; cases h; exact RcAt.tuple_str _ _ q1 hu
  | tup y=>obtain ⟨c,ys,rfl,p2,i2⟩:=t2.tup sb; cases ry; obtain ⟨_,_,q2,_⟩:=I.tuple p2; exact Qu I ih p1 p2 i1 i2 h hu
  | lst y=>obtain ⟨c,ys,rfl,p2,i2⟩:=t2.lst sb; cases ry; obtain ⟨_,_,q2,_⟩:=I.list p2; cases h; exact RcAt.tuple_list q1 q2.isList hu
  | dct y=>cases h
  | raw y=>cases h
  | xcp y=>cases h
  | ins y z=>cases h
  | at_ y z=>cases h
 | lst x=>
  obtain ⟨a,xs,rfl,p1,i1⟩:=t1.lst sb; cases rx; obtain ⟨_,_,q1,_⟩:=I.list p1
  cases e with
  | non  => obtain rfl:=t2.non; cases ry; cases h; exact RcAt.list_none  q1.isList hu
  | bl y=>obtain rfl:=t2.bl; cases ry; cases h; exact RcAt.list_bool _ q1.isList hu
  | int y=>obtain rfl:=t2.int; obtain ⟨_,rfl⟩:=ry; cases h; exact RcAt.list_int _ _ q1.isList hu
  | str y=>obtain ⟨rfl,_⟩:=t2.str; obtain ⟨_,rfl⟩:=ry; cases h; exact RcAt.list_str _ _ q1.isList hu
  | tup y=>obtain ⟨c,ys,rfl,p2,i2⟩:=t2.tup sb; cases ry; obtain ⟨_,_,q2,_⟩:=I.tuple p2; cases h; exact RcAt.list_tuple q1.isList q2 hu
  | lst y=>obtain ⟨c,ys,rfl,p2,i2⟩:=t2.lst sb; cases ry; obtain ⟨_,_,q2,_⟩:=I.list p2; exact Qv I ih p1 p2 i1 i2 h hu
  | dct y=>cases h
  | raw y=>cases h
  | xcp y=>cases h
  | ins y z=>cases h
  | at_ y z=>cases h
 | dct x=>cases e <;> cases h
 | raw x=>cases e <;> cases h
 | xcp x=>cases e <;> cases h
 | ins x z=>cases e <;> cases h
 | at_ x z=>cases e <;> cases h
theorem Zv (I:Inv X pins σ H s) (sb:Same F H) {n:Nat} {A:Around} {v w:V} {d e:D} {u t:Value} {b:Bool} (hu':A.units+n+1 < cLine) (t1:TopIs X.K F H v d) (t2:TopIs X.K F H w e) (rx:RelV v u) (ry:RelV w t) (h:eqN (n+1) d e=some b):RcNeAt A s u t (!b):=by
 have hu:A.units < cLine:=by omega
 have ih:∀ {v w:V} {d e:D} {u t:Value} {b:Bool},Is X.K F v d->Is X.K F w e->RelV v u->RelV w t->eqN n d e=some b->EqAt A.in1 s u t b:=fun a1 a2 a3 a4 a5=>KB I sb n (by show A.units+1+n < cLine; omega) a1 a2 a3 a4 a5
 cases d with
 | non  =>
  obtain rfl:=t1.non; cases rx
  cases e with
  | non  => obtain rfl:=t2.non; cases ry; cases h; exact RcNeAt.none_none 
  | bl y=>obtain rfl:=t2.bl; cases ry; cases h; exact RcNeAt.none_bool _
  | int y=>obtain rfl:=t2.int; obtain ⟨_,rfl⟩:=ry; cases h; exact RcNeAt.none_int _ _
  | str y=>obtain ⟨rfl,_⟩:=t2.str; obtain ⟨_,rfl⟩:=ry; cases h; exact RcNeAt.none_str _ _
  | tup y=>obtain ⟨c,ys,rfl,p2,i2⟩:=t2.tup sb; cases ry; obtain ⟨_,_,q2,_⟩:=I.tuple p2; cases h; exact RcNeAt.none_tuple  q2 hu
  | lst y=>obtain ⟨c,ys,rfl,p2,i2⟩:=t2.lst sb; cases ry; obtain ⟨_,_,q2,_⟩:=I.list p2; cases h; exact RcNeAt.none_list  q2.isList hu
  | dct y=>cases h
  | raw y=>cases h
  | xcp y=>cases h
  | ins y z=>cases h
  | at_ y z=>cases h
 | bl x=>
  obtain rfl:=t1.bl; cases rx
  cases e with
  | non  => obtain rfl:=t2.non; cases ry; cases h; exact RcNeAt.bool_none _
  | bl y=>obtain rfl:=t2.bl; cases ry; cases h; exact RcNeAt.bool_bool _ _
  | int y=>obtain rfl:=t2.int; obtain ⟨_,rfl⟩:=ry; cases h; exact RcNeAt.bool_int _ _ _
  | str y=>obtain ⟨rfl,_⟩:=t2.str; obtain ⟨_,rfl⟩:=ry; cases h; exact RcNeAt.bool_str _ _ _
  | tup y=>obtain ⟨c,ys,rfl,p2,i2⟩:=t2.tup sb; cases ry; obtain ⟨_,_,q2,_⟩:=I.tuple p2; cases h; exact RcNeAt.bool_tuple _ q2 hu
  | lst y=>obtain ⟨c,ys,rfl,p2,i2⟩:=t2.lst sb; cases ry; obtain ⟨_,_,q2,_⟩:=I.list p2; cases h; exact RcNeAt.bool_list _ q2.isList hu
  | dct y=>cases h
  | raw y=>cases h
  | xcp y=>cases h
  | ins y z=>cases h
  | at_ y z=>cases h
 | int x=>
  obtain rfl:=t1.int; obtain ⟨_,rfl⟩:=rx
  cases e with
  | non  => obtain rfl:=t2.non; cases ry; cases h; exact RcNeAt.int_none _ _
  | bl y=>obtain rfl:=t2.bl; cases ry; cases h; exact RcNeAt.int_bool _ _ _
  | int y=>obtain rfl:=t2.int; obtain ⟨_,rfl⟩:=ry; cases h; exact RcNeAt.int_int _ _ _ _
  | str y=>obtain ⟨rfl,_⟩:=t2.str; obtain ⟨_,rfl⟩:=ry; cases h; exact RcNeAt.int_str _ _ _ _
  | tup y=>obtain ⟨c,ys,rfl,p2,i2⟩:=t2.tup sb; cases ry; obtain ⟨_,_,q2,_⟩:=I.tuple p2; cases h; exact RcNeAt.int_tuple _ _ q2 hu
  | lst y=>obtain ⟨c,ys,rfl,p2,i2⟩:=t2.lst sb; cases ry; obtain ⟨_,_,q2,_⟩:=I.list p2; cases h; exact RcNeAt.int_list _ _ q2.isList hu
  | dct y=>cases h
  | raw y=>cases h
  | xcp y=>cases h
  | ins y z=>cases h
  | at_ y z=>cases h
 | str x=>
  obtain ⟨rfl,_⟩:=t1.str; obtain ⟨_,rfl⟩:=rx
  cases e with
  | non  => obtain rfl:=t2.non; cases ry; cases h; exact RcNeAt.str_none _ _
  | bl y=>obtain rfl:=t2.bl; cases ry; cases h; exact RcNeAt.str_bool _ _ _
  | int y=>obtain rfl:=t2.int; obtain ⟨_,rfl⟩:=ry; cases h; exact RcNeAt.str_int _ _ _ _
  | str y=>obtain ⟨rfl,_⟩:=t2.str; obtain ⟨_,rfl⟩:=ry; cases h; exact RcNeAt.str_str _ _ _ _
  | tup y=>obtain ⟨c,ys,rfl,p2,i2⟩:=t2.tup sb; cases ry; obtain ⟨_,_,q2,_⟩:=I.tuple p2; cases h; exact RcNeAt.str_tuple _ _ q2 hu
  | lst y=>obtain ⟨c,ys,rfl,p2,i2⟩:=t2.lst sb; cases ry; obtain ⟨_,_,q2,_⟩:=I.list p2; cases h; exact RcNeAt.str_list _ _ q2.isList hu
  | dct y=>cases h
  | raw y=>cases h
  | xcp y=>cases h
  | ins y z=>cases h
  | at_ y z=>cases h
 | tup x=>
  obtain ⟨a,xs,rfl,p1,i1⟩:=t1.tup sb; cases rx; obtain ⟨_,_,q1,_⟩:=I.tuple p1
  cases e with
  | non  => obtain rfl:=t2.non; cases ry; cases h; exact RcNeAt.tuple_none  q1 hu
  | bl y=>obtain rfl:=t2.bl; cases ry; cases h; exact RcNeAt.tuple_bool _ q1 hu
  | int y=>obtain rfl:=t2.int; obtain ⟨_,rfl⟩:=ry; cases h; exact RcNeAt.tuple_int _ _ q1 hu
  | str y=>obtain ⟨rfl,_⟩:=t2.str; obtain ⟨_,rfl⟩:=ry; cases h; exact RcNeAt.tuple_str _ _ q1 hu
  | tup y=>obtain ⟨c,ys,rfl,p2,i2⟩:=t2.tup sb; cases ry; obtain ⟨_,_,q2,_⟩:=I.tuple p2; exact WB I ih p1 p2 i1 i2 h hu
  | lst y=>obtain ⟨c,ys,rfl,p2,i2⟩:=t2.lst sb; cases ry; obtain ⟨_,_,q2,_⟩:=I.list p2; cases h; exact RcNeAt.tuple_list q1 q2.isList hu
  | dct y=>cases h
  | raw y=>cases h
  | xcp y=>cases h
  | ins y z=>cases h
  | at_ y z=>cases h
 | lst x=>
  obtain ⟨a,xs,rfl,p1,i1⟩:=t1.lst sb; cases rx; obtain ⟨_,_,q1,_⟩:=I.list p1
  cases e with
  | non  => obtain rfl:=t2.non; cases ry; cases h; exact RcNeAt.list_none  q1.isList hu
  | bl y=>obtain rfl:=t2.bl; cases ry; cases h; exact RcNeAt.list_bool _ q1.isList hu
  | int y=>obtain rfl:=t2.int; obtain ⟨_,rfl⟩:=ry; cases h; exact RcNeAt.list_int _ _ q1.isList hu
  | str y=>obtain ⟨rfl,_⟩:=t2.str; obtain ⟨_,rfl⟩:=ry; cases h; exact RcNeAt.list_str _ _ q1.isList hu
  | tup y=>obtain ⟨c,ys,rfl,p2,i2⟩:=t2.tup sb; cases ry; obtain ⟨_,_,q2,_⟩:=I.tuple p2; cases h; exact RcNeAt.list_tuple q1.isList q2 hu
  | lst y=>obtain ⟨c,ys,rfl,p2,i2⟩:=t2.lst sb; cases ry; obtain ⟨_,_,q2,_⟩:=I.list p2; exact WC I ih p1 p2 i1 i2 h hu
  | dct y=>cases h
  | raw y=>cases h
  | xcp y=>cases h
  | ins y z=>cases h
  | at_ y z=>cases h
 | dct x=>cases e <;> cases h
 | raw x=>cases e <;> cases h
 | xcp x=>cases e <;> cases h
 | ins x z=>cases e <;> cases h
 | at_ x z=>cases e <;> cases h
end
noncomputable def eqD (a b:D):Out D:=match eqN 8 a b with
 | some c=>.ok (.bl c)
 | none=>.bad
noncomputable def neD (a b:D):Out D:=match eqN 8 a b with
 | some c=>.ok (.bl (!c))
 | none=>.bad
section
variable {X:Cx} {C:Ct}
theorem yq (hK:C.K=X.K) (hu:X.A.units+64 < cLine):OpD X C .sh (compareOp .Eq) eqD:=by
 intro pins s σ H x y v u Q I rx ry h
 obtain ⟨F,dx,dy,sb,tx,ty,po⟩:=h
 rw [hK] at tx ty
 unfold eqD at po
 cases e:eqN 8 dx dy with
 | none=>rw [e] at po; exact po.elim
 | some c=>
  rw [e] at po
  exact Zu I sb (n:=7) (by omega) tx ty rx ry e _ _ _ _ ⟨.bl c,H,I,rfl,po _ F H sb .refl (.bl _)⟩
theorem KC (hK:C.K=X.K) (hu:X.A.units+64 < cLine):OpD X C .sh (compareOp .NotEq) neD:=by
 intro pins s σ H x y v u Q I rx ry h
 obtain ⟨F,dx,dy,sb,tx,ty,po⟩:=h
 rw [hK] at tx ty
 unfold neD at po
 cases e:eqN 8 dx dy with
 | none=>rw [e] at po; exact po.elim
 | some c=>
  rw [e] at po
  exact Zv I sb (n:=7) (by omega) tx ty rx ry e _ _ _ _ ⟨.bl _,H,I,rfl,po _ F H sb .refl (.bl _)⟩
end
end L2.D2
namespace L2.D2
open PySem PySem.Spec PyProof.Rows
open PySem.SeqAt
section
variable {X:Cx} {pins:List (Addr×Obj)} {σ:St} {F H:Hp} {s:Shared}
theorem Yx (I:Inv X pins σ H s) (sb:Same F H):∀ (n:Nat) {v:V} {d d' e:D} {b b':Bool},Is X.K F v d->Is X.K F v d'->eqN n d e=some b->eqN n d' e=some b'->b=b':=by
 have notTL:∀ {a:Addr} {xs ys:List V},SqT X.K F a xs->SqL X.K F a ys->False:=fun p q=>by
  obtain ⟨_,_,q1,_⟩:=I.list (sb.seq q)
  obtain ⟨_,_,q2,_⟩:=I.tuple (qA sb p)
  exact absurd rfl (ne_of_list_tuple q1.isList q2)
 intro n
 induction n with
 | zero=>
  intro v d d' e b b' h1 h2 e1 e2
  have e1:eqS d e=some b:=e1
  have e2:eqS d' e=some b':=e2
  cases h1 <;> cases h2 <;> cases e <;> simp only [eqS] at e1 e2 <;> first
   | (cases e1; cases e2; rfl)
   | (cases e1; done)
   | (cases e2; done)
   | exact (notTL (by assumption) (by assumption)).elim
 | succ n ih=>
  have lists:∀ {xs:List V} {ds ds' es:List D} {b b':Bool},IsL X.K F xs ds->IsL X.K F xs ds'->kP (eqN n) ds es=some b->kP (eqN n) ds' es=some b'->b=b':=by
   intro xs
   induction xs with
   | nil=>intro ds ds' es b b' h1 h2 e1 e2; cases h1; cases h2; simp only [kP] at e1 e2; cases e1; cases e2; rfl
   | cons x xs ihx=>
    intro ds ds' es b b' h1 h2 e1 e2
    cases h1 with
    | cons a1 t1=>
     cases h2 with
     | cons a2 t2=>
      rename_i d ds d' ds'
      cases es with
      | nil=>simp only [kP] at e1 e2; cases e1; cases e2; rfl
      | cons e es=>
       unfold kP at e1 e2
       cases q:eqN n d e with
       | none=>rw [q] at e1; simp at e1
       | some k=>
        cases q2:eqN n d' e with
        | none=>rw [q2] at e2; simp at e2
        | some k'=>
         cases q3:kP (eqN n) ds es with
         | none=>rw [q,q3] at e1; simp at e1
         | some k3=>
          cases q4:kP (eqN n) ds' es with
          | none=>rw [q2,q4] at e2; simp at e2
          | some k4=>
           rw [q,q3] at e1
           rw [q2,q4] at e2
           rw [ih a1 a2 q q2,ihx t1 t2 q3 q4] at e1
           have e1:some (k'&&k4)=some b:=e1
           have e2:some (k'&&k4)=some b':=e2
           rw [e1] at e2
           exact Option.some.inj e2
  intro v d d' e b b' h1 h2 e1 e2
  cases h1 with
  | tup p1 t1=>
   cases h2 with
   | tup p2 t2=>
    have q:=I.tuple_inj (qA sb p1) (qA sb p2)
    subst q
    have hl:=t1.length.symm.trans t2.length
    cases e with
    | tup es=>
     rename_i ds ds'
     simp only [eqN] at e1 e2
     cases q3:kP (eqN n) ds es with
     | none=>rw [q3] at e1; simp at e1
     | some k3=>
      cases q4:kP (eqN n) ds' es with
      | none=>rw [q4] at e2; simp at e2
      | some k4=>
       rw [q3] at e1
       rw [q4] at e2
       rw [lists t1 t2 q3 q4,hl] at e1
       exact Option.some.inj (e1.symm.trans e2)
    | _=>simp only [eqN,eqS] at e1 e2 <;> first | (cases e1; cases e2; rfl) | (cases e1; done)
   | lst p2 t2=>exact (notTL p1 p2).elim
   | _=>cases e <;> simp [eqN,eqS] at e2
  | lst p1 t1=>
   cases h2 with
   | lst p2 t2=>
    have q:=I.list_inj (sb.seq p1) (sb.seq p2)
    subst q
    have hl:=t1.length.symm.trans t2.length
    cases e with
    | lst es=>
     rename_i ds ds'
     simp only [eqN] at e1 e2
     rw [hl] at e1
     by_cases z:ds'.length=es.length
     ·rw [if_pos z] at e1 e2
      exact lists t1 t2 e1 e2
     ·rw [if_neg z] at e1 e2
      exact Option.some.inj (e1.symm.trans e2)
    | _=>simp only [eqN,eqS] at e1 e2 <;> first | (cases e1; cases e2; rfl) | (cases e1; done)
   | tup p2 t2=>exact (notTL p2 p1).elim
   | _=>cases e <;> simp [eqN,eqS] at e2
  | _=>cases h2 <;> cases e <;> simp only [eqN,eqS] at e1 e2 <;> first
   | (cases e1; cases e2; rfl)
   | (cases e1; done)
   | (cases e2; done)
open Classical in
noncomputable def UJ (X:Cx) (F:Hp) (n:Nat) (e:D) (u:Value):Bool:=decide (∃ v d,Is X.K F v d/\RelV v u/\eqN n d e=some true)
open Classical in
theorem Yy (I:Inv X pins σ H s) (sb:Same F H) {n:Nat} {v:V} {d e:D} {u:Value} {b:Bool} (h:Is X.K F v d) (r:RelV v u) (q:eqN n d e=some b):UJ X F n e u=b:=by
 unfold UJ
 cases b with
 | true=>exact decide_eq_true ⟨v,d,h,r,q⟩
 | false=>
  refine decide_eq_false ?_
  rintro ⟨w,d',h',r',q'⟩
  have e:=r.inj r'
  subst e
  exact absurd (Yx I sb n h h' q q') (by decide)
noncomputable def Qw (n:Nat) (e:D):List D->Option Bool
 | []=>some false
 | d::ds=>(eqN n d e).bind fun a=>(Qw n e ds).bind fun b=>some (a||b)
theorem KD {n:Nat} {e d:D} {ds:List D} {b:Bool} (h:Qw n e (d::ds)=some b):∃ a c,eqN n d e=some a/\Qw n e ds=some c/\b=(a||c):=by
 unfold Qw at h
 cases q:eqN n d e with
 | none=>rw [q] at h; simp at h
 | some a=>
  cases q2:Qw n e ds with
  | none=>rw [q,q2] at h; simp at h
  | some c=>rw [q,q2] at h; exact ⟨a,c,rfl,rfl,(Option.some.inj h).symm⟩
theorem KG (I:Inv X pins σ H s) (sb:Same F H) {n:Nat} {e:D}:∀ {vs:List V} {ds:List D} {us:List Value} {b:Bool},IsL X.K F vs ds->Vals vs us->Qw n e ds=some b->us.any (UJ X F n e)=b/\∀ u∈us,∃ v d a,Is X.K F v d/\RelV v u/\eqN n d e=some a/\UJ X F n e u=a
 | _,_,_,b,.nil,.nil,h=>⟨by simpa using (Option.some.inj h),fun u hu=>nomatch hu⟩
 | _,_,_,b,.cons i t,.cons r rs,h=>by
  obtain ⟨a,c,q1,q2,rfl⟩:=KD h
  obtain ⟨ih1,ih2⟩:=KG I sb t rs q2
  have e1:=Yy I sb i r q1
  refine ⟨by rw [List.any_cons,e1,ih1],fun u hu=>?_⟩
  rcases List.mem_cons.mp hu with rfl | hu
  ·exact ⟨_,_,a,i,r,q1,e1⟩
  ·exact ih2 u hu
end
noncomputable def inD (x y:D):Out Bool:=match y with
 | .lst ds=>match Qw 7 x ds with
  | some b=>.ok b
  | none=>.bad
 | .tup ds=>match Qw 7 x ds with
  | some b=>.ok b
  | none=>.bad
 | _=>.bad
noncomputable def Jq (x y:D):Out D:=(inD x y).bind fun b=>.ok (.bl (!b))
theorem TopIs.is {K:Frag} {F H:Hp} {v:V} {d:D} (s:Same F H) (h:TopIs K F H v d):∃ F',Same F F'/\Same F' H/\Is K F' v d:=by
 rcases h with h | ⟨a,rfl,o⟩
 ·exact ⟨F,Same.refl _,s,h⟩
 ·obtain ⟨u,hu⟩:∃ u,H a=some u:=by
   cases q:H a with
   | none=>exact absurd q o.there
   | some u=>exact ⟨u,rfl⟩
  by_cases hF:F a=none
  ·have gr:Same F (upd F a u):=fun b w e=>by rw [qp (qv e hF)]; exact e
   refine ⟨upd F a u,gr,fun b w e=>?_,?_⟩
   ·by_cases q:b=a
    ·subst q; rw [qf] at e; cases e; exact hu
    ·rw [qp q] at e; exact s b w e
   ·cases d with
    | lst ds=>obtain ⟨xs,e,t⟩:=o; rw [hu] at e; cases e; exact .lst (.inl (.inl qf)) (t.mono gr)
    | dct ds=>obtain ⟨xs,e,t⟩:=o; rw [hu] at e; cases e; exact .dct qf (t.mono gr)
    | ins C fs=>obtain ⟨dx,xs,e,t⟩:=o; rw [hu] at e; cases e; exact .ins qf (t.mono gr)
    | at_ b ds=>obtain ⟨eb,xs,e,t⟩:=o; rw [hu] at e; cases e; subst eb; exact .at_ (.inl (.inl qf)) (t.mono gr)
    | _=>exact o.elim
  ·obtain ⟨w,hw⟩:∃ w,F a=some w:=by
    cases q:F a with
    | none=>exact absurd q hF
    | some w=>exact ⟨w,rfl⟩
   have e:=s a w hw
   cases d with
   | lst ds=>obtain ⟨xs,e',t⟩:=o; rw [e'] at e; cases e; exact ⟨F,Same.refl _,s,.lst (.inl (.inl hw)) t⟩
   | dct ds=>obtain ⟨xs,e',t⟩:=o; rw [e'] at e; cases e; exact ⟨F,Same.refl _,s,.dct hw t⟩
   | ins C fs=>obtain ⟨dx,xs,e',t⟩:=o; rw [e'] at e; cases e; exact ⟨F,Same.refl _,s,.ins hw t⟩
   | at_ b ds=>obtain ⟨eb,xs,e',t⟩:=o; rw [e'] at e; cases e; subst eb; exact ⟨F,Same.refl _,s,.at_ (.inl (.inl hw)) t⟩
   | _=>exact o.elim
section
variable {X:Cx} {C:Ct}
theorem UK {pins:List (Addr×Obj)} {σ:St} {F H:Hp} {s:Shared} {A:Around} {y x:V} {dx:D} {ds:List D} {b:Bool} {u v:Value} {a:Addr} {us:List Value} {xs:List V} (I:Inv X pins σ H s) (hu:A.units+64 < cLine) (sb:Same F H) (ix:Is X.K F x dx) (rx:RelV x v)
  (il:IsL X.K F xs ds) (r:Vals xs us) (h:Qw 7 dx ds=some b):us.any (UJ X F 7 dx)=b/\∀ w,w∈us.toArray->EqAt A.in1 s w v (UJ X F 7 dx w):=by
 obtain ⟨h1,h2⟩:=KG I sb il r h
 refine ⟨h1,fun w hw=>?_⟩
 obtain ⟨vv,d,k,i1,r1,q,e⟩:=h2 w (by simpa using hw)
 rw [e]
 exact KB I sb 7 (by show A.units+1+7 < cLine; omega) i1 ix r1 rx q
theorem WD (hK:C.K=X.K) (hu:X.A.units+64 < cLine):OpD X C .sh (compareOp .NotIn) Jq:=by
 intro pins s σ H x y v u Q I rx ry h
 obtain ⟨F,dx,dy,sb,tx,ty,po⟩:=h
 rw [hK] at tx ty
 unfold Jq inD at po
 obtain ⟨F',g',sb',ix⟩:=tx.is sb
 cases dy with
 | lst ds=>
  cases e:Qw 7 dx ds with
  | none=>simp only [e] at po; exact po.elim
  | some b=>
   simp only [e] at po
   obtain ⟨a,xs,rfl,p,il⟩:=ty.lst sb
   cases ry
   obtain ⟨us,r,pl,_⟩:=I.list p
   obtain ⟨h1,h2⟩:=UK (A:=X.A) (y:=.non) (a:=a) (u:=.none) I hu sb' ix rx (il.mono g') r e
   refine notIn_listAt (UJ X F' 7 dx) pl.isList h2 ⟨.bl (!b),H,I,by show _=_; rw [<-h1]; simp,po _ F H sb .refl (.bl _)⟩
 | tup ds=>
  cases e:Qw 7 dx ds with
  | none=>simp only [e] at po; exact po.elim
  | some b=>
   simp only [e] at po
   obtain ⟨a,xs,rfl,p,il⟩:=ty.tup sb
   cases ry
   obtain ⟨us,r,pl,_⟩:=I.tuple p
   obtain ⟨h1,h2⟩:=UK (A:=X.A) (y:=.non) (a:=a) (u:=.none) I hu sb' ix rx (il.mono g') r e
   refine notIn_tupleAt (UJ X F' 7 dx) pl h2 ⟨.bl (!b),H,I,by show _=_; rw [<-h1]; simp,po _ F H sb .refl (.bl _)⟩
 | _=>exact po.elim
end
end L2.D2
namespace L2.D2
open PySem PySem.Spec PyProof.Rows
def PoT (C:Ct) (own:List Nat) (σ:St) (F H:Hp) (r:Out (Bool×Sl)) (Q:Bool->Hp->Prop):Prop:=match r with
 | .ok (b,ρ')=>∀ F' H',Rep C.K own F' H' σ ρ'->Chg (OA own σ) F H F' H'->Q b H'
 | .exc c ρ'=>∀ F' H',Same F' H'->JU C.K C.ox F' H' σ ρ'->Chg (OA own σ) F H F' H'->C.E (C.cv c) none H'
 | .bad=>False
def tT (C:Ct) (own:List Nat) (f:Sl->Out (Bool×Sl)):TT:=fun σ H Q=>∃ F ρ,Rep C.K own F H σ ρ/\PoT C own σ F H (f ρ) Q
theorem PoT.shift {C:Ct} {own:List Nat} {σ:St} {F H F1 H1:Hp} {r:Out (Bool×Sl)} {Q:Bool->Hp->Prop} (h:PoT C own σ F H r Q) (c:Chg (OA own σ) F H F1 H1):PoT C own σ F1 H1 r Q:=by
 cases r with
 | ok p=>exact fun F' H' rp c'=>h F' H' rp (c.trans' c')
 | exc x=>exact fun F' H' s io c'=>h F' H' s io (c.trans' c')
 | bad=>exact h.elim
theorem PoT.bindV {C:Ct} {own:List Nat} {ma:Mo} {σ:St} {F H:Hp} {o:Out (D×Sl)} {k:D×Sl->Out (Bool×Sl)} {Q:Bool->Hp->Prop} {R:VK} (hp:PoT C own σ F H (o.bind k) Q)
  (h:∀ v F1 H1 d ρ1,Rep C.K own F1 H1 σ ρ1->Chg (OA own σ) F H F1 H1->MoIs C.K ma H F1 H1 v d->PoT C own σ F1 H1 (k (d,ρ1)) Q->R v H1):Po C own ma σ F H o R:=by
 cases o with
 | ok p=>
  obtain ⟨d,ρ1⟩:=p
  exact fun v F1 H1 rp c mo=>h v F1 H1 d ρ1 rp c mo (PoT.shift (show PoT C own σ F H (k (d,ρ1)) Q from hp) c)
 | exc x=>exact hp
 | bad=>exact hp.elim
theorem PoT.bindT {C:Ct} {own:List Nat} {σ:St} {F H:Hp} {o:Out (Bool×Sl)} {k:Bool×Sl->Out (Bool×Sl)} {Q R:Bool->Hp->Prop} (hp:PoT C own σ F H (o.bind k) Q)
  (h:∀ F1 H1 b ρ1,Rep C.K own F1 H1 σ ρ1->Chg (OA own σ) F H F1 H1->PoT C own σ F1 H1 (k (b,ρ1)) Q->R b H1):PoT C own σ F H o R:=by
 cases o with
 | ok p=>
  obtain ⟨d,ρ1⟩:=p
  exact fun F1 H1 rp c=>h F1 H1 d ρ1 rp c (PoT.shift (show PoT C own σ F H (k (d,ρ1)) Q from hp) c)
 | exc x=>exact hp
 | bad=>exact hp.elim
theorem Po.bindT {C:Ct} {own:List Nat} {m:Mo} {σ:St} {F H:Hp} {o:Out (Bool×Sl)} {k:Bool×Sl->Out (D×Sl)} {Q:VK} {R:Bool->Hp->Prop} (hp:Po C own m σ F H (o.bind k) Q)
  (h:∀ F1 H1 b ρ1,Rep C.K own F1 H1 σ ρ1->Chg (OA own σ) F H F1 H1->Po C own m σ F1 H1 (k (b,ρ1)) Q->R b H1):PoT C own σ F H o R:=by
 cases o with
 | ok p=>
  obtain ⟨d,ρ1⟩:=p
  exact fun F1 H1 rp c=>h F1 H1 d ρ1 rp c (Po.shift (show Po C own m σ F H (k (d,ρ1)) Q from hp) c)
 | exc x=>exact hp
 | bad=>exact hp.elim
noncomputable def Jr:D->Out Bool
 | .non=>.ok false
 | .bl b=>.ok b
 | .int i=>.ok (i != 0)
 | .str x=>.ok ((x.length:Int) != 0)
 | .tup xs=>.ok (!xs.isEmpty)
 | .lst xs=>.ok (!xs.isEmpty)
 | .dct xs=>.ok (!xs.isEmpty)
 | .raw _=>.bad
 | .xcp _=>.bad
 | .ins _ _=>.bad
 | .at_ _ _=>.bad
noncomputable def JW (f:Sl->Out (D×Sl)):Sl->Out (Bool×Sl):=fun ρ=>(f ρ).bind fun p=>(Jr p.1).bind fun b=>.ok (b,p.2)
theorem IsL.isEmpty {K:Frag} {F:Hp} {vs:List V} {ds:List D} (h:IsL K F vs ds):vs.isEmpty=ds.isEmpty:=by cases h <;> rfl
theorem IsK.isEmpty {K:Frag} {F:Hp} {vs:List (Key×V)} {ds:List (Key×D)} (h:IsK K F vs ds):vs.isEmpty=ds.isEmpty:=by cases h <;> rfl
theorem Yz {K:Frag} {F H:Hp} {v:V} {d:D} {b:Bool} (s:Same F H) (h:TopIs K F H v d) (e:Jr d=.ok b):qaf K v H b:=by
 cases d with
 | non=>obtain rfl:=h.non; cases e; rfl
 | bl x=>obtain rfl:=h.bl; cases e; rfl
 | int x=>obtain rfl:=h.int; cases e; rfl
 | str x=>obtain ⟨rfl,q⟩:=h.str; cases e; exact ⟨q,rfl⟩
 | tup x=>obtain ⟨a,xs,rfl,p,t⟩:=h.tup s; cases e; exact .inr (.inl ⟨xs,p,by rw [t.isEmpty]⟩)
 | lst x=>obtain ⟨a,xs,rfl,p,t⟩:=h.lst s; cases e; exact .inl ⟨xs,p,by rw [t.isEmpty]⟩
 | dct x=>obtain ⟨a,xs,rfl,p,t⟩:=h.dct s; cases e; exact .inr (.inr ⟨xs,p,by rw [t.isEmpty]⟩)
 | raw x=>cases e
 | xcp x=>cases e
 | ins x y=>cases e
 | at_ x y=>cases e
noncomputable def kh (f:Sl->Out (D×Sl)):Sl->Out (Bool×Sl):=fun ρ=>(f ρ).bind fun p=>match p.1 with
 | .bl b=>.ok (b,p.2)
 | _=>.bad
section
variable {X:Cx} {C:Ct} {own:List Nat} {a b c e:Expr} {f fa fb fc:Sl->Out (D×Sl)} {ft fu:Sl->Out (Bool×Sl)} {m ma mb mc:Mo} {pos:Pos} {rest:List Expr}
theorem jT (hK:C.K=X.K) (h:PE X e (tE C own m f)) (he:∀ whole,isTrue e X.env whole=(do let v <-whole; standAt e.pos; holding [v] (truthy v))):PT X e (tT C own (JW f)):=by
 refine Wz (Wt h he) fun σ H Q ⟨F,ρ,rp,h⟩=>⟨F,ρ,rp,PoT.bindV h fun v F1 H1 d ρ1 rp1 c1 mo1 h1=>?_⟩
 cases q:Jr d with
 | ok k=>
  have h1:PoT C own σ F1 H1 ((Jr d).bind fun b=>.ok (b,ρ1)) Q:=h1
  rw [q] at h1
  exact ⟨k,by rw [<-hK]; exact Yz rp1.sub mo1.top q,h1 F1 H1 rp1 .refl⟩
 | exc x=>
  have h1:PoT C own σ F1 H1 ((Jr d).bind fun b=>.ok (b,ρ1)) Q:=h1
  cases d <;> cases q
 | bad=>
  have h1:PoT C own σ F1 H1 ((Jr d).bind fun b=>.ok (b,ρ1)) Q:=h1
  rw [q] at h1
  exact h1.elim
theorem KH {σ:St} {H:Hp} {Q:Bool->Hp->Prop} (h:tT C own (kh f) σ H Q):tE C own .sh f σ H fun x H'=>∃ k,x=.bl k/\Q k H':=by
 obtain ⟨F,ρ,rp,h⟩:=h
 refine ⟨F,ρ,rp,PoT.bindV h fun v F1 H1 d ρ1 rp1 c1 mo1 h1=>?_⟩
 cases d with
 | bl k=>
  have mo1:Is C.K F1 v (.bl k):=mo1
  cases mo1
  exact ⟨k,rfl,h1 F1 H1 rp1 .refl⟩
 | _=>exact h1.elim
theorem jB {op:CmpOp} {g:D->D->Out D} (ho:OpD X C .sh (compareOp op) g) (ha:PE X a (tE C own ma fa)) (hb:PE X b (tE C own mb fb)) (hma:ma≠.any:=by decide)
  (hk:behindInMarks op b=false:=by first | exact UG _ | with_unfolding_all rfl):PT X (.Compare a [op] [b] pos) (tT C own (kh (d2 g fa fb))):=by
 refine Wz (Yk ho ha hb hk) fun σ H Q h=>?_
 exact zj hma (KH h)
noncomputable def JY (ft:Sl->Out (Bool×Sl)):Sl->Out (Bool×Sl):=fun ρ=>(ft ρ).bind fun p=>.ok (!p.1,p.2)
theorem jU (h:PT X a (tT C own ft)):PT X (.UnaryOp .Not a pos) (tT C own (JY ft)):=by
 refine Wz (XT h) fun σ H Q ⟨F,ρ,rp,h⟩=>⟨F,ρ,rp,PoT.bindT h fun F1 H1 b ρ1 rp1 c1 h1=>h1 F1 H1 rp1 .refl⟩
theorem qan {e:Expr} {t t':TT} (h:PW X e t) (i:∀ σ H Q,t' σ H Q->t σ H Q):PW X e t':=⟨fun wh pins s σ H Q I hw=>h wh pins s σ H Q I (i σ H Q hw)⟩
noncomputable def qbG (ft fu:Sl->Out (Bool×Sl)):Sl->Out (Bool×Sl):=fun ρ=>(ft ρ).bind fun p=>if p.1=true then fu p.2 else .ok (false,p.2)
noncomputable def dOr (ft fu:Sl->Out (Bool×Sl)):Sl->Out (Bool×Sl):=fun ρ=>(ft ρ).bind fun p=>if p.1=true then .ok (true,p.2) else fu p.2
theorem wo {op} (h:PT X a (tT C own ft)):PW X (.BoolOp op [a] pos) (tT C own ft):=by
 cases op
 ·exact Yd h
 ·exact XS h
theorem yA (ha:PT X a (tT C own ft)) (hb:PW X (.BoolOp .Or (b::rest) pos) (tT C own fu)):PW X (.BoolOp .Or (a::b::rest) pos) (tT C own (dOr ft fu)):=by
 refine qan (GQ ha hb) fun σ H Q ⟨F,ρ,rp,h⟩=>⟨F,ρ,rp,PoT.bindT h fun F1 H1 k ρ1 rp1 c1 h1=>?_⟩
 cases k with
 | true=>exact h1 F1 H1 rp1 .refl
 | false=>exact ⟨F1,ρ1,rp1,h1⟩
noncomputable def yX (fa fb:Sl->Out (D×Sl)):Sl->Out (D×Sl):=fun ρ=>(fa ρ).bind fun p=>match p.1 with
 | .bl true=>fb p.2
 | .bl false=>.ok (.bl false,p.2)
 | _=>.bad
noncomputable def Gw (fa fb:Sl->Out (D×Sl)):Sl->Out (D×Sl):=fun ρ=>(fa ρ).bind fun p=>match p.1 with
 | .bl true=>.ok (.bl true,p.2)
 | .bl false=>fb p.2
 | _=>.bad
theorem zm {op} (h:PE X a (tE C own m f)):PE X (.BoolOp op [a] pos) (tE C own m f):=XU h
theorem yB (ha:PE X a (tE C own .sh fa)) (hb:PE X (.BoolOp .And (b::rest) pos) (tE C own .sh fb)):PE X (.BoolOp .And (a::b::rest) pos) (tE C own .sh (yX fa fb)):=by
 refine qS (XV ha hb) fun σ H Q ⟨F,ρ,rp,h⟩=>⟨F,ρ,rp,Po.bind h fun v F1 H1 d ρ1 rp1 c1 mo1 h1=>?_⟩
 cases d with
 | bl k=>
  have mo1:Is C.K F1 v (.bl k):=mo1
  cases mo1
  refine ⟨k,rfl,?_⟩
  cases k with
  | true=>exact ⟨F1,ρ1,rp1,h1⟩
  | false=>exact h1 _ F1 H1 rp1 .refl (.bl _)
 | _=>exact h1.elim
theorem qao (ha:PE X a (tE C own .sh fa)) (hb:PE X (.BoolOp .Or (b::rest) pos) (tE C own .sh fb)):PE X (.BoolOp .Or (a::b::rest) pos) (tE C own .sh (Gw fa fb)):=by
 refine qS (GS ha hb) fun σ H Q ⟨F,ρ,rp,h⟩=>⟨F,ρ,rp,Po.bind h fun v F1 H1 d ρ1 rp1 c1 mo1 h1=>?_⟩
 cases d with
 | bl k=>
  have mo1:Is C.K F1 v (.bl k):=mo1
  cases mo1
  refine ⟨k,rfl,?_⟩
  cases k with
  | true=>exact h1 _ F1 H1 rp1 .refl (.bl _)
  | false=>exact ⟨F1,ρ1,rp1,h1⟩
 | _=>exact h1.elim
noncomputable def dIf (ft:Sl->Out (Bool×Sl)) (fa fb:Sl->Out (D×Sl)):Sl->Out (D×Sl):=fun ρ=>(ft ρ).bind fun p=>if p.1=true then fa p.2 else fb p.2
theorem qap {t:Expr} (ht:PT X t (tT C own ft)) (ha:PE X a (tE C own ma fa)) (hb:PE X b (tE C own mb fb)) (h1:ma≠.any:=by decide) (h2:mb≠.any:=by decide):PE X (.IfExp t a b pos) (tE C own .sh (dIf ft fa fb)):=by
 refine qS (Wm ht (wn ha h1) (wn hb h2)) fun σ H Q ⟨F,ρ,rp,h⟩=>⟨F,ρ,rp,Po.bindT h fun F1 H1 k ρ1 rp1 c1 h1=>?_⟩
 cases k with
 | true=>exact ⟨F1,ρ1,rp1,h1⟩
 | false=>exact ⟨F1,ρ1,rp1,h1⟩
noncomputable def vO (g g':D->D->Out D) (fa fb fc:Sl->Out (D×Sl)):Sl->Out (D×Sl):=fun ρ=>(fa ρ).bind fun p=>(fb p.2).bind fun q=>(g p.1 q.1).plain.bind fun z=>match z with
 | .bl true=>(fc q.2).bind fun r=>(g' q.1 r.1).plain.bind fun d=>.ok (d,r.2)
 | .bl false=>.ok (.bl false,q.2)
 | _=>.bad
theorem PoV.bind {σ:St} {F H:Hp} {o:Out D} {k:D->Out (D×Sl)} {Q R:VK} {ρ:Sl} (rp:Rep C.K own F H σ ρ) (h:Po C own m σ F H (o.plain.bind k) Q)
  (hk:∀ v F1 H1 d,Rep C.K own F1 H1 σ ρ->Chg No F H F1 H1->MoIs C.K ma H F1 H1 v d->Po C own m σ F1 H1 (k d) Q->R v H1):PoV C ma F H o R:=by
 cases o with
 | ok d=>exact fun v F1 H1 s c mo=>hk v F1 H1 d (rp.grow c s) c mo (Po.shift (show Po C own m σ F H (k d) Q from h) c.ofNo)
 | exc c=>exact h.elim
 | bad=>exact h.elim
theorem Qx {g g':D->D->Out D} {σ:St} {H:Hp} {Q:VK} (hma:ma≠.any) (hmb:mb≠.any) (h:tE C own .sh (vO g g' fa fb fc) σ H Q) :
  Kh (fun x y H Q=>∃ F dx dy,Same F H/\TopIs C.K F H x dx/\TopIs C.K F H y dy/\PoV C .sh F H (g dx dy) Q) (fun x y H Q=>∃ F dx dy,Same F H/\TopIs C.K F H x dx/\TopIs C.K F H y dy/\PoV C .sh F H (g' dx dy) Q)
   (tE C own ma fa) (tE C own mb fb) (tE C own mc fc) σ H Q:=by
 obtain ⟨F,ρ,rp,h⟩:=h
 refine ⟨F,ρ,rp,Po.bind h fun v F1 H1 d ρ1 rp1 c1 mo1 h1=>⟨F1,ρ1,rp1,Po.bind h1 fun w F2 H2 e ρ2 rp2 c2 mo2 h2=>?_⟩⟩
 have oa:∀ x,OA own σ x->H x≠none:=fun x z=>(rp.OA_there z).1
 have oa1:∀ x,OA own σ x->H1 x≠none:=fun x z=>(rp1.OA_there z).1
 refine ⟨F2,d,e,rp2.sub,(mo1.grow hma c2 oa).top,mo2.top,PoV.bind (m:=.sh) rp2 h2 fun z F3 H3 dz rp3 c3 mo3 h3=>?_⟩
 cases dz with
 | bl k=>
  have mo3:Is C.K F3 z (.bl k):=mo3
  cases mo3
  refine ⟨k,rfl,?_⟩
  cases k with
  | true=>
   refine ⟨F3,ρ2,rp3,Po.bind h3 fun w' F4 H4 r ρ4 rp4 c4 mo4 h4=>?_⟩
   exact ⟨F4,e,r,rp4.sub,((mo2.grow hmb (c3.ofNo) oa1).grow hmb c4 oa1).top,mo4.top,PoV.of rp4 h4⟩
  | false=>exact h3 _ F3 H3 rp3 .refl (.bl _)
 | _=>exact h3.elim
theorem Qy {op op':CmpOp} {g g':D->D->Out D} (ho:OpD X C .sh (compareOp op) g) (ho':OpD X C .sh (compareOp op') g') (ha:PE X a (tE C own ma fa)) (hb:PE X b (tE C own mb fb)) (hc:PE X c (tE C own mc fc)) (hma:ma≠.any:=by decide) (hmb:mb≠.any:=by decide)
  (hm:lastMarks [op,op'] [b,c]=false:=by with_unfolding_all rfl):PE X (.Compare a [op,op'] [b,c] pos) (tE C own .sh (vO g g' fa fb fc)):=qS (Wr ho ho' ha hb hc hm) fun _ _ _ h=>Qx hma hmb h
theorem zn {op op':CmpOp} {g g':D->D->Out D} (ho:OpD X C .sh (compareOp op) g) (ho':OpD X C .sh (compareOp op') g') (ha:PE X a (tE C own ma fa)) (hb:PE X b (tE C own mb fb)) (hc:PE X c (tE C own mc fc)) (hma:ma≠.any:=by decide) (hmb:mb≠.any:=by decide)
  (hm:lastMarks [op,op'] [b,c]=false:=by with_unfolding_all rfl):PT X (.Compare a [op,op'] [b,c] pos) (tT C own (kh (vO g g' fa fb fc))):=Wz (Ws ho ho' ha hb hc hm) fun _ _ _ h=>Qx hma hmb (KH h)
theorem KI:OpR X (compareOp .LtE) (fun x y H Q=>∃ i j,x=.str i/\y=.str j/\Q (.bl (!vF j i)) H):=by
 intro pins s σ H x y v u Q I rx ry h
 obtain ⟨i,j,rfl,rfl,q⟩:=h
 obtain ⟨t,rfl⟩:=rx
 obtain ⟨t',rfl⟩:=ry
 exact PySem.P.le_str (UF I q (by simp [vF]))
noncomputable def leD:D->D->Out D
 | .int i,.int j=>.ok (.bl (decide (i<=j)))
 | .str x,.str y=>.ok (.bl (!vF y x))
 | _,_=>.bad
theorem zo:OpD X C .sh (compareOp .LtE) leD:=by
 intro pins s σ H x y v u Q I rx ry h
 obtain ⟨F,dx,dy,sb,tx,ty,po⟩:=h
 cases dx <;> try exact po.elim
 ·cases dy <;> try exact po.elim
  obtain rfl:=tx.int
  obtain rfl:=ty.int
  exact qad pins s σ H _ _ v u Q I rx ry ⟨_,_,rfl,rfl,po _ F H sb .refl (.bl _)⟩
 ·cases dy <;> try exact po.elim
  obtain ⟨rfl,_⟩:=tx.str
  obtain ⟨rfl,_⟩:=ty.str
  exact KI pins s σ H _ _ v u Q I rx ry ⟨_,_,rfl,rfl,po _ F H sb .refl (.bl _)⟩
noncomputable def geD:D->D->Out D:=JV fun i j=>.ok (.bl (decide (j<=i)))
theorem qaq:OpD X C .sh (compareOp .GtE) geD:=Kw qae fun _ _ _=>.bl _
end
inductive Fl where
 | nx | rt (d:D) | bk | ct
structure Nx (C:Ct) (own own':List Nat) (σ:St) (F H:Hp) (ρ':Sl) (σ':St) (F' H':Hp):Prop where
 rep:Rep C.K own' F' H' σ' ρ'
 chg:Chg (OA own σ) F H F' H'
 oa:∀ b,OA own' σ' b->OA own σ b\/H b=none
 io:∀ i∈C.io,σ'[i]?=σ[i]?
def PoS (C:Ct) (own own':List Nat) (σ:St) (F H:Hp) (r:Out (Fl×Sl)) (D:Ends):Prop:=match r with
 | .ok (.nx,ρ')=>∀ σ' F' H',Nx C own own' σ F H ρ' σ' F' H'->D.nx σ' H'
 | .ok (.rt d,ρ')=>∀ v σ' F' H',Same F' H'->JU C.K C.io F' H' σ' ρ'->Chg (OA own σ) F H F' H'->(∀ i∈C.io,σ'[i]?=σ[i]?)->MoIs C.K C.mr H F' H' v d->D.rt v H'
 | .ok (.bk,ρ')=>∀ σ' F' H',Nx C own C.ol σ F H ρ' σ' F' H'->D.bk σ' H'
 | .ok (.ct,ρ')=>∀ σ' F' H',Nx C own C.ol σ F H ρ' σ' F' H'->D.ct σ' H'
 | .exc c ρ'=>∀ F' H',Same F' H'->JU C.K C.ox F' H' σ ρ'->Chg (OA own σ) F H F' H'->C.E (C.cv c) none H'
 | .bad=>False
def tSt (C:Ct) (own own':List Nat) (f:Sl->Out (Fl×Sl)):TS:=fun D σ H=>∃ F ρ,Rep C.K own F H σ ρ/\PoS C own own' σ F H (f ρ) D
theorem Nx.then {C:Ct} {o1 o2 o3:List Nat} {σ σ1 σ2:St} {F H F1 H1 F2 H2:Hp} {ρ1 ρ2:Sl} (a:Nx C o1 o2 σ F H ρ1 σ1 F1 H1) (b:Nx C o2 o3 σ1 F1 H1 ρ2 σ2 F2 H2):Nx C o1 o3 σ F H ρ2 σ2 F2 H2 where
 rep:=b.rep
 chg:=a.chg.trans b.chg a.oa
 oa:=fun x h=>by
  rcases b.oa x h with z | z
  ·exact a.oa x z
  ·refine .inr ?_
   cases q:H x with
   | none=>rfl
   | some o=>exact absurd z (a.chg.stay x (by rw [q]; simp))
 io:=fun i hi=>(b.io i hi).trans (a.io i hi)
theorem PoS.shift {C:Ct} {o1 o2 o3:List Nat} {σ σ1:St} {F H F1 H1:Hp} {ρ1:Sl} {r:Out (Fl×Sl)} {D:Ends} (h:PoS C o1 o3 σ F H r D) (a:Nx C o1 o2 σ F H ρ1 σ1 F1 H1):PoS C o2 o3 σ1 F1 H1 r D:=by
 cases r with
 | ok p=>
  obtain ⟨fl,ρ'⟩:=p
  cases fl with
  | nx=>exact fun σ' F' H' n=>h σ' F' H' (a.then n)
  | rt d=>exact fun v σ' F' H' s io c e mo=>h v σ' F' H' s io (a.chg.trans c a.oa) (fun i hi=>(e i hi).trans (a.io i hi)) (MoIs.back (Ha:=H1) a.chg mo)
  | bk=>exact fun σ' F' H' n=>h σ' F' H' (a.then n)
  | ct=>exact fun σ' F' H' n=>h σ' F' H' (a.then n)
 | exc c=>exact fun F' H' s io c'=>h F' H' s (fun i hi=>by
   obtain ⟨d,b,e1,e2,e3⟩:=io i hi
   exact ⟨d,b,e1,by rw [<-a.io i (C.oxs i hi)]; exact e2,e3⟩) (a.chg.trans c' a.oa)
 | bad=>exact h.elim
theorem Nx.ofE {C:Ct} {own:List Nat} {σ:St} {F H F1 H1:Hp} {ρ1:Sl} (r:Rep C.K own F1 H1 σ ρ1) (c:Chg (OA own σ) F H F1 H1):Nx C own own σ F H ρ1 σ F1 H1:=⟨r,c,fun _ h=>.inl h,fun _ _=>rfl⟩
theorem PoS.bindE {C:Ct} {own own':List Nat} {m:Mo} {σ:St} {F H:Hp} {o:Out (D×Sl)} {k:D×Sl->Out (Fl×Sl)} {D:Ends} {R:VK} (hp:PoS C own own' σ F H (o.bind k) D)
  (h:∀ v F1 H1 d ρ1,Rep C.K own F1 H1 σ ρ1->Chg (OA own σ) F H F1 H1->MoIs C.K m H F1 H1 v d->PoS C own own' σ F1 H1 (k (d,ρ1)) D->R v H1):Po C own m σ F H o R:=by
 cases o with
 | ok p=>
  obtain ⟨d,ρ1⟩:=p
  exact fun v F1 H1 rp c mo=>h v F1 H1 d ρ1 rp c mo (PoS.shift (show PoS C own own' σ F H (k (d,ρ1)) D from hp) (.ofE rp c))
 | exc x=>exact hp
 | bad=>exact hp.elim
theorem PoS.bindT {C:Ct} {own own':List Nat} {σ:St} {F H:Hp} {o:Out (Bool×Sl)} {k:Bool×Sl->Out (Fl×Sl)} {D:Ends} {R:Bool->Hp->Prop} (hp:PoS C own own' σ F H (o.bind k) D)
  (h:∀ F1 H1 b ρ1,Rep C.K own F1 H1 σ ρ1->Chg (OA own σ) F H F1 H1->PoS C own own' σ F1 H1 (k (b,ρ1)) D->R b H1):PoT C own σ F H o R:=by
 cases o with
 | ok p=>
  obtain ⟨d,ρ1⟩:=p
  exact fun F1 H1 rp c=>h F1 H1 d ρ1 rp c (PoS.shift (show PoS C own own' σ F H (k (d,ρ1)) D from hp) (.ofE rp c))
 | exc x=>exact hp
 | bad=>exact hp.elim
section
variable {X:Cx} {C:Ct} {own own' o1 o2 o3:List Nat} {e:Expr} {st:Stmt} {sts rest:List Stmt} {f g:Sl->Out (Fl×Sl)} {fe:Sl->Out (D×Sl)} {ft:Sl->Out (Bool×Sl)} {m:Mo} {pos:Pos}
theorem gx {t t':TS} (h:PS X st t) (i:∀ D σ H,t' D σ H->t D σ H):PS X st t':=⟨fun pins s σ H D I hw=>h pins s σ H D I (i D σ H hw)⟩
theorem KJ {t t':TS} (h:PSs X sts t) (i:∀ D σ H,t' D σ H->t D σ H):PSs X sts t':=⟨fun pins s σ H D I hw=>h pins s σ H D I (i D σ H hw)⟩
noncomputable def kN:Sl->Out (Fl×Sl):=fun ρ=>.ok (.nx,ρ)
noncomputable def jr (f g:Sl->Out (Fl×Sl)):Sl->Out (Fl×Sl):=fun ρ=>(f ρ).bind fun p=>match p.1 with
 | .nx=>g p.2
 | fl=>.ok (fl,p.2)
theorem Nx.refl {σ:St} {F H:Hp} {ρ:Sl} (r:Rep C.K own F H σ ρ):Nx C own own σ F H ρ σ F H:=.ofE r .refl
theorem qV:PSs X [] (tSt C own own kN):=KJ Kc fun D σ H ⟨F,ρ,rp,h⟩=>h σ F H (.refl rp)
theorem Zw {D:Ends} {σ:St} {H:Hp} (h:tSt C o1 o3 (jr f g) D σ H):tSt C o1 o2 f { D with nx:=tSt C o2 o3 g D } σ H:=by
 obtain ⟨F,ρ,rp,h⟩:=h
 refine ⟨F,ρ,rp,?_⟩
 unfold jr at h
 cases q:f ρ with
 | ok p=>
  rw [q] at h
  obtain ⟨fl,ρ1⟩:=p
  cases fl with
  | nx=>exact fun σ' F' H' n=>⟨F',ρ1,n.rep,PoS.shift (show PoS C o1 o3 σ F H (g ρ1) D from h) n⟩
  | rt d=>exact h
  | bk=>exact h
  | ct=>exact h
 | exc c=>rw [q] at h; exact h
 | bad=>rw [q] at h; exact h.elim
theorem ql (h1:PS X st (tSt C o1 o2 f)) (h2:PSs X rest (tSt C o2 o3 g)):PSs X (st::rest) (tSt C o1 o3 (jr f g)):=KJ (Wn h1 h2) fun D σ H h=>Zw h
theorem qo (h1:PS X st (tSt C o1 o2 f)):PSs X [st] (tSt C o1 o2 f):=Ye h1
theorem Rep.weak {K:Frag} {F H:Hp} {σ:St} {ρ:Sl}:∀ (drop:List Nat) {own own':List Nat},(∀ i,i∈own'↔i∈own/\i∉drop)->Rep K own F H σ ρ->∃ F',Rep K own' F' H σ ρ/\Chg (OA own σ) F H F' H
 | [],own,own',hs,rp=>⟨F,⟨rp.sub,rp.len,fun i d hi=>rp.val i d fun z=>hi ((hs i).mpr ⟨z,by simp⟩),fun i d hi=>rp.ow i d ((hs i).mp hi).1,fun i hi=>rp.opn i ((hs i).mp hi).1,fun i j a hi hj=>rp.dis i j a ((hs i).mp hi).1 ((hs j).mp hj).1⟩,.refl⟩
 | k::r,own,own',hs,rp=>by
  obtain ⟨F1,rp1,c1⟩:=Rep.weak r (own:=own) (own':=own.filter fun i=>decide (i∉r)) (fun i=>by simp) rp
  by_cases hk:k∈own/\k∉r
  ·obtain ⟨d,hd⟩:=rp1.opn k (by simp [hk.1,hk.2])
   obtain ⟨a,h1,h2,h3⟩:=rp1.ow k d (by simp [hk.1,hk.2]) hd
   obtain ⟨u,hu⟩:∃ u,H a=some u:=by
    cases q:H a with
    | none=>exact absurd q h3.there
    | some u=>exact ⟨u,rfl⟩
   have gr:Same F1 (upd F1 a u):=fun b w e=>by rw [qp (qv e h2)]; exact e
   refine ⟨upd F1 a u,⟨fun b w e=>?_,rp1.len,fun i d' hi e=>?_,fun i d' hi e=>?_,fun i hi=>?_,fun i j b hi hj=>?_⟩,?_⟩
   ·by_cases q:b=a
    ·subst q; rw [qf] at e; cases e; exact hu
    ·rw [qp q] at e; exact rp1.sub b w e
   ·by_cases q:i=k
    ·subst q
     rw [hd] at e; cases e
     refine ⟨_,h1,?_⟩
     cases d with
     | lst ds=>obtain ⟨xs,e,t⟩:=h3; rw [hu] at e; cases e; exact .lst (.inl (.inl qf)) (t.mono gr)
     | dct ds=>obtain ⟨xs,e,t⟩:=h3; rw [hu] at e; cases e; exact .dct qf (t.mono gr)
     | ins C fs=>obtain ⟨dx,xs,e,t⟩:=h3; rw [hu] at e; cases e; exact .ins qf (t.mono gr)
     | at_ b ds=>obtain ⟨eb,xs,e,t⟩:=h3; rw [hu] at e; cases e; subst eb; exact .at_ (.inl (.inl qf)) (t.mono gr)
     | _=>exact h3.elim
    ·obtain ⟨v,q1,q2⟩:=rp1.val i d' (fun z=>by simp at z; exact hi ((hs i).mpr ⟨z.1,by simp [q,z.2]⟩)) e
     exact ⟨v,q1,q2.mono gr⟩
   ·have hi':=(hs i).mp hi
    have hik:i≠k:=fun z=>hi'.2 (by simp [z])
    have hir:i∉r:=fun z=>hi'.2 (by simp [z])
    obtain ⟨b,q1,q2,q3⟩:=rp1.ow i d' (by simp [hi'.1,hir]) e
    refine ⟨b,q1,?_,q3.grow gr fun _ z=>z⟩
    have nb:b≠a:=fun z=>by subst z; exact hik (rp1.dis i k b (by simp [hi'.1,hir]) (by simp [hk.1,hk.2]) q1 h1)
    rw [qp nb]; exact q2
   ·have hi':=(hs i).mp hi
    exact rp1.opn i (by simp [hi'.1]; exact fun z=>hi'.2 (by simp [z]))
   ·have hi':=(hs i).mp hi
    have hj':=(hs j).mp hj
    exact rp1.dis i j b (by simp [hi'.1]; exact fun z=>hi'.2 (by simp [z])) (by simp [hj'.1]; exact fun z=>hj'.2 (by simp [z]))
   ·refine ⟨c1.keep,c1.stay,c1.grow.trans gr,fun b hb=>?_⟩
    by_cases q:b=a
    ·exact .inr (.inr ⟨k,hk.1,by rw [q]; exact h1⟩)
    ·rw [qp q] at hb; exact c1.new b hb
  ·refine ⟨F1,⟨rp1.sub,rp1.len,fun i d hi=>rp1.val i d fun z=>?_,fun i d hi=>rp1.ow i d ?_,fun i hi=>rp1.opn i ?_,fun i j a hi hj=>rp1.dis i j a ?_ ?_⟩,c1⟩
   ·simp at z
    refine hi ((hs i).mpr ⟨z.1,?_⟩)
    simp only [List.mem_cons,not_or]
    exact ⟨fun q=>hk (by subst q; exact z),z.2⟩
   all_goals
    first
     | (have q:=(hs _).mp hi; simp only [List.mem_filter,decide_eq_true_eq]; exact ⟨q.1,fun z=>q.2 (by simp [z])⟩)
     | (have q:=(hs _).mp hj; simp only [List.mem_filter,decide_eq_true_eq]; exact ⟨q.1,fun z=>q.2 (by simp [z])⟩)
theorem OA.sub {σ:St} (h:∀ i∈own',i∈own) {b:Addr} (q:OA own' σ b):OA own σ b:=let ⟨i,hi,e⟩:=q; ⟨i,h i hi,e⟩
theorem Nx.drop {σ:St} {F H:Hp} {ρ:Sl} (drop:List Nat) (hs:∀ i,i∈own'↔i∈own/\i∉drop) (rp:Rep C.K own F H σ ρ):∃ F',Nx C own own' σ F H ρ σ F' H:=by
 obtain ⟨F',rp',c⟩:=Rep.weak drop hs rp
 exact ⟨F',rp',c,fun b q=>.inl (OA.sub (fun i hi=>((hs i).mp hi).1) q),fun _ _=>rfl⟩
noncomputable def kO (own drop:List Nat):List Nat:=own.filter fun i=>decide (i∉drop)
theorem qJ {own drop:List Nat} (i:Nat):i∈kO own drop↔i∈own/\i∉drop:=by simp [kO]
theorem uk (drop:List Nat) (h:PSs X sts (tSt C (kO own drop) o2 f)):PSs X sts (tSt C own o2 f):=KJ h fun D σ H ⟨F,ρ,rp,h⟩=>by
 obtain ⟨F',n⟩:=Nx.drop (C:=C) drop (fun i=>qJ (own:=own) i) rp
 exact ⟨F',ρ,n.rep,h.shift n⟩
noncomputable def sIf (ft:Sl->Out (Bool×Sl)) (f g:Sl->Out (Fl×Sl)):Sl->Out (Fl×Sl):=fun ρ=>(ft ρ).bind fun p=>if p.1=true then f p.2 else g p.2
theorem jC {c:Expr} {a b:List Stmt} (hc:PT X c (tT C own ft)) (ha:PSs X a (tSt C own own' f)) (hb:PSs X b (tSt C own own' g)):PS X (.If c a b pos) (tSt C own own' (sIf ft f g)):=by
 refine gx (GV hc ha hb) fun D σ H ⟨F,ρ,rp,h⟩=>⟨F,ρ,rp,PoS.bindT h fun F1 H1 k ρ1 rp1 c1 h1=>?_⟩
 cases k with
 | true=>exact ⟨F1,ρ1,rp1,h1⟩
 | false=>exact ⟨F1,ρ1,rp1,h1⟩
noncomputable def vz (fe:Sl->Out (D×Sl)):Sl->Out (Fl×Sl):=fun ρ=>(fe ρ).bind fun p=>.ok (.nx,p.2)
theorem qQ (he:PE X e (tE C own m fe)) (hs:swapsWith e none pos.line X.env=pure false:=by rfl):PS X (.Expr e pos) (tSt C own own (vz fe)):=by
 refine gx (Yg he hs) fun D σ H ⟨F,ρ,rp,h⟩=>⟨F,ρ,rp,PoS.bindE h fun v F1 H1 d ρ1 rp1 c1 mo1 h1=>h1 σ F1 H1 (.refl rp1)⟩
noncomputable def kf (fe:Sl->Out (D×Sl)):Sl->Out (Fl×Sl):=fun ρ=>(fe ρ).bind fun p=>.ok (.rt p.1,p.2)
theorem YA (he:PE X e (tE C own C.mr fe)) (hio:∀ i∈C.io,i∈own:=by exact jI rfl):PS X (.Return (some e) pos) (tSt C own own' (kf fe)):=by
 refine gx (XW he) fun D σ H ⟨F,ρ,rp,h⟩=>⟨F,ρ,rp,?_⟩
 unfold kf at h
 cases q:fe ρ with
 | ok p=>
  rw [q] at h
  obtain ⟨d,ρ1⟩:=p
  exact fun v F1 H1 rp1 c1 mo1=>h v σ F1 H1 rp1.sub (rp1.ioIs hio) c1 (fun _ _=>rfl) mo1
 | exc c=>rw [q] at h; exact h
 | bad=>rw [q] at h; exact h.elim
theorem qr (he:PE X e (tE C own m fe)) (hm:m≠.any:=by decide) (hr:C.mr=.sh:=by rfl) (hio:∀ i∈C.io,i∈own:=by exact jI rfl):PS X (.Return (some e) pos) (tSt C own own' (kf fe)):=YA (by rw [hr]; exact wn he hm) hio
theorem Rep.put {K:Frag} {F H:Hp} {σ:St} {ρ:Sl} {i:Nat} {v:V} {d:D} (rp:Rep K own F H σ ρ) (hi:i < ρ.length) (is:Is K F v d):Rep K (kO own [i]) F H (σ.set i (some v)) (ρ.set i (some d)) where
 sub:=rp.sub
 len:=by simp [rp.len]
 val:=fun j d' hj e=>by
  by_cases q:j=i
  ·subst q
   rw [List.getElem?_set_self hi] at e
   cases e
   exact ⟨v,List.getElem?_set_self (by rw [rp.len]; exact hi),is⟩
  ·rw [List.getElem?_set_ne (Ne.symm q)] at e
   obtain ⟨w,h1,h2⟩:=rp.val j d' (fun z=>hj ((qJ j).mpr ⟨z,by simp [q]⟩)) e
   exact ⟨w,by rw [List.getElem?_set_ne (Ne.symm q)]; exact h1,h2⟩
 ow:=fun j d' hj e=>by
  have hj':=(qJ j).mp hj
  have q:j≠i:=fun z=>hj'.2 (by simp [z])
  rw [List.getElem?_set_ne (Ne.symm q)] at e
  obtain ⟨a,h1,h2⟩:=rp.ow j d' hj'.1 e
  exact ⟨a,by rw [List.getElem?_set_ne (Ne.symm q)]; exact h1,h2⟩
 opn:=fun j hj=>by
  have hj':=(qJ j).mp hj
  have q:j≠i:=fun z=>hj'.2 (by simp [z])
  obtain ⟨d',e⟩:=rp.opn j hj'.1
  exact ⟨d',by rw [List.getElem?_set_ne (Ne.symm q)]; exact e⟩
 dis:=fun j k a hj hk e1 e2=>by
  have hj':=(qJ j).mp hj
  have hk':=(qJ k).mp hk
  rw [List.getElem?_set_ne (fun z=>hj'.2 (by simp [z]))] at e1
  rw [List.getElem?_set_ne (fun z=>hk'.2 (by simp [z]))] at e2
  exact rp.dis j k a hj'.1 hk'.1 e1 e2
theorem OA.put {σ:St} {i:Nat} {v:V} {b:Addr} (h:OA (kO own [i]) (σ.set i (some v)) b):OA own σ b:=by
 obtain ⟨j,hj,e⟩:=h
 have hj':=(qJ j).mp hj
 rw [List.getElem?_set_ne (fun z=>hj'.2 (by simp [z]))] at e
 exact ⟨j,hj'.1,e⟩
noncomputable def ub (i:Nat) (fe:Sl->Out (D×Sl)):Sl->Out (Fl×Sl):=fun ρ=>(fe ρ).bind fun p=>if i < p.2.length then .ok (.nx,p.2.set i (some p.1)) else .bad
theorem jj {i:Nat} {x:Str} {pos':Pos} (hN:X.N.Nodup) (hi:X.N[i]?=some x) (hx:Loc X.env.scope x) (he:PE X e (tE C own m fe)) (hm:m≠.any:=by decide) (hio:i∉C.io:=by exact Qq rfl) (hs:swapsWith e (some (.Name x pos')) pos.line X.env=pure false:=by rfl)
  (hf:X.fn x=true\/X.env.scope.names.lookup x=some .local:=by first | exact .inl rfl | exact .inr rfl):PS X (.Assign [.Name x pos'] e pos) (tSt C own (kO own [i]) (ub i fe)):=by
 refine gx (UD hN hi hx (wn he hm) hs hf) fun D σ H ⟨F,ρ,rp,h⟩=>⟨F,ρ,rp,PoS.bindE h fun v F1 H1 d ρ1 rp1 c1 mo1 h1=>?_⟩
 by_cases q:i < ρ1.length
 ·have h1:PoS C own (kO own [i]) σ F1 H1 (if i < ρ1.length then .ok (.nx,ρ1.set i (some d)) else .bad) D:=h1
  rw [if_pos q] at h1
  exact h1 _ F1 H1 ⟨rp1.put q mo1,.refl,fun b z=>.inl (OA.put z),fun j hj=>List.getElem?_set_ne fun z=>hio (by rw [z]; exact hj)⟩
 ·have h1:PoS C own (kO own [i]) σ F1 H1 (if i < ρ1.length then .ok (.nx,ρ1.set i (some d)) else .bad) D:=h1
  rw [if_neg q] at h1
  exact h1.elim
theorem Rep.putO {K:Frag} {F H:Hp} {σ:St} {ρ:Sl} {i:Nat} {a:Addr} {d:D} (rp:Rep K own F H σ ρ) (hi:i < ρ.length) (hF:F a=none) (nA:¬OA own σ a) (o:OwnIs K F H a d):Rep K (i::kO own [i]) F H (σ.set i (some (.ref a))) (ρ.set i (some d)) where
 sub:=rp.sub
 len:=by simp [rp.len]
 val:=fun j d' hj e=>by
  have q:j≠i:=fun z=>hj (by simp [z])
  rw [List.getElem?_set_ne (Ne.symm q)] at e
  obtain ⟨w,h1,h2⟩:=rp.val j d' (fun z=>hj (List.mem_cons_of_mem _ ((qJ j).mpr ⟨z,by simp [q]⟩))) e
  exact ⟨w,by rw [List.getElem?_set_ne (Ne.symm q)]; exact h1,h2⟩
 ow:=fun j d' hj e=>by
  by_cases q:j=i
  ·subst q
   rw [List.getElem?_set_self hi] at e
   cases e
   exact ⟨a,List.getElem?_set_self (by rw [rp.len]; exact hi),hF,o⟩
  ·have hj':=(qJ j).mp ((List.mem_cons.mp hj).resolve_left q)
   rw [List.getElem?_set_ne (Ne.symm q)] at e
   obtain ⟨b,h1,h2⟩:=rp.ow j d' hj'.1 e
   exact ⟨b,by rw [List.getElem?_set_ne (Ne.symm q)]; exact h1,h2⟩
 opn:=fun j hj=>by
  by_cases q:j=i
  ·subst q; exact ⟨d,List.getElem?_set_self hi⟩
  ·have hj':=(qJ j).mp ((List.mem_cons.mp hj).resolve_left q)
   obtain ⟨d',e⟩:=rp.opn j hj'.1
   exact ⟨d',by rw [List.getElem?_set_ne (Ne.symm q)]; exact e⟩
 dis:=fun j k b hj hk e1 e2=>by
  have iσ:i < σ.length:=by rw [rp.len]; exact hi
  by_cases qj:j=i
  ·by_cases qk:k=i
   ·rw [qj,qk]
   ·subst qj
    have hk':=(qJ k).mp ((List.mem_cons.mp hk).resolve_left qk)
    rw [List.getElem?_set_self iσ] at e1
    cases e1
    rw [List.getElem?_set_ne (Ne.symm qk)] at e2
    exact absurd ⟨k,hk'.1,e2⟩ nA
  ·have hj':=(qJ j).mp ((List.mem_cons.mp hj).resolve_left qj)
   by_cases qk:k=i
   ·subst qk
    rw [List.getElem?_set_self iσ] at e2
    cases e2
    rw [List.getElem?_set_ne (Ne.symm qj)] at e1
    exact absurd ⟨j,hj'.1,e1⟩ nA
   ·have hk':=(qJ k).mp ((List.mem_cons.mp hk).resolve_left qk)
    rw [List.getElem?_set_ne (Ne.symm qj)] at e1
    rw [List.getElem?_set_ne (Ne.symm qk)] at e2
    exact rp.dis j k b hj'.1 hk'.1 e1 e2
theorem vP {i:Nat} {x:Str} {pos':Pos} (hN:X.N.Nodup) (hi:X.N[i]?=some x) (hx:Loc X.env.scope x) (he:PE X e (tE C own .fr fe)) (hio:i∉C.io:=by exact Qq rfl) (hs:swapsWith e (some (.Name x pos')) pos.line X.env=pure false:=by rfl)
  (hf:X.fn x=true\/X.env.scope.names.lookup x=some .local:=by first | exact .inl rfl | exact .inr rfl):PS X (.Assign [.Name x pos'] e pos) (tSt C own (i::kO own [i]) (ub i fe)):=by
 refine gx (UD hN hi hx he hs hf) fun D σ H ⟨F,ρ,rp,h⟩=>⟨F,ρ,rp,?_⟩
 unfold ub at h
 cases q:fe ρ with
 | ok p=>
  rw [q] at h
  obtain ⟨d,ρ1⟩:=p
  intro v F1 H1 rp1 c1 mo1
  obtain ⟨a,rfl,h0,hF,o⟩:=mo1
  by_cases z:i < ρ1.length
  ·have h1:PoS C own (i::kO own [i]) σ F H (if i < ρ1.length then .ok (.nx,ρ1.set i (some d)) else .bad) D:=h
   rw [if_pos z] at h1
   refine h1 _ F1 H1 ⟨rp1.putO z hF (fun y=>(rp.OA_there y).1 h0) o,c1,fun b y=>?_,fun j hj=>List.getElem?_set_ne fun y=>hio (by rw [y]; exact hj)⟩
   obtain ⟨j,hj,e⟩:=y
   by_cases qj:j=i
   ·subst qj
    rw [List.getElem?_set_self (by rw [rp1.len]; exact z)] at e
    cases e
    exact .inr h0
   ·have hj':=(qJ j).mp ((List.mem_cons.mp hj).resolve_left qj)
    rw [List.getElem?_set_ne (Ne.symm qj)] at e
    exact .inl ⟨j,hj'.1,e⟩
  ·have h1:PoS C own (i::kO own [i]) σ F H (if i < ρ1.length then .ok (.nx,ρ1.set i (some d)) else .bad) D:=h
   rw [if_neg z] at h1
   exact h1.elim
 | exc c=>rw [q] at h; exact h
 | bad=>rw [q] at h; exact h.elim
end
inductive AK where
 | vl | sl (i:Nat) | fr
 deriving DecidableEq
def ArgV (K:Frag) (H0 F H:Hp) (σ:St):List AK->List V->List D->Prop
 | [],[],[]=>True
 | .vl::as,v::vs,d::ds=>Is K F v d/\ArgV K H0 F H σ as vs ds
 | .sl i::as,v::vs,d::ds=>σ[i]?=some (some v)/\d=.non/\ArgV K H0 F H σ as vs ds
 | .fr::as,v::vs,d::ds=>MoIs K .fr H0 F H v d/\ArgV K H0 F H σ as vs ds
 | _,_,_=>False
theorem ArgV.grow {K:Frag} {A:Addr->Prop} {H0 F H F' H':Hp} {σ:St} (c:Chg A F H F' H') (hA:∀ x,A x->H0 x≠none):∀ {as:List AK} {vs:List V} {ds:List D},ArgV K H0 F H σ as vs ds->ArgV K H0 F' H' σ as vs ds
 | [],[],[],h=>trivial
 | .vl::as,v::vs,d::ds,h=>⟨h.1.mono c.grow,ArgV.grow c hA h.2⟩
 | .sl i::as,v::vs,d::ds,h=>⟨h.1,h.2.1,ArgV.grow c hA h.2.2⟩
 | .fr::as,v::vs,d::ds,h=>⟨h.1.grow (by decide) c hA,ArgV.grow c hA h.2⟩
 | [],_::_,_,h=>h.elim
 | [],[],_::_,h=>h.elim
 | .vl::_,[],_,h=>h.elim
 | .vl::_,_::_,[],h=>h.elim
 | .sl _::_,[],_,h=>h.elim
 | .sl _::_,_::_,[],h=>h.elim
 | .fr::_,[],_,h=>h.elim
 | .fr::_,_::_,[],h=>h.elim
theorem ArgV.back {K:Frag} {A:Addr->Prop} {H0 H1 F0 F1 F H:Hp} {σ:St} (c:Chg A F0 H0 F1 H1):∀ {as:List AK} {vs:List V} {ds:List D},ArgV K H1 F H σ as vs ds->ArgV K H0 F H σ as vs ds
 | [],[],[],h=>trivial
 | .vl::as,v::vs,d::ds,h=>⟨h.1,ArgV.back c h.2⟩
 | .sl i::as,v::vs,d::ds,h=>⟨h.1,h.2.1,ArgV.back c h.2.2⟩
 | .fr::as,v::vs,d::ds,h=>⟨MoIs.back (Ha:=H1) c h.1,ArgV.back c h.2⟩
 | [],_::_,_,h=>h.elim
 | [],[],_::_,h=>h.elim
 | .vl::_,[],_,h=>h.elim
 | .vl::_,_::_,[],h=>h.elim
 | .sl _::_,[],_,h=>h.elim
 | .sl _::_,_::_,[],h=>h.elim
 | .fr::_,[],_,h=>h.elim
 | .fr::_,_::_,[],h=>h.elim
def PoA (C:Ct) (own:List Nat) (as:List AK) (σ:St) (F H:Hp) (r:Out (List D×Sl)) (Q:List V->Hp->Prop):Prop:=match r with
 | .ok (ds,ρ')=>∀ vs F' H',Rep C.K own F' H' σ ρ'->Chg (OA own σ) F H F' H'->ArgV C.K H F' H' σ as vs ds->Q vs H'
 | .exc c ρ'=>∀ F' H',Same F' H'->JU C.K C.ox F' H' σ ρ'->Chg (OA own σ) F H F' H'->C.E (C.cv c) none H'
 | .bad=>False
def tAr (C:Ct) (own:List Nat) (as:List AK) (f:Sl->Out (List D×Sl)):TA:=fun σ H Q=>∃ F ρ,Rep C.K own F H σ ρ/\PoA C own as σ F H (f ρ) Q
theorem PoA.bindV {C:Ct} {own:List Nat} {as:List AK} {ma:Mo} {σ:St} {F H:Hp} {o:Out (D×Sl)} {k:D×Sl->Out (List D×Sl)} {Q:List V->Hp->Prop} {R:VK} (hp:PoA C own as σ F H (o.bind k) Q)
  (h:∀ v F1 H1 d ρ1,Rep C.K own F1 H1 σ ρ1->Chg (OA own σ) F H F1 H1->MoIs C.K ma H F1 H1 v d->PoA C own as σ F H (k (d,ρ1)) Q->R v H1):Po C own ma σ F H o R:=by
 cases o with
 | ok p=>
  obtain ⟨d,ρ1⟩:=p
  exact fun v F1 H1 rp c mo=>h v F1 H1 d ρ1 rp c mo hp
 | exc x=>exact hp
 | bad=>exact hp.elim
theorem Po.bindA {C:Ct} {own:List Nat} {as:List AK} {m:Mo} {σ:St} {F H:Hp} {o:Out (List D×Sl)} {k:List D×Sl->Out (D×Sl)} {Q:VK} {R:List V->Hp->Prop} (hp:Po C own m σ F H (o.bind k) Q)
  (h:∀ vs F1 H1 ds ρ1,Rep C.K own F1 H1 σ ρ1->Chg (OA own σ) F H F1 H1->ArgV C.K H F1 H1 σ as vs ds->Po C own m σ F1 H1 (k (ds,ρ1)) Q->R vs H1):PoA C own as σ F H o R:=by
 cases o with
 | ok p=>
  obtain ⟨d,ρ1⟩:=p
  exact fun vs F1 H1 rp c av=>h vs F1 H1 d ρ1 rp c av (Po.shift (show Po C own m σ F H (k (d,ρ1)) Q from hp) c)
 | exc x=>exact hp
 | bad=>exact hp.elim
noncomputable def qO:Sl->Out (List D×Sl):=fun ρ=>.ok ([],ρ)
noncomputable def qd (fe:Sl->Out (D×Sl)) (fr:Sl->Out (List D×Sl)):Sl->Out (List D×Sl):=fun ρ=>(fe ρ).bind fun p=>(fr p.2).bind fun q=>.ok (p.1::q.1,q.2)
noncomputable def vA (fr:Sl->Out (List D×Sl)):Sl->Out (List D×Sl):=fun ρ=>(fr ρ).bind fun q=>.ok (D.non::q.1,q.2)
section
variable {X:Cx} {C:Ct} {own:List Nat} {as:List AK} {e:Expr} {es:List Expr} {fe:Sl->Out (D×Sl)} {fr:Sl->Out (List D×Sl)} {m:Mo} {pos:Pos}
theorem YB {t t':TA} (h:PA X es t) (i:∀ σ H Q,t' σ H Q->t σ H Q):PA X es t':=⟨fun pos pins s σ H Q I hw=>h pos pins s σ H Q I (i σ H Q hw)⟩
theorem qe:PA X [] (tAr C own [] qO):=YB qZ fun σ H Q ⟨F,ρ,rp,h⟩=>h [] F H rp .refl trivial
theorem zp {σ:St} {F H F1 H1:Hp} {d:D} {ρ1:Sl} {a:AK} {Q:List V->Hp->Prop} {v:V} (rp:∀ x,OA own σ x->H x≠none) (rp1:Rep C.K own F1 H1 σ ρ1) (c1:Chg (OA own σ) F H F1 H1) (hp:PoA C own (a::as) σ F H ((fr ρ1).bind fun q=>.ok (d::q.1,q.2)) Q)
  (ha:∀ F2 H2 vs ds,Chg (OA own σ) F1 H1 F2 H2->ArgV C.K H F2 H2 σ as vs ds->ArgV C.K H F2 H2 σ (a::as) (v::vs) (d::ds)):tAr C own as fr σ H1 fun xs H2=>Q (v::xs) H2:=by
 refine ⟨F1,ρ1,rp1,?_⟩
 cases q:fr ρ1 with
 | ok p=>
  rw [q] at hp
  obtain ⟨ds,ρ2⟩:=p
  exact fun vs F2 H2 rp2 c2 av=>hp (v::vs) F2 H2 rp2 (c1.trans' c2) (ha F2 H2 vs ds c2 (ArgV.back c1 av))
 | exc c=>rw [q] at hp; exact fun F' H' s io c'=>hp F' H' s io (c1.trans' c')
 | bad=>rw [q] at hp; exact hp.elim
theorem qb (ha:PE X e (tE C own m fe)) (hr:PA X es (tAr C own as fr)) (hm:m≠.any:=by decide) (hs:starEach (e::es) X.env=(false,eval e X.env)::starEach es X.env:=by exact qT rfl):PA X (e::es) (tAr C own (.vl::as) (qd fe fr)):=by
 refine YB (qG (wn ha hm) hr hs) fun σ H Q ⟨F,ρ,rp,h⟩=>⟨F,ρ,rp,PoA.bindV h fun v F1 H1 d ρ1 rp1 c1 mo1 h1=>?_⟩
 exact zp (fun x z=>(rp.OA_there z).1) rp1 c1 h1 fun F2 H2 vs ds c2 av=>⟨Is.mono c2.grow mo1,av⟩
theorem qU {i:Nat} {x:Str} {px:Pos} (hN:X.N[i]?=some x) (hv:Vis X.env.scope x) (ho:i∈own) (hr:PA X es (tAr C own as fr)) (hs:starEach (.Name x px::es) X.env=(false,eval (.Name x px) X.env)::starEach es X.env:=by rfl)
  (hd:(x == ("__debug__":Str))=false:=by decide) (hcd:(x == ("__classdict__":Str))=false:=by decide):PA X (.Name x px::es) (tAr C own (.sl i::as) (vA fr)):=by
 refine YB (qG (zc hN hv hd hcd) hr hs) fun σ H Q ⟨F,ρ,rp,h⟩=>?_
 obtain ⟨d,hd⟩:=rp.opn i ho
 obtain ⟨a,h1,h2,h3⟩:=rp.ow i d ho hd
 exact ⟨_,h1,zp (fun x z=>(rp.OA_there z).1) rp .refl h fun F2 H2 vs ds c2 av=>⟨h1,rfl,av⟩⟩
theorem ArgV.isL {K:Frag} {H0 F H:Hp} {σ:St}:∀ {as:List AK} {vs:List V} {ds:List D},(as.all fun a=>decide (a=.vl))=true->ArgV K H0 F H σ as vs ds->IsL K F vs ds
 | [],[],[],_,_=>.nil
 | .vl::as,v::vs,d::ds,h,a=>.cons a.1 (ArgV.isL (by simpa using h) a.2)
 | .sl i::as,_,_,h,a=>by simp at h
 | .fr::as,_,_,h,a=>by simp at h
 | [],_::_,_,_,h=>h.elim
 | [],[],_::_,_,h=>h.elim
 | .vl::_,[],_,_,h=>h.elim
 | .vl::_,_::_,[],_,h=>h.elim
noncomputable def gy (fr:Sl->Out (List D×Sl)):Sl->Out (D×Sl):=fun ρ=>(fr ρ).bind fun p=>if p.1.length<=sizeLine then .ok (.tup p.1,p.2) else .bad
noncomputable def yp (fr:Sl->Out (List D×Sl)):Sl->Out (D×Sl):=fun ρ=>(fr ρ).bind fun p=>if p.1.length<=sizeLine then .ok (.lst p.1,p.2) else .bad
theorem Zx {σ:St} {F H:Hp} {ρ:Sl} {p:Addr} {u:HO} (rp:Rep C.K own F H σ ρ) (hp:H p=none):Rep C.K own (upd F p u) (upd H p u) σ ρ/\Chg No F H (upd F p u) (upd H p u):=by
 have hF:F p=none:=by
  cases q:F p with
  | none=>rfl
  | some o=>rw [rp.sub p o q] at hp; cases hp
 have c:Chg No F H (upd F p u) (upd H p u):=⟨fun b o e _=>by rw [qp (qv e hp)]; exact e,fun b e=>by
  by_cases q:b=p
  ·rw [q,qf]; simp
  ·rw [qp q]; exact e,fun b o e=>by rw [qp (qv e hF)]; exact e,fun b e=>by
  by_cases q:b=p
  ·exact .inr (.inl (by rw [q]; exact hp))
  ·rw [qp q] at e; exact .inl e⟩
 refine ⟨rp.grow c fun b o e=>?_,c⟩
 by_cases q:b=p
 ·subst q; rw [qf] at e ⊢; exact e
 ·rw [qp q] at e ⊢; exact rp.sub b o e
theorem KK {σ:St} {F H:Hp} {ρ:Sl} {p:Addr} {u:HO} (rp:Rep C.K own F H σ ρ) (hp:H p=none):Rep C.K own F (upd H p u) σ ρ/\Chg No F H F (upd H p u)/\F p=none:=by
 have hF:F p=none:=by
  cases q:F p with
  | none=>rfl
  | some o=>rw [rp.sub p o q] at hp; cases hp
 have c:Chg No F H F (upd H p u):=⟨fun b o e _=>by rw [qp (qv e hp)]; exact e,fun b e=>by
  by_cases q:b=p
  ·rw [q,qf]; simp
  ·rw [qp q]; exact e,Same.refl _,fun b e=>.inl e⟩
 exact ⟨rp.grow c fun b o e=>by rw [qp (qv e hF)]; exact rp.sub b o e,c,hF⟩
theorem kI {x1} (h:PA X es (tAr C own as fr)) (ha:(as.all fun a=>decide (a=.vl))=true:=by decide):PE X (.Tuple es x1 pos) (tE C own .sh (gy fr)):=by
 refine qS (Zj h) fun σ H Q ⟨F,ρ,rp,h⟩=>⟨F,ρ,rp,Po.bindA h fun vs F1 H1 ds ρ1 rp1 c1 av h1=>?_⟩
 have il:=av.isL ha
 have h1:Po C own .sh σ F1 H1 (if ds.length<=sizeLine then .ok (.tup ds,ρ1) else .bad) Q:=h1
 by_cases z:ds.length<=sizeLine
 ·rw [if_pos z] at h1
  refine ⟨by rw [il.length]; exact z,fun p hp=>?_⟩
  obtain ⟨rp2,c2⟩:=Zx (u:=.tup vs) rp1 hp
  exact h1 _ _ _ rp2 c2.ofNo (.tup (.inl (.inl qf)) (il.mono c2.grow))
 ·rw [if_neg z] at h1; exact h1.elim
theorem jJ (h:PA X es (tAr C own as fr)) (ha:(as.all fun a=>decide (a=.vl))=true:=by decide):PE X (.List es pos) (tE C own .fr (yp fr)):=by
 refine qS (Zk h) fun σ H Q ⟨F,ρ,rp,h⟩=>⟨F,ρ,rp,Po.bindA h fun vs F1 H1 ds ρ1 rp1 c1 av h1=>?_⟩
 have il:=av.isL ha
 have h1:Po C own .fr σ F1 H1 (if ds.length<=sizeLine then .ok (.lst ds,ρ1) else .bad) Q:=h1
 by_cases z:ds.length<=sizeLine
 ·rw [if_pos z] at h1
  refine ⟨by rw [il.length]; exact z,fun p hp=>?_⟩
  obtain ⟨rp2,c2,hF⟩:=KK (u:=.lst vs) rp1 hp
  exact h1 _ _ _ rp2 c2.ofNo ⟨p,rfl,hp,hF,vs,qf,il⟩
 ·rw [if_neg z] at h1; exact h1.elim
noncomputable def ixD:D->D->Out D
 | .lst xs,.int i=>match atI xs i with
  | some d=>.ok d
  | none=>.bad
 | .tup xs,.int i=>match atI xs i with
  | some d=>.ok d
  | none=>.bad
 | .str x,.int i=>match atI x.cps.toList i with
  | some c=>.ok (.str ⟨#[c]⟩)
  | none=>.bad
 | .dct kvs,.str x=>match (kvs.find? fun kv=>decide (kv.1=Sum.inr x)) with
  | some kv=>.ok kv.2
  | none=>.bad
 | .dct kvs,.int x=>match (kvs.find? fun kv=>decide (kv.1=Sum.inl x)) with
  | some kv=>.ok kv.2
  | none=>.bad
 | _,_=>.bad
theorem IsL.atI {K:Frag} {F:Hp} {vs:List V} {ds:List D} {i:Int} {d:D} (h:IsL K F vs ds) (e:L2.atI ds i=some d):∃ v,L2.atI vs i=some v/\Is K F v d:=by
 unfold L2.atI at e ⊢
 rw [h.length]
 cases q:ixN ds.length i with
 | none=>rw [q] at e; cases e
 | some j=>
  rw [q] at e
  exact h.getD e
theorem IsK.find {K:Frag} {F:Hp} {k:Key}:∀ {vs:List (Key×V)} {ds:List (Key×D)} {d:Key×D},IsK K F vs ds->(ds.find? fun kv=>decide (kv.1=k))=some d->∃ v,Qn vs k=some v/\Is K F v d.2
 | _,_,_,.nil,e=>by simp at e
 | _,_,d,.cons (k:=k') (vs:=vs) h t,e=>by
  by_cases q:k'=k
  ·rw [List.find?_cons_of_pos (by simp [q])] at e
   cases e
   exact ⟨_,ui q,h⟩
  ·rw [List.find?_cons_of_neg (by simp [q])] at e
   obtain ⟨v,h1,h2⟩:=IsK.find t e
   exact ⟨v,by rw [uj q]; exact h1,h2⟩
theorem Qz (c:Nat):(⟨#[c]⟩:Str).length<=sizeLine:=by
 show 1<=sizeLine
 rw [sizeLine_eq]; decide
def qa3 (K:Frag):R2:=fun x y H Q=>rIx K x y H Q\/∃ a v,x=.ref a/\DGet H a y (some v)/\Q v H
theorem Zy (hu:X.A.units+1 < cLine):IxR X (qa3 X.K):=by
 refine IxR.or Zn ?_
 intro value slice pins s σ H x y v u Q I rx ry h hs
 obtain ⟨a,w,rfl,g,q⟩:=h
 cases rx
 obtain ⟨T,ht⟩:∃ T,s.TypeIs (.ref a) T/\T = "dict":=⟨_,gn I g,rfl⟩
 obtain ⟨ht,rfl⟩:=ht
 exact tail_any ht PySem.slot_dict_getitem.lookup (Ks hu I g ry fun w' s' I' r=>⟨w,H,I',r,q⟩) hs
end
section
variable {X:Cx} {C:Ct} {own:List Nat} {a b e:Expr} {f fa fb:Sl->Out (D×Sl)} {m ma mb:Mo} {pos:Pos}
theorem Zz {σ:St} {F H:Hp} {x y:V} {dx dy:D} {Q:VK} (hK:C.K=X.K) (sb:Same F H) (tx:TopIs C.K F H x dx) (ty:TopIs C.K F H y dy) (po:PoV C .sh F H (ixD dx dy) Q):qa3 X.K x y H Q:=by
 rw [hK] at tx ty
 cases dx with
 | lst xs=>
  cases dy <;> try exact po.elim
  rename_i i
  obtain rfl:=ty.int
  obtain ⟨a,vs,rfl,p,t⟩:=tx.lst sb
  unfold ixD at po
  cases e:L2.atI xs i with
  | none=>simp only [e] at po; exact po.elim
  | some d=>
   simp only [e] at po
   obtain ⟨v,h1,h2⟩:=t.atI e
   exact .inl (.inl ⟨a,vs,i,v,rfl,rfl,p,h1,po v F H sb .refl (by rw [hK]; exact h2)⟩)
 | tup xs=>
  cases dy <;> try exact po.elim
  rename_i i
  obtain rfl:=ty.int
  obtain ⟨a,vs,rfl,p,t⟩:=tx.tup sb
  unfold ixD at po
  cases e:L2.atI xs i with
  | none=>simp only [e] at po; exact po.elim
  | some d=>
   simp only [e] at po
   obtain ⟨v,h1,h2⟩:=t.atI e
   exact .inl (.inr (.inl ⟨a,vs,i,v,rfl,rfl,p,h1,po v F H sb .refl (by rw [hK]; exact h2)⟩))
 | str z=>
  cases dy <;> try exact po.elim
  rename_i i
  obtain rfl:=ty.int
  obtain ⟨rfl,hz⟩:=tx.str
  unfold ixD at po
  cases e:L2.atI z.cps.toList i with
  | none=>simp only [e] at po; exact po.elim
  | some c=>
   simp only [e] at po
   exact .inl (.inr (.inr ⟨z,i,c,rfl,rfl,hz,e,po _ F H sb .refl (.str (Qz c))⟩))
 | dct kvs=>
  obtain ⟨a,kv,rfl,p,t⟩:=tx.dct sb
  cases dy with
  | int i=>
   obtain rfl:=ty.int
   unfold ixD at po
   cases e:(kvs.find? fun kv=>decide (kv.1=Sum.inl i)) with
   | none=>simp only [e] at po; exact po.elim
   | some d=>
    simp only [e] at po
    obtain ⟨v,h1,h2⟩:=t.find e
    exact .inr ⟨a,v,rfl,by rw [<-h1]; exact DGet.k (k:=Sum.inl i) p,po v F H sb .refl (by rw [hK]; exact h2)⟩
  | str z=>
   obtain ⟨rfl,_⟩:=ty.str
   unfold ixD at po
   cases e:(kvs.find? fun kv=>decide (kv.1=Sum.inr z)) with
   | none=>simp only [e] at po; exact po.elim
   | some d=>
    simp only [e] at po
    obtain ⟨v,h1,h2⟩:=t.find e
    exact .inr ⟨a,v,rfl,by rw [<-h1]; exact DGet.k (k:=Sum.inr z) p,po v F H sb .refl (by rw [hK]; exact h2)⟩
  | _=>exact po.elim
 | _=>exact po.elim
theorem vQ (hK:C.K=X.K) (hu:X.A.units+64 < cLine) (ha:PE X a (tE C own ma fa)) (hb:PE X b (tE C own mb fb)) (hs:Kn b) (hma:ma≠.any:=by decide):PE X (.Subscript a b pos) (tE C own .sh (d2 ixD fa fb)):=by
 refine qS (qaj (Zy (by omega)) ha hb hs) fun σ H Q h=>?_
 obtain ⟨F,ρ,rp,h⟩:=zj (mb:=mb) hma h
 refine ⟨F,ρ,rp,?_⟩
 cases q:fa ρ with
 | ok p=>
  rw [q] at h
  obtain ⟨d,ρ1⟩:=p
  intro v F1 H1 rp1 c1 mo1
  obtain ⟨F2,ρ2,rp2,h2⟩:=h v F1 H1 rp1 c1 mo1
  refine ⟨F2,ρ2,rp2,?_⟩
  cases q2:fb ρ2 with
  | ok p=>
   rw [q2] at h2
   obtain ⟨d',ρ3⟩:=p
   intro w F3 H3 rp3 c3 mo3
   obtain ⟨F4,dx,dy,sb,tx,ty,po⟩:=h2 w F3 H3 rp3 c3 mo3
   exact Zz (σ:=σ) hK sb tx ty po
  | exc c=>rw [q2] at h2; exact h2
  | bad=>rw [q2] at h2; exact h2.elim
 | exc c=>rw [q] at h; exact h
 | bad=>rw [q] at h; exact h.elim
def yY (X:Cx) (C:Ct) (m:Mo) (f:Value) (g:D->Out D):Prop:=vD X f (fun xs H Q=>∃ x F dx,xs=[x]/\Same F H/\TopIs C.K F H x dx/\PoV C m F H (g dx) Q)
theorem gz {σ:St} {H:Hp} {Q:VK} {g:D->Out D} (h:tE C own m (d1 g fa) σ H Q):Jn (tE C own ma fa) Zi σ H fun xs H1=>∃ x F dx,xs=[x]/\Same F H1/\TopIs C.K F H1 x dx/\PoV C m F H1 (g dx) Q:=by
 obtain ⟨F,ρ,rp,h⟩:=zk (ma:=ma) h
 refine ⟨F,ρ,rp,?_⟩
 cases q:fa ρ with
 | ok p=>
  rw [q] at h
  obtain ⟨d,ρ1⟩:=p
  intro v F1 H1 rp1 c1 mo1
  obtain ⟨F2,dx,sb,tx,po⟩:=h v F1 H1 rp1 c1 mo1
  exact ⟨v,F2,dx,rfl,sb,tx,po⟩
 | exc c=>rw [q] at h; exact h
 | bad=>rw [q] at h; exact h.elim
theorem qH {x:Str} {id:String} {p:Pos} {g:D->Out D} (hc:yY X C m (.builtin id) g) (hg:Gl X x) (hm:X.mg x=none) (hv:bootBuiltins x=some (.builtin id)) (ha:PE X e (tE C own ma fa)) (hn:x ≠ "__name__":=by decide) (hdb:(x == ("__debug__":Str))=false:=by decide)
  (he:starEach [e] X.env=[(false,eval e X.env)]:=by exact qM rfl):PE X (.Call (.Name x p) [e] [] pos) (tE C own m (d1 g fa)):=
 qS (vg hc hg hm hv (qG ha qZ he) hn hdb (by rw [he]; rfl) rfl) fun _ _ _ h=>gz h
theorem ki {x:Str} {T:String} {p:Pos} {g:D->Out D} (hc:yY X C m (.type T) g) (hg:Gl X x) (hm:X.mg x=none) (hv:bootBuiltins x=some (.type T)) (ha:PE X e (tE C own ma fa)) (hn:x ≠ "__name__":=by decide) (hdb:(x == ("__debug__":Str))=false:=by decide)
  (he:starEach [e] X.env=[(false,eval e X.env)]:=by exact qM rfl):PE X (.Call (.Name x p) [e] [] pos) (tE C own m (d1 g fa)):=
 qS (vM hc hg hm hv (qG ha qZ he) hn hdb (by rw [he]; rfl) rfl) fun _ _ _ h=>gz h
noncomputable def uc:D->Out D
 | .str x=>.ok (.int x.length)
 | .lst xs=>.ok (.int xs.length)
 | .tup xs=>.ok (.int xs.length)
 | .dct xs=>.ok (.int xs.length)
 | _=>.bad
theorem IsK.length {K:Frag} {F:Hp}:∀ {vs:List (Key×V)} {ds:List (Key×D)},IsK K F vs ds->vs.length=ds.length
 | _,_,.nil=>rfl
 | _,_,.cons _ t=>congrArg (·+1) (IsK.length t)
theorem jK (hK:C.K=X.K):yY X C .sh (.builtin "len") uc:=by
 intro pins s σ H xs us Q I r h
 obtain ⟨x,F,dx,rfl,sb,tx,po⟩:=h
 cases dx with
 | str z=>
  obtain ⟨rfl,hz⟩:=tx.str
  exact yW pins s σ H _ us Q I r ⟨_,_,rfl,⟨hz,rfl⟩,po _ F H sb .refl (.int _)⟩
 | lst ds=>
  obtain ⟨a,vs,rfl,p,t⟩:=tx.lst sb
  exact yW pins s σ H _ us Q I r ⟨_,ds.length,rfl,.inl ⟨vs,by rw [<-hK]; exact p,t.length.symm⟩,po _ F H sb .refl (.int _)⟩
 | tup ds=>
  obtain ⟨a,vs,rfl,p,t⟩:=tx.tup sb
  exact yW pins s σ H _ us Q I r ⟨_,ds.length,rfl,.inr ⟨vs,by rw [<-hK]; exact p,t.length.symm⟩,po _ F H sb .refl (.int _)⟩
 | dct ds=>
  obtain ⟨a,vs,rfl,p,t⟩:=tx.dct sb
  refine Kt pins s σ H _ us Q I r ⟨a,vs,rfl,p,?_⟩
  rw [t.length]
  exact po _ F H sb .refl (.int _)
 | _=>exact po.elim
noncomputable def xX:D->D->Out D
 | .int i,.int j=>.ok (.int (i+j))
 | .str x,.str y=>if x.length+y.length<=sizeLine then .ok (.str (x++y)) else .bad
 | .lst xs,.lst ys=>if xs.length+ys.length<=sizeLine then .ok (.lst (xs++ys)) else .bad
 | .tup xs,.tup ys=>if xs.length+ys.length<=sizeLine then .ok (.tup (xs++ys)) else .bad
 | _,_=>.bad
theorem kQ {F H:Hp} {p:Addr} {u:HO} (sb:Same F H) (hp:H p=none):Same (upd F p u) (upd H p u)/\Chg No F H (upd F p u) (upd H p u):=by
 have hF:F p=none:=by
  cases q:F p with
  | none=>rfl
  | some o=>rw [sb p o q] at hp; cases hp
 refine ⟨fun b o e=>?_,⟨fun b o e _=>by rw [qp (qv e hp)]; exact e,fun b e=>?_,fun b o e=>by rw [qp (qv e hF)]; exact e,fun b e=>?_⟩⟩
 ·by_cases q:b=p
  ·subst q; rw [qf] at e ⊢; exact e
  ·rw [qp q] at e ⊢; exact sb b o e
 ·by_cases q:b=p
  ·rw [q,qf]; simp
  ·rw [qp q]; exact e
 ·by_cases q:b=p
  ·exact .inr (.inl (by rw [q]; exact hp))
  ·rw [qp q] at e; exact .inl e
theorem wp {F H:Hp} {p:Addr} {u:HO} (sb:Same F H) (hp:H p=none):Same F (upd H p u)/\Chg No F H F (upd H p u)/\F p=none:=by
 have hF:F p=none:=by
  cases q:F p with
  | none=>rfl
  | some o=>rw [sb p o q] at hp; cases hp
 refine ⟨fun b o e=>by rw [qp (qv e hF)]; exact sb b o e,⟨fun b o e _=>by rw [qp (qv e hp)]; exact e,fun b e=>?_,Same.refl _,fun b e=>.inl e⟩,hF⟩
 by_cases q:b=p
 ·rw [q,qf]; simp
 ·rw [qp q]; exact e
theorem gA (x y:Str):(x++y).length=x.length+y.length:=by
 show (x.cps++y.cps).size=_
 simp [Str.length]
theorem YC:OpR X (binaryOp .Add) (fun x y H Q=>∃ l b xs zs,x=.ref l/\y=.ref b/\SqL X.K H l xs/\SqL X.K H b zs/\xs.length+zs.length<=sizeLine/\∀ p,H p=none->Q (.ref p) (upd H p (.lst (xs++zs)))):=by
 intro pins s σ H x y v u Q I rx ry h
 obtain ⟨l,b,xs,zs,rfl,rfl,h1,h2,hz,q⟩:=h
 cases rx
 cases ry
 obtain ⟨its,r1,p1,_⟩:=I.list h1
 obtain ⟨its2,r2,p2,_⟩:=I.list h2
 obtain ⟨⟨cls,dd,data,sl⟩,ho,hc,n,hd⟩:=id p1.isList
 obtain ⟨⟨cls2,dd2,data2,sl2⟩,ho2,hc2,n2,hd2⟩:=id p2.isList
 simp only at hc hd hc2 hd2
 subst hc hd hc2 hd2
 have hl1:=r1.length
 have hl2:=r2.length
 refine concat_meets ⟨_,ho,rfl⟩ ⟨_,ho2,rfl⟩ noFill_list_add seq_list_add PySem.F.slot_list_add PySem.F.entry_list_add (PySem.F.args_list_add_2 _ _)
  (list_addW l b its.toArray its2.toArray n n2 dd dd2 sl sl2 (by simp only [List.size_toArray]; omega)) ⟨ho,ho2,?_⟩
 have ea:its.toArray++its2.toArray=(its++its2).toArray:=by simp
 rw [ea]
 exact ⟨.ref _,_,I.lnew (t':=s.toks) (r1.append r2) (by rw [List.length_append]; exact hz),rfl,q _ I.fresh⟩
theorem YD:OpR X (binaryOp .Add) (fun x y H Q=>∃ a b ys,x=.ref a/\y=.ref b/\SqT X.K H a []/\SqT X.K H b ys/\Q (.ref b) H):=by
 intro pins s σ H x y v u Q I rx ry h
 obtain ⟨a,b,ys,rfl,rfl,h1,h2,q⟩:=h
 cases rx
 cases ry
 obtain ⟨its,r1,p1,_⟩:=I.tuple h1
 obtain ⟨its2,r2,p2,_⟩:=I.tuple h2
 cases r1
 obtain ⟨⟨cls,dd,data,sl⟩,ho,hc,n,hd⟩:=id p1
 obtain ⟨⟨cls2,dd2,data2,sl2⟩,ho2,hc2,n2,hd2⟩:=id p2
 simp only at hc hd hc2 hd2
 subst hc hd hc2 hd2
 exact concat_meets ⟨_,ho,rfl⟩ ⟨_,ho2,rfl⟩ noFill_tuple_add seq_tuple_add PySem.F.slot_tuple_add PySem.F.entry_tuple_add (PySem.F.args_tuple_add_2 _ _)
  (tuple_addW0 a b _ _ n n2 dd dd2 sl sl2 rfl) ⟨ho,ho2,⟨.ref b,H,I,rfl,q⟩⟩
theorem vC (hK:C.K=X.K):OpD X C .sh (binaryOp .Add) xX:=by
 intro pins s σ H x y v u Q I rx ry h
 obtain ⟨F,dx,dy,sb,tx,ty,po⟩:=h
 cases dx with
 | int i=>
  cases dy <;> try exact po.elim
  obtain rfl:=tx.int
  obtain rfl:=ty.int
  exact Zb pins s σ H _ _ v u Q I rx ry ⟨_,_,rfl,rfl,po _ F H sb .refl (.int _)⟩
 | str a=>
  cases dy <;> try exact po.elim
  rename_i b
  obtain ⟨rfl,_⟩:=tx.str
  obtain ⟨rfl,_⟩:=ty.str
  have po:PoV C .sh F H (if a.length+b.length<=sizeLine then .ok (.str (a++b)) else .bad) Q:=po
  by_cases z:a.length+b.length<=sizeLine
  ·rw [if_pos z] at po
   exact Jm pins s σ H _ _ v u Q I rx ry ⟨_,_,rfl,rfl,z,po _ F H sb .refl (.str (by rw [gA]; exact z))⟩
  ·rw [if_neg z] at po; exact po.elim
 | lst xs=>
  cases dy <;> try exact po.elim
  rename_i ys
  obtain ⟨a,vs,rfl,p1,t1⟩:=tx.lst sb
  obtain ⟨b,ws,rfl,p2,t2⟩:=ty.lst sb
  have po:PoV C .sh F H (if xs.length+ys.length<=sizeLine then .ok (.lst (xs++ys)) else .bad) Q:=po
  by_cases z:xs.length+ys.length<=sizeLine
  ·rw [if_pos z] at po
   refine YC pins s σ H _ _ v u Q I rx ry ⟨a,b,vs,ws,rfl,rfl,by rw [<-hK]; exact p1,by rw [<-hK]; exact p2,by rw [t1.length,t2.length]; exact z,fun p hp=>?_⟩
   obtain ⟨s2,c2⟩:=kQ (u:=.lst (vs++ws)) sb hp
   exact po _ _ _ s2 c2 (.lst (.inl (.inl qf)) ((t1.append t2).mono c2.grow))
  ·rw [if_neg z] at po; exact po.elim
 | tup xs=>
  cases dy <;> try exact po.elim
  rename_i ys
  obtain ⟨a,vs,rfl,p1,t1⟩:=tx.tup sb
  obtain ⟨b,ws,rfl,p2,t2⟩:=ty.tup sb
  have po:PoV C .sh F H (if xs.length+ys.length<=sizeLine then .ok (.tup (xs++ys)) else .bad) Q:=po
  by_cases z:xs.length+ys.length<=sizeLine
  ·rw [if_pos z] at po
   cases vs with
   | nil=>
    cases t1
    rcases ty with ty | ⟨_,_,ty⟩
    ·exact YD pins s σ H _ _ v u Q I rx ry ⟨a,b,ws,rfl,rfl,by rw [<-hK]; exact p1,by rw [<-hK]; exact p2,po _ F H sb .refl ty⟩
    ·exact ty.elim
   | cons v0 vs=>
    refine Yq pins s σ H _ _ v u Q I rx ry ⟨a,b,v0::vs,ws,rfl,rfl,by rw [<-hK]; exact p1,by rw [<-hK]; exact p2,by simp,by rw [t1.length,t2.length]; exact z,fun e=>?_,fun e p hp=>?_⟩
    ·subst e
     cases t2
     rcases tx with tx | ⟨_,_,tx⟩
     ·refine po _ F H sb .refl ?_
      rw [List.append_nil]
      exact tx
     ·exact tx.elim
    ·obtain ⟨s2,c2⟩:=kQ (u:=.tup (v0::vs++ws)) sb hp
     exact po _ _ _ s2 c2 (.tup (.inl (.inl qf)) ((t1.append t2).mono c2.grow))
  ·rw [if_neg z] at po; exact po.elim
 | _=>exact po.elim
end
inductive PM where
 | val | io | tk
 deriving DecidableEq
noncomputable def ud:List PM->List V->List Addr
 | .val::ms,_::vs=>ud ms vs
 | .io::ms,.ref a::vs=>a::ud ms vs
 | .tk::ms,.ref a::vs=>a::ud ms vs
 | _::ms,_::vs=>ud ms vs
 | _,_=>[]
def ArgsIs (K:Frag) (F H:Hp):List PM->List V->List D->Prop
 | [],[],[]=>True
 | .val::ms,v::vs,d::ds=>Is K F v d/\ArgsIs K F H ms vs ds
 | .io::ms,v::vs,d::ds=>(∃ a,v=.ref a/\F a=none/\OwnIs K F H a d)/\ArgsIs K F H ms vs ds
 | .tk::ms,v::vs,d::ds=>(∃ a,v=.ref a/\F a=none/\OwnIs K F H a d)/\ArgsIs K F H ms vs ds
 | _,_,_=>False
def vR (K:Frag) (F H:Hp):List PM->List V->List D->Prop
 | [],_,_=>True
 | .io::ms,v::vs,d::ds=>(∃ a,v=.ref a/\F a=none/\OwnIs K F H a d)/\vR K F H ms vs ds
 | _::ms,_::vs,_::ds=>vR K F H ms vs ds
 | _,_,_=>False
abbrev LA (ms:List PM) (vs:List V):Addr->Prop:=fun b=>b∈ud ms vs
def PoG (K:Frag) (cv:Str->Value) (ms:List PM) (mr:Mo) (vs:List V) (F H:Hp) (Q:VK) (E:XK) (o:Out (D×List D)):Prop:=match o with
 | .ok (d,outs)=>∀ v F' H',Same F' H'->Chg (LA ms vs) F H F' H'->vR K F' H' ms vs outs->MoIs K mr H F' H' v d->Q v H'
 | .exc c o=>∀ F' H',Same F' H'->Chg (LA ms vs) F H F' H'->vR K F' H' ms vs (o.map (·.getD .non))->E (cv c) none H'
 | .bad=>False
def spD (K:Frag) (cv:Str->Value) (ms:List PM) (mr:Mo) (G:List D->Out (D×List D)):Sp:=fun vs H Q E=>∃ F ds,Same F H/\ArgsIs K F H ms vs ds/\(ud ms vs).Nodup/\PoG K cv ms mr vs F H Q E (G ds)
theorem ArgsIs.length {K:Frag} {F H:Hp}:∀ {ms:List PM} {vs:List V} {ds:List D},ArgsIs K F H ms vs ds->vs.length=ms.length/\ds.length=ms.length
 | [],[],[],_=>⟨rfl,rfl⟩
 | .val::ms,v::vs,d::ds,h=>by have:=ArgsIs.length h.2; simp [this]
 | .io::ms,v::vs,d::ds,h=>by have:=ArgsIs.length h.2; simp [this]
 | .tk::ms,v::vs,d::ds,h=>by have:=ArgsIs.length h.2; simp [this]
 | [],_::_,_,h=>h.elim
 | [],[],_::_,h=>h.elim
 | .val::_,[],_,h=>h.elim
 | .val::_,_::_,[],h=>h.elim
 | .io::_,[],_,h=>h.elim
 | .io::_,_::_,[],h=>h.elim
 | .tk::_,[],_,h=>h.elim
 | .tk::_,_::_,[],h=>h.elim
noncomputable def ja (n:Nat):List PM->List Nat
 | []=>[]
 | .val::ms=>ja (n+1) ms
 | _::ms=>n::ja (n+1) ms
noncomputable def gB (n:Nat):List PM->List Nat
 | []=>[]
 | .io::ms=>n::gB (n+1) ms
 | _::ms=>gB (n+1) ms
theorem vS {n:Nat}:∀ {ms:List PM} {i:Nat},i∈ja n ms->n<=i/\i < n+ms.length:=by
 intro ms
 induction ms generalizing n with
 | nil=>intro i h; simp [ja] at h
 | cons m ms ih=>
  intro i h
  cases m with
  | val=>have:=ih (n:=n+1) h; simp only [List.length_cons]; omega
  | io=>
   rcases List.mem_cons.mp h with e | h
   ·simp only [List.length_cons]; omega
   ·have:=ih (n:=n+1) h; simp only [List.length_cons]; omega
  | tk=>
   rcases List.mem_cons.mp h with e | h
   ·simp only [List.length_cons]; omega
   ·have:=ih (n:=n+1) h; simp only [List.length_cons]; omega
theorem WE {n:Nat}:∀ {ms:List PM} {i:Nat},i∈gB n ms->i∈ja n ms:=by
 intro ms
 induction ms generalizing n with
 | nil=>intro i h; simp [gB] at h
 | cons m ms ih=>
  intro i h
  cases m with
  | val=>exact ih (n:=n+1) h
  | io=>
   rcases List.mem_cons.mp h with e | h
   ·exact List.mem_cons.mpr (.inl e)
   ·exact List.mem_cons_of_mem _ (ih (n:=n+1) h)
  | tk=>exact List.mem_cons_of_mem _ (ih (n:=n+1) h)
theorem Js {K:Frag} {F H:Hp}:∀ {ms:List PM} {vs:List V} {ds:List D} {n:Nat},ArgsIs K F H ms vs ds ->
  (∀ j d,ds[j]?=some d->n+j∉ja n ms->∃ v,vs[j]?=some v/\Is K F v d) /\
  (∀ j d,ds[j]?=some d->n+j∈ja n ms->∃ a,vs[j]?=some (.ref a)/\F a=none/\OwnIs K F H a d):=by
 intro ms
 induction ms with
 | nil=>intro vs ds n h; cases vs <;> cases ds <;> first | exact h.elim | (refine ⟨fun j d e=>?_,fun j d e=>?_⟩ <;> simp at e)
 | cons m ms ih=>
  intro vs ds n h
  cases vs with
  | nil=>cases m <;> exact h.elim
  | cons v vs=>
   cases ds with
   | nil=>cases m <;> exact h.elim
   | cons d ds=>
    cases m with
    | val=>
     obtain ⟨h1,h2⟩:=h
     obtain ⟨i1,i2⟩:=ih (n:=n+1) h2
     refine ⟨fun j e hj hn=>?_,fun j e hj hn=>?_⟩
     ·cases j with
      | zero=>simp at hj; subst hj; exact ⟨v,rfl,h1⟩
      | succ j=>simpa using i1 j e (by simpa using hj) (by rw [show n+1+j=n+(j+1) by omega]; exact hn)
     ·cases j with
      | zero=>have:=vS (n:=n+1) hn; omega
      | succ j=>simpa using i2 j e (by simpa using hj) (by rw [show n+1+j=n+(j+1) by omega]; exact hn)
    | io=>
     obtain ⟨⟨a,rfl,h1⟩,h2⟩:=h
     obtain ⟨i1,i2⟩:=ih (n:=n+1) h2
     refine ⟨fun j e hj hn=>?_,fun j e hj hn=>?_⟩
     ·cases j with
      | zero=>exact absurd (List.mem_cons.mpr (.inl rfl)) hn
      | succ j=>simpa using i1 j e (by simpa using hj) (fun z=>hn (List.mem_cons_of_mem _ (by rw [show n+(j+1)=n+1+j by omega]; exact z)))
     ·cases j with
      | zero=>simp at hj; subst hj; exact ⟨a,rfl,h1⟩
      | succ j=>
       have hm:n+1+j∈ja (n+1) ms:=by
        rcases List.mem_cons.mp hn with z | z
        ·omega
        ·rw [show n+1+j=n+(j+1) by omega]; exact z
       simpa using i2 j e (by simpa using hj) hm
    | tk=>
     obtain ⟨⟨a,rfl,h1⟩,h2⟩:=h
     obtain ⟨i1,i2⟩:=ih (n:=n+1) h2
     refine ⟨fun j e hj hn=>?_,fun j e hj hn=>?_⟩
     ·cases j with
      | zero=>exact absurd (List.mem_cons.mpr (.inl rfl)) hn
      | succ j=>simpa using i1 j e (by simpa using hj) (fun z=>hn (List.mem_cons_of_mem _ (by rw [show n+(j+1)=n+1+j by omega]; exact z)))
     ·cases j with
      | zero=>simp at hj; subst hj; exact ⟨a,rfl,h1⟩
      | succ j=>
       have hm:n+1+j∈ja (n+1) ms:=by
        rcases List.mem_cons.mp hn with z | z
        ·omega
        ·rw [show n+1+j=n+(j+1) by omega]; exact z
       simpa using i2 j e (by simpa using hj) hm
theorem KL {n:Nat}:∀ {ms:List PM} {vs:List V} {j:Nat} {a:Addr},n+j∈ja n ms->vs[j]?=some (.ref a)->a∈ud ms vs:=by
 intro ms
 induction ms generalizing n with
 | nil=>intro vs j a h; simp [ja] at h
 | cons m ms ih=>
  intro vs j a h e
  cases vs with
  | nil=>simp at e
  | cons v vs=>
   cases j with
   | zero=>
    simp at e; subst e
    cases m with
    | val=>have:=vS (n:=n+1) h; omega
    | io=>exact List.mem_cons.mpr (.inl rfl)
    | tk=>exact List.mem_cons.mpr (.inl rfl)
   | succ j=>
    have e':vs[j]?=some (.ref a):=by simpa using e
    have sub:n+1+j∈ja (n+1) ms:=by
     rw [show n+1+j=n+(j+1) by omega]
     cases m with
     | val=>exact h
     | io=>exact (List.mem_cons.mp h).resolve_left (by omega)
     | tk=>exact (List.mem_cons.mp h).resolve_left (by omega)
    have q:=ih (n:=n+1) sub e'
    cases m <;> cases v <;> first | exact q | exact List.mem_cons_of_mem _ q
theorem KM {n:Nat}:∀ {ms:List PM} {vs:List V} {a:Addr},a∈ud ms vs->∃ j,n+j∈ja n ms/\vs[j]?=some (.ref a):=by
 intro ms
 induction ms generalizing n with
 | nil=>intro vs a h; cases vs <;> simp [ud] at h
 | cons m ms ih=>
  intro vs a h
  cases vs with
  | nil=>cases m <;> simp [ud] at h
  | cons v vs=>
   have up:∀ {b},b∈ud ms vs->∃ j,n+j∈ja n (m::ms)/\(v::vs)[j]?=some (.ref b):=fun hb=>by
    obtain ⟨j,h1,h2⟩:=ih (n:=n+1) hb
    refine ⟨j+1,?_,by simpa using h2⟩
    rw [show n+(j+1)=n+1+j by omega]
    cases m with
    | val=>exact h1
    | io=>exact List.mem_cons_of_mem _ h1
    | tk=>exact List.mem_cons_of_mem _ h1
   cases m with
   | val=>exact up (by cases v <;> exact h)
   | io=>
    cases v with
    | ref c=>
     rcases List.mem_cons.mp h with e | h
     ·subst e; exact ⟨0,List.mem_cons.mpr (.inl rfl),rfl⟩
     ·exact up h
    | _=>exact up h
   | tk=>
    cases v with
    | ref c=>
     rcases List.mem_cons.mp h with e | h
     ·subst e; exact ⟨0,List.mem_cons.mpr (.inl rfl),rfl⟩
     ·exact up h
    | _=>exact up h
theorem WF {n:Nat}:∀ {ms:List PM} {vs:List V} {i j:Nat} {a:Addr},(ud ms vs).Nodup->n+i∈ja n ms->n+j∈ja n ms->vs[i]?=some (.ref a)->vs[j]?=some (.ref a)->i=j:=by
 intro ms
 induction ms generalizing n with
 | nil=>intro vs i j a _ h; simp [ja] at h
 | cons m ms ih=>
  intro vs i j a nd hi hj e1 e2
  cases vs with
  | nil=>simp at e1
  | cons v vs=>
   have sub:∀ {k},n+(k+1)∈ja n (m::ms)->n+1+k∈ja (n+1) ms:=fun {k} h=>by
    rw [show n+1+k=n+(k+1) by omega]
    cases m with
    | val=>exact h
    | io=>exact (List.mem_cons.mp h).resolve_left (by omega)
    | tk=>exact (List.mem_cons.mp h).resolve_left (by omega)
   have nd':(ud ms vs).Nodup:=by
    cases m <;> cases v <;> first | exact nd | exact (List.nodup_cons.mp nd).2
   have no0:∀ {k b},n+0∈ja n (m::ms)->v=.ref b->n+(k+1)∈ja n (m::ms)->vs[k]?=some (.ref b)->False:=fun {k b} h0 hv hk ek=>by
    subst hv
    have q:=KL (n:=n+1) (sub hk) ek
    cases m with
    | val=>have:=vS (n:=n+1) h0; omega
    | io=>exact (List.nodup_cons.mp nd).1 q
    | tk=>exact (List.nodup_cons.mp nd).1 q
   cases i with
   | zero=>
    cases j with
    | zero=>rfl
    | succ j=>exact (no0 hi (by simpa using e1) hj (by simpa using e2)).elim
   | succ i=>
    cases j with
    | zero=>exact (no0 hj (by simpa using e2) hi (by simpa using e1)).elim
    | succ j=>exact congrArg (·+1) (ih (n:=n+1) nd' (sub hi) (sub hj) (by simpa using e1) (by simpa using e2))
noncomputable def qy (N:List Str) (ds:List D):Sl:=ds.map some++List.replicate (N.length - ds.length) none
theorem get_start {α:Type} {N:List Str} {xs:List α} {i:Nat} {x:α}:(xs.map some++List.replicate (N.length - xs.length) none)[i]?=some (some x)↔xs[i]?=some x:=by
 by_cases h:i < xs.length
 ·rw [List.getElem?_append_left (by simpa using h),List.getElem?_map]
  cases e:xs[i]? with
  | none=>simp
  | some y=>simp
 ·rw [List.getElem?_append_right (by simpa using h),List.getElem?_replicate]
  have e:xs[i]?=none:=List.getElem?_eq_none_iff.mpr (by omega)
  rw [e]
  split <;> simp
theorem KN {K:Frag} {F H:Hp} {N:List Str} {ms:List PM} {vs:List V} {ds:List D} (sb:Same F H) (ar:ArgsIs K F H ms vs ds) (nd:(ud ms vs).Nodup):Rep K (ja 0 ms) F H (jS N vs) (qy N ds):=by
 obtain ⟨h1,h2⟩:=Js (n:=0) ar
 obtain ⟨l1,l2⟩:=ar.length
 refine ⟨sb,by simp [jS,qy,l1,l2],fun i d hi e=>?_,fun i d hi e=>?_,fun i hi=>?_,fun i j a hi hj e1 e2=>?_⟩
 ·obtain ⟨v,a,b⟩:=h1 i d (get_start.mp e) (by simpa using hi)
  exact ⟨v,get_start.mpr a,b⟩
 ·obtain ⟨v,a,b⟩:=h2 i d (get_start.mp e) (by simpa using hi)
  exact ⟨v,get_start.mpr a,b⟩
 ·have q:=vS hi
  have hl:i < ds.length:=by omega
  exact ⟨ds[i],get_start.mpr (by simp [hl])⟩
 ·exact WF (n:=0) nd (by simpa using hi) (by simpa using hj) (get_start.mp e1) (get_start.mp e2)
theorem oa_start {N:List Str} {ms:List PM} {vs:List V} {b:Addr}:OA (ja 0 ms) (jS N vs) b↔LA ms vs b:=by
 constructor
 ·rintro ⟨i,hi,e⟩
  exact KL (n:=0) (by simpa using hi) (get_start.mp e)
 ·intro h
  obtain ⟨j,h1,h2⟩:=KM (n:=0) h
  exact ⟨j,by simpa using h1,get_start.mpr h2⟩
noncomputable def qx (ρ:Sl):Nat->List PM->List D
 | _,[]=>[]
 | n,.io::ms=>((ρ[n]?).getD none).getD .non::qx ρ (n+1) ms
 | n,_::ms=>.non::qx ρ (n+1) ms
theorem YE {K:Frag} {F H:Hp} {σ:St} {ρ:Sl} {N:List Str}:∀ {ms:List PM} {vs:List V} {n:Nat},vs.length=ms.length->(∀ i∈gB n ms,∃ d a,ρ[i]?=some (some d)/\vs[i - n]?=some (V.ref a)/\F a=none/\OwnIs K F H a d)->vR K F H ms vs (qx ρ n ms):=by
 intro ms
 induction ms with
 | nil=>intro vs n _ _; trivial
 | cons m ms ih=>
  intro vs n hl h
  cases vs with
  | nil=>simp at hl
  | cons v vs=>
   have rest:(∀ i∈gB (n+1) ms,i∈gB n (m::ms))->vR K F H ms vs (qx ρ (n+1) ms):=fun hs=>by
    refine ih (by simpa using hl) fun i hi=>?_
    obtain ⟨d,a,e1,e2,e3⟩:=h i (hs i hi)
    have q:=vS (WE hi)
    refine ⟨d,a,e1,?_,e3⟩
    rw [show i - n=(i - (n+1))+1 by omega] at e2
    simpa using e2
   cases m with
   | val=>exact rest fun i hi=>hi
   | io=>
    obtain ⟨d,a,e1,e2,e3⟩:=h n (List.mem_cons.mpr (.inl rfl))
    refine ⟨⟨a,by simpa using e2,e3.1,?_⟩,rest fun i hi=>List.mem_cons_of_mem _ hi⟩
    rw [e1]
    exact e3.2
   | tk=>exact rest fun i hi=>hi
noncomputable def Fl.val:Fl->Option D
 | .nx=>some .non
 | .rt d=>some d
 | _=>none
noncomputable def kJ (N:List Str) (ms:List PM) (f:Sl->Out (Fl×Sl)) (ds:List D):Out (D×List D):=match f (qy N ds) with
 | .ok (.nx,ρ)=>.ok (.non,qx ρ 0 ms)
 | .ok (.rt d,ρ)=>.ok (d,qx ρ 0 ms)
 | .ok _=>.bad
 | .exc c ρ=>.exc c ((qx ρ 0 ms).map some)
 | .bad=>.bad
theorem QA:∀ (l:List D),(l.map some).map (fun x:Option D=>x.getD .non)=l
 | []=>rfl
 | a::l=>congrArg (a::·) (QA l)
def Out.le {α:Type} (a b:Out α):Prop:=a=.bad\/a=b
theorem KO {C:Ct} {N:List Str} {ms:List PM} {own':List Nat} {f:Sl->Out (Fl×Sl)} {F H:Hp} {vs:List V} {ds:List D} {Q:VK} {o:Out (D×List D)} (hio:C.io=gB 0 ms) (hox:C.ox=C.io) (hmr:C.mr=.sh\/∀ ρ,(f (qy N ds))≠.ok (.nx,ρ)) (hsub:∀ i∈gB 0 ms,i∈own') (sb:Same F H) (ar:ArgsIs C.K F H ms vs ds) (nd:(ud ms vs).Nodup)
  (hG:Out.le o (kJ N ms f ds)) (h:PoG C.K C.cv ms C.mr vs F H Q C.E o):tSt C (ja 0 ms) own' f { nx:=fun _ H'=>Q .non H',rt:=Q } (jS N vs) H:=by
 refine ⟨F,qy N ds,KN sb ar nd,?_⟩
 have hl:=ar.length.1
 have ch:∀ {F' H'},Chg (OA (ja 0 ms) (jS N vs)) F H F' H'->Chg (LA ms vs) F H F' H':=fun c=>c.mono fun x z=>oa_start.mp z
 have outs:∀ {σ':St} {ρ':Sl} {F' H':Hp},JU C.K C.io F' H' σ' ρ'->(∀ i∈C.io,σ'[i]?=(jS N vs)[i]?)->vR C.K F' H' ms vs (qx ρ' 0 ms):=fun {σ' ρ' F' H'} io e=>by
  refine YE (N:=N) (σ:=σ') hl fun i hi=>?_
  have hi':i∈C.io:=by rw [hio]; exact hi
  obtain ⟨d,a,e1,e2,e3⟩:=io i hi'
  refine ⟨d,a,e1,?_,e3⟩
  rw [e i hi'] at e2
  exact get_start.mp e2
 rcases hG with e | e
 ·subst e; exact h.elim
 ·subst e
  unfold kJ at h
  cases q:f (qy N ds) with
  | ok p=>
   rw [q] at h
   obtain ⟨fl,ρ'⟩:=p
   cases fl with
   | nx=>
    have hm:C.mr=.sh:=hmr.resolve_right fun z=>z ρ' q
    exact fun σ' F' H' n=>h .non F' H' n.rep.sub (ch n.chg) (outs (n.rep.ioIs (by rw [hio]; exact hsub)) n.io) (by rw [hm]; exact .non)
   | rt d=>exact fun v σ' F' H' s io c e mo=>h v F' H' s (ch c) (outs io e) mo
   | bk=>exact h.elim
   | ct=>exact h.elim
  | exc c ρ'=>
   rw [q] at h
   exact fun F' H' s io c'=>h F' H' s (ch c') (by rw [QA]; exact outs (σ':=jS N vs) (by rw [<-hox]; exact io) fun _ _=>rfl)
  | bad=>rw [q] at h; exact h.elim
def XE (K:Frag) (cv:Str->Value) (E:XK) (ms:List PM) (mr:Mo):Ct:=⟨K,cv,E,gB 0 ms,mr,[],gB 0 ms,fun _ h=>h⟩
theorem qa4 {P:Program} {w:World} {K:Frag} {mg:Str->Option Value} {base:Heap} {CX:CXT} {x qual:Str} {st:Stmt} {f:Addr} {fd:FuncData} {N ps:List Str} {k:Nat} {cv:Str->Value} {ms:List PM} {mr:Mo} {own':List Nat} {fb:Sl->Out (Fl×Sl)} {G:List D->Out (D×List D)}
  (F:Fun K x qual st f fd) (S:FnScope N ps (qc st)) (hl:ms.length=ps.length) (hsub:∀ i∈gB 0 ms,i∈own') (hmr:mr=.sh\/∀ ds ρ,(fb (qy N ds))≠.ok (.nx,ρ))
  (hbody:∀ (cdv:Value) (A:Around) (outer:List Env) (s:Shared) (H:Hp) (E:XK),Room k (A.deeper (envOfC qual (qc st) s.heap.objs.size f cdv)) ->
   PSs (Ym CX P w K mg base N qual (qc st) f cdv A outer s H E) (jA st) (tSt (XE K cv E ms mr) (ja 0 ms) own' fb))
  (hG:∀ ds,Out.le (G ds) (kJ N ms fb ds)):FnOk P w K mg base CX (k+1) f fd ps (spD K cv ms mr G):=by
 obtain ⟨oc,od,kV,doc,pm,an,cdv,ct,osl,rfl,lk,hcd⟩:=F.ex
 refine qag lk hcd S (fun vs H Q E h=>?_) fun A outer s H vs Q E hr hsp=>?_
 ·obtain ⟨F,ds,_,ar,_⟩:=h
  rw [ar.length.1,hl]
 ·obtain ⟨F1,ds,sb,ar,nd,h⟩:=hsp
  refine ⟨_,hbody cdv A outer s H E hr,?_⟩
  exact KO (C:=XE K cv E ms mr) rfl rfl (hmr.imp id fun z ρ=>z ds ρ) hsub sb ar nd (hG ds) h
noncomputable def yC:AK->PM
 | .vl=>.val
 | .sl _=>.io
 | .fr=>.tk
noncomputable def qE:List AK->List D->Sl->Option (List D)
 | [],[],_=>some []
 | .sl i::as,_::ds,ρ=>match ρ[i]? with
  | some (some d)=>(qE as ds ρ).map (d::·)
  | _=>none
 | .vl::as,d::ds,ρ=>(qE as ds ρ).map (d::·)
 | .fr::as,d::ds,ρ=>(qE as ds ρ).map (d::·)
 | _,_,_=>none
noncomputable def jm:List AK->List D->Sl->Sl
 | .sl i::as,d::outs,ρ=>jm as outs (ρ.set i (some d))
 | _::as,_::outs,ρ=>jm as outs ρ
 | _,_,ρ=>ρ
noncomputable def qK:List AK->List Nat
 | []=>[]
 | .sl i::as=>i::qK as
 | _::as=>qK as
noncomputable def frA:List AK->Nat
 | []=>0
 | .fr::as=>frA as+1
 | _::as=>frA as
section
variable {K:Frag} {own:List Nat} {H0 F H:Hp} {σ:St} {ρ:Sl}
theorem vU:∀ {as:List AK} {vs:List V} {ds ds':List D},Rep K own F H σ ρ->(∀ i∈qK as,i∈own)->ArgV K H0 F H σ as vs ds->qE as ds ρ=some ds'->ArgsIs K F H (as.map yC) vs ds'
 | [],vs,ds,ds',rp,hs,av,e=>by
  cases vs <;> cases ds <;> first | exact av.elim | (simp [qE] at e; subst e; trivial)
 | a::as,[],ds,ds',rp,hs,av,e=>by cases a <;> exact av.elim
 | a::as,v::vs,[],ds',rp,hs,av,e=>by cases a <;> exact av.elim
 | .vl::as,v::vs,d::ds,ds',rp,hs,av,e=>by
  cases q:qE as ds ρ with
  | none=>simp [qE,q] at e
  | some l=>
   have e:d::l=ds':=by simpa [qE,q] using e
   subst e
   exact ⟨av.1,vU rp hs av.2 q⟩
 | .fr::as,v::vs,d::ds,ds',rp,hs,av,e=>by
  cases q:qE as ds ρ with
  | none=>simp [qE,q] at e
  | some l=>
   have e:d::l=ds':=by simpa [qE,q] using e
   subst e
   obtain ⟨a,h1,_,h2,h3⟩:=av.1
   exact ⟨⟨a,h1,h2,h3⟩,vU rp hs av.2 q⟩
 | .sl i::as,v::vs,d::ds,ds',rp,hs,av,e=>by
  obtain ⟨h1,_,av2⟩:=av
  have hi:i∈own:=hs i (List.mem_cons.mpr (.inl rfl))
  obtain ⟨d',hd⟩:=rp.opn i hi
  obtain ⟨a,e1,e2,e3⟩:=rp.ow i d' hi hd
  rw [h1] at e1
  cases e1
  cases q:qE as ds ρ with
  | none=>simp [qE,q,hd] at e
  | some l=>
   have e:d'::l=ds':=by simpa [qE,q,hd] using e
   subst e
   exact ⟨⟨a,rfl,e2,e3⟩,vU rp (fun j hj=>hs j (List.mem_cons_of_mem _ hj)) av2 q⟩
theorem jD:∀ {as:List AK} {vs:List V} {ds:List D} {b:Addr},ArgV K H0 F H σ as vs ds->b∈ud (as.map yC) vs->(∃ i∈qK as,σ[i]?=some (some (V.ref b)))\/(H0 b=none/\frA as≠0/\H b≠none/\F b=none)
 | [],vs,ds,b,av,h=>by cases vs <;> simp [ud] at h
 | a::as,[],ds,b,av,h=>by cases a <;> exact av.elim
 | a::as,v::vs,[],b,av,h=>by cases a <;> exact av.elim
 | .vl::as,v::vs,d::ds,b,av,h=>by
  have h:b∈ud (as.map yC) vs:=by cases v <;> exact h
  exact jD (as:=as) av.2 h
 | .fr::as,v::vs,d::ds,b,av,h=>by
  obtain ⟨⟨a,rfl,h0,hF,o⟩,av2⟩:=av
  have h:b∈a::ud (as.map yC) vs:=h
  rcases List.mem_cons.mp h with e | h
  ·subst e; exact .inr ⟨h0,by simp [frA],o.there,hF⟩
  ·rcases jD av2 h with z | ⟨z,_,z2⟩
   ·exact .inl z
   ·exact .inr ⟨z,by simp [frA],z2⟩
 | .sl i::as,v::vs,d::ds,b,av,h=>by
  obtain ⟨h1,_,av2⟩:=av
  have up:b∈ud (as.map yC) vs->(∃ j∈qK (.sl i::as),σ[j]?=some (some (V.ref b)))\/(H0 b=none/\frA (.sl i::as)≠0/\H b≠none/\F b=none):=fun h=>by
   rcases jD av2 h with ⟨j,hj,e⟩ | z
   ·exact .inl ⟨j,List.mem_cons_of_mem _ hj,e⟩
   ·exact .inr z
  cases v with
  | ref a=>
   have h:b∈a::ud (as.map yC) vs:=h
   rcases List.mem_cons.mp h with e | h
   ·subst e; exact .inl ⟨i,List.mem_cons.mpr (.inl rfl),h1⟩
   ·exact up h
  | _=>exact up h
theorem vm:∀ {as:List AK} {vs:List V} {ds:List D},Rep K own F H σ ρ->(∀ x,OA own σ x->H0 x≠none)->(∀ i∈qK as,i∈own)->(qK as).Nodup->frA as<=1->ArgV K H0 F H σ as vs ds->(ud (as.map yC) vs).Nodup
 | [],vs,ds,rp,h0,hs,nd,hf,av=>by cases vs <;> simp [ud]
 | a::as,[],ds,rp,h0,hs,nd,hf,av=>by cases a <;> exact av.elim
 | a::as,v::vs,[],rp,h0,hs,nd,hf,av=>by cases a <;> exact av.elim
 | .vl::as,v::vs,d::ds,rp,h0,hs,nd,hf,av=>by
  have q:=vm (as:=as) rp h0 hs nd hf av.2
  cases v <;> exact q
 | .fr::as,v::vs,d::ds,rp,h0,hs,nd,hf,av=>by
  have hf':frA as=0:=by simp only [frA] at hf; omega
  obtain ⟨⟨a,rfl,hz,hF,o⟩,av2⟩:=av
  show (a::ud (as.map yC) vs).Nodup
  refine List.nodup_cons.mpr ⟨fun z=>?_,vm rp h0 hs nd (by omega) av2⟩
  rcases jD av2 z with ⟨i,hi,e⟩ | ⟨_,n,_⟩
  ·exact h0 a ⟨i,hs i hi,e⟩ hz
  ·exact n hf'
 | .sl i::as,v::vs,d::ds,rp,h0,hs,nd,hf,av=>by
  obtain ⟨h1,_,av2⟩:=av
  have hs':∀ j∈qK as,j∈own:=fun j hj=>hs j (List.mem_cons_of_mem _ hj)
  have hi:i∈own:=hs i (List.mem_cons.mpr (.inl rfl))
  obtain ⟨ni,nd'⟩:=List.nodup_cons.mp nd
  have q:=vm rp h0 hs' nd' hf av2
  cases v with
  | ref a=>
   show (a::ud (as.map yC) vs).Nodup
   refine List.nodup_cons.mpr ⟨fun z=>?_,q⟩
   rcases jD av2 z with ⟨j,hj,e⟩ | ⟨n,_⟩
   ·exact ni (by rw [rp.dis i j a hi (hs' j hj) h1 e]; exact hj)
   ·exact h0 a ⟨i,hi,h1⟩ n
  | _=>exact q
theorem ku:∀ {as:List AK} {outs:List D} {ρ:Sl} {i:Nat},i∉qK as->(jm as outs ρ)[i]?=ρ[i]?
 | [],outs,ρ,i,h=>by cases outs <;> rfl
 | a::as,[],ρ,i,h=>by cases a <;> rfl
 | .vl::as,d::outs,ρ,i,h=>ku (as:=as) h
 | .fr::as,d::outs,ρ,i,h=>ku (as:=as) h
 | .sl j::as,d::outs,ρ,i,h=>by
  have h':i≠j/\i∉qK as:=by simpa [qK] using h
  show (jm as outs (ρ.set j (some d)))[i]?=_
  rw [ku h'.2,List.getElem?_set_ne (Ne.symm h'.1)]
theorem ul:∀ {as:List AK} {outs:List D} {ρ:Sl},(jm as outs ρ).length=ρ.length
 | [],outs,ρ=>by cases outs <;> rfl
 | a::as,[],ρ=>by cases a <;> rfl
 | .vl::as,d::outs,ρ=>ul (as:=as)
 | .fr::as,d::outs,ρ=>ul (as:=as)
 | .sl j::as,d::outs,ρ=>by
  show (jm as outs (ρ.set j (some d))).length=_
  rw [ul,List.length_set]
theorem yZ {F' H':Hp}:∀ {as:List AK} {vs:List V} {ds outs:List D} {ρ:Sl},(qK as).Nodup->(∀ i∈qK as,i < ρ.length)->ArgV K H0 F H σ as vs ds->vR K F' H' (as.map yC) vs outs->∀ i∈qK as,∃ d a,(jm as outs ρ)[i]?=some (some d)/\σ[i]?=some (some (V.ref a))/\F' a=none/\OwnIs K F' H' a d
 | [],vs,ds,outs,ρ,nd,hl,av,o,i,hi=>by simp [qK] at hi
 | a::as,[],ds,outs,ρ,nd,hl,av,o,i,hi=>by cases a <;> exact av.elim
 | a::as,v::vs,[],outs,ρ,nd,hl,av,o,i,hi=>by cases a <;> exact av.elim
 | a::as,v::vs,d::ds,[],ρ,nd,hl,av,o,i,hi=>by cases a <;> exact o.elim
 | .vl::as,v::vs,d::ds,u::outs,ρ,nd,hl,av,o,i,hi=>yZ (as:=as) nd hl av.2 o i hi
 | .fr::as,v::vs,d::ds,u::outs,ρ,nd,hl,av,o,i,hi=>yZ (as:=as) nd hl av.2 o i hi
 | .sl j::as,v::vs,d::ds,u::outs,ρ,nd,hl,av,o,i,hi=>by
  obtain ⟨ni,nd'⟩:=List.nodup_cons.mp nd
  obtain ⟨h1,_,av2⟩:=av
  obtain ⟨⟨a,e,hF,ow⟩,o2⟩:=o
  subst e
  rcases List.mem_cons.mp hi with e | hi
  ·subst e
   refine ⟨u,a,?_,h1,hF,ow⟩
   show (jm as outs (ρ.set i (some u)))[i]?=_
   rw [ku ni,List.getElem?_set_self (hl i (List.mem_cons.mpr (.inl rfl)))]
  ·exact yZ (as:=as) (ρ:=ρ.set j (some u)) nd' (fun k hk=>by rw [List.length_set]; exact hl k (List.mem_cons_of_mem _ hk)) av2 o2 i hi
end
noncomputable def qB (as:List AK) (G:List D->Out (D×List D)) (fr:Sl->Out (List D×Sl)):Sl->Out (D×Sl):=fun ρ=>(fr ρ).bind fun p=>match qE as p.1 p.2 with
 | some ds=>match G ds with
  | .ok q=>.ok (q.1,jm as q.2 p.2)
  | .exc c o=>.exc c (jm as (o.map (·.getD .non)) p.2)
  | .bad=>.bad
 | none=>.bad
section
variable {X:Cx} {C:Ct} {own:List Nat} {as:List AK} {G:List D->Out (D×List D)} {fr:Sl->Out (List D×Sl)} {mr:Mo} {e:Expr} {es:List Expr}
theorem QB {σ:St} {H0 F H F' H':Hp} {ρ:Sl} {vs:List V} {ds outs:List D} (rp:Rep C.K own F H σ ρ) (h0:∀ x,OA own σ x->H0 x≠none) (hs:∀ i∈qK as,i∈own) (nd:(qK as).Nodup) (av:ArgV C.K H0 F H σ as vs ds)
  (sb:Same F' H') (c:Chg (LA (as.map yC) vs) F H F' H') (o:vR C.K F' H' (as.map yC) vs outs):Rep C.K own F' H' σ (jm as outs ρ):=by
 have pin:=yZ (ρ:=ρ) nd (fun i hi=>by
  obtain ⟨d,e⟩:=rp.opn i (hs i hi)
  exact (List.getElem?_eq_some_iff.mp e).1) av o
 refine ⟨sb,by rw [ul]; exact rp.len,fun i d hi e=>?_,fun i d hi e=>?_,fun i hi=>?_,rp.dis⟩
 ·rw [ku (fun z=>hi (hs i z))] at e
  obtain ⟨v,h1,h2⟩:=rp.val i d hi e
  exact ⟨v,h1,h2.mono c.grow⟩
 ·by_cases q:i∈qK as
  ·obtain ⟨d',a,e1,e2,e3,e4⟩:=pin i q
   rw [e1] at e
   cases e
   exact ⟨a,e2,e3,e4⟩
  ·rw [ku q] at e
   obtain ⟨a,h1,h2,h3⟩:=rp.ow i d hi e
   have nl:¬LA (as.map yC) vs a:=fun z=>by
    rcases jD av z with ⟨j,hj,e'⟩ | ⟨n,_⟩
    ·exact q (by rw [rp.dis i j a hi (hs j hj) h1 e']; exact hj)
    ·exact h0 a ⟨i,hi,h1⟩ n
   refine ⟨a,h1,?_,h3.grow c.grow fun o' q'=>c.keep a o' q' nl⟩
   cases q':F' a with
   | none=>rfl
   | some u=>
    rcases c.new a (by rw [q']; simp) with z | z | z
    ·exact absurd h2 z
    ·exact absurd z h3.there
    ·exact absurd z nl
 ·by_cases q:i∈qK as
  ·obtain ⟨d',a,e1,_⟩:=pin i q
   exact ⟨d',e1⟩
  ·rw [ku q]
   exact rp.opn i hi
theorem xa {σ:St} {H:Hp} {Q:VK} (hio:∀ i∈C.ox,i∈own) (hs:∀ i∈qK as,i∈own) (nd:(qK as).Nodup) (hf:frA as<=1) (h:tE C own mr (qB as G fr) σ H Q) :
  tAr C own as fr σ H fun vs H1=>spD C.K C.cv (as.map yC) mr G (vs++[]) H1 Q C.E:=by
 obtain ⟨F,ρ,rp,h⟩:=h
 have h0:∀ x,OA own σ x->H x≠none:=fun x z=>(rp.OA_there z).1
 refine ⟨F,ρ,rp,?_⟩
 unfold qB at h
 cases q0:fr ρ with
 | ok p=>
  rw [q0] at h
  obtain ⟨ds,ρ1⟩:=p
  intro vs F1 H1 rp1 c1 av
  rw [List.append_nil]
  have h1:Po C own mr σ F H (match qE as ds ρ1 with | some ds=>(match G ds with | .ok q=>.ok (q.1,jm as q.2 ρ1) | .exc c o=>.exc c (jm as (o.map (·.getD .non)) ρ1) | .bad=>.bad) | none=>.bad) Q:=h
  cases q:qE as ds ρ1 with
  | none=>simp only [q] at h1; exact h1.elim
  | some ds'=>
   simp only [q] at h1
   have lo:∀ x,LA (as.map yC) vs x->OA own σ x\/H x=none:=fun x z=>by
    rcases jD av z with ⟨i,hi,e⟩ | ⟨n,_⟩
    ·exact .inl ⟨i,hs i hi,e⟩
    ·exact .inr n
   refine ⟨F1,ds',rp1.sub,vU rp1 hs av q,vm rp1 h0 hs nd hf av,?_⟩
   cases q2:G ds' with
   | ok p=>
    rw [q2] at h1
    obtain ⟨d,outs⟩:=p
    exact fun v F' H' sb c o mo=>h1 v F' H' (QB rp1 h0 hs nd av sb c o) (c1.trans c lo) (MoIs.back (Ha:=H1) c1 mo)
   | exc x o=>rw [q2] at h1; exact fun F' H' sb c outs=>h1 F' H' sb ((QB rp1 h0 hs nd av sb c outs).ioIs hio) (c1.trans c lo)
   | bad=>rw [q2] at h1; exact h1.elim
 | exc c=>rw [q0] at h; exact h
 | bad=>rw [q0] at h; exact h.elim
theorem YF {CX:CXT} {k:Nat} {f:Addr} {fd:FuncData} {ps:List Str} {x:Str} {p pos:Pos} {ms:List PM} (F:FnOk X.prog X.w X.K X.mg X.base CX k f fd ps (spD C.K C.cv ms mr G)) (hr:Room k X.A) (hg:Gl X x) (hm:X.mg x=some (.ref f)) (hk:keepIn X.K (.ref f)=true) (hb:Binds X.K fd ps []) (hx:jh CX X C.E)
  (ha:PA X (e::es) (tAr C own as fr)) (hms:ms=as.map yC:=by rfl) (hs:∀ i∈qK as,i∈own:=by decide) (nd:(qK as).Nodup:=by decide) (hf:frA as<=1:=by decide) (hio:∀ i∈C.ox,i∈own:=by exact jI rfl) (hdb:(x == ("__debug__":Str))=false:=by decide) (he:starEach (e::es) X.env=(false,eval e X.env)::starEach es X.env:=by exact qT rfl)
  (hpl:(backTo pos (starEach es X.env)).any (·.1)=false:=by exact vh rfl):PE X (.Call (.Name x p) (e::es) [] pos) (tE C own mr (qB as G fr)):=by
 subst hms
 exact qS (Yl F hr hg hm hk hb .nil hx ha hdb he hpl) fun σ H Q h=>xa hio hs nd hf h
end
structure ItIs (K:Frag) (F:Hp) (J:It) (ds:List D):Prop where
 go:∀ i H,i < ds.length->Same F H->J.go i H
 yld:∀ i Fi H x H' d,ds[i]?=some d->Same F Fi->Same Fi H->J.yld i H x H'->∃ F',Chg No Fi H F' H'/\Same F' H'/\Is K F' x d
 stop:∀ i H,ds.length<=i->Same F H->J.stop i H
def PoI (C:Ct) (own:List Nat) (σ:St) (F H:Hp) (r:Out (List D×Sl)) (R:It->Hp->Prop):Prop:=match r with
 | .ok (ds,ρ')=>∀ J F' H',Rep C.K own F' H' σ ρ'->Chg (OA own σ) F H F' H'->ItIs C.K F' J ds->R J H'
 | .exc c ρ'=>∀ F' H',Same F' H'->JU C.K C.ox F' H' σ ρ'->Chg (OA own σ) F H F' H'->C.E (C.cv c) none H'
 | .bad=>False
def tIt (C:Ct) (own:List Nat) (f:Sl->Out (List D×Sl)):TI:=fun σ H R=>∃ F ρ,Rep C.K own F H σ ρ/\PoI C own σ F H (f ρ) R
noncomputable def ZA:D->Out (List D)
 | .lst xs=>.ok xs
 | .tup xs=>.ok xs
 | _=>.bad
noncomputable def qbH (f:Sl->Out (D×Sl)):Sl->Out (List D×Sl):=fun ρ=>(f ρ).bind fun p=>(ZA p.1).bind fun ds=>.ok (ds,p.2)
theorem PoI.bindV {C:Ct} {own:List Nat} {m:Mo} {σ:St} {F H:Hp} {o:Out (D×Sl)} {k:D×Sl->Out (List D×Sl)} {Q:It->Hp->Prop} {R:VK} (hp:PoI C own σ F H (o.bind k) Q)
  (h:∀ v F1 H1 d ρ1,Rep C.K own F1 H1 σ ρ1->Chg (OA own σ) F H F1 H1->MoIs C.K m H F1 H1 v d->PoI C own σ F H (k (d,ρ1)) Q->R v H1):Po C own m σ F H o R:=by
 cases o with
 | ok p=>exact fun v F1 H1 rp c mo=>h v F1 H1 p.1 p.2 rp c mo hp
 | exc x=>exact hp
 | bad=>exact hp.elim
section
variable {X:Cx} {C:Ct} {own:List Nat} {tg e:Expr} {f:Sl->Out (D×Sl)} {m:Mo} {pos:Pos}
theorem YG {t t':TI} (h:PI X tg e t) (i:∀ σ H Q,t' σ H Q->t σ H Q):PI X tg e t':=⟨fun pins s σ H R I hw=>h pins s σ H R I (i σ H R hw)⟩
theorem ZB {K:Frag} {F:Hp} {a:Addr} {xs:List V} {ds:List D} (p:SqL K F a xs) (t:IsL K F xs ds):ItIs K F (Itl K a) ds where
 go:=fun i H hi s=>by
  have hx:i < xs.length:=by rw [t.length]; exact hi
  exact ⟨xs,xs[i],s.seq p,by simp [hx]⟩
 yld:=fun i Fi H x H' d e s1 s2 y=>by
  obtain ⟨rfl,y⟩:=y
  obtain ⟨v,h1,h2⟩:=t.getD e
  have q:=y xs ((s1.trans s2).seq p)
  rw [h1] at q
  cases q
  exact ⟨Fi,.refl,s2,h2.mono s1⟩
 stop:=fun i H hi s=>⟨xs,s.seq p,by rw [t.length]; exact hi⟩
theorem ZC {K:Frag} {F:Hp} {a:Addr} {xs:List V} {ds:List D} (p:SqT K F a xs) (t:IsL K F xs ds):ItIs K F (Itt K a) ds where
 go:=fun i H hi s=>by
  have hx:i < xs.length:=by rw [t.length]; exact hi
  exact ⟨xs,xs[i],qA s p,by simp [hx]⟩
 yld:=fun i Fi H x H' d e s1 s2 y=>by
  obtain ⟨rfl,y⟩:=y
  obtain ⟨v,h1,h2⟩:=t.getD e
  have q:=y xs (qA (s1.trans s2) p)
  rw [h1] at q
  cases q
  exact ⟨Fi,.refl,s2,h2.mono s1⟩
 stop:=fun i H hi s=>⟨xs,qA s p,by rw [t.length]; exact hi⟩
noncomputable def gC (lo:Int) (n:Nat):List D:=(List.range n).map fun k=>.int (lo+(k:Nat))
theorem ZD {K:Frag} {F:Hp} {lo:Int} {n:Nat}:ItIs K F (Itr lo n) (gC lo n) where
 go:=fun i H hi _=>by
  have:i < n:=by simpa [gC] using hi
  exact this
 yld:=fun i Fi H x H' d e s1 s2 y=>by
  obtain ⟨rfl,rfl⟩:=y
  have e:d=.int (lo+i):=by
   unfold gC at e
   rw [List.getElem?_map] at e
   cases q:(List.range n)[i]? with
   | none=>rw [q] at e; cases e
   | some k=>
    rw [q] at e
    have hk:k=i:=by
     have:=List.getElem?_eq_some_iff.mp q
     obtain ⟨_,z⟩:=this
     simpa using z.symm
    subst hk
    exact (Option.some.inj e).symm
  subst e
  exact ⟨Fi,.refl,s2,.int _⟩
 stop:=fun i H hi _=>by
  have:n<=i:=by simpa [gC] using hi
  exact this
noncomputable def jV (f:Sl->Out (D×Sl)):Sl->Out (List D×Sl):=fun ρ=>(f ρ).bind fun p=>match p.1 with
 | .int j=>if -(2 ^ 62)<=j/\j < 2 ^ 62 then .ok (gC 0 j.toNat,p.2) else .bad
 | _=>.bad
theorem wq {p:Pos} (hg:Gl X "range") (hm:X.mg "range"=none) (h:PE X e (tE C own m f)) (hs:starEach [e] X.env=[(false,eval e X.env)]:=by exact qM rfl):PI X tg (.Call (.Name "range" p) [e] [] pos) (tIt C own (jV f)):=by
 refine YG (Ke hg hm (qG h qZ hs) hs) fun σ H R ⟨F,ρ,rp,h⟩=>⟨F,ρ,rp,PoI.bindV h fun v F1 H1 d ρ1 rp1 c1 mo1 h1=>?_⟩
 cases d with
 | int j=>
  obtain rfl:=mo1.top.int
  have h1:PoI C own σ F H (if -(2 ^ 62)<=j/\j < 2 ^ 62 then .ok (gC 0 j.toNat,ρ1) else .bad) R:=h1
  by_cases z:-(2 ^ 62)<=j/\j < 2 ^ 62
  ·rw [if_pos z] at h1
   exact ⟨j,rfl,z.1,z.2,h1 _ F1 H1 rp1 c1 ZD⟩
  ·rw [if_neg z] at h1; exact h1.elim
 | _=>exact h1.elim
def tGd (C:Ct) (own:List Nat) (g:D->Sl->Out Sl):TG:=fun v σ H Q=>∃ F ρ d,Rep C.K own F H σ ρ/\Is C.K F v d/\∃ ρ',g d ρ=.ok ρ'/\∀ σ',Rep C.K own F H σ' ρ'->(∀ b,OA own σ' b->OA own σ b)->(∀ i∈C.io,σ'[i]?=σ[i]?)->Q σ' H
def Gx (C:Ct) (own:List Nat) (g:List D->Sl->Out Sl):TGs:=fun vs σ H Q=>∃ F ρ ds,Rep C.K own F H σ ρ/\IsL C.K F vs ds/\∃ ρ',g ds ρ=.ok ρ'/\∀ σ',Rep C.K own F H σ' ρ'->(∀ b,OA own σ' b->OA own σ b)->(∀ i∈C.io,σ'[i]?=σ[i]?)->Q σ' H
theorem ZE {t t':TG} (h:PG X e t) (i:∀ v σ H Q,t' v σ H Q->t v σ H Q):PG X e t':=⟨fun pins s σ H v u Q I r hw=>h pins s σ H v u Q I r (i v σ H Q hw)⟩
theorem UL {es:List Expr} {t t':TGs} (h:PGs X es t) (i:∀ v σ H Q,t' v σ H Q->t v σ H Q):PGs X es t':=⟨fun pins s σ H v u Q I r hw=>h pins s σ H v u Q I r (i v σ H Q hw)⟩
noncomputable def gNm (i:Nat):D->Sl->Out Sl:=fun d ρ=>if i < ρ.length then .ok (ρ.set i (some d)) else .bad
theorem yD {own:List Nat} {i:Nat} (h:i∉own):kO own [i]=own:=by
 unfold kO
 rw [List.filter_eq_self]
 intro j hj
 simp only [List.mem_singleton,decide_eq_true_eq]
 exact fun z=>h (by rw [<-z]; exact hj)
theorem qI {i:Nat} {x:Str} (hN:X.N.Nodup) (hi:X.N[i]?=some x) (hx:Loc X.env.scope x) (ho:i∉own:=by decide) (hio:i∉C.io:=by exact Qq rfl) (hf:X.fn x=true\/X.env.scope.names.lookup x=some .local:=by first | exact .inl rfl | exact .inr rfl):PG X (.Name x pos) (tGd C own (gNm i)):=by
 refine ZE (Yh hN hi hx hf) fun v σ H Q ⟨F,ρ,d,rp,is,ρ',e,k⟩=>?_
 unfold gNm at e
 by_cases z:i < ρ.length
 ·rw [if_pos z] at e
  cases e
  have r2:=rp.put z is
  rw [yD ho] at r2
  refine k _ r2 (fun b q=>?_) fun j hj=>List.getElem?_set_ne fun q=>hio (by rw [q]; exact hj)
  have q':OA (kO own [i]) (σ.set i (some v)) b:=by rw [yD ho]; exact q
  exact q'.put
 ·rw [if_neg z] at e; cases e
noncomputable def KP:List D->Sl->Out Sl
 | [],ρ=>.ok ρ
 | _::_,_=>.bad
noncomputable def wJ (g:D->Sl->Out Sl) (gs:List D->Sl->Out Sl):List D->Sl->Out Sl
 | d::ds,ρ=>(g d ρ).bind fun ρ1=>gs ds ρ1
 | [],_=>.bad
theorem xb:PGs X [] (Gx C own KP):=by
 refine UL Yi fun vs σ H Q ⟨F,ρ,ds,rp,is,ρ',e,k⟩=>?_
 cases is with
 | nil=>cases e; exact ⟨rfl,k σ rp (fun _ z=>z) fun _ _=>rfl⟩
 | cons _ _=>cases e
theorem kj {es:List Expr} {g:D->Sl->Out Sl} {gs:List D->Sl->Out Sl} (h1:PG X e (tGd C own g)) (h2:PGs X es (Gx C own gs)) (hs:(assignEach (e::es) X.env).map (·.2)=assign e X.env::(assignEach es X.env).map (·.2):=by rfl):PGs X (e::es) (Gx C own (wJ g gs)):=by
 refine UL (Wo h1 h2 hs) fun vs σ H Q ⟨F,ρ,ds,rp,is,ρ',e,k⟩=>?_
 cases is with
 | nil=>cases e
 | @cons v d vs ds a t=>
  have e:(g d ρ).bind (fun ρ1=>gs ds ρ1)=.ok ρ':=e
  cases q:g d ρ with
  | ok ρ1=>
   rw [q] at e
   exact ⟨v,vs,rfl,F,ρ,d,rp,a,ρ1,q,fun σ1 rp1 oa1 io1=>⟨F,ρ1,ds,rp1,t,ρ',e,fun σ2 rp2 oa2 io2=>k σ2 rp2 (fun b z=>oa1 b (oa2 b z)) fun i hi=>(io2 i hi).trans (io1 i hi)⟩⟩
  | exc c=>rw [q] at e; cases e
  | bad=>rw [q] at e; cases e
noncomputable def KQ (n:Nat) (gs:List D->Sl->Out Sl):D->Sl->Out Sl
 | .tup ds,ρ=>if ds.length=n then gs ds ρ else .bad
 | _,_=>.bad
theorem gD {es:List Expr} {k n:Nat} {gs:List D->Sl->Out Sl} (hK:C.K=X.K) (hc:X.calm=true) (h:PGs X es (Gx C own gs)) (hn:(assignEach es X.env).length=n:=by rfl) (hst:(assignEach es X.env).findIdx? (·.1)=none:=by rfl):PG X (.Tuple es k pos) (tGd C own (KQ n gs)):=by
 refine ZE (XY hc h hn hst) fun v σ H Q ⟨F,ρ,d,rp,is,ρ',e,k⟩=>?_
 cases is with
 | @tup a xs ds p t=>
  have e:(if ds.length=n then gs ds ρ else .bad)=.ok ρ':=e
  by_cases z:ds.length=n
  ·rw [if_pos z] at e
   exact ⟨a,xs,rfl,by rw [<-hK]; exact qA rp.sub p,by rw [t.length]; exact z,F,ρ,ds,rp,t,ρ',e,k⟩
  ·rw [if_neg z] at e; cases e
 | _=>cases e
noncomputable def qar (fe:Sl->Out (D×Sl)) (g:D->Sl->Out Sl):Sl->Out (Fl×Sl):=fun ρ=>(fe ρ).bind fun p=>match g p.1 p.2 with
 | .ok ρ'=>.ok (.nx,ρ')
 | _=>.bad
theorem YH {g:D->Sl->Out Sl} (he:PE X e (tE C own m f)) (hg:PG X tg (tGd C own g)) (hm:m≠.any:=by decide) (hs:swapsWithSole [tg] e pos.line X.env=pure false:=by rfl) (hw:swappedStores [tg] e X.env=pure none:=by rfl)
  (h1:(assignEach [tg] X.env).map (·.2)=[assign tg X.env]:=by rfl):PS X (.Assign [tg] e pos) (tSt C own own (qar f g)):=by
 refine gx (XZ (wn he hm) hg hs hw h1) fun D σ H ⟨F,ρ,rp,h⟩=>⟨F,ρ,rp,PoS.bindE h fun v F1 H1 d ρ1 rp1 c1 mo1 h1=>?_⟩
 cases q:g d ρ1 with
 | ok ρ'=>
  simp only [q] at h1
  exact ⟨F1,ρ1,d,rp1,mo1,ρ',q,fun σ' rp' oa io=>h1 σ' F1 H1 ⟨rp',.refl,fun b z=>.inl (oa b z),io⟩⟩
 | exc c=>simp only [q] at h1; exact h1.elim
 | bad=>simp only [q] at h1; exact h1.elim
noncomputable def gh (g:D->Sl->Out Sl) (fb:Sl->Out (Fl×Sl)):List D->Sl->Out (Fl×Sl)
 | [],ρ=>.ok (.nx,ρ)
 | d::ds,ρ=>(g d ρ).plain.bind fun ρ1=>(fb ρ1).bind fun p=>match p.1 with
  | .nx=>gh g fb ds p.2
  | .ct=>gh g fb ds p.2
  | .bk=>.ok (.nx,p.2)
  | .rt v=>.ok (.rt v,p.2)
noncomputable def XF (fi:Sl->Out (List D×Sl)) (g:D->Sl->Out Sl) (fb:Sl->Out (Fl×Sl)):Sl->Out (Fl×Sl):=fun ρ=>(fi ρ).bind fun p=>gh g fb p.1 p.2
theorem gE {iter:Expr} {body:List Stmt} {fi:Sl->Out (List D×Sl)} {g:D->Sl->Out Sl} {fb:Sl->Out (Fl×Sl)} (hp:PassesOwn (model X.prog X.w) X.A X.env X.xe) (hc:X.calm=true) (hi:PI X tg iter (tIt C own fi)) (hg:PG X tg (tGd C own g))
  (hb:PSs X body (tSt { C with ol:=own } own own fb)) (hs:∀ x,foldedSetIterable iter X.env x=pure x:=by intro _; rfl):PS X (.For tg iter body [] pos) (tSt C own own (XF fi g fb)):=by
 refine gx (Za hp hc hi hg hb hs) fun D σ H ⟨F,ρ,rp,h⟩=>⟨F,ρ,rp,?_⟩
 unfold XF at h
 cases q0:fi ρ with
 | exc c=>rw [q0] at h; exact h
 | bad=>rw [q0] at h; exact h.elim
 | ok p=>
  rw [q0] at h
  obtain ⟨ds,ρ1⟩:=p
  intro J F1 H1 rp1 c1 it
  have h:PoS C own own σ F H (gh g fb ds ρ1) D:=h
  refine ⟨fun i m σ' H'=>m=ds.length - i/\i<=ds.length/\∃ F' ρ',Nx C own own σ F H ρ' σ' F' H'/\Same F1 F'/\PoS C own own σ' F' H' (gh g fb (ds.drop i) ρ') D,⟨ds.length,by simp,Nat.zero_le _,F1,ρ1,.ofE rp1 c1,Same.refl _,h.shift (.ofE rp1 c1)⟩,?_⟩
  rintro i m σ' H' ⟨rfl,hle,F',ρ',nx,gr,po⟩
  by_cases hlt:i < ds.length
  ·have hd:ds.drop i=ds[i]::ds.drop (i+1):=List.drop_eq_getElem_cons hlt
   rw [hd] at po
   have po:PoS C own own σ' F' H' ((g ds[i] ρ').plain.bind fun ρ1=>(fb ρ1).bind fun p=>match p.1 with | .nx=>gh g fb (ds.drop (i+1)) p.2 | .ct=>gh g fb (ds.drop (i+1)) p.2 | .bk=>.ok (.nx,p.2) | .rt v=>.ok (.rt v,p.2)) D:=po
   refine .inr ⟨it.go i H' hlt (gr.trans nx.rep.sub),fun σ2 H2=>ds.length - (i+1)=ds.length - (i+1)/\i+1<=ds.length/\∃ F' ρ',Nx C own own σ F H ρ' σ2 F' H2/\Same F1 F'/\PoS C own own σ2 F' H2 (gh g fb (ds.drop (i+1)) ρ') D,fun σ2 H2 q=>⟨ds.length - (i+1),by omega,q⟩,fun x H2 y=>?_⟩
   obtain ⟨F2,c2,s2,is2⟩:=it.yld i F' H' x H2 ds[i] (by simp [hlt]) gr nx.rep.sub y
   cases q1:g ds[i] ρ' with
   | exc c=>rw [q1] at po; exact po.elim
   | bad=>rw [q1] at po; exact po.elim
   | ok ρ2=>
    rw [q1] at po
    refine ⟨F2,ρ',ds[i],nx.rep.grow c2 s2,is2,ρ2,q1,fun σ3 rp3 oa3 io3=>⟨F2,ρ2,rp3,?_⟩⟩
    have n3:Nx C own own σ' F' H' ρ2 σ3 F2 H2:=⟨rp3,c2.ofNo,fun b z=>.inl (oa3 b z),io3⟩
    have po3:=PoS.shift (show PoS C own own σ' F' H' ((fb ρ2).bind fun p=>match p.1 with | .nx=>gh g fb (ds.drop (i+1)) p.2 | .ct=>gh g fb (ds.drop (i+1)) p.2 | .bk=>.ok (.nx,p.2) | .rt v=>.ok (.rt v,p.2)) D from po) n3
    have up:∀ {ρ4 σ4 F4 H4},Nx { C with ol:=own } own own σ3 F2 H2 ρ4 σ4 F4 H4->Nx C own own σ3 F2 H2 ρ4 σ4 F4 H4:=fun z=>⟨z.rep,z.chg,z.oa,z.io⟩
    cases q2:fb ρ2 with
    | exc c=>rw [q2] at po3; exact po3
    | bad=>rw [q2] at po3; exact po3.elim
    | ok p=>
     rw [q2] at po3
     obtain ⟨fl,ρ4⟩:=p
     cases fl with
     | nx=>exact fun σ4 F4 H4 n4=>⟨rfl,hlt,F4,ρ4,(nx.then n3).then (up n4),(gr.trans c2.grow).trans n4.chg.grow,PoS.shift (show PoS C own own σ3 F2 H2 (gh g fb (ds.drop (i+1)) ρ4) D from po3) (up n4)⟩
     | ct=>exact fun σ4 F4 H4 n4=>⟨rfl,hlt,F4,ρ4,(nx.then n3).then (up n4),(gr.trans c2.grow).trans n4.chg.grow,PoS.shift (show PoS C own own σ3 F2 H2 (gh g fb (ds.drop (i+1)) ρ4) D from po3) (up n4)⟩
     | bk=>exact fun σ4 F4 H4 n4=>po3 σ4 F4 H4 (up n4)
     | rt d=>exact fun v σ4 F4 H4 s io c e mo=>po3 v σ4 F4 H4 s io c e mo
  ·have e:i=ds.length:=by omega
   subst e
   rw [List.drop_length] at po
   exact .inl ⟨it.stop _ H' (Nat.le_refl _) (gr.trans nx.rep.sub),po σ' F' H' (.refl nx.rep)⟩
end
noncomputable def uC (cells:List (Str×Addr)):List (Str×NameKind)->List (Str×Addr)->List (Str×Addr)
 | [],acc=>acc
 | (n,k)::r,acc=>if (k == .free)=true then uC cells r ((n,(cells.lookup n).getD 0)::acc) else uC cells r acc
theorem kR {env:Env}:∀ (names:List (Str×NameKind)) (acc:List (Str×Addr)),(∀ x∈names,x.2=.free->∃ c,env.cells.lookup x.1=some c) ->
  (forIn names acc fun (x:Str×NameKind) (cs:List (Str×Addr))=>if (x.2 == NameKind.free)=true then (do let a <-cellOf env x.1; pure (ForInStep.yield ((x.1,a)::cs))) else pure (ForInStep.yield cs):Sem (List (Str×Addr)))=pure (uC env.cells names acc)
 | [],acc,_=>rfl
 | (n,k)::r,acc,h=>by
  rw [List.forIn_cons]
  by_cases q:(k == NameKind.free)=true
  ·obtain ⟨c,hc⟩:=h (n,k) List.mem_cons_self (by simpa using q)
   have e:cellOf env n=pure c:=by unfold cellOf; rw [hc]
   simp only [q,if_true,e]
   have ih:=kR r ((n,c)::acc) (fun x hx=>h x (List.mem_cons_of_mem _ hx))
   simp only [uC,q,if_true,hc,Option.getD_some]
   exact ih
  ·simp only [q,if_false,uC]
   exact kR r acc (fun x hx=>h x (List.mem_cons_of_mem _ hx))
theorem wt {scope:Scope} {env:Env} (h:∀ x∈scope.names,x.2=.free->∃ c,env.cells.lookup x.1=some c):closureFor scope env=pure (uC env.cells scope.names []):=by
 have:=kR scope.names [] h
 unfold closureFor
 simp only [bind_pure]
 exact this
theorem vG {cells:List (Str×Addr)}:∀ {names:List (Str×NameKind)} {acc:List (Str×Addr)} {x:Str} {c:Addr},(∀ y∈names,y.2=.free->∃ c,cells.lookup y.1=some c)->(uC cells names acc).lookup x=some c->cells.lookup x=some c\/acc.lookup x=some c
 | [],acc,x,c,_,h=>.inr h
 | (n,k)::r,acc,x,c,hf,h=>by
  unfold uC at h
  by_cases q:(k == NameKind.free)=true
  ·rw [if_pos q] at h
   obtain ⟨c',hc⟩:=hf (n,k) List.mem_cons_self (by simpa using q)
   rcases vG (fun y hy=>hf y (List.mem_cons_of_mem _ hy)) h with z | z
   ·exact .inl z
   ·rw [List.lookup_cons] at z
    have hc:cells.lookup n=some c':=hc
    by_cases e:(x == n)=true
    ·rw [e] at z
     simp only [hc,Option.getD_some] at z
     have:x=n:=by simpa using e
     subst this
     rw [hc]; exact .inl z
    ·have e:(x == n)=false:=by simpa using e
     rw [e] at z
     exact .inr z
  ·rw [if_neg q] at h
   exact vG (fun y hy=>hf y (List.mem_cons_of_mem _ hy)) h
theorem xc {cells:List (Str×Addr)}:∀ {names:List (Str×NameKind)} {acc:List (Str×Addr)} {x:Str},(∃ c,acc.lookup x=some c)->∃ c,(uC cells names acc).lookup x=some c
 | [],_,_,h=>h
 | (n,k)::r,acc,x,h=>by
  unfold uC
  by_cases q:(k == NameKind.free)=true
  ·rw [if_pos q]
   refine xc ?_
   obtain ⟨c,hc⟩:=h
   rw [List.lookup_cons]
   by_cases e:(x == n)=true
   ·rw [e]; exact ⟨_,rfl⟩
   ·have e:(x == n)=false:=by simpa using e
    rw [e]; exact ⟨c,hc⟩
  ·rw [if_neg q]; exact xc h
theorem um {cells:List (Str×Addr)}:∀ {names:List (Str×NameKind)} {acc:List (Str×Addr)} {x:Str},(x,NameKind.free)∈names->∃ c,(uC cells names acc).lookup x=some c
 | (n,k)::r,acc,x,h=>by
  unfold uC
  rcases List.mem_cons.mp h with e | h
  ·cases e
   rw [if_pos (by rfl)]
   refine xc ?_
   rw [List.lookup_cons,beq_self_eq_true]
   exact ⟨_,rfl⟩
  ·by_cases q:(k == NameKind.free)=true
   ·rw [if_pos q]; exact um h
   ·rw [if_neg q]; exact um h
noncomputable def qF (X:Cx) (scope:Scope) (N:List Str) (fp:List Addr) (L:Addr) (s:Shared) (H:Hp):Cx:=
 { X with N:=N,s₀:=s,H₀:=H,env:=compEnvC scope (uC X.env.cells scope.names []) L X.env,outer:=X.stack,stack:=X.stack,ex:=fp,fn:=fun _=>false,pn:=[],xe:=fun _ _=>False }
structure ScOk (X:Cx) (scope:Scope):Prop where
 kind:scope.kind=.function
 nocell:∀ y∈scope.names,y.2≠.cell
 names:∀ y∈scope.names,y.2=.local->scope.names.lookup y.1=some .local
 free:∀ y∈scope.names,y.2=.free->X.env.kindOf y.1=some .cell\/X.env.kindOf y.1=some .free
 frl:∀ y∈scope.names,y.2=.free->scope.names.lookup y.1=some .free
theorem vn {α:Type} {x:Str} {a:α}:∀ {l:List (Str×α)},l.lookup x=some a->(x,a)∈l
 | [],h=>by simp at h
 | (n,k)::r,h=>by
  rw [List.lookup_cons] at h
  by_cases e:(x == n)=true
  ·rw [e] at h
   have h:some k=some a:=h
   cases h
   have:x=n:=by simpa using e
   subst this
   exact List.mem_cons_self
  ·have e:(x == n)=false:=by simpa using e
   rw [e] at h
   exact List.mem_cons_of_mem _ (vn h)
theorem wK {scope:Scope} {env:Env} {x:Str} {k:NameKind} (h:(relabel scope env).names.lookup x=some k) (hk:k=.cell\/k=.free) (hn:∀ y∈scope.names,y.2≠.cell):(x,NameKind.free)∈scope.names:=by
 have m:=vn h
 obtain ⟨⟨n,k'⟩,hm,e⟩:=List.mem_map.mp m
 dsimp only at e
 by_cases q:(k' == NameKind.free&&env.scope.kind == .function&&env.kindOf n == some .cell)=true
 ·rw [if_pos q] at e
  cases e
  have:k'=.free:=by
   rw [Bool.and_eq_true,Bool.and_eq_true] at q
   simpa using q.1.1
  subst this
  exact hm
 ·rw [if_neg q] at e
  cases e
  rcases hk with rfl | rfl
  ·exact absurd rfl (hn _ hm)
  ·exact hm
theorem zq {scope:Scope} {env:Env} {x:Str} (h:Vis (relabel scope env) x):∃ k,(x,k)∈scope.names:=by
 have go:∀ {k:NameKind},(relabel scope env).names.lookup x=some k->∃ k,(x,k)∈scope.names:=fun {k} h=>by
  obtain ⟨⟨n,k'⟩,hm,e⟩:=List.mem_map.mp (vn h)
  dsimp only at e
  by_cases q:(k' == NameKind.free&&env.scope.kind == .function&&env.kindOf n == some .cell)=true
  ·rw [if_pos q] at e
   cases e
   exact ⟨_,hm⟩
  ·rw [if_neg q] at e
   cases e
   exact ⟨_,hm⟩
 rcases h with h | h | h <;> exact go h
section
variable {X:Cx} {pins:List (Addr×Obj)} {σ σc:St} {H:Hp} {s:Shared} {scope:Scope} {N:List Str} {fp:List Addr}
theorem vV (I:Inv X pins σ H s) (S:ScOk X scope):∀ y∈scope.names,y.2=.free->∃ c,X.env.cells.lookup y.1=some c:=fun y hy e=>I.ok.has y.1 (S.free y hy e)
theorem QC {h':Heap} (I:Inv X pins σ H s) (S:ScOk X scope) (hf:∀ b∈fp,uw X pins H b) (ho:∀ b∈fp,b < s.heap.objs.size) (hns:h'.Ns s.heap.objs.size (fun _=>none))
  (hk:∀ b o,s.heap.get? b=some o->h'.get? b=some o) (hl:σc.length=N.length)
  (hσ:∀ (j:Nat) (x:Str) (v:V),N[j]?=some x->σc[j]?=some (some v)->(∃ k,(x,k)∈scope.names)->∃ i:Nat,X.N[i]?=some x/\σ[i]?=some (some v)/\Vis X.env.scope x/\(x,NameKind.free)∈scope.names) {t:Nat} :
  Inv (qF X scope N fp s.heap.objs.size s H) [] σc H { s with heap:=h',toks:=t }:=by
 have hfc:=vV I S
 have cl:∀ x c,(uC X.env.cells scope.names []).lookup x=some c->X.env.cells.lookup x=some c:=fun x c e=>(vG hfc e).resolve_right (by simp)
 have nfs:∀ b∈fp,b∉frs X.stack:=fun b hb z=>by
  obtain ⟨f0,f1,f2,_⟩:=hf b hb
  rcases List.mem_cons.mp (I.stkSub b z) with e | e
  ·exact f1 e
  ·exact f2 e
 refine ⟨⟨I.ok.mod,?_,I.ok.glob,I.ok.blt,Nat.le_refl _,fun x y c h1 h2=>I.ok.inj x y c (cl x c h1) (cl y c h2),fun x hx=>?_,fun x c h=>absurd h (by show ¬(false=true); exact Bool.false_ne_true),I.ok.hd,I.ok.frames,.inl rfl,fun b hb=>⟨Nat.ne_of_lt (ho b hb),fun x c e z=>?_⟩,I.bs,Nat.le_trans I.ok.bsz I.sz,fun b o e hb=>?_,nfs,I.stack,I.stkFree⟩,
  rfl,I.bare,Un.kept hk,⟨_,hns,fun j x v e1 e2 e3=>?_⟩,fun x c e=>?_,I.hok.fresh (Nat.le_refl _),fun x c e=>I.freeC x c (cl x c e),fun p hp=>absurd (show p∈([]:List (Addr×Obj)) from hp) (by simp),I.hok.kept hk,hl⟩
 ·exact S.kind
 ·refine um ?_
  rcases hx with hx | hx
  ·exact wK hx (.inl rfl) S.nocell
  ·exact wK hx (.inr rfl) S.nocell
 ·exact (hf b hb).2.2.2.2.1 x c (cl x c e) z
 ·rcases (hf b hb).2.2.2.1 with z | z
  ·exact I.ok.noex b o e z
  ·have hlt:=Heap.lt_size e
   exact absurd (Nat.lt_of_lt_of_le hlt (Nat.le_trans I.ok.bsz z)) (Nat.lt_irrefl _)
 ·obtain ⟨i,g1,g2,g3,g4⟩:=hσ j x v e1 e2 (zq e3)
  obtain ⟨m,hn,hl'⟩:=I.loc
  obtain ⟨u,r,look⟩:=hl' i x v g1 g2 g3
  refine ⟨u,r,?_⟩
  obtain ⟨c0,hc0⟩:=um (cells:=X.env.cells) (acc:=[]) g4
  have hce:=cl x c0 hc0
  have kd:(qF X scope N fp s.heap.objs.size s H).env.kindOf x=some .cell\/(qF X scope N fp s.heap.objs.size s H).env.kindOf x=some .free\/(qF X scope N fp s.heap.objs.size s H).env.kindOf x=some .local:=by
   rcases e3 with z | z | z
   ·exact .inr (.inr z)
   ·exact .inl z
   ·exact .inr (.inl z)
  rcases look with ⟨k,_⟩ | ⟨k,c,hc,z⟩
  ·rcases S.free _ g4 rfl with q | q
   ·have q:X.env.kindOf x=some .cell:=q
    rw [k] at q; cases q
   ·have q:X.env.kindOf x=some .free:=q
    rw [k] at q; cases q
  ·rw [hce] at hc
   cases hc
   obtain ⟨oc,ho1,ho2⟩:=z
   rcases kd with q | q | q
   ·exact .inr ⟨.inl q,c0,hc0,⟨oc,hk _ _ ho1,ho2⟩⟩
   ·exact .inr ⟨.inr q,c0,hc0,⟨oc,hk _ _ ho1,ho2⟩⟩
   ·refine absurd q ?_
    intro q
    have m2:=vn (show (relabel scope X.env).names.lookup x=some .local from q)
    obtain ⟨⟨n,k'⟩,hm,e⟩:=List.mem_map.mp m2
    dsimp only at e
    by_cases qq:(k' == NameKind.free&&X.env.scope.kind == .function&&X.env.kindOf n == some .cell)=true
    ·rw [if_pos qq] at e; cases e
    ·rw [if_neg qq] at e
     cases e
     have e1:=S.names _ hm rfl
     have e2:=S.frl _ g4 rfl
     have e1:scope.names.lookup x=some .local:=e1
     have e2:scope.names.lookup x=some .free:=e2
     rw [e1] at e2
     cases e2
 ·obtain ⟨v,oc,ho1,ho2⟩:=I.cell x c (cl x c e)
  exact ⟨v,oc,hk _ _ ho1,ho2⟩
theorem xf {H1 H':Hp} {s1 s':Shared} {h':Heap} {L:Addr} (I:Inv X pins σ H s) (hf:∀ b∈fp,uw X pins H b) (J:Inv (qF X scope N fp s.heap.objs.size s H) [] σc H' s') (sb:Heap.SameBut s.heap.objs.size s'.heap h'):Inv X pins σ H' { s' with heap:=h' }:=by
 have hL:H' s.heap.objs.size=none:=J.free
 have ne:∀ b o,s.heap.get? b=some o->b≠s.heap.objs.size:=fun b o e=>Nat.ne_of_lt (Heap.lt_size e)
 have U:Un (frs X.stack) fp H H' s.heap s'.heap:=J.base
 refine I.call' (s':={ s' with heap:=h' }) (ch:=fp) J.os ⟨fun b o e n h1 h2=>(sb.2 b (ne b o e)).trans (U.keep b o e n h1 h2),fun b o e n h1 h2=>?_,U.free,fun b o e h2=>?_,U.tups,U.frzs,U.tbls⟩ (fun b u e=>?_) J.bare fun b hb=>?_
 ·obtain ⟨sl,q⟩:=U.slot b o e n h1 h2
  exact ⟨sl,(sb.2 b (ne b o e)).trans q⟩
 ·obtain ⟨o',q⟩:=U.there b o e h2
  exact ⟨o',(sb.2 b (ne b o e)).trans q⟩
 ·refine (J.hok b u e).stay (fun c w hc q=>(sb.2 c ?_).trans q) (fun _ q=>q) fun _ _ q=>q
  rintro rfl
  rcases hc with z | z
  ·rw [<-z,hL] at e; cases e
  ·rw [hL] at z; cases z
 ·obtain ⟨f0,f1,f2,f3,f4,f5⟩:=hf b hb
  exact ⟨f3,f1,f4,f5⟩
end
theorem xg {prog:Program} {w:World} {A:Around} {R:Result->Shared->Prop} {s:Shared} {elt target iter:Expr} {ifs:List Expr} {scope:Scope} {pos:Pos} {it acc:Value} {env:Env} (I:Nat->Shared->Prop)
  (turn:∀ n s,I n s->wpAny (model prog w) A (pyNext it) (fun r s₁=>match r with
   | none=>R (.ok .next) s₁
   | some v=>wpAny (model prog w) A (letOwnedTupleGo target it v) (fun _ t₁=>wpAny (model prog w) A (assign target env v) (fun _ s₂=>
     wpAny (model prog w) A (forIn ifs true fun c r=>if r=true then do let ok <-isTrue c env (eval c env); pure (ForInStep.yield ok) else pure (ForInStep.yield r)) (fun ok s₃=>
      if ok=true then wpAny (model prog w) A (eval elt env) (fun x s₄=>
       wpAny (model prog w) A (call (.builtin "list.append") [acc,x]) (fun _ s₅=>∃ m,m < n/\I m s₅) (fun _ _=>False) s₄) (fun _ _=>False) s₃
      else ∃ m,m < n/\I m s₃) (fun _ _=>False) s₂) (fun _ _=>False) t₁) (fun _ _=>False) s₁) (fun _ _=>False) s)
  (n:Nat) (h:I n s):codeAny (model prog w) A (.compLoop (.ListComp elt [⟨target,iter,ifs,0⟩] scope pos) 0 it acc env) R s:=by
 have no:∀ {α:Type} {t:Sem α} {Q Q':α->Shared->Prop} {E':Value->Shared->Prop} {s:Shared},wpAny (model prog w) A t Q (fun _ _=>False) s->(∀ a s,Q a s->Q' a s)->wpAny (model prog w) A t Q' E' s:=fun h k=>wpAny_mono h k fun _ _ z=>z.elim
 refine codeAny_loop rfl I (fun n s hI=>?_) n h
 show wpAny _ A ((compTurn (.ListComp elt [⟨target,iter,ifs,0⟩] scope pos) 0 it acc env).onRaise (fun x=>do noteFrame x env; theTreesLotGoes x)) _ _ s
 refine wpAny_noted ?_
 rw [compTurn_list]
 refine wpAny_bind (wpAny_standAt (wpAny_bind (no (turn n s hI) fun r s₁ h₁=>?_)))
 cases r with
 | none=>exact wpAny_pure h₁
 | some v=>
  refine wpAny_bind (no h₁ fun _ t₁ k₁=>wpAny_bind (no k₁ fun _ s₂ h₂=>wpAny_bind (no h₂ fun ok s₃ h₃=>?_)))
  cases ok with
  | false=>exact wpAny_pure ⟨rfl,h₃⟩
  | true=>exact wpAny_bind (wpAny_bind (no h₃ fun x s₄ h₄=>wpAny_bind (no h₄ fun _ s₅ h₅=>wpAny_pure (wpAny_pure ⟨rfl,h₅⟩))))
structure PTs (Y:Cx) (ifs:List Expr) (t:TT):Prop where
 run:∀ (pins:List (Addr×Obj)) (s:Shared) (σ:St) (H:Hp) (Q:Bool->Hp->Prop),Inv Y pins σ H s->t σ H Q ->
  wpAny (model Y.prog Y.w) Y.A (forIn ifs true fun c r=>if r=true then do let ok <-isTrue c Y.env (eval c Y.env); pure (ForInStep.yield ok) else pure (ForInStep.yield r)) (TP Y pins σ Q) Y.xe s
instance {Y:Cx} {ifs:List Expr} {t:TT}:CoeFun (PTs Y ifs t) (fun _=>∀ (pins:List (Addr×Obj)) (s:Shared) (σ:St) (H:Hp) (Q:Bool->Hp->Prop),Inv Y pins σ H s->t σ H Q ->
  wpAny (model Y.prog Y.w) Y.A (forIn ifs true fun c r=>if r=true then do let ok <-isTrue c Y.env (eval c Y.env); pure (ForInStep.yield ok) else pure (ForInStep.yield r)) (TP Y pins σ Q) Y.xe s):=⟨fun h=>h.run⟩
theorem YI {Y:Cx}:PTs Y [] (fun _ H Q=>Q true H):=⟨fun _ _ _ H _ I h=>wpAny_tests_nil ⟨H,I,h⟩⟩
theorem YJ {Y:Cx} {c:Expr} {t:TT} (h:PT Y c t):PTs Y [c] t:=⟨fun pins s σ H Q I q=>wpAny_tests_one (h pins s σ H Q I q)⟩
section
variable {X:Cx} {pins:List (Addr×Obj)} {σ σc:St} {H:Hp} {s:Shared} {scope:Scope} {N:List Str} {fp:List Addr} {it:Addr} {tn:Nat->Heap->Prop} {J:It} {tg elt iter:Expr} {ifs:List Expr} {pos:Pos} {g:TG} {tt:TT} {te:TE} {E:Value->Shared->Prop}
theorem WG (I:Inv X pins σ H s) (hcalm:X.calm=true) (S:ScOk X scope) (T:Turn X.prog X.w X.K tg J fp it tn) (st0:tn 0 s.heap) (hf:∀ b∈fp,uw X pins H b)
  (hg:∀ fp L s' H',PG (qF X scope N fp L s' H') tg g) (ht:∀ fp L s' H',PTs (qF X scope N fp L s' H') ifs tt) (he:∀ fp L s' H',PE (qF X scope N fp L s' H') elt te) (hl:σc.length=N.length)
  (hσ:∀ (j:Nat) (x:Str) (v:V),N[j]?=some x->σc[j]?=some (some v)->(∃ k,(x,k)∈scope.names)->∃ i:Nat,X.N[i]?=some x/\σ[i]?=some (some v)/\Vis X.env.scope x/\(x,NameKind.free)∈scope.names)
  (W:Addr->Nat->Nat->St->Hp->Prop) (Fin:Addr->Hp->Prop) (w0:∀ p,H p=none->∃ m,W p 0 m σc (upd H p (.lst [])))
  (turn:∀ p i m σ1 H1,W p i m σ1 H1->(J.stop i H1/\Fin p H1)\/(J.go i H1/\∀ x H2,J.yld i H1 x H2->g x σ1 H2 fun σ2 H3=>tt σ2 H3 fun b H4=>if b=true then te σ2 H4 fun y H5=>∃ xs,H5 p=some (.lst xs)/\xs.length < sizeLine/\∃ m',m' < m/\W p (i+1) m' σ2 (upd H5 p (.lst (xs++[y]))) else ∃ m',m' < m/\W p (i+1) m' σ2 H4))
  (RR:Value->Addr->Result->Shared->Prop)
  (hRR:∀ p L H' s',Fin p H'->(∃ m,s'.heap.Ns L m)->uw X pins H' L->(∀ h',Heap.SameBut L s'.heap h'->Inv X pins σ H' { s' with heap:=h' })->RR (.ref p) L (.ok .next) s') :
  wpAny (model X.prog X.w) X.A (newList []) (fun acc s₃=>wpAny (model X.prog X.w) X.A (newFunctionEnv scope X.env.globals (uC X.env.cells scope.names []) [] X.env.qual none .none (some X.env)) (fun cenv s₄=>
   codeAny (model X.prog X.w) X.A (.compStart (.ListComp elt [⟨tg,iter,ifs,0⟩] scope pos) 0 (.ref it) acc { cenv with scope:=relabel scope X.env }) (RR acc cenv.locals) s₄) E s₃) E s:=by
 have hfo:∀ b∈fp,b < s.heap.objs.size:=fun b hb=>let ⟨o,e,_⟩:=T.obj 0 _ st0 b hb; Heap.lt_size e
 have hfresh:=I.fresh
 have I3:Inv X pins σ (upd H s.heap.objs.size (.lst [])) { s with heap:=s.heap.push { cls:=.type "list",data:=.seq ([]:List Value).toArray } }:=I.lnew (t':=s.toks) (ys:=[]) (its:=[]) .nil (Nat.zero_le _)
 have hf3:∀ b∈fp,uw X pins (upd H s.heap.objs.size (.lst [])) b:=fun b hb=>⟨by rw [qp (Nat.ne_of_lt (hfo b hb))]; exact (hf b hb).1,(hf b hb).2⟩
 have st3:tn 0 (s.heap.push { cls:=.type "list",data:=.seq ([]:List Value).toArray }):=T.keep 0 _ _ st0 fun b hb o e=>Heap.get?_push_of_some _ e
 refine wpAny_newObj_type (wpAny_newFunctionEnv S.nocell (fun y hy=>by simp at hy) (fun h₁ hns₁ hsb₁=>?_) S.kind)
 dsimp only at hns₁ hsb₁ ⊢
 generalize hs3:({ s with heap:=s.heap.push { cls:=.type "list",data:=.seq ([]:List Value).toArray } }:Shared)=s3 at I3
 have e3:s3.heap=s.heap.push { cls:=.type "list",data:=.seq ([]:List Value).toArray }:=by rw [<-hs3]
 rw [<-e3] at hns₁ hsb₁ st3 ⊢
 have keep:∀ b o,s3.heap.get? b=some o->h₁.get? b=some o:=fun b o e=>(hsb₁.2 b (Nat.ne_of_lt (Heap.lt_size e))).trans (Heap.get?_push_of_some _ e)
 have ho3:∀ b∈fp,b < s3.heap.objs.size:=fun b hb=>by rw [e3,Heap.size_push]; exact Nat.lt_succ_of_lt (hfo b hb)
 have J1:Inv (qF X scope N fp s3.heap.objs.size s3 (upd H s.heap.objs.size (.lst []))) [] σc (upd H s.heap.objs.size (.lst [])) { s3 with heap:=h₁,toks:=s.toks+0 }:=
  QC I3 S hf3 ho3 (by simpa using hns₁) keep hl hσ
 have st4:tn 0 h₁:=T.keep 0 _ _ st3 fun b hb o e=>keep b o e
 have loop:∀ s4:Shared,s4={ s3 with heap:=h₁,toks:=s.toks+0 }->codeAny (model X.prog X.w) X.A (.compLoop (.ListComp elt [⟨tg,iter,ifs,0⟩] scope pos) 0 (.ref it) (.ref s.heap.objs.size) (compEnvC scope (uC X.env.cells scope.names []) s3.heap.objs.size X.env)) (RR (.ref s.heap.objs.size) s3.heap.objs.size) s4:=by
  rintro s4 rfl
  generalize hY:qF X scope N fp s3.heap.objs.size s3 (upd H s.heap.objs.size (.lst []))=Y at J1
  have eP:Y.prog=X.prog:=by rw [<-hY]; rfl
  have ew:Y.w=X.w:=by rw [<-hY]; rfl
  have eA:Y.A=X.A:=by rw [<-hY]; rfl
  have ee:Y.env=compEnvC scope (uC X.env.cells scope.names []) s3.heap.objs.size X.env:=by rw [<-hY]; rfl
  have eK:Y.K=X.K:=by rw [<-hY]; rfl
  have ec:Y.calm=true:=by rw [<-hY]; exact hcalm
  have ex:Y.xe=fun _ _=>False:=by rw [<-hY]; rfl
  have hgY:PG Y tg g:=by rw [<-hY]; exact hg fp _ _ _
  have htY:PTs Y ifs tt:=by rw [<-hY]; exact ht fp _ _ _
  have heY:PE Y elt te:=by rw [<-hY]; exact he fp _ _ _
  have stat:∀ {H1:Hp},(∀ b∈fp,H1 b=none)->∀ b∈fp,uw Y [] H1 b:=fun hn b hb=>by
   have q:=J1.ok.exf b (by rw [<-hY]; exact hb)
   refine ⟨hn b hb,q.1,J1.ok.exfs b (by rw [<-hY]; exact hb),.inl (by rw [<-hY]; exact hb),q.2,fun p hp=>?_⟩
   rw [<-hY] at hp
   exact absurd (show p∈([]:List (Addr×Obj)) from hp) (by simp)
  obtain ⟨m0,hm0⟩:=w0 s.heap.objs.size hfresh
  refine xg (fun n s'=>∃ i σ1 H1,Inv Y [] σ1 H1 s'/\tn i s'.heap/\(∀ b∈fp,H1 b=none)/\W s.heap.objs.size i n σ1 H1) ?_ m0 ⟨0,σc,_,J1,st4,fun b hb=>(hf3 b hb).1,hm0⟩
  rintro n s5 ⟨i,σ1,H1,J5,st5,fr5,w5⟩
  rw [<-eP,<-ew,<-eA,<-ee]
  have TY:Turn Y.prog Y.w Y.K tg J fp it tn:=by rw [eP,ew,eK]; exact T
  rcases turn _ i n σ1 H1 w5 with ⟨stop,fin⟩ | ⟨go,step⟩
  ·refine thn (TY.done Y rfl rfl rfl ec i [] s5 σ1 H1 _ J5 (stat fr5) st5 stop) fun r s6 ⟨hr,J6⟩=>?_
   subst hr
   have J6':Inv (qF X scope N fp s3.heap.objs.size s3 (upd H s.heap.objs.size (.lst []))) [] σ1 H1 s6:=by rw [hY]; exact J6
   exact hRR _ _ H1 s6 fin (let ⟨m,hn,_⟩:=J6'.loc; ⟨m,hn⟩) (I3.fpOk (Nat.le_refl _) J6'.free) fun h' sb=>xf (s1:=s6) (H1:=H1) (L:=0) I3 hf3 J6' sb
  ·refine thn (TY.item Y rfl rfl rfl ec i [] s5 σ1 H1 _ J5 (stat fr5) st5 go) fun r s6 ⟨u,hr,h6⟩=>?_
   subst hr
   refine thn h6 fun _ s7 ⟨x,H7,J7,r7,y7,st7,fr7⟩=>?_
   have J7':=J7.pinned (stat fr7) (TY.obj _ _ st7)
   have back:∀ {σ9:St} {H9:Hp} {s9:Shared},Inv Y ([]++wH fp s7.heap) σ9 H9 s9->(∃ m',m' < n/\W s.heap.objs.size (i+1) m' σ9 H9)->∃ m,m < n/\∃ i σ1 H1,Inv Y [] σ1 H1 s9/\tn i s9.heap/\(∀ b∈fp,H1 b=none)/\W s.heap.objs.size i m σ1 H1:=fun {σ9 H9 s9} J9 ⟨m',hm,w9⟩=>by
    refine ⟨m',hm,i+1,σ9,H9,J9.unpinned,TY.keep _ _ _ st7 fun b hb o e=>(J9.pin (b,o) (List.mem_append_right _ (List.mem_append_right _ (jv hb e)))).1,fun b hb=>?_,w9⟩
    obtain ⟨o,e,d⟩:=TY.obj _ _ st7 b hb
    exact (J9.pin (b,o) (List.mem_append_right _ (List.mem_append_right _ (jv hb e)))).2.1
   rw [<-ex]
   refine thn (hgY _ s7 σ1 H7 x u _ J7' r7 (step x H7 y7)) fun _ s8 ⟨σ8,H8,J8,q8⟩=>?_
   refine thn (htY _ s8 σ8 H8 _ J8 q8) fun ok s9 ⟨H9,J9,q9⟩=>?_
   cases ok with
   | false=>exact back J9 q9
   | true=>
    refine thn (heY _ s9 σ8 H9 _ J9 q9) fun v s10 ⟨y,H10,J10,r10,xs,hx,hlen,q10⟩=>?_
    exact thn (uA _ s10 σ8 H10 (.ref s.heap.objs.size) [y] (.ref s.heap.objs.size) [v] (fun _ H11=>∃ m',m' < n/\W s.heap.objs.size (i+1) m' σ8 H11) J10 rfl (.cons r10 .nil) ⟨_,xs,y,rfl,rfl,hx,hlen,q10⟩) fun _ s11 ⟨_,H11,J11,_,q11⟩=>back J11 q11
 have e4:({ heap:=h₁,gens:=s.gens,drawn:=s.drawn,toks:=s.toks+([]:List (Str×Value)).length,os:=s.os }:Shared)={ s3 with heap:=h₁,toks:=s.toks+0 }:=by rw [<-hs3]; rfl
 exact codeAny_compStart_list (loop _ e4) (T.self _ 0 _ _ _ st4 (loop _ e4))
end
noncomputable def jb {α:Type} (nt:Nat) (cap:List Nat) (ρ:List (Option α)):List (Option α):=List.replicate nt none++cap.map fun k=>(ρ[k]?).getD none
noncomputable def vB (own:List Nat):Nat->List Nat->List Nat
 | _,[]=>[]
 | n,k::cap=>if k∈own then n::vB own (n+1) cap else vB own (n+1) cap
noncomputable def ioC (nt len:Nat):List Nat:=(List.range len).map (nt + ·)
noncomputable def qW (own:List Nat) (ρc:Sl):Nat->List Nat->Sl->Sl
 | _,[],ρ=>ρ
 | n,k::cap,ρ=>if k∈own then qW own ρc (n+1) cap (ρ.set k ((ρc[n]?).getD none)) else qW own ρc (n+1) cap ρ
theorem get_cap {α:Type} {nt:Nat} {cap:List Nat} {ρ:List (Option α)} {i:Nat} {d:α}:(jb nt cap ρ)[i]?=some (some d)↔∃ j k,i=nt+j/\cap[j]?=some k/\ρ[k]?=some (some d):=by
 unfold jb
 constructor
 ·intro h
  by_cases hi:i < nt
  ·rw [List.getElem?_append_left (by simpa using hi),List.getElem?_replicate] at h
   split at h <;> cases h
  ·rw [List.getElem?_append_right (by simpa using hi),List.length_replicate,List.getElem?_map] at h
   cases q:cap[i - nt]? with
   | none=>rw [q] at h; cases h
   | some k=>
    rw [q] at h
    have h:(ρ[k]?).getD none=some d:=Option.some.inj h
    refine ⟨i - nt,k,by omega,q,?_⟩
    cases q2:ρ[k]? with
    | none=>rw [q2] at h; cases h
    | some o=>rw [q2] at h; exact congrArg some h
 ·rintro ⟨j,k,rfl,h1,h2⟩
  rw [List.getElem?_append_right (by simp),List.length_replicate,List.getElem?_map,show nt+j - nt=j by omega,h1]
  simp [h2]
theorem mem_ownC {own:List Nat}:∀ {n:Nat} {cap:List Nat} {i:Nat},i∈vB own n cap↔∃ j k,i=n+j/\cap[j]?=some k/\k∈own
 | n,[],i=>by simp [vB]
 | n,k::cap,i=>by
  have ih:=@mem_ownC own (n+1) cap i
  unfold vB
  by_cases hk:k∈own
  ·rw [if_pos hk,List.mem_cons,ih]
   constructor
   ·rintro (rfl | ⟨j,k',e,h1,h2⟩)
    ·exact ⟨0,k,rfl,rfl,hk⟩
    ·exact ⟨j+1,k',by omega,by simpa using h1,h2⟩
   ·rintro ⟨j,k',e,h1,h2⟩
    cases j with
    | zero=>exact .inl (by omega)
    | succ j=>exact .inr ⟨j,k',by omega,by simpa using h1,h2⟩
  ·rw [if_neg hk,ih]
   constructor
   ·rintro ⟨j,k',e,h1,h2⟩
    exact ⟨j+1,k',by omega,by simpa using h1,h2⟩
   ·rintro ⟨j,k',e,h1,h2⟩
    cases j with
    | zero=>simp at h1; subst h1; exact absurd h2 hk
    | succ j=>exact ⟨j,k',by omega,by simpa using h1,h2⟩
theorem mem_ioC {nt len i:Nat}:i∈ioC nt len↔∃ j,j < len/\i=nt+j:=by
 unfold ioC
 rw [List.mem_map]
 constructor
 ·rintro ⟨j,h1,h2⟩; exact ⟨j,List.mem_range.mp h1,h2.symm⟩
 ·rintro ⟨j,h1,h2⟩; exact ⟨j,List.mem_range.mpr h1,h2.symm⟩
theorem wu {own:List Nat} {ρc:Sl}:∀ {n:Nat} {cap:List Nat} {ρ:Sl},(qW own ρc n cap ρ).length=ρ.length
 | _,[],_=>rfl
 | n,k::cap,ρ=>by
  unfold qW
  by_cases hk:k∈own
  ·rw [if_pos hk,wu,List.length_set]
  ·rw [if_neg hk,wu]
theorem jw {own:List Nat} {ρc:Sl}:∀ {n:Nat} {cap:List Nat} {ρ:Sl} {i:Nat},¬(i∈cap/\i∈own)->(qW own ρc n cap ρ)[i]?=ρ[i]?
 | _,[],_,_,_=>rfl
 | n,k::cap,ρ,i,h=>by
  unfold qW
  have h':¬(i∈cap/\i∈own):=fun z=>h ⟨List.mem_cons_of_mem _ z.1,z.2⟩
  by_cases hk:k∈own
  ·rw [if_pos hk,jw h',List.getElem?_set_ne (fun e=>h ⟨List.mem_cons.mpr (.inl e.symm),by rw [<-e]; exact hk⟩)]
  ·rw [if_neg hk,jw h']
theorem vW {own:List Nat} {ρc:Sl}:∀ {n:Nat} {cap:List Nat} {ρ:Sl} {j k:Nat} {d:D},cap.Nodup->cap[j]?=some k->k∈own->k < ρ.length->ρc[n+j]?=some (some d)->(qW own ρc n cap ρ)[k]?=some (some d)
 | _,[],_,_,_,_,_,h,_,_,_=>by simp at h
 | n,k0::cap,ρ,0,k,d,nd,h,hk,hl,e=>by
  simp at h; subst h
  obtain ⟨n1,n2⟩:=List.nodup_cons.mp nd
  unfold qW
  rw [if_pos hk,jw (fun z=>n1 z.1),List.getElem?_set_self hl]
  have e:ρc[n]?=some (some d):=e
  rw [e]; rfl
 | n,k0::cap,ρ,j+1,k,d,nd,h,hk,hl,e=>by
  obtain ⟨n1,n2⟩:=List.nodup_cons.mp nd
  have h:cap[j]?=some k:=by simpa using h
  have e:ρc[n+1+j]?=some (some d):=by rw [show n+1+j=n+(j+1) by omega]; exact e
  unfold qW
  by_cases hk0:k0∈own
  ·rw [if_pos hk0]; exact vW n2 h hk (by rw [List.length_set]; exact hl) e
  ·rw [if_neg hk0]; exact vW n2 h hk hl e
section
variable {K:Frag} {own cap:List Nat} {nt:Nat} {F H:Hp} {σ σ1:St} {ρ ρ1:Sl}
theorem xh {α:Type} {ρ:List (Option α)}:(jb nt cap ρ).length=nt+cap.length:=by simp [jb]
theorem KR {l:List Nat} (h:l.Nodup) {i j k:Nat} (a:l[i]?=some k) (b:l[j]?=some k):i=j:=by
 obtain ⟨h1,e1⟩:=List.getElem?_eq_some_iff.mp a
 obtain ⟨h2,e2⟩:=List.getElem?_eq_some_iff.mp b
 exact (List.getElem_inj h).mp (e1.trans e2.symm)
theorem KS (rp:Rep K own F H σ ρ) (nd:cap.Nodup):Rep K (vB own nt cap) F H (jb nt cap σ) (jb nt cap ρ) where
 sub:=rp.sub
 len:=by rw [xh,xh]
 val:=fun i d hi e=>by
  obtain ⟨j,k,rfl,h1,h2⟩:=get_cap.mp e
  obtain ⟨v,g1,g2⟩:=rp.val k d (fun z=>hi (mem_ownC.mpr ⟨j,k,rfl,h1,z⟩)) h2
  exact ⟨v,get_cap.mpr ⟨j,k,rfl,h1,g1⟩,g2⟩
 ow:=fun i d hi e=>by
  obtain ⟨j,k,rfl,h1,h2⟩:=get_cap.mp e
  obtain ⟨j',k',e',h1',h2'⟩:=mem_ownC.mp hi
  have:j=j':=by omega
  subst this
  rw [h1] at h1'; cases h1'
  obtain ⟨a,g1,g2⟩:=rp.ow k d h2' h2
  exact ⟨a,get_cap.mpr ⟨j,k,rfl,h1,g1⟩,g2⟩
 opn:=fun i hi=>by
  obtain ⟨j,k,rfl,h1,h2⟩:=mem_ownC.mp hi
  obtain ⟨d,e⟩:=rp.opn k h2
  exact ⟨d,get_cap.mpr ⟨j,k,rfl,h1,e⟩⟩
 dis:=fun i i' a hi hi' e e'=>by
  obtain ⟨j,k,rfl,h1,h2⟩:=mem_ownC.mp hi
  obtain ⟨j',k',rfl,h1',h2'⟩:=mem_ownC.mp hi'
  obtain ⟨x,y,q1,q2,q3⟩:=get_cap.mp e
  obtain ⟨x',y',q1',q2',q3'⟩:=get_cap.mp e'
  have:x=j:=by omega
  subst this
  have:x'=j':=by omega
  subst this
  rw [h1] at q2; cases q2
  rw [h1'] at q2'; cases q2'
  have e:=rp.dis k k' a h2 h2' q3 q3'
  subst e
  rw [KR nd h1 h1']
theorem KU (hio:∀ i∈ioC nt cap.length,σ1[i]?=(jb nt cap σ)[i]?) {b:Addr} (h:OA (vB own nt cap) σ1 b):OA own σ b:=by
 obtain ⟨i,hi,e⟩:=h
 obtain ⟨j,k,rfl,h1,h2⟩:=mem_ownC.mp hi
 rw [hio _ (mem_ioC.mpr ⟨j,(List.getElem?_eq_some_iff.mp h1).1,rfl⟩)] at e
 obtain ⟨x,y,q1,q2,q3⟩:=get_cap.mp e
 have:x=j:=by omega
 subst this
 rw [h1] at q2; cases q2
 exact ⟨k,h2,q3⟩
theorem KW {F' H':Hp} (rp:Rep K own F H σ ρ) (nd:cap.Nodup) (rp1:Rep K (vB own nt cap) F' H' σ1 ρ1) (hio:∀ i∈ioC nt cap.length,σ1[i]?=(jb nt cap σ)[i]?) (c:Chg (OA (vB own nt cap) σ1) F H F' H'):Rep K own F' H' σ (qW own ρ1 nt cap ρ) where
 sub:=rp1.sub
 len:=by rw [wu]; exact rp.len
 val:=fun i d hi e=>by
  rw [jw (fun z=>hi z.2)] at e
  obtain ⟨v,h1,h2⟩:=rp.val i d hi e
  exact ⟨v,h1,h2.mono c.grow⟩
 ow:=fun i d hi e=>by
  by_cases q:i∈cap
  ·obtain ⟨j,hj⟩:=List.getElem?_of_mem q
   have hm:nt+j∈vB own nt cap:=mem_ownC.mpr ⟨j,i,rfl,hj,hi⟩
   obtain ⟨d',hd'⟩:=rp1.opn _ hm
   obtain ⟨d0,hd0⟩:=rp.opn i hi
   rw [vW nd hj hi (List.getElem?_eq_some_iff.mp hd0).1 hd'] at e
   cases e
   obtain ⟨a,h1,h2⟩:=rp1.ow _ _ hm hd'
   rw [hio _ (mem_ioC.mpr ⟨j,(List.getElem?_eq_some_iff.mp hj).1,rfl⟩)] at h1
   obtain ⟨x,y,q1,q2,q3⟩:=get_cap.mp h1
   have:x=j:=by omega
   subst this
   rw [hj] at q2; cases q2
   exact ⟨a,q3,h2⟩
  ·rw [jw (fun z=>q z.1)] at e
   obtain ⟨a,h1,h2,h3⟩:=rp.ow i d hi e
   have na:¬OA (vB own nt cap) σ1 a:=fun z=>by
    obtain ⟨i',hi',e'⟩:=z
    obtain ⟨j,k,rfl,g1,g2⟩:=mem_ownC.mp hi'
    rw [hio _ (mem_ioC.mpr ⟨j,(List.getElem?_eq_some_iff.mp g1).1,rfl⟩)] at e'
    obtain ⟨x,y,q1,q2,q3⟩:=get_cap.mp e'
    have:x=j:=by omega
    subst this
    rw [g1] at q2; cases q2
    have e:=rp.dis i k a hi g2 h1 q3
    subst e
    exact q (List.mem_of_getElem? g1)
   refine ⟨a,h1,?_,h3.grow c.grow fun o z=>c.keep a o z na⟩
   cases qq:F' a with
   | none=>rfl
   | some u=>
    rcases c.new a (by rw [qq]; simp) with z | z | z
    ·exact absurd h2 z
    ·exact absurd z h3.there
    ·exact absurd z na
 opn:=fun i hi=>by
  by_cases q:i∈cap
  ·obtain ⟨j,hj⟩:=List.getElem?_of_mem q
   have hm:nt+j∈vB own nt cap:=mem_ownC.mpr ⟨j,i,rfl,hj,hi⟩
   obtain ⟨d',hd'⟩:=rp1.opn _ hm
   obtain ⟨d0,hd0⟩:=rp.opn i hi
   exact ⟨d',vW nd hj hi (List.getElem?_eq_some_iff.mp hd0).1 hd'⟩
  ·rw [jw (fun z=>q z.1)]
   exact rp.opn i hi
 dis:=rp.dis
end
noncomputable def Jt (g:D->Sl->Out Sl) (ft:Sl->Out (Bool×Sl)) (fe:Sl->Out (D×Sl)) (d:D) (ρ:Sl):Out (Option D×Sl):=
 (g d ρ).plain.bind fun ρ1=>(ft ρ1).plain.bind fun q=>if q.1=true then (fe q.2).plain.bind fun r=>.ok (some r.1,r.2) else .ok (none,q.2)
noncomputable def jE (g:D->Sl->Out Sl) (ft:Sl->Out (Bool×Sl)) (fe:Sl->Out (D×Sl)):List D->Sl->Out (List D×Sl)
 | [],ρ=>.ok ([],ρ)
 | d::ds,ρ=>(Jt g ft fe d ρ).bind fun p=>(jE g ft fe ds p.2).bind fun q=>.ok (p.1.toList++q.1,q.2)
noncomputable def jW (own:List Nat) (nt:Nat) (cap:List Nat) (fi:Sl->Out (List D×Sl)) (g:D->Sl->Out Sl) (ft:Sl->Out (Bool×Sl)) (fe:Sl->Out (D×Sl)):Sl->Out (D×Sl):=fun ρ=>(fi ρ).bind fun p=>
 if p.1.length<=sizeLine then (jE g ft fe p.1 (jb nt cap p.2)).bind fun q=>.ok (.lst q.1,qW own q.2 nt cap p.2) else .bad
noncomputable def ctC (C:Ct) (nt len:Nat):Ct:=⟨C.K,C.cv,fun _ _ _=>False,ioC nt len,.sh,[],[],fun _ h=>absurd h (by simp)⟩
noncomputable def ftT:Sl->Out (Bool×Sl):=fun ρ=>.ok (true,ρ)
theorem jc {Y:Cx} {C:Ct} {own:List Nat}:PTs Y [] (tT C own ftT):=⟨fun pins s σ H Q I ⟨F,ρ,rp,h⟩=>YI pins s σ H Q I (h F H rp .refl)⟩
structure CW (C:Ct) (own:List Nat) (nt:Nat) (cap:List Nat) (σ:St) (F H F0:Hp) (g:D->Sl->Out Sl) (ft:Sl->Out (Bool×Sl)) (fe:Sl->Out (D×Sl)) (ds ys:List D) (ρe:Sl) (p:Addr) (i:Nat) (σ1:St) (H1:Hp) (F1:Hp) (ρi:Sl) (accD:List D) (xs:List V) (rest:List D):Prop where
 rep:Rep C.K (vB own nt cap) F1 H1 σ1 ρi
 io:∀ i∈ioC nt cap.length,σ1[i]?=(jb nt cap σ)[i]?
 chg:Chg (OA (vB own nt cap) σ1) F H F1 H1
 gr:Same F0 F1
 at_:H1 p=some (.lst xs)
 nF:F1 p=none
 is:IsL C.K F1 xs accD
 le:accD.length<=i
 run:jE g ft fe (ds.drop i) ρi=.ok (rest,ρe)
 all:accD++rest=ys
theorem Ju {g:D->Sl->Out Sl} {ft:Sl->Out (Bool×Sl)} {fe:Sl->Out (D×Sl)} {d:D} {ds rest:List D} {ρ ρe:Sl} (h:jE g ft fe (d::ds) ρ=.ok (rest,ρe)) :
  ∃ ρ1,g d ρ=.ok ρ1/\∃ b ρ2,ft ρ1=.ok (b,ρ2)/\((b=true/\∃ y ρ3 r,fe ρ2=.ok (y,ρ3)/\jE g ft fe ds ρ3=.ok (r,ρe)/\rest=y::r)\/(b=false/\jE g ft fe ds ρ2=.ok (rest,ρe))):=by
 unfold jE Jt at h
 cases q1:g d ρ with
 | exc c=>rw [q1] at h; cases h
 | bad=>rw [q1] at h; cases h
 | ok ρ1=>
  rw [q1] at h
  refine ⟨ρ1,rfl,?_⟩
  simp only [Out.plain,Out.ok_bind] at h
  cases q2:ft ρ1 with
  | exc c=>rw [q2] at h; cases h
  | bad=>rw [q2] at h; cases h
  | ok p=>
   obtain ⟨b,ρ2⟩:=p
   rw [q2] at h
   refine ⟨b,ρ2,rfl,?_⟩
   simp only [Out.plain,Out.ok_bind] at h
   cases b with
   | true=>
    refine .inl ⟨rfl,?_⟩
    simp only [if_true] at h
    cases q3:fe ρ2 with
    | exc c=>rw [q3] at h; cases h
    | bad=>rw [q3] at h; cases h
    | ok p=>
     obtain ⟨y,ρ3⟩:=p
     rw [q3] at h
     simp only [Out.plain,Out.ok_bind] at h
     cases q4:jE g ft fe ds ρ3 with
     | exc c=>rw [q4] at h; cases h
     | bad=>rw [q4] at h; cases h
     | ok p=>
      obtain ⟨r,ρ4⟩:=p
      rw [q4] at h
      simp only [Out.ok_bind] at h
      cases h
      exact ⟨y,ρ3,r,rfl,q4,rfl⟩
   | false=>
    refine .inr ⟨rfl,?_⟩
    simp only [Bool.false_eq_true,if_false,Out.ok_bind] at h
    cases q4:jE g ft fe ds ρ2 with
    | exc c=>rw [q4] at h; cases h
    | bad=>rw [q4] at h; cases h
    | ok p=>
     obtain ⟨r,ρ4⟩:=p
     rw [q4] at h
     simp only [Out.ok_bind] at h
     cases h
     rfl
section
variable {X:Cx} {C:Ct} {own cap:List Nat} {nt:Nat} {scope:Scope} {N:List Str} {tg elt iter:Expr} {ifs:List Expr} {pos:Pos} {fi:Sl->Out (List D×Sl)} {g:D->Sl->Out Sl} {ft:Sl->Out (Bool×Sl)} {fe:Sl->Out (D×Sl)} {me:Mo}
structure CapOk (X:Cx) (scope:Scope) (N:List Str) (nt:Nat) (cap:List Nat):Prop where
 nd:cap.Nodup
 len:N.length=nt+cap.length
 at_:∀ (j k:Nat),cap[j]?=some k->∃ x,N[nt+j]?=some x/\X.N[k]?=some x/\((Vis X.env.scope x/\(x,NameKind.free)∈scope.names)\/∀ k',(x,k')∉scope.names)
theorem zr {pins:List (Addr×Obj)} {s:Shared} {σ:St} {F H:Hp} {ρ1:Sl} {it:Addr} {fp:List Addr} {tn:Nat->Heap->Prop} {J:It} {E:Value->Shared->Prop} {ds ys:List D} {ρe:Sl} (I:Inv X pins σ H s) (hcalm:X.calm=true) (S:ScOk X scope) (CO:CapOk X scope N nt cap)
  (T:Turn X.prog X.w X.K tg J fp it tn) (st0:tn 0 s.heap) (hf:∀ b∈fp,uw X pins H b) (rp:Rep C.K own F H σ ρ1) (itI:ItIs C.K F J ds) (hz:ds.length<=sizeLine)
  (hg:∀ fp L s' H',PG (qF X scope N fp L s' H') tg (tGd (ctC C nt cap.length) (vB own nt cap) g)) (ht:∀ fp L s' H',PTs (qF X scope N fp L s' H') ifs (tT (ctC C nt cap.length) (vB own nt cap) ft))
  (he:∀ fp L s' H',PE (qF X scope N fp L s' H') elt (tE (ctC C nt cap.length) (vB own nt cap) me fe)) (hme:me≠.any)
  (hrun:jE g ft fe ds (jb nt cap ρ1)=.ok (ys,ρe)) (RR:Value->Addr->Result->Shared->Prop)
  (hRR:∀ p L s' F' H',H p=none->Rep C.K own F' H' σ (qW own ρe nt cap ρ1)->Chg (OA own σ) F H F' H'->F' p=none->OwnIs C.K F' H' p (.lst ys)->(∃ m,s'.heap.Ns L m)->uw X pins H' L->(∀ h',Heap.SameBut L s'.heap h'->Inv X pins σ H' { s' with heap:=h' })->RR (.ref p) L (.ok .next) s') :
  wpAny (model X.prog X.w) X.A (newList []) (fun acc s₃=>wpAny (model X.prog X.w) X.A (newFunctionEnv scope X.env.globals (uC X.env.cells scope.names []) [] X.env.qual none .none (some X.env)) (fun cenv s₄=>
   codeAny (model X.prog X.w) X.A (.compStart (.ListComp elt [⟨tg,iter,ifs,0⟩] scope pos) 0 (.ref it) acc { cenv with scope:=relabel scope X.env }) (RR acc cenv.locals) s₄) E s₃) E s:=by
 have oaH:∀ {σ1:St} {b:Addr},(∀ i∈ioC nt cap.length,σ1[i]?=(jb nt cap σ)[i]?)->OA (vB own nt cap) σ1 b->H b≠none:=fun hio z=>(rp.OA_there (KU hio z)).1
 refine WG (σc:=jb nt cap σ) I hcalm S T st0 hf hg ht (fun fp L s' H'=>wn (he fp L s' H') hme) (by rw [xh,CO.len]) (fun j x v e1 e2 e3=>?_)
  (fun p i m σ1 H1=>H p=none/\m=ds.length - i/\i<=ds.length/\∃ F1 ρi accD xs rest,CW C own nt cap σ F H F g ft fe ds ys ρe p i σ1 H1 F1 ρi accD xs rest)
  (fun p H1=>H p=none/\∃ σ1 F1 xs,Rep C.K (vB own nt cap) F1 H1 σ1 ρe/\(∀ i∈ioC nt cap.length,σ1[i]?=(jb nt cap σ)[i]?)/\Chg (OA (vB own nt cap) σ1) F H F1 H1/\H1 p=some (.lst xs)/\F1 p=none/\IsL C.K F1 xs ys) (fun p hp=>?_) ?_ RR ?_
 ·obtain ⟨j',k,rfl,h1,h2⟩:=get_cap.mp e2
  obtain ⟨y,g1,g2,g3⟩:=CO.at_ j' k h1
  rw [g1] at e1; cases e1
  obtain ⟨k',hk'⟩:=e3
  rcases g3 with ⟨g3,g4⟩ | g3
  ·exact ⟨k,g2,h2,g3,g4⟩
  ·exact absurd hk' (g3 k')
 ·obtain ⟨r1,c1,hF⟩:=KK (C:=C) (u:=.lst []) (KS (nt:=nt) rp CO.nd) hp
  exact ⟨ds.length,hp,by simp,Nat.zero_le _,F,jb nt cap ρ1,[],[],ys,r1,fun _ _=>rfl,c1.ofNo,Same.refl _,qf,hF,.nil,Nat.le_refl _,by simpa using hrun,rfl⟩
 ·rintro p i m σ1 H1 ⟨hp,rfl,hle,F1,ρi,accD,xs,rest,w⟩
  by_cases hlt:i < ds.length
  ·have hd:ds.drop i=ds[i]::ds.drop (i+1):=List.drop_eq_getElem_cons hlt
   have run:=w.run
   rw [hd] at run
   obtain ⟨ρa,ea,b,ρb,eb,hrest⟩:=Ju run
   have sub1:Same F H1:=w.gr.trans w.rep.sub
   refine .inr ⟨itI.go i H1 hlt sub1,fun x H2 y=>?_⟩
   obtain ⟨F2,c2,s2,is2⟩:=itI.yld i F1 H1 x H2 ds[i] (by simp [hlt]) w.gr w.rep.sub y
   have rp2:=w.rep.grow c2 s2
   have nop:∀ {σ9:St},(∀ i∈ioC nt cap.length,σ9[i]?=(jb nt cap σ)[i]?)->¬OA (vB own nt cap) σ9 p:=fun hio z=>oaH hio z hp
   have keepP:∀ {A:Addr->Prop} {Fa Ha Fb Hb:Hp} {zs:List V},Chg A Fa Ha Fb Hb->¬A p->Ha p=some (.lst zs)->Fa p=none->Hb p=some (.lst zs)/\Fb p=none:=fun {A Fa Ha Fb Hb zs} c na e1 e2=>by
    refine ⟨c.keep p _ e1 na,?_⟩
    cases q:Fb p with
    | none=>rfl
    | some u=>
     rcases c.new p (by rw [q]; simp) with z | z | z
     ·exact absurd e2 z
     ·rw [e1] at z; cases z
     ·exact absurd z na
   obtain ⟨at2,nF2⟩:=keepP c2 (fun z=>z) w.at_ w.nF
   refine ⟨F2,ρi,ds[i],rp2,is2,ρa,ea,fun σ3 rp3 oa3 io3=>?_⟩
   have io3':∀ i∈ioC nt cap.length,σ3[i]?=(jb nt cap σ)[i]?:=fun i hi=>(io3 i hi).trans (w.io i hi)
   refine ⟨F2,ρa,rp3,?_⟩
   rw [eb]
   intro F4 H4 rp4 c4
   obtain ⟨at4,nF4⟩:=keepP c4 (nop io3') at2 nF2
   have chg4:Chg (OA (vB own nt cap) σ3) F H F4 H4:=by
    have q1:Chg (OA own σ) F H F1 H1:=w.chg.mono fun b z=>KU w.io z
    have mv:∀ {b},OA (vB own nt cap) σ1 b->OA (vB own nt cap) σ3 b:=fun {b} z=>by
     obtain ⟨i',hi',e'⟩:=z
     obtain ⟨j,k,rfl,g1,g2⟩:=mem_ownC.mp hi'
     have hm:nt+j∈ioC nt cap.length:=mem_ioC.mpr ⟨j,(List.getElem?_eq_some_iff.mp g1).1,rfl⟩
     exact ⟨nt+j,hi',by rw [io3' _ hm,<-w.io _ hm]; exact e'⟩
    exact ((w.chg.mono fun b z=>mv z).trans' c2.ofNo).trans' c4
   have gr4:Same F F4:=(w.gr.trans c2.grow).trans c4.grow
   have is4:IsL C.K F4 xs accD:=(w.is.mono c2.grow).mono c4.grow
   rcases hrest with ⟨rfl,y',ρc,r,ec,er,hr⟩ | ⟨rfl,er⟩
   ·rw [if_pos rfl]
    refine ⟨F4,ρb,rp4,?_⟩
    rw [ec]
    intro v F5 H5 rp5 c5 mo5
    obtain ⟨at5,nF5⟩:=keepP c5 (nop io3') at4 nF4
    have hlen:xs.length=accD.length:=is4.length
    refine ⟨xs,at5,by have:=w.le; omega,ds.length - (i+1),by omega,hp,rfl,hlt,F5,ρc,accD++[y'],xs++[v],r,?_⟩
    have cp:Chg (fun b=>b=p) F5 H5 F5 (upd H5 p (.lst (xs++[v]))):=⟨fun b o e n=>by rw [qp n]; exact e,fun b e=>by
     by_cases q:b=p
     ·rw [q,qf]; simp
     ·rw [qp q]; exact e,Same.refl _,fun b e=>.inl e⟩
    have sb5:Same F5 (upd H5 p (.lst (xs++[v]))):=fun b o e=>by rw [qp (qv e nF5)]; exact rp5.sub b o e
    have rp6:Rep C.K (vB own nt cap) F5 (upd H5 p (.lst (xs++[v]))) σ3 ρc:=by
     refine ⟨sb5,rp5.len,rp5.val,fun i d hi e=>?_,rp5.opn,rp5.dis⟩
     obtain ⟨a,h1,h2,h3⟩:=rp5.ow i d hi e
     have na:a≠p:=fun z=>by subst z; exact nop io3' ⟨i,hi,h1⟩
     exact ⟨a,h1,h2,h3.grow (Same.refl _) fun o z=>by rw [qp na]; exact z⟩
    refine ⟨rp6,io3',?_,(gr4.trans c5.grow),qf,nF5,(is4.mono c5.grow).append (.cons mo5 .nil),by simp only [List.length_append,List.length_cons,List.length_nil]; have:=w.le; omega,er,?_⟩
    ·exact (chg4.trans' c5).trans cp fun b z=>.inr (by rw [z]; exact hp)
    ·rw [List.append_assoc,<-w.all,hr]; rfl
   ·rw [if_neg Bool.false_ne_true]
    exact ⟨ds.length - (i+1),by omega,hp,rfl,hlt,F4,ρb,accD,xs,rest,rp4,io3',chg4,gr4,at4,nF4,is4,by have:=w.le; omega,er,w.all⟩
  ·have e:i=ds.length:=by omega
   subst e
   have run:=w.run
   rw [List.drop_length] at run
   unfold jE at run
   cases run
   have ha:=w.all
   rw [List.append_nil] at ha
   subst ha
   exact .inl ⟨itI.stop _ H1 (Nat.le_refl _) (w.gr.trans w.rep.sub),hp,σ1,F1,xs,w.rep,w.io,w.chg,w.at_,w.nF,w.is⟩
 ·rintro p L H' s' ⟨hp,σ1,F1,xs,r1,io1,c1,e1,n1,is1⟩ hns hfp hinv
  exact hRR p L s' F1 H' hp (KW rp CO.nd r1 io1 c1) (c1.mono fun b z=>KU io1 z) n1 ⟨xs,e1,is1⟩ hns hfp hinv
theorem gF:∀ (ds:List D) (ρ:Sl) (c:Str) (o:Sl),jE g ft fe ds ρ≠.exc c o:=by
 intro ds
 induction ds with
 | nil=>intro ρ c o z; cases z
 | cons d ds ih=>
  intro ρ c o z
  unfold jE Jt at z
  cases q1:g d ρ with
  | exc c=>rw [q1] at z; cases z
  | bad=>rw [q1] at z; cases z
  | ok ρ1=>
   rw [q1] at z
   simp only [Out.plain,Out.ok_bind] at z
   cases q2:ft ρ1 with
   | exc c=>rw [q2] at z; cases z
   | bad=>rw [q2] at z; cases z
   | ok p=>
    rw [q2] at z
    simp only [Out.plain,Out.ok_bind] at z
    by_cases hb:p.1=true
    ·rw [if_pos hb] at z
     cases q3:fe p.2 with
     | exc c=>rw [q3] at z; cases z
     | bad=>rw [q3] at z; cases z
     | ok r=>
      rw [q3] at z
      simp only [Out.plain,Out.ok_bind] at z
      cases q4:jE g ft fe ds r.2 with
      | exc c=>exact ih _ _ _ q4
      | bad=>rw [q4] at z; cases z
      | ok t=>rw [q4] at z; cases z
    ·rw [if_neg hb] at z
     simp only [Out.ok_bind] at z
     cases q4:jE g ft fe ds p.2 with
     | exc c=>exact ih _ _ _ q4
     | bad=>rw [q4] at z; cases z
     | ok t=>rw [q4] at z; cases z
theorem zt {σ:St} {F H:Hp} {ρ:Sl} {α:Type} {Z:Out (D×Sl)->Prop} (rp:Rep C.K own F H σ ρ) (hb:¬Z .bad) (hx:∀ c ρ',Z (.exc c ρ')->∀ F' H',Same F' H'->JU C.K C.ox F' H' σ ρ'->Chg (OA own σ) F H F' H'->C.E (C.cv c) none H') (h:Z (jW own nt cap fi g ft fe ρ)) :
  tIt C own fi σ H fun J H1=>∃ ds ρ1 ys ρe F1,ds.length<=sizeLine/\jE g ft fe ds (jb nt cap ρ1)=.ok (ys,ρe)/\Rep C.K own F1 H1 σ ρ1/\Chg (OA own σ) F H F1 H1/\ItIs C.K F1 J ds/\Z (.ok (.lst ys,qW own ρe nt cap ρ1)):=by
 refine ⟨F,ρ,rp,?_⟩
 unfold jW at h
 cases q:fi ρ with
 | exc c=>rw [q] at h; exact hx c _ h
 | bad=>rw [q] at h; exact (hb h).elim
 | ok p=>
  obtain ⟨ds,ρ1⟩:=p
  rw [q] at h
  have h:Z (if ds.length<=sizeLine then (jE g ft fe ds (jb nt cap ρ1)).bind fun q=>.ok (.lst q.1,qW own q.2 nt cap ρ1) else .bad):=h
  by_cases z:ds.length<=sizeLine
  ·rw [if_pos z] at h
   cases q2:jE g ft fe ds (jb nt cap ρ1) with
   | exc c=>exact absurd q2 (gF _ _ _ _)
   | bad=>rw [q2] at h; exact (hb h).elim
   | ok p=>
    obtain ⟨ys,ρe⟩:=p
    rw [q2] at h
    exact fun J F1 H1 rp1 c1 it=>⟨ds,ρ1,ys,ρe,F1,z,q2,rp1,c1,it,h⟩
  ·rw [if_neg z] at h; exact (hb h).elim
theorem jX (hcalm:X.calm=true) (S:ScOk X scope) (CO:CapOk X scope N nt cap) (hi:PI X tg iter (tIt C own fi))
  (hg:∀ fp L s' H',PG (qF X scope N fp L s' H') tg (tGd (ctC C nt cap.length) (vB own nt cap) g)) (ht:∀ fp L s' H',PTs (qF X scope N fp L s' H') ifs (tT (ctC C nt cap.length) (vB own nt cap) ft))
  (he:∀ fp L s' H',PE (qF X scope N fp L s' H') elt (tE (ctC C nt cap.length) (vB own nt cap) me fe)) (hme:me≠.any:=by decide) (hs:∀ x,foldedSetIterable iter X.env x=pure x:=by intro _; rfl) :
  PE X (.ListComp elt [⟨tg,iter,ifs,0⟩] scope pos) (tE C own .fr (jW own nt cap fi g ft fe)):=by
 refine ⟨?_⟩
 intro pins s σ H Q I ⟨F,ρ,rp,h⟩
 rw [eval_ListComp]
 have main:=zt (α:=Unit) (Z:=fun r=>Po C own .fr σ F H r Q) rp (fun z=>z) (fun c _ z=>z) h
 refine wpAny_comprehension_free (use:=none) rfl hs (wt (vV I S)) S.kind S.names (thn (hi pins s σ H _ I main) fun xv s1 h1=>thn h1 fun itv s2 h2=>?_)
 obtain ⟨it,fp,tn,J,H2,e,I2,T,st2,f2,ds,ρ1,ys,ρe,F1,hz,hrun,rp1,c1,itI,po⟩:=h2
 subst e
 refine zr (RR:=fun acc C'=>compPost (model X.prog X.w) X.A X.xe none (EP X pins σ Q) acc C') I2 hcalm S CO T st2 f2 rp1 itI hz hg ht he hme hrun fun p L s' F' H' hp rp' c' nF o hns hfp hinv=>?_
 obtain ⟨m,hn⟩:=hns
 refine ⟨m,hn,fun h' sb=>⟨.ref p,H',hinv h' sb,rfl,?_⟩⟩
 refine po (.ref p) F' H' rp' (c1.trans' c') ⟨p,rfl,?_,nF,o⟩
 cases q:H p with
 | none=>rfl
 | some u=>exact absurd hp (c1.stay p (by rw [q]; simp))
theorem WH {i:Nat} {x:Str} {pos' spos:Pos} (hN:X.N.Nodup) (hix:X.N[i]?=some x) (hx:Loc X.env.scope x) (hcalm:X.calm=true) (S:ScOk X scope) (CO:CapOk X scope N nt cap) (hi:PI X tg iter (tIt C own fi))
  (hg:∀ fp L s' H',PG (qF X scope N fp L s' H') tg (tGd (ctC C nt cap.length) (vB own nt cap) g)) (ht:∀ fp L s' H',PTs (qF X scope N fp L s' H') ifs (tT (ctC C nt cap.length) (vB own nt cap) ft))
  (he:∀ fp L s' H',PE (qF X scope N fp L s' H') elt (tE (ctC C nt cap.length) (vB own nt cap) me fe)) (hme:me≠.any:=by decide) (hio:i∉C.io:=by exact Qq rfl)
  (hsw:swapsWith (.ListComp elt [⟨tg,iter,ifs,0⟩] scope pos) (some (.Name x pos')) spos.line X.env=pure true:=by rfl) (hs:∀ x,foldedSetIterable iter X.env x=pure x:=by intro _; rfl)
  (hfx:X.fn x=true\/X.env.scope.names.lookup x=some .local:=by first | exact .inl rfl | exact .inr rfl) :
  PS X (.Assign [.Name x pos'] (.ListComp elt [⟨tg,iter,ifs,0⟩] scope pos) spos) (tSt C own (i::kO own [i]) (ub i (jW own nt cap fi g ft fe))):=by
 refine ⟨?_⟩
 intro pins s σ H D I ⟨F,ρ,rp,h⟩
 rw [exec_Assign_Name_used _ _ _ _ hsw]
 refine wpAny_bind (wpAny_standAt (wpAny_bind ?_))
 show wpAny _ X.A (do let _ <-comprehension (.ListComp elt [⟨tg,iter,ifs,0⟩] scope pos) scope X.env _ (newList []) false (eval iter X.env) (some (assign (.Name x pos') X.env))) _ _ s
 have main:=zt (α:=Unit) (Z:=fun r=>PoS C own (i::kO own [i]) σ F H (r.bind fun p=>if i < p.2.length then .ok (.nx,p.2.set i (some p.1)) else .bad) D) rp (fun z=>z) (fun c _ z=>z) h
 refine wpAny_bind (wpAny_mono (wpAny_comprehension_free (use:=some (assign (.Name x pos') X.env)) (Q:=fun _ s'=>SP X pins D .next s') rfl hs (wt (vV I S)) S.kind S.names (thn (hi pins s σ H _ I main) fun xv s1 h1=>thn h1 fun itv s2 h2=>?_)) (fun _ s' hq=>wpAny_pure (wpAny_pure hq)) fun _ _ e=>e)
 obtain ⟨it,fp,tn,J,H2,e,I2,T,st2,f2,ds,ρ1,ys,ρe,F1,hz,hrun,rp1,c1,itI,po⟩:=h2
 subst e
 refine zr (RR:=fun acc C'=>compPost (model X.prog X.w) X.A X.xe (some (assign (.Name x pos') X.env)) (fun _ s'=>SP X pins D .next s') acc C') I2 hcalm S CO T st2 f2 rp1 itI hz hg ht he hme hrun fun p L s' F' H' hp rp' c' nF o hns hfp hinv=>?_
 obtain ⟨m,hn⟩:=hns
 have I3:Inv X pins σ H' s':=by simpa using hinv s'.heap (.refl ..)
 have hH:H p=none:=by
  cases q:H p with
  | none=>rfl
  | some u=>exact absurd hp (c1.stay p (by rw [q]; simp))
 show wpAny _ X.A (assign (.Name x pos') X.env (.ref p)) _ _ s'
 refine wpAny_assign_Name (zb I3 hN hix hx (v:=.ref p) rfl (fun s4 I4 ⟨a,sba,ha⟩=>?_) hfx)
 obtain ⟨f0,f1,f2',f3,f4,f5⟩:=hfp
 have nL:L≠a:=by
  rcases ha with z | z
  ·rw [z]; exact f1
  ·exact fun q=>f4 x a z q.symm
 refine ⟨m,hn.sameBut sba nL,fun h' sb=>?_⟩
 have I5:Inv X pins (σ.set i (some (.ref p))) H' { s4 with heap:=h' }:=by
  have:=I4.turned (h':=h') (t':=s4.toks) (it:=L) (fun b o hb e=>(sb.2 b hb).trans e) f0 f1 f3 f4 f5
  exact this
 refine ⟨_,H',I5,?_⟩
 have po:PoS C own (i::kO own [i]) σ F H (if i < (qW own ρe nt cap ρ1).length then .ok (.nx,(qW own ρe nt cap ρ1).set i (some (.lst ys))) else .bad) D:=po
 by_cases z:i < (qW own ρe nt cap ρ1).length
 ·rw [if_pos z] at po
  refine po _ F' H' ⟨rp'.putO z nF (fun y=>(rp.OA_there y).1 hH) o,c1.trans' c',fun b y=>?_,fun j hj=>List.getElem?_set_ne fun y=>hio (by rw [y]; exact hj)⟩
  obtain ⟨j,hj,e⟩:=y
  by_cases qj:j=i
  ·subst qj
   rw [List.getElem?_set_self (by rw [rp'.len]; exact z)] at e
   cases e
   exact .inr hH
  ·have hj':=(qJ j).mp ((List.mem_cons.mp hj).resolve_left qj)
   rw [List.getElem?_set_ne (Ne.symm qj)] at e
   exact .inl ⟨j,hj'.1,e⟩
 ·rw [if_neg z] at po; exact po.elim
end
def Fly (h:Heap) (ex T:Addr) (cls:Value):Prop:=∃ oe vs oT ts,h.get? ex=some oe/\oe.cls=cls/\oe.data=.fields vs/\vs[1]?=some (.ref T)/\T≠ex/\h.get? T=some oT/\oT.data=.fields ts/\ts[3]?=some .none
def CXk (P:Program) (w:World):CXT:=fun outer H s E e s'=>∃ ex T C H',e=.ref ex/\s'.os=s.os/\AllBare s'.gens/\Un (frs outer) [] H H' s.heap s'.heap/\HOk P w H' s'.heap/\Fly s'.heap ex T (.ref C)/\H' ex=none/\H' T=none/\s.heap.get? ex=none/\s.heap.get? T=none/\E (.ref C) none H'
def InB (X:Cx) (H:Hp) (s:Shared) (ex:Addr) (cls:Value):Prop:=H ex=none/\X.s₀.heap.get? ex=none /\
 ((∃ oe vs,s.heap.get? ex=some oe/\oe.cls=cls/\oe.data=.fields vs/\vs[1]?=some .none)\/∃ T,Fly s.heap ex T cls/\H T=none/\X.s₀.heap.get? T=none)
section
variable {X:Cx} {pins:List (Addr×Obj)} {σ:St} {H:Hp} {s:Shared} {ex:Addr} {cls:Value}
noncomputable def jY (ex:Addr) (T:Option Addr) (X:Cx):List Addr:=ex::(T.toList++frs X.stack)
theorem kw (I:Inv X pins σ H s) {b:Addr} (hb:b∈frs X.stack):∃ o,s.heap.get? b=some o/\∀ vs,o.data≠.fields vs:=(I.stack.mem hb).2
theorem zu (hs:X.stack=X.env::X.outer):∀ env∈X.stack,∀ b,env.frame=some b->b∈frs X.stack:=fun env he b hb=>List.mem_filterMap.mpr ⟨env,he,hb⟩
structure Gone (X:Cx) (H:Hp) (s:Shared) (ex:Addr) (cls:Value) (h2:Heap):Prop where
 keep:∀ b o,s.heap.get? b=some o->H b≠none\/(X.s₀.heap.get? b≠none/\b∉frs X.stack)->h2.get? b=some o
 slot:∀ b o,s.heap.get? b=some o->b∈frs X.stack->∃ sl,h2.get? b=some { o with slots:=sl }
 ok:HOk X.prog X.w H h2
 un:Un (frs X.stack) [] H H s.heap h2\/True
theorem gG {T0:Option Addr} {h2:Heap} (I:Inv X pins σ H s) (hex:H ex=none) (hT:∀ T,T0=some T->H T=none) (n1:X.s₀.heap.get? ex=none) (n2:∀ T,T0=some T->X.s₀.heap.get? T=none)
  (st:(PySem.W.hideAll s.heap (jY ex T0 X)).StaysIn h2) (sl:∀ b o,s.heap.get? b=some o->(∀ vs,o.data≠.fields vs)->∃ sl,h2.get? b=some { o with slots:=sl }):Gone X H s ex cls h2:=by
 have keep:∀ b o,s.heap.get? b=some o->b≠ex->(∀ T,T0=some T->b≠T)->b∉frs X.stack->h2.get? b=some o:=fun b o e h1 h2 h3=>st b o (PySem.W.hideAll_get _ e fun hm=>by
  rcases List.mem_cons.mp hm with q | hm
  ·exact h1 q
  ·rcases List.mem_append.mp hm with q | q
   ·exact h2 b (Option.mem_toList.mp q) rfl
   ·exact h3 q)
 have k1:∀ b o,s.heap.get? b=some o->H b≠none->h2.get? b=some o:=fun b o e hn=>keep b o e (fun q=>hn (by rw [q]; exact hex)) (fun T hT' q=>hn (by rw [q]; exact hT T hT')) fun q=>hn (I.stkFree b q)
 refine ⟨fun b o e hb=>?_,fun b o e hb=>?_,fun b u e=>?_,.inr trivial⟩
 ·rcases hb with hb | ⟨hb,hf⟩
  ·exact k1 b o e hb
  ·exact keep b o e (fun q=>hb (by rw [q]; exact n1)) (fun T hT' q=>hb (by rw [q]; exact n2 T hT')) hf
 ·obtain ⟨o',e',nf⟩:=kw I hb
  rw [e] at e'; cases e'
  exact sl b o e nf
 ·refine (I.hok b u e).stay (fun c v hc q=>k1 c v q ?_) (fun _ q=>q) fun _ _ q=>q
  rcases hc with z | z
  ·rw [z,e]; simp
  ·rw [z]; simp
theorem uD {T0:Option Addr} {h2:Heap} (I:Inv X pins σ H s) (hT:∀ T,T0=some T->H T=none) (n2:∀ T,T0=some T->X.s₀.heap.get? T=none) (g:Gone X H s ex cls h2) (hex0:X.ex=[])
  (tr:h2.Traced (PySem.W.hideAll s.heap (jY ex T0 X)) ex cls):∃ T,Fly h2 ex T cls/\H T=none/\X.s₀.heap.get? T=none:=by
 obtain ⟨oe,vs,T,oT,ts,a1,a2,a3,a4,a5,a6,a7,a8,a9⟩:=tr
 have noS:∀ o,s.heap.get? T=some o->(∃ q,T0=some q/\T=q):=fun o e=>by
  have hm:T∈jY ex T0 X:=by
   refine Classical.byContradiction fun hn=>?_
   rw [PySem.W.hideAll_get _ e hn] at a5
   cases a5
  rcases List.mem_cons.mp hm with q | hm
  ·exact absurd q a6
  ·rcases List.mem_append.mp hm with q | q
   ·exact ⟨T,Option.mem_toList.mp q,rfl⟩
   ·obtain ⟨o',e',nf⟩:=kw I q
    obtain ⟨sl,e2⟩:=g.slot T o' e' q
    rw [a7] at e2
    cases e2
    exact absurd a8 (nf ts)
 refine ⟨T,⟨oe,vs,oT,ts,a1,a2,a3,a4,a6,a7,a8,a9⟩,?_,?_⟩
 ·cases q:H T with
  | none=>rfl
  | some u=>
   have hlt:=I.hok.lt q
   obtain ⟨o,e⟩:∃ o,s.heap.get? T=some o:=by
    have:=(I.hok T u q)
    have st:=this.stay (H':=H) (h':=s.heap) (fun b v _ z=>z) (fun _ z=>z) fun _ _ z=>z
    cases z:s.heap.get? T with
    | some o=>exact ⟨o,rfl⟩
    | none=>
     exfalso
     cases u with
     | lst xs=>obtain ⟨_,_,_,_,e⟩:=st; rw [z] at e; cases e
     | tup xs=>obtain ⟨_,_,_,_,e,_⟩:=st; rw [z] at e; cases e
     | dK kvs=>obtain ⟨_,_,_,_,o,_,_,e,_⟩:=st; rw [z] at e; cases e
     | dT kvs=>obtain ⟨_,_,_,_,o,_,_,e,_⟩:=st; rw [z] at e; cases e
     | set S n=>obtain ⟨o,_,_,_,e,_⟩:=st; rw [z] at e; cases e
     | ins C dx fs=>obtain ⟨_,_,_,e,_⟩:=st; rw [z] at e; cases e
     | own y=>obtain ⟨_,e⟩:=st; rw [z] at e; cases e
     | xd fs=>obtain ⟨_,⟨_,_,_,e,_⟩,_⟩:=st; rw [z] at e; cases e
     | rng lo hi=>obtain ⟨_,_,_,e⟩:=st; rw [z] at e; cases e
     | frz ob u=>obtain ⟨e,_⟩:=st; rw [z] at e; cases e
     | tbl ps=>have e:s.heap.get? T=some _:=st; rw [z] at e; cases e
     | met f y=>have e:s.heap.get? T=some _:=st; rw [z] at e; cases e
     | ext φ=>obtain ⟨_,⟨_,e⟩,_⟩:=st; rw [z] at e; cases e
   obtain ⟨q',hq',rfl⟩:=noS o e
   rw [hT _ hq'] at q; cases q
 ·cases q:X.s₀.heap.get? T with
  | none=>rfl
  | some o=>
   obtain ⟨o',e'⟩:=I.base.there T o q (by rw [hex0]; simp)
   obtain ⟨q',hq',rfl⟩:=noS o' e'
   rw [n2 _ hq'] at q; cases q
theorem Jv {E:Value->Shared->Prop} {Q:Unit->Shared->Prop} (I:Inv X pins σ H s) (hstk:X.stack=X.env::X.outer) (hfr:X.env.frame=some X.env.locals) (hex0:X.ex=[]) (x:InB X H s ex cls)
  (k:∀ h2 T,Gone X H s ex cls h2->Fly h2 ex T cls->H T=none->X.s₀.heap.get? T=none->Q () { s with heap:=h2 }):wpAny (model X.prog X.w) X.A (leaving X.env (.ref ex)) Q E s:=by
 obtain ⟨hex,n1,hx⟩:=x
 have hF:X.A.frames=some (X.env::X.outer):=by rw [I.ok.frames,hstk]
 have hB:∀ as,(PySem.W.hideAll s.heap as).StaysIn s.heap:=fun as b o e=>PySem.W.of_hideAll as e
 have hl:∀ T0,s.heap.FunFrames (PySem.W.hideAll s.heap (jY ex T0 X)) (X.env::X.outer):=fun T0=>by
  rw [<-hstk]
  exact PySem.W.funFrames_hide I.stack fun env he b hb=>List.mem_cons_of_mem _ (List.mem_append_right _ (zu hstk env he b hb))
 have hn:∀ T0,(PySem.W.hideAll s.heap (jY ex T0 X)).get? ex=none:=fun T0=>PySem.W.hideAll_none _ (List.mem_cons.mpr (.inl rfl))
 rcases hx with ⟨oe,vs,a1,a2,a3,a4⟩ | ⟨T,⟨oe,vs,oT,ts,a1,a2,a3,a4,a5,a6,a7,a8⟩,hT,n2⟩
 ·refine wpAny_leaving_first (base:=PySem.W.hideAll s.heap (jY ex none X)) hF (hl none) hfr a1 (hB _) (hn none) a3 a4 fun h2 ⟨st,_,tr,sl⟩=>?_
  have g:Gone X H s ex cls h2:=gG I hex (T0:=none) (fun _ z=>nomatch z) n1 (fun _ z=>nomatch z) st sl
  rw [a2] at tr
  obtain ⟨T',f1,f2,f3⟩:=uD I (T0:=none) (fun _ z=>nomatch z) (fun _ z=>nomatch z) g hex0 tr
  exact k h2 T' g f1 f2 f3
 ·have hT':∀ T1,some T=some T1->H T1=none:=fun T1 z=>by cases z; exact hT
  have n2':∀ T1,some T=some T1->X.s₀.heap.get? T1=none:=fun T1 z=>by cases z; exact n2
  have tr0:s.heap.Traced (PySem.W.hideAll s.heap (jY ex (some T) X)) ex cls:=⟨oe,vs,T,oT,ts,a1,a2,a3,a4,PySem.W.hideAll_none _ (List.mem_cons_of_mem _ (List.mem_append_left _ (by simp))),a5,a6,a7,a8⟩
  refine wpAny_leaving_next (base:=PySem.W.hideAll s.heap (jY ex (some T) X)) hF (hl (some T)) hfr tr0 (hB _) (hn _) fun h2 ⟨st,_,tr,sl⟩=>?_
  have g:Gone X H s ex cls h2:=gG I hex hT' n1 n2' st sl
  obtain ⟨T',f1,f2,f3⟩:=uD I hT' n2' g hex0 tr
  exact k h2 T' g f1 f2 f3
end
section
variable {P:Program} {w:World} {K:Frag} {mg:Str->Option Value} {base:Heap} {N:List Str} {qual:Str} {scope:Scope} {f:Addr} {cd:Value} {A:Around} {outer:List Env} {s0:Shared} {H0:Hp} {E:XK}
abbrev cxk (P:Program) (w:World) (K:Frag) (mg:Str->Option Value) (base:Heap) (N:List Str) (qual:Str) (scope:Scope) (f:Addr) (cd:Value) (A:Around) (outer:List Env) (s0:Shared) (H0:Hp) (E:XK):Cx:=Ym (CXk P w) P w K mg base N qual scope f cd A outer s0 H0 E
theorem ZF {pins:List (Addr×Obj)} {σ:St} {H:Hp} {s:Shared} {ex C:Addr} (I:Inv (cxk P w K mg base N qual scope f cd A outer s0 H0 E) pins σ H s) (x:InB (cxk P w K mg base N qual scope f cd A outer s0 H0 E) H s ex (.ref C)) (hE:E (.ref C) none H) :
  (cxk P w K mg base N qual scope f cd A outer s0 H0 E).xe (.ref ex) s:=by
 refine Jv I rfl rfl rfl x fun h2 T g fl hT nT=>?_
 have bs0:=I.base
 have neL:∀ b o,s0.heap.get? b=some o->b≠(cxk P w K mg base N qual scope f cd A outer s0 H0 E).env.locals:=fun b o e=>Nat.ne_of_lt (Nat.lt_of_lt_of_le (Heap.lt_size e) I.ok.above)
 have nst:∀ b o,s0.heap.get? b=some o->b∉frs outer->b∉frs (cxk P w K mg base N qual scope f cd A outer s0 H0 E).stack:=fun b o e hb z=>by
  rcases List.mem_cons.mp (I.stkSub b z) with q | q
  ·exact neL b o e q
  ·exact hb q
 have ist:∀ b,b∈frs outer->b∈frs (cxk P w K mg base N qual scope f cd A outer s0 H0 E).stack:=fun b hb=>by
  show b∈frs (_::outer)
  unfold frs
  rw [List.filterMap_cons]
  exact List.mem_cons_of_mem _ hb
 refine ⟨ex,T,C,H,rfl,I.os,I.bare,⟨fun b o e n hb hx=>?_,fun b o e n hb hx=>?_,bs0.free,fun b o e hx=>?_,bs0.tups,bs0.frzs,bs0.tbls⟩,g.ok,fl,x.1,hT,x.2.1,nT,hE⟩
 ·exact g.keep b o (bs0.keep b o e n hb hx) (.inr ⟨by show s0.heap.get? b≠none; rw [e]; simp,nst b o e hb⟩)
 ·obtain ⟨sl,q⟩:=bs0.slot b o e n hb hx
  obtain ⟨sl2,q2⟩:=g.slot b _ q (ist b hb)
  exact ⟨sl2,q2⟩
 ·obtain ⟨o',q⟩:=bs0.there b o e hx
  by_cases hb:b∈frs (cxk P w K mg base N qual scope f cd A outer s0 H0 E).stack
  ·obtain ⟨sl,q2⟩:=g.slot b o' q hb
   exact ⟨_,q2⟩
  ·exact ⟨o',g.keep b o' q (.inr ⟨by show s0.heap.get? b≠none; rw [e]; simp,hb⟩)⟩
theorem YK {X:Cx} {pins:List (Addr×Obj)} {σ:St} {H:Hp} {s s':Shared} {e:Value} (hex0:X.ex=[]) (I:Inv X pins σ H s) (h:CXk X.prog X.w X.stack H s E e s'):∃ ex C H',e=.ref ex/\Inv X pins σ H' s'/\InB X H' s' ex (.ref C)/\E (.ref C) none H':=by
 obtain ⟨ex,T,C,H',rfl,os,bare,un,hok,fl,e1,e2,n1,n2,hE⟩:=h
 have old:∀ b,s.heap.get? b=none->X.s₀.heap.get? b=none:=fun b hb=>by
  cases q:X.s₀.heap.get? b with
  | none=>rfl
  | some o=>
   obtain ⟨o',e'⟩:=I.base.there b o q (by rw [hex0]; simp)
   rw [hb] at e'; cases e'
 exact ⟨ex,C,H',rfl,I.call' (ch:=[]) os un hok bare (fun b z=>absurd z (by simp)),⟨e1,old ex n1,.inr ⟨T,fl,e2,old T n2⟩⟩,hE⟩
theorem jg:jh (CXk P w) (cxk P w K mg base N qual scope f cd A outer s0 H0 E) E:=fun pins σ H s e s' I h=>by
 obtain ⟨ex,C,H',rfl,I',x,hE⟩:=YK rfl I h
 exact ZF I' x hE
theorem YL {h:Heap} {C:Addr} {bmB:List Value} {newId:String} {x:Str} (kin:K.In h) (hm:mg x=some (.ref C)) (q:PySem.W.excIn K C bmB newId=true):OwnCls x C bmB newId mg h:=by
 refine ⟨hm,?_⟩
 unfold PySem.W.excIn at q
 split at q
 case h_2=>cases q
 case h_1 dd cd sl lk=>
  split at q
  case h_2=>cases q
  case h_1 C' bm a0 a1 a2 a3 n a5 em es=>
   have q':=q
   simp only [Bool.and_eq_true,beq_iff_eq,Bool.not_eq_true'] at q'
   obtain ⟨⟨⟨⟨⟨e1,e2⟩,nodel⟩,tl⟩,nsok⟩,noinit⟩:=q'
   obtain ⟨nm,bs,mro,ns,qn,hd,sn,sub,ab,col,del⟩:=cd
   dsimp only at em nodel nsok noinit
   obtain ⟨sll⟩:=sl
   dsimp only at es
   subst em nodel es e1 e2
   exact ⟨bm,ns,nm,qn,bs,hd,sn,sub,ab,col,dd,a0,a1,a2,a3,a5,_,kin _ _ lk,.of_isNs (PySem.W.isNs_of_in kin nsok),PySem.W.nsMap_none_of_in kin nsok noinit,PySem.W.tail_of_in kin tl⟩
end
theorem KY {P:Program} {w:World} {H:Hp} {h:Heap} {T:Addr} {u:HO} (hok:HOk P w H h) (q:H T=some u):∃ o,h.get? T=some o:=by
 have st:=hok T u q
 cases z:h.get? T with
 | some o=>exact ⟨o,rfl⟩
 | none=>
  exfalso
  cases u with
  | lst xs=>obtain ⟨_,_,_,_,e⟩:=st; rw [z] at e; cases e
  | tup xs=>obtain ⟨_,_,_,_,e,_⟩:=st; rw [z] at e; cases e
  | dK kvs=>obtain ⟨_,_,_,_,o,_,_,e,_⟩:=st; rw [z] at e; cases e
  | dT kvs=>obtain ⟨_,_,_,_,o,_,_,e,_⟩:=st; rw [z] at e; cases e
  | set S n=>obtain ⟨o,_,_,_,e,_⟩:=st; rw [z] at e; cases e
  | ins C dx fs=>obtain ⟨_,_,_,e,_⟩:=st; rw [z] at e; cases e
  | own y=>obtain ⟨_,e⟩:=st; rw [z] at e; cases e
  | xd fs=>obtain ⟨_,⟨_,_,_,e,_⟩,_⟩:=st; rw [z] at e; cases e
  | rng lo hi=>obtain ⟨_,_,_,e⟩:=st; rw [z] at e; cases e
  | frz ob u=>obtain ⟨e,_⟩:=st; rw [z] at e; cases e
  | tbl ps=>have e:h.get? T=some _:=st; rw [z] at e; cases e
  | met f y=>have e:h.get? T=some _:=st; rw [z] at e; cases e
  | ext φ=>obtain ⟨_,⟨_,e⟩,_⟩:=st; rw [z] at e; cases e
abbrev bmV:List Value:=[.type "ValueError",.type "Exception",.type "BaseException",.type "object"]
noncomputable def xi (x:Str) (fr:Sl->Out (List D×Sl)):Sl->Out (Fl×Sl):=fun ρ=>(fr ρ).bind fun p=>.exc x p.2
theorem PoS.bindA {C:Ct} {own own':List Nat} {as:List AK} {σ:St} {F H:Hp} {o:Out (List D×Sl)} {k:List D×Sl->Out (Fl×Sl)} {D:Ends} {R:List V->Hp->Prop} (hp:PoS C own own' σ F H (o.bind k) D)
  (h:∀ vs F1 H1 ds ρ1,Rep C.K own F1 H1 σ ρ1->Chg (OA own σ) F H F1 H1->ArgV C.K H F1 H1 σ as vs ds->PoS C own own' σ F1 H1 (k (ds,ρ1)) D->R vs H1):PoA C own as σ F H o R:=by
 cases o with
 | ok p=>
  obtain ⟨ds,ρ1⟩:=p
  exact fun vs F1 H1 rp c av=>h vs F1 H1 ds ρ1 rp c av (PoS.shift (show PoS C own own' σ F H (k (ds,ρ1)) D from hp) (.ofE rp c))
 | exc x=>exact hp
 | bad=>exact hp.elim
def KZ (X:Cx) (C:Ct):Prop:=∀ (pins:List (Addr×Obj)) (σ:St) (H:Hp) (s:Shared) (ex A:Addr),Inv X pins σ H s->InB X H s ex (.ref A)->C.E (.ref A) none H->X.xe (.ref ex) s
theorem ZG {P:Program} {w:World} {K:Frag} {mg:Str->Option Value} {base:Heap} {N:List Str} {qual:Str} {scope:Scope} {f:Addr} {cd:Value} {A:Around} {outer:List Env} {s0:Shared} {H0:Hp} {C:Ct}:KZ (cxk P w K mg base N qual scope f cd A outer s0 H0 C.E) C:=fun pins σ H s ex A I x hE=>ZF I x hE
section
variable {X:Cx} {C:Ct} {own own':List Nat} {as:List AK} {e:Expr} {es:List Expr} {fr:Sl->Out (List D×Sl)} {x:Str} {Cc:Addr} {np cpos pos:Pos}
theorem ArgV.len {K:Frag} {H0 F H:Hp} {σ:St}:∀ {as:List AK} {vs:List V} {ds:List D},ArgV K H0 F H σ as vs ds->vs.length=as.length
 | [],[],[],_=>rfl
 | .vl::as,v::vs,d::ds,h=>congrArg (·+1) (ArgV.len h.2)
 | .sl i::as,v::vs,d::ds,h=>congrArg (·+1) (ArgV.len h.2.2)
 | .fr::as,v::vs,d::ds,h=>congrArg (·+1) (ArgV.len h.2)
 | [],_::_,_,h=>h.elim
 | [],[],_::_,h=>h.elim
 | .vl::_,[],_,h=>h.elim
 | .vl::_,_::_,[],h=>h.elim
 | .sl _::_,[],_,h=>h.elim
 | .sl _::_,_::_,[],h=>h.elim
 | .fr::_,[],_,h=>h.elim
 | .fr::_,_::_,[],h=>h.elim
theorem uE (hx0:X.ex=[]) (ht:KZ X C) (hcalm:X.calm=true) (hg:Gl X x) (hm:X.mg x=some (.ref Cc)) (hcv:C.cv x=.ref Cc) (q:PySem.W.excIn X.K Cc bmV "ValueError.__new__"=true) (ha:PA X (e::es) (tAr C own as fr)) (hsz:as.length<=1000:=by decide) (hio:∀ i∈C.ox,i∈own:=by exact jI rfl) (hd:(x == ("__debug__":Str))=false:=by decide)
  (he:starEach (e::es) X.env=(false,eval e X.env)::starEach es X.env:=by exact qT rfl) (hpl:(backTo cpos (starEach es X.env)).any (·.1)=false:=by rfl) :
  PS X (.Raise (some (.Call (.Name x np) (e::es) [] cpos)) none pos) (tSt C own own' (xi x fr)):=by
 refine ⟨?_⟩
 intro pins s σ H D I ⟨F,ρ,rp,h⟩
 obtain ⟨tl,N,nm,qn,bs,hdct,sn,sub,ab,col,dd,k0,k1,k2,k3,k5,mN,hC,hN,hni,T⟩:=(YL I.ok.mod.kin hm q).obj
 refine wpAny_Raise_call_subT (C:=Cc) (nm:=nm) (q:=qn) (N:=N) (bs:=bs) (bm:=tl) (hdct:=hdct) (sn:=sn) (sub:=sub) (ab:=ab) (col:=col) (dd:=dd) (k0:=k0) (k1:=k1) (k2:=k2) (k3:=k3) (k5:=k5)
  PySem.F.excBase_ValueError (mN:=mN) (T.hasType PySem.F.excBase_ValueError.hasBase) (I.ok.hd hcalm) (by rw [he]; show (false||(backTo cpos (starEach es X.env)).any (·.1))=false; rw [hpl]; rfl) hni (wm I hg hm ⟨rfl,?_⟩ hd)
 have main:tAr C own as fr σ H fun vs H1=>vs.length<=sizeLine/\C.E (.ref Cc) none H1:=by
  refine ⟨F,ρ,rp,PoS.bindA h fun vs F1 H1 ds ρ1 rp1 c1 av h1=>⟨?_,?_⟩⟩
  ·rw [av.len]; exact Nat.le_trans hsz (by rw [sizeLine_eq]; decide)
  ·rw [<-hcv]; exact h1 F1 H1 rp1.sub (rp1.ioIs hio) .refl
 have run:=ha cpos pins s σ H _ I main
 rw [he] at run ⊢
 refine Calls.evalArgs_plain (wpAny_mono run (fun us s2 ⟨vs,H2,I2,r2,z2,hE⟩=>?_) fun _ _ y=>y)
 refine ⟨rfl,by rw [<-r2.length]; exact z2,I2.bk _ _ hC,hN.keeps I2.bk,T.keeps I2.bk,fun h' ex mk=>?_⟩
 have I3:Inv X pins σ H2 { s2 with heap:=h' }:=I2.kept (t':=s2.toks) mk.keeps
 obtain ⟨t,h1,h2,h3⟩:=mk.there
 refine ht pins σ H2 _ ex Cc I3 ⟨?_,?_,.inl ⟨_,_,h1,rfl,rfl,rfl⟩⟩ hE
 ·cases q2:H2 ex with
  | none=>rfl
  | some u=>
   have hlt:=I2.hok.lt q2
   refine absurd mk.new ?_
   obtain ⟨o,e⟩:=KY I2.hok q2
   rw [e]; simp
 ·cases q2:X.s₀.heap.get? ex with
  | none=>rfl
  | some o=>
   obtain ⟨o',e'⟩:=I2.base.there ex o q2 (by rw [hx0]; simp)
   rw [mk.new] at e'; cases e'
end
structure Caught (X:Cx) (pins:List (Addr×Obj)) (H:Hp) (s:Shared) (ex T Cc:Addr):Prop where
 fly:Fly s.heap ex T (.ref Cc)
 hex:H ex=none
 hT:H T=none
 n1:X.s₀.heap.get? ex=none
 n2:X.s₀.heap.get? T=none
 pp:∀ p∈X.pn++pins,p.1≠ex/\p.1≠T
section
variable {X:Cx} {pins:List (Addr×Obj)} {σ:St} {H:Hp} {s:Shared} {ex T Cc:Addr}
theorem Caught.dex (c:Caught X pins H s ex T Cc):∃ oe vs,s.heap.get? ex=some oe/\oe.data=.fields vs:=let ⟨oe,vs,oT,ts,a1,a2,a3,_⟩:=c.fly; ⟨oe,vs,a1,a3⟩
theorem Caught.dT (c:Caught X pins H s ex T Cc):∃ oe vs,s.heap.get? T=some oe/\oe.data=.fields vs:=let ⟨oe,vs,oT,ts,a1,a2,a3,a4,a5,a6,a7,_⟩:=c.fly; ⟨oT,ts,a6,a7⟩
theorem xj {h2:Heap} (I:Inv X pins σ H s) (hstk:X.stack=X.env::X.outer) (hfr:X.env.frame=some X.env.locals) (hx0:X.ex=[]) (c:Caught X pins H s ex T Cc)
  (keep:∀ b o,s.heap.get? b=some o->b≠ex->b≠T->b∉frs X.stack->h2.get? b=some o)
  (slot:∀ b o,s.heap.get? b=some o->b∈frs X.stack->∃ sl,h2.get? b=some { o with slots:=sl }):Inv X pins σ H { s with heap:=h2 }:=by
 obtain ⟨oe,ve,he,de⟩:=c.dex
 obtain ⟨oT,vT,hT,dT⟩:=c.dT
 have nf:∀ b o,s.heap.get? b=some o->(∀ vs,o.data≠.fields vs)->b≠ex/\b≠T:=fun b o e n=>by
  constructor
  ·rintro rfl; rw [he] at e; cases e; exact n _ de
  ·rintro rfl; rw [hT] at e; cases e; exact n _ dT
 have Lm:X.env.locals∈frs X.stack:=by
  rw [hstk]; unfold frs; rw [List.filterMap_cons,hfr]; exact List.mem_cons_self
 have neL:∀ b o,X.s₀.heap.get? b=some o->b≠X.env.locals:=fun b o e=>Nat.ne_of_lt (Nat.lt_of_lt_of_le (Heap.lt_size e) I.ok.above)
 have nst:∀ b o,X.s₀.heap.get? b=some o->b∉X.fs->b∉frs X.stack:=fun b o e hb z=>by
  rcases List.mem_cons.mp (I.stkSub b z) with q | q
  ·exact neL b o e q
  ·exact hb q
 have ist:∀ b,b∈X.fs->b∈frs X.stack:=fun b hb=>by
  rw [hstk]; unfold frs; rw [List.filterMap_cons,hfr]; exact List.mem_cons_of_mem _ hb
 have ne0:∀ b o,X.s₀.heap.get? b=some o->b≠ex/\b≠T:=fun b o e=>⟨(by rintro rfl; rw [c.n1] at e; cases e),(by rintro rfl; rw [c.n2] at e; cases e)⟩
 have kc:∀ {a:Addr} {v:Option Value},s.heap.IsCell a v->h2.IsCell a v:=fun {a v} ⟨oc,e1,e2⟩=>by
  have q:=nf a oc e1 fun vs z=>by rw [e2] at z; cases z
  by_cases hb:a∈frs X.stack
  ·obtain ⟨sl,z⟩:=slot a oc e1 hb
   exact ⟨_,z,e2⟩
  ·exact ⟨oc,keep a oc e1 q.1 q.2 hb,e2⟩
 refine ⟨I.ok,I.os,I.bare,⟨fun b o e n hb hx=>?_,fun b o e n hb hx=>?_,I.base.free,fun b o e hx=>?_,I.base.tups,I.base.frzs,I.base.tbls⟩,?_,fun x a e=>?_,I.free,I.freeC,fun p hp=>?_,fun b u e=>?_,I.len⟩
 ·exact keep b o (I.base.keep b o e n hb hx) (ne0 b o e).1 (ne0 b o e).2 (nst b o e hb)
 ·obtain ⟨sl,q⟩:=I.base.slot b o e n hb hx
  obtain ⟨sl2,q2⟩:=slot b _ q (ist b hb)
  exact ⟨sl2,q2⟩
 ·obtain ⟨o',q⟩:=I.base.there b o e hx
  by_cases hb:b∈frs X.stack
  ·obtain ⟨sl,z⟩:=slot b o' q hb
   exact ⟨_,z⟩
  ·exact ⟨o',keep b o' q (ne0 b o e).1 (ne0 b o e).2 hb⟩
 ·obtain ⟨m,⟨o,es,ep,ho,r⟩,hl⟩:=I.loc
  obtain ⟨sl,hL⟩:=slot _ o ho Lm
  refine ⟨m,⟨_,es,ep,hL,r⟩,fun i x v e1 e2 e3=>?_⟩
  obtain ⟨u,rv,lk⟩:=hl i x v e1 e2 e3
  refine ⟨u,rv,?_⟩
  rcases lk with z | ⟨k,a,e,z⟩
  ·exact .inl z
  ·exact .inr ⟨k,a,e,kc z⟩
 ·obtain ⟨v,z⟩:=I.cell x a e
  exact ⟨v,kc z⟩
 ·obtain ⟨a1,a2,a3,a4,a5⟩:=I.pin p hp
  refine ⟨keep p.1 p.2 a1 (c.pp p hp).1 (c.pp p hp).2 fun z=>?_,a2,a3,a4,a5⟩
  rcases List.mem_cons.mp (I.stkSub p.1 z) with q | q
  ·exact a3 q
  ·exact a4 q
 ·refine (I.hok b u e).stay (fun d v hc q=>?_) (fun _ q=>q) fun _ _ q=>q
  have hd:H d≠none:=by
   rcases hc with z | z
   ·rw [z,e]; simp
   ·rw [z]; simp
  exact keep d v q (fun z=>hd (by rw [z]; exact c.hex)) (fun z=>hd (by rw [z]; exact c.hT)) fun z=>hd (I.stkFree d z)
theorem yE {h2:Heap} {a0:Value} (I:Inv X pins σ H s) (hx0:X.ex=[]) (c:Caught X pins H s ex T Cc) (slot:∀ b o,s.heap.get? b=some o->b∈frs X.stack->∃ sl,h2.get? b=some { o with slots:=sl })
  (tr:h2.TracedW (PySem.W.hideAll s.heap (jY ex (some T) X)) ex (.ref Cc) a0):∃ T',Caught X pins H { s with heap:=h2 } ex T' Cc:=by
 obtain ⟨oe,vs,T',oT,ts,b1,⟨b2,_⟩,b3,b4,b5,b6,b7,b8,b9⟩:=tr
 have noS:∀ o,s.heap.get? T'=some o->T'=T:=fun o e=>by
  have hm:T'∈jY ex (some T) X:=by
   refine Classical.byContradiction fun hn=>?_
   rw [PySem.W.hideAll_get _ e hn] at b5
   cases b5
  rcases List.mem_cons.mp hm with q | hm
  ·exact absurd q b6
  ·rcases List.mem_append.mp hm with q | q
   ·simpa using q
   ·obtain ⟨o',e',nf⟩:=kw I q
    obtain ⟨sl,e2⟩:=slot T' o' e' q
    rw [b7] at e2
    cases e2
    exact absurd b8 (nf ts)
 refine ⟨T',⟨oe,vs,oT,ts,b1,b2,b3,b4,b6,b7,b8,b9⟩,c.hex,?_,c.n1,?_,fun p hp=>⟨(c.pp p hp).1,?_⟩⟩
 ·cases q:H T' with
  | none=>rfl
  | some u=>
   obtain ⟨o,e⟩:=KY I.hok q
   rw [noS o e,c.hT] at q; cases q
 ·cases q:X.s₀.heap.get? T' with
  | none=>rfl
  | some o=>
   obtain ⟨o',e'⟩:=I.base.there T' o q (by rw [hx0]; simp)
   rw [noS o' e',c.n2] at q; cases q
 ·rintro rfl
  exact (c.pp p hp).2 (noS _ (I.pin p hp).1)
theorem wv {h2:Heap} (st:(PySem.W.hideAll s.heap (jY ex (some T) X)).StaysIn h2):∀ b o,s.heap.get? b=some o->b≠ex->b≠T->b∉frs X.stack->h2.get? b=some o:=fun b o e h1 h2 h3=>st b o (PySem.W.hideAll_get _ e fun hm=>by
  rcases List.mem_cons.mp hm with q | hm
  ·exact h1 q
  ·rcases List.mem_append.mp hm with q | q
   ·exact h2 (by simpa using q)
   ·exact h3 q)
theorem zv (c:Caught X pins H s ex T Cc):∃ a0,s.heap.TracedW (PySem.W.hideAll s.heap (jY ex (some T) X)) ex (.ref Cc) a0:=by
 obtain ⟨oe,vs,oT,ts,a1,a2,a3,a4,a5,a6,a7,a8⟩:=c.fly
 have hz:0 < vs.size:=Nat.lt_of_succ_lt (Array.getElem?_eq_some_iff.mp a4).1
 exact ⟨vs[0],oe,vs,T,oT,ts,a1,⟨a2,by simp [hz]⟩,a3,a4,PySem.W.hideAll_none _ (List.mem_cons_of_mem _ (List.mem_append_left _ (by simp))),a5,a6,a7,a8⟩
theorem ww (I:Inv X pins σ H s) (hstk:X.stack=X.env::X.outer):s.heap.FunFrames (PySem.W.hideAll s.heap (jY ex (some T) X)) (X.env::X.outer):=by
 rw [<-hstk]
 exact PySem.W.funFrames_hide I.stack fun env he b hb=>List.mem_cons_of_mem _ (List.mem_append_right _ (zu hstk env he b hb))
theorem Va {A:Around} {E:Value->Shared->Prop} {Q:Unit->Shared->Prop} (hA:A.frames=some X.stack) (I:Inv X pins σ H s) (hstk:X.stack=X.env::X.outer) (hfr:X.env.frame=some X.env.locals) (hx0:X.ex=[]) (c:Caught X pins H s ex T Cc)
  (k:∀ s' T',Inv X pins σ H s'->Caught X pins H s' ex T' Cc->Q () s'):wpAny (model X.prog X.w) A (noteFrame (.ref ex) X.env) (fun _ s1=>wpAny (model X.prog X.w) A (setFlight (.ref ex) none) Q E s1) E s:=by
 obtain ⟨a0,tr⟩:=zv c
 refine wpAny_looks_onW (by rw [hA,hstk]) hfr ⟨fun b o e=>PySem.W.of_hideAll _ e,PySem.W.hideAll_none _ (List.mem_cons.mpr (.inl rfl)),ww I hstk,tr⟩ fun h1 held u1=>?_
 refine wpAny_landsW held fun h2 fl u2=>?_
 have slot:∀ b o,s.heap.get? b=some o->b∈frs X.stack->∃ sl,h2.get? b=some { o with slots:=sl }:=fun b o e hb=>by
  obtain ⟨o',e',nf⟩:=kw I hb
  rw [e] at e'; cases e'
  obtain ⟨sl,q⟩:=u1 b o e nf
  obtain ⟨sl2,q2⟩:=u2 b _ q nf
  exact ⟨sl2,q2⟩
 obtain ⟨T',c'⟩:=yE I hx0 c slot fl.2.2.2
 have I2:Inv X pins σ H { s with heap:=h2 }:=xj I hstk hfr hx0 c (wv fl.1) slot
 exact k { s with heap:=h2 } T' I2 c'
theorem gH {A:Around} {E:Value->Shared->Prop} {Q:Unit->Shared->Prop} (I:Inv X pins σ H s) (hstk:X.stack=X.env::X.outer) (hfr:X.env.frame=some X.env.locals) (hx0:X.ex=[]) (c:Caught X pins H s ex T Cc)
  (k:∀ s' T',Inv X pins σ H s'->Caught X pins H s' ex T' Cc->Q () s'):wpAny (model X.prog X.w) A (setFlight (.ref ex) none) Q E s:=by
 obtain ⟨a0,tr⟩:=zv c
 refine wpAny_setFlight_noneW (base:=PySem.W.hideAll s.heap (jY ex (some T) X)) (fun b o e=>PySem.W.of_hideAll _ e) (ww I hstk) tr fun h2 st _ tr2 kp=>?_
 have slot:∀ b o,s.heap.get? b=some o->b∈frs X.stack->∃ sl,h2.get? b=some { o with slots:=sl }:=fun b o e hb=>by
  obtain ⟨o',e',nf⟩:=kw I hb
  rw [e] at e'; cases e'
  exact ⟨o.slots,kp b o e nf⟩
 obtain ⟨T',c'⟩:=yE I hx0 c slot tr2
 exact k _ T' (xj I hstk hfr hx0 c (wv st) slot) c'
theorem qas (I:Inv X pins σ H s) (c:Caught X pins H s ex T Cc):Inv X pins σ (upd H ex (gp ex Cc)) s:=by
 obtain ⟨oe,vs,oT,ts,a1,a2,a3,_⟩:=c.fly
 have nf:∀ b o,s.heap.get? b=some o->(∀ vs,o.data≠.fields vs)->b≠ex:=fun b o e n=>by
  rintro rfl; rw [a1] at e; cases e; exact n _ a3
 have up:∀ {b:Addr} {u:HO},H b=some u->upd H ex (gp ex Cc) b=some u:=fun {b u} e=>by rw [qp (qv e c.hex)]; exact e
 refine ⟨I.ok,I.os,I.bare,⟨I.base.keep,I.base.slot,fun b o e n hx=>?_,I.base.there,fun b xs e=>up (I.base.tups b xs e),fun b o u e=>up (I.base.frzs b o u e),fun b ps e=>?_⟩,I.loc,I.cell,?_,fun x a e=>?_,fun p hp=>?_,fun b u e=>?_,I.len⟩
 ·rw [qp (by rintro rfl; rw [c.n1] at e; cases e)]; exact I.base.free b o e n hx
 ·obtain ⟨more,z⟩:=I.base.tbls b ps e
  exact ⟨more,up z⟩
 ·obtain ⟨m,⟨o,es,ep,ho,hd,_⟩,_⟩:=I.loc
  rw [qp (nf _ o ho fun vs z=>by rw [hd] at z; cases z)]; exact I.free
 ·obtain ⟨v,oc,e1,e2⟩:=I.cell x a e
  rw [qp (nf _ oc e1 fun vs z=>by rw [e2] at z; cases z)]; exact I.freeC x a e
 ·obtain ⟨b1,b2,b3⟩:=I.pin p hp
  refine ⟨b1,?_,b3⟩
  rw [qp (c.pp p hp).1]; exact b2
 ·by_cases q:b=ex
  ·subst q
   rw [qf] at e; cases e
   refine ⟨⟨oe,vs,a1,a2,a3⟩,⟨oe,a1⟩,fun h1 h2 ⟨o1,v1,e1,e2,e3⟩ kk=>⟨o1,v1,kk _ e1,e2,e3⟩⟩
  ·rw [qp q] at e
   exact (I.hok b u e).stay (fun _ _ _ z=>z) (fun d z=>up z) fun d xs z=>up z
def gI (X:Cx) (pn:List (Addr×Obj)) (xe:Value->Shared->Prop):Cx:={ X with pn:=pn,xe:=xe }
theorem YM {xe:Value->Shared->Prop} (I:Inv X pins σ H s):Inv (gI X (X.pn++pins) xe) [] σ H s:=
 ⟨⟨I.ok.mod,I.ok.kind,I.ok.glob,I.ok.blt,I.ok.above,I.ok.inj,I.ok.has,I.ok.cab,I.ok.hd,I.ok.frames,I.ok.stk,I.ok.exf,I.ok.bs,I.ok.bsz,I.ok.noex,I.ok.exfs,I.ok.funs,I.ok.frf⟩,I.os,I.bare,I.base,I.loc,I.cell,I.free,I.freeC,fun p hp=>I.pin p (by simpa [gI] using hp),I.hok,I.len⟩
theorem kS {xe:Value->Shared->Prop} {pins':List (Addr×Obj)} (I:Inv (gI X (X.pn++pins) xe) pins' σ H s):Inv X pins σ H s:=
 ⟨⟨I.ok.mod,I.ok.kind,I.ok.glob,I.ok.blt,I.ok.above,I.ok.inj,I.ok.has,I.ok.cab,I.ok.hd,I.ok.frames,I.ok.stk,I.ok.exf,I.ok.bs,I.ok.bsz,I.ok.noex,I.ok.exfs,I.ok.funs,I.ok.frf⟩,I.os,I.bare,I.base,I.loc,I.cell,I.free,I.freeC,fun p hp=>I.pin p (List.mem_append_left _ hp),I.hok,I.len⟩
noncomputable def Gy (X:Cx) (e:Value):Cx:={ X with A:=X.A.mark (some e),calm:=false,xe:=fun _ _=>False }
theorem UM {e:Value} (I:Inv X pins σ H s):Inv (Gy X e) pins σ H s:=
 ⟨⟨I.ok.mod,I.ok.kind,I.ok.glob,I.ok.blt,I.ok.above,I.ok.inj,I.ok.has,I.ok.cab,fun z=>absurd z (by show ¬(false=true); exact Bool.false_ne_true),I.ok.frames,I.ok.stk,I.ok.exf,I.ok.bs,I.ok.bsz,I.ok.noex,I.ok.exfs,I.ok.funs,I.ok.frf⟩,I.os,I.bare,I.base,I.loc,I.cell,I.free,I.freeC,I.pin,I.hok,I.len⟩
theorem YN {e:Value} (hok:X.Ok) (I:Inv (Gy X e) pins σ H s):Inv X pins σ H s:=
 ⟨hok,I.os,I.bare,I.base,I.loc,I.cell,I.free,I.freeC,I.pin,I.hok,I.len⟩
theorem Jw {h':Heap} {m':Str->Option Value} {t:Nat} (I:Inv X pins σ H s) (hstk:X.stack=X.env::X.outer) (hfr:X.env.frame=some X.env.locals) (hns:h'.Ns X.env.locals m') (sb:Heap.SameBut X.env.locals s.heap h'):Inv X pins (σ.map fun _=>none) H { s with heap:=h',toks:=t }:=by
 have neL:∀ b o,X.s₀.heap.get? b=some o->b≠X.env.locals:=fun b o e=>Nat.ne_of_lt (Nat.lt_of_lt_of_le (Heap.lt_size e) I.ok.above)
 obtain ⟨m,⟨oL,es,ep,hoL,hdL,_⟩,_⟩:=id I.loc
 have cL:∀ {a:Addr} {v:Option Value},s.heap.IsCell a v->a≠X.env.locals:=fun {a v} ⟨oc,e1,e2⟩=>by
  rintro rfl; rw [hoL] at e1; cases e1; rw [hdL] at e2; cases e2
 refine ⟨I.ok,I.os,I.bare,⟨fun b o e n hb hx=>(sb.2 b (neL b o e)).trans (I.base.keep b o e n hb hx),fun b o e n hb hx=>?_,I.base.free,fun b o e hx=>?_,I.base.tups,I.base.frzs,I.base.tbls⟩,⟨m',hns,fun i x v e1 e2=>?_⟩,fun x a e=>?_,I.free,I.freeC,fun p hp=>?_,fun b u e=>?_,by simp [I.len]⟩
 ·obtain ⟨sl,q⟩:=I.base.slot b o e n hb hx
  exact ⟨sl,(sb.2 b (neL b o e)).trans q⟩
 ·obtain ⟨o',q⟩:=I.base.there b o e hx
  exact ⟨o',(sb.2 b (neL b o e)).trans q⟩
 ·simp only [List.getElem?_map] at e2
  cases q:σ[i]? <;> rw [q] at e2 <;> cases e2
 ·obtain ⟨v,z⟩:=I.cell x a e
  exact ⟨v,z.sameBut sb (cL z)⟩
 ·obtain ⟨a1,a2,a3,a4⟩:=I.pin p hp
  exact ⟨(sb.2 p.1 a3).trans a1,a2,a3,a4⟩
 ·refine (I.hok b u e).stay (fun d v hc q=>(sb.2 d ?_).trans q) (fun _ q=>q) fun _ _ q=>q
  rintro rfl
  rcases hc with z | z
  ·rw [<-z,I.free] at e; cases e
  ·rw [I.free] at z; cases z
end
def qat (C:Ct) (own:List Nat) (E:XK):Ct:=⟨C.K,C.cv,E,own,C.mr,C.ol,own,fun _ h=>h⟩
noncomputable def exC (C:Ct):Ct:=⟨C.K,C.cv,fun _ _ _=>False,[],C.mr,[],[],fun _ h=>h⟩
noncomputable def UN (n:Nat) (j:Option Nat) (hit:Str->Option Addr) (fb fs:Sl->Out (Fl×Sl)):Sl->Out (Fl×Sl):=fun ρ=>match fb ρ with
 | .exc c ρe=>match hit c with
  | some Cc=>match fs (match j with | some j=>(List.replicate n none).set j (some (.xcp Cc)) | none=>List.replicate n none) with
   | .ok (.rt d,_)=>.ok (.rt d,ρe)
   | _=>.bad
  | none=>.bad
 | o=>o
def qau (C:Ct) (own:List Nat) (σ:St) (F H:Hp) (r:Out (Fl×Sl)):XK:=fun cls _ H'=>∃ c ρe F',r=.exc c ρe/\cls=C.cv c/\Same F' H'/\JU C.K own F' H' σ ρe/\Chg (OA own σ) F H F' H'
def qav (X:Cx) (pins:List (Addr×Obj)) (E:XK):Value->Shared->Prop:=fun e s'=>∃ σ ex T Cc H',e=.ref ex/\Inv X pins σ H' s'/\Caught X pins H' s' ex T Cc/\E (.ref Cc) none H'
section
variable {X:Cx} {C:Ct} {own own':List Nat} {fb fs:Sl->Out (Fl×Sl)} {pins:List (Addr×Obj)}
theorem Jx {E:XK} (hx0:X.ex=[]):jh (CXk X.prog X.w) (gI X (X.pn++pins) (qav X pins E)) E:=fun pins' σ H s e s' I h=>by
 obtain ⟨ex,T,Cc,H',rfl,os,bare,un,hok,fl,e1,e2,n1,n2,hE⟩:=h
 have old:∀ b,s.heap.get? b=none->X.s₀.heap.get? b=none:=fun b hb=>by
  cases q:X.s₀.heap.get? b with
  | none=>rfl
  | some o=>
   obtain ⟨o',e'⟩:=I.base.there b o q (by show b∉X.ex; rw [hx0]; simp)
   rw [hb] at e'; cases e'
 have I2:Inv (gI X (X.pn++pins) (qav X pins E)) pins' σ H' s':=I.call' (ch:=[]) os un hok bare (fun b z=>absurd z (by simp))
 refine ⟨σ,ex,T,Cc,H',rfl,kS I2,⟨fl,e1,e2,old ex n1,old T n2,fun p hp=>?_⟩,hE⟩
 have q:=(I.pin p (List.mem_append_left _ hp)).1
 exact ⟨fun z=>(by rw [z,n1] at q; cases q),fun z=>(by rw [z,n2] at q; cases q)⟩
theorem Nx.untry {E:XK} {o1 o2:List Nat} {σ σ':St} {F H F' H':Hp} {ρ':Sl} (hsub:∀ i∈C.io,i∈own) (n:Nx (qat C own E) o1 o2 σ F H ρ' σ' F' H'):Nx C o1 o2 σ F H ρ' σ' F' H':=⟨n.rep,n.chg,n.oa,fun i hi=>n.io i (hsub i hi)⟩
theorem WI {σ:St} {F H:Hp} {ρ:Sl} {D:Ends} {n:Nat} {j:Option Nat} {hit:Str->Option Addr} (hsub:∀ i∈C.io,i∈own) (rp:Rep C.K own F H σ ρ) (h:PoS C own own' σ F H (UN n j hit fb fs ρ) D):tSt (qat C own (qau C own σ F H (fb ρ))) own own' fb D σ H:=by
 refine ⟨F,ρ,rp,?_⟩
 unfold UN at h
 cases q:fb ρ with
 | ok p=>
  rw [q] at h
  obtain ⟨fl,ρ'⟩:=p
  cases fl with
  | nx=>exact fun σ' F' H' nn=>h σ' F' H' (nn.untry hsub)
  | rt d=>exact fun v σ' F' H' s io c e mo=>h v σ' F' H' s (fun i hi=>io i (hsub i hi)) c (fun i hi=>e i (hsub i hi)) mo
  | bk=>exact fun σ' F' H' nn=>h σ' F' H' (nn.untry hsub)
  | ct=>exact fun σ' F' H' nn=>h σ' F' H' (nn.untry hsub)
 | exc c ρe=>exact fun F' H' s io ch=>⟨c,ρe,F',rfl,rfl,s,io,ch⟩
 | bad=>rw [q] at h; exact h.elim
theorem Vb {σ:St} {F H F1 H1 F3 H3:Hp} {ρe:Sl} {ex Cc:Addr} {D:Ends} {d:D2.D} {v:V} {σw:St} (hsub:∀ i∈C.io,i∈own) (h:PoS C own own' σ F H (.ok (.rt d,ρe)) D) (hn:H1 ex=none) (sb:Same F1 H1) (io:JU C.K own F1 H1 σ ρe) (ch:Chg (OA own σ) F H F1 H1)
  (s3:Same F3 H3) (c3:Chg (OA [] σw) (upd F1 ex (gp ex Cc)) (upd H1 ex (gp ex Cc)) F3 H3) (mo:MoIs C.K C.mr (upd H1 ex (gp ex Cc)) F3 H3 v d):D.rt v H3:=by
 obtain ⟨sb2,c2⟩:=kQ (u:=gp ex Cc) sb hn
 have no:∀ {b},OA [] σw b->False:=fun ⟨i,hi,_⟩=>by simp at hi
 have c3':Chg No (upd F1 ex (gp ex Cc)) (upd H1 ex (gp ex Cc)) F3 H3:=c3.mono fun x z=>no z
 have c12:Chg No F1 H1 F3 H3:=c2.trans c3' fun _ z=>z.elim
 refine h v σ F3 H3 s3 (fun i hi=>?_) (ch.trans c12 fun _ z=>z.elim) (fun _ _=>rfl) (MoIs.back (Ha:=H3) (ch.trans c2 fun _ z=>z.elim) mo)
 obtain ⟨d',a,e1,e2,e3,e4⟩:=io i (hsub i hi)
 refine ⟨d',a,e1,e2,?_,e4.grow c12.grow fun o q=>c12.keep a o q fun z=>z⟩
 cases q:F3 a with
 | none=>rfl
 | some u=>
  rcases c12.new a (by rw [q]; simp) with z | z | z
  ·exact absurd e3 z
  ·exact absurd z e4.there
  ·exact z.elim
theorem YO {cn en:Str} {np hpos pos:Pos} {body suite:List Stmt} {b0:Stmt} {cls:Value} {n j:Nat} {hit:Str->Option Addr} {own2:List Nat} (hx0:X.ex=[]) (hstk:X.stack=X.env::X.outer) (hfr:X.env.frame=some X.env.locals)
  (hg:Gl X cn) (hm:X.mg cn=some cls) (hhit:∀ c Cc,hit c=some Cc->C.cv c=.ref Cc/\PySem.W.exmOne X.K (.ref Cc) cls=some true) (hN:X.N.Nodup) (hj:X.N[j]?=some en) (hx:X.env.scope.names.lookup en=some .local) (hn:X.N.length=n)
  (hb:∀ pn xe E,jh (CXk X.prog X.w) (gI X pn xe) E->PSs (gI X pn xe) body (tSt (qat C own E) own own' fb)) (hs:∀ e,PSs (Gy X e) (b0::suite) (tSt (exC C) [] own2 fs)) (hsub:∀ i∈C.io,i∈own:=by exact jI rfl) (hd:(cn == ("__debug__":Str))=false:=by decide) :
  PS X (.Try body [.ExceptHandler (some (.Name cn np)) (some en) (b0::suite) hpos] [] [] pos) (tSt C own own' (UN n (some j) hit fb fs)):=by
 refine ⟨?_⟩
 intro pins s σ H D I ⟨F,ρ,rp,h⟩
 have run:=hb (X.pn++pins) (qav X pins (qau C own σ F H (fb ρ))) (qau C own σ F H (fb ρ)) (Jx hx0) [] s σ H D (YM I) (WI hsub rp h)
 refine wpAny_Try_except (wpAny_mono run (fun f s1 hf=>?_) fun e s1 he=>?_)
 ·cases f with
  | next=>
   obtain ⟨σ',H',I',q⟩:=hf
   exact Kc pins s1 σ' H' D (kS I') q
  | brk=>obtain ⟨σ',H',I',q⟩:=hf; exact ⟨σ',H',kS I',q⟩
  | cont=>obtain ⟨σ',H',I',q⟩:=hf; exact ⟨σ',H',kS I',q⟩
  | ret u=>obtain ⟨v,σ',H',I',r,q⟩:=hf; exact ⟨v,σ',H',kS I',r,q⟩
 ·obtain ⟨σ1,ex,T,Cc,H1,rfl,I1,c1,c,ρe,F1,hr,hcls,sb1,io1,ch1⟩:=he
  refine Va I1.ok.frames I1 hstk hfr hx0 c1 fun s2 T2 I2 c2=>?_
  unfold UN at h
  rw [hr] at h
  cases qh:hit c with
  | none=>simp only [qh] at h; exact h.elim
  | some Ch=>
   simp only [qh] at h
   obtain ⟨hc1,hc2⟩:=hhit c Ch qh
   rw [hc1] at hcls
   obtain rfl:Cc=Ch:=by injection hcls
   refine wpAny_handleBy_cons (codeAny_handlers_test (wm (X:=Gy X (.ref ex)) (UM I2) hg hm ?_ hd)) (by intro q; cases q)
   obtain ⟨oe,vs,oT,ts,a1,a2,a3,_⟩:=id c2.fly
   have LT:PySem.W.Looks (model X.prog X.w) s2.heap (typeOf (.ref ex)) (.ref Cc):=by rw [<-a2]; exact (PySem.W.Looks.ld a1).andThen .now
   refine (PySem.W.exm_one I2.kIn LT hc2) _ _ _ _ (fun _ _ z=>z) ?_
   refine codeAny_handlers_suite_as (gH I2 hstk hfr hx0 c2 fun s3 T3 I3 c3=>?_)
   have I4:=qas I3 c3
   refine yV I4 hN hj (.inl hx) (v:=.ref ex) rfl (fun s5 I5=>?_) (.inr hx)
   have hjn:j < n:=by rw [<-hn]; exact (List.getElem?_eq_some_iff.mp hj).1
   have I6:Inv X pins ((List.replicate n none).set j (some (.ref ex))) (upd H1 ex (gp ex Cc)) s5:=I5.weak (by simp [I3.len,hn]) fun i v e=>by
    by_cases qi:i=j
    ·subst qi
     rw [List.getElem?_set_self (by simpa using hjn)] at e
     rw [List.getElem?_set_self (by rw [I3.len,hn]; exact hjn)]
     exact e
    ·rw [List.getElem?_set_ne (Ne.symm qi),List.getElem?_replicate] at e
     split at e <;> cases e
   obtain ⟨sb2,cc2⟩:=kQ (u:=gp ex Cc) sb1 c1.hex
   have rp6:Rep C.K [] (upd F1 ex (gp ex Cc)) (upd H1 ex (gp ex Cc)) ((List.replicate n none).set j (some (V.ref ex))) ((List.replicate n none).set j (some (.xcp Cc))):=by
    refine ⟨sb2,by simp,fun i d hi e=>?_,fun i d hi=>by simp at hi,fun i hi=>by simp at hi,fun i j a hi=>by simp at hi⟩
    by_cases qi:i=j
    ·subst qi
     rw [List.getElem?_set_self (by simpa using hjn)] at e
     cases e
     exact ⟨.ref ex,by rw [List.getElem?_set_self (by simpa using hjn)],.xcp qf⟩
    ·rw [List.getElem?_set_ne (Ne.symm qi),List.getElem?_replicate] at e
     split at e <;> cases e
   have main:tSt (exC C) [] own2 fs { nx:=fun _ _=>False,rt:=D.rt } ((List.replicate n none).set j (some (V.ref ex))) (upd H1 ex (gp ex Cc)):=by
    refine ⟨_,_,rp6,?_⟩
    cases qs:fs ((List.replicate n none).set j (some (.xcp Cc))) with
    | ok p=>
     obtain ⟨fl,ρ5⟩:=p
     rw [qs] at h
     cases fl with
     | rt d=>exact fun v σ' F3 H3 s3 io c3 e mo=>Vb (own':=own') (D:=D) (ex:=ex) (Cc:=Cc) hsub h c1.hex sb1 io1 ch1 s3 c3 mo
     | nx=>exact h.elim
     | bk=>exact h.elim
     | ct=>exact h.elim
    | exc _ _=>rw [qs] at h; exact h.elim
    | bad=>rw [qs] at h; exact h.elim
   refine wpAny_mono (hs (.ref ex) pins s5 _ _ _ (UM I6) main) (fun f s7 hf=>?_) fun _ _ z=>z.elim
   cases f with
   | next=>obtain ⟨_,_,_,q⟩:=hf; exact q.elim
   | brk=>obtain ⟨_,_,_,q⟩:=hf; exact q.elim
   | cont=>obtain ⟨_,_,_,q⟩:=hf; exact q.elim
   | ret u=>
    obtain ⟨v,σ7,H7,I7,r7,q7⟩:=hf
    have I7':Inv X pins σ7 H7 s7:=YN I.ok I7
    obtain ⟨m,hns,_⟩:=id I7'.loc
    refine wpAny_nameGoes hx hns (by rw [I.ok.kind]; rfl) fun h' m' hn' sb'=>?_
    exact ⟨v,_,H7,Jw I7' hstk hfr hn' sb',r7,q7⟩
end
structure RoomQ (k:Nat) (A:Around):Prop where
 dp:A.depth+3 * k+5 < recursionLimit
 un:A.units+16 * k+200 < cLine
theorem RoomQ.deeper {k:Nat} {A:Around} (r:RoomQ (k+1) A) (env:Env):RoomQ k (A.deeper env):=
 ⟨by have:=r.dp; show A.depth+1+3 * k+5 < _; omega,by have:=r.un; show A.units+3+16 * k+200 < _; omega⟩
theorem RoomQ.depth {k:Nat} {A:Around} (r:RoomQ k A):A.depth < recursionLimit:=by have:=r.dp; omega
theorem RoomQ.units {k:Nat} {A:Around} (r:RoomQ k A):A.units+64 < cLine:=by have:=r.un; omega
theorem _root_.L2.Room.quiet {k:Nat} {A:Around} (r:Room k A):RoomQ k A:=⟨r.dp,r.un⟩
theorem RoomQ.mark {k:Nat} {A:Around} (r:RoomQ k A) (e:Option Value):RoomQ k (A.mark e):=⟨r.dp,r.un⟩
structure FnQ (P:Program) (w:World) (K:Frag) (mg:Str->Option Value) (base:Heap) (CX:CXT) (k:Nat) (f:Addr) (fd:FuncData) (ps:List Str) (sp:Sp):Prop where
 len:∀ vs H Q E,sp vs H Q E->vs.length=ps.length
 run:∀ (A:Around) (outer:List Env) (s:Shared) (H:Hp) (args:Args) (us:List Value) (vs:List V) (Q:VK) (E:XK),RoomQ k A->Env0 P w K mg base A outer s H->BindsTo s fd args (ps.zip us)->Vals vs us->sp vs H Q E ->
  codeAny (model P w) A (.call (.ref f) args) (CR CX outer P w H s Q E) s
def cxQ (CX:CXT) (P:Program) (w:World) (K:Frag) (mg:Str->Option Value) (base:Heap) (N:List Str) (qual:Str) (scope:Scope) (f:Addr) (cd:Value) (A:Around) (outer:List Env) (s:Shared) (H:Hp) (E:XK):Cx where
 prog:=P
 w:=w
 K:=K
 mg:=mg
 base:=base
 A:=A.deeper (envOfC qual scope s.heap.objs.size f cd)
 N:=N
 s₀:=s
 H₀:=H
 env:=envOfC qual scope s.heap.objs.size f cd
 outer:=outer
 stack:=envOfC qual scope s.heap.objs.size f cd::outer
 ex:=[]
 calm:=false
 fn:=fun _=>true
 pn:=[]
 xe:=fun e s'=>wpAny (model P w) (A.deeper (envOfC qual scope s.heap.objs.size f cd)) (leaving (envOfC qual scope s.heap.objs.size f cd) e) (fun _ s''=>CX outer H s E e s'') (fun e' s''=>CX outer H s E e' s'') s'
theorem Jy {CX:CXT} {P:Program} {w:World} {K:Frag} {mg:Str->Option Value} {base:Heap} {N ps:List Str} {qual:Str} {scope:Scope} {f:Addr} {cd:Value} {A:Around} {outer:List Env} {s s1:Shared} {H:Hp} {E:XK} {us:List Value} {vs:List V}
  (S:FnScope N ps scope) (e0:Env0 P w K mg base A outer s H) (hl:vs.length=ps.length) (r:Vals vs us)
  (x:InCallC s s.heap.objs.size (bindL (envOfC qual scope s.heap.objs.size f cd).kindOf (ps.zip us) fun _=>none) (cellsFrom (s.heap.objs.size+1) scope.names []) (bindC (envOfC qual scope s.heap.objs.size f cd).kindOf (ps.zip us) fun _=>none) s1) :
  Inv (cxQ CX P w K mg base N qual scope f cd A outer s H E) [] (jS N vs) H s1:=by
 have hpl:ps.length<=N.length:=by have:=congrArg List.length S.pre; rw [List.length_take] at this; omega
 obtain ⟨h1,tk,rfl,hk⟩:=x.done
 have noA:∀ b:Addr,b∉(cxQ CX P w K mg base N qual scope f cd A outer s H E).ex:=fun b z=>absurd (show b∈([]:List Addr) from z) (by simp)
 refine ⟨⟨e0.mod,S.kind,rfl,rfl,Nat.le_refl _,fun y z c h1 h2=>?_,fun y hy=>?_,fun y c _ h=>?_,fun z=>absurd z (by show ¬(false=true); exact Bool.false_ne_true),Around.frames_deeper e0.frames,.inr ⟨rfl,rfl⟩,fun b z=>absurd z (noA b),e0.bs,e0.bsz,fun b _ _=>noA b,fun b z=>absurd z (noA b),e0.funs,e0.frf⟩,
  rfl,e0.bare,Un.kept hk,⟨_,x.toInCall.ns,fun i y v h1 h2 h3=>?_⟩,fun y c h=>⟨_,x.cell y c h⟩,e0.hok.fresh (Nat.le_refl _),fun y c h=>?_,fun p hp=>absurd (show p∈([]:List (Addr×Obj)) from hp) (by simp),e0.hok.kept hk,?_⟩
 ·exact name_of_addr x.apart (PySem.mem_of_lookup h1) (PySem.mem_of_lookup h2)
 ·have hy:scope.names.lookup y=some .cell\/scope.names.lookup y=some .free:=hy
  rcases hy with hy | hy
  ·exact uh hy
  ·exact absurd rfl (S.nofree _ (PySem.mem_of_lookup hy))
 ·exact Nat.le_of_lt (x.above y c (PySem.mem_of_lookup h))
 ·have hi:i < vs.length:=by
   unfold jS at h2
   by_cases hi:i < vs.length
   ·exact hi
   ·rw [List.getElem?_append_right (by simpa using hi)] at h2
    rw [List.getElem?_replicate] at h2
    split at h2 <;> cases h2
  have ha:vs[i]?=some v:=by
   unfold jS at h2
   rw [List.getElem?_append_left (by simpa using hi),List.getElem?_map] at h2
   cases e:vs[i]? with
   | none=>rw [e] at h2; cases h2
   | some a=>rw [e] at h2; cases h2; rfl
  obtain ⟨u,hu,rv⟩:=r.get ha
  have hp:ps[i]?=some y:=by
   rw [<-S.pre,List.getElem?_take_of_lt (by omega)]; exact h1
  have ndP:ps.Nodup:=by rw [<-S.pre]; exact S.nd.sublist (List.take_sublist _ _)
  refine ⟨u,rv,?_⟩
  rcases S.par y (List.mem_of_getElem? hp) with k | k
  ·exact .inl ⟨k,ux ndP hp hu k⟩
  ·obtain ⟨c,e⟩:=uh (n:=s.heap.objs.size+1) k
   refine .inr ⟨.inl k,c,e,?_⟩
   have q:=x.cell y c e
   rw [uy ndP hp hu (by show scope.names.lookup y≠_; rw [k]; decide)] at q
   exact q
 ·exact e0.hok.fresh (Nat.le_of_lt (x.above y c (PySem.mem_of_lookup h)))
 ·unfold jS
  show _=N.length
  rw [List.length_append,List.length_map,List.length_replicate]
  omega
theorem ZH {CX:CXT} {P:Program} {w:World} {K:Frag} {mg:Str->Option Value} {base:Heap} {k:Nat} {f:Addr} {name qual:Str} {params:Arguments} {body:List Stmt} {scope:Scope} {dV kV doc pm cdv ct oc:Value} {an od:Option Addr}
  {osl:Array (Option Value)} {N ps:List Str} {sp:Sp} (lk:K.lookup f=some ⟨oc,od,.func (PySem.W.fnOf name qual params body scope dV kV doc pm an cdv ct),osl⟩) (hcd:codeIn K cdv qual=true) (S:FnScope N ps scope)
  (len:∀ vs H Q E,sp vs H Q E->vs.length=ps.length)
  (hbody:∀ (A:Around) (outer:List Env) (s:Shared) (H:Hp) (vs:List V) (Q:VK) (E:XK),RoomQ k (A.deeper (envOfC qual scope s.heap.objs.size f cdv))->sp vs H Q E ->
   ∃ t,PSs (cxQ CX P w K mg base N qual scope f cdv A outer s H E) body t/\t { nx:=fun _ H'=>Q .non H',rt:=Q } (jS N vs) H) :
  FnQ P w K mg base CX (k+1) f (PySem.W.fnOf name qual params body scope dV kV doc pm an cdv ct) ps sp:=by
 refine ⟨len,fun A outer s H args us vs Q E hr e0 hb r hsp=>?_⟩
 have hl:=len _ _ _ _ hsp
 have KX:K.In s.heap:=e0.mod.kin.keeps fun b o e=>(e0.bs b o e).1
 have lim:s.heap.NoLimit:=e0.mod.nolimit.keeps fun b o e=>(e0.bs b o e).1
 have hkind:∀ y∈ps.zip us,scope.names.lookup y.1=some .local\/(scope.names.lookup y.1=some .cell/\((cellsFrom (s.heap.objs.size+1) scope.names []).lookup y.1).isSome=true):=fun ⟨n,v⟩ hy=>by
  rcases S.par n (List.of_mem_zip hy).1 with q | q
  ·exact .inl q
  ·exact .inr ⟨q,PySem.W.cellsFrom_some _ _ _ (.inl q)⟩
 refine codeAny_call_function hr.depth (KX _ _ lk) rfl S.co S.gen rfl (PySem.W.codeRec_of KX hcd) (hb _ _ _ _ ?_)
 refine wpAny_newFunctionEnv_cells S.kind hkind fun env he s1 x=>?_
 subst he
 refine ⟨lim.keeps x.toInCall.keep,codeAny_func ?_⟩
 obtain ⟨t,ht,hq⟩:=hbody A outer s H vs Q E (hr.deeper _) hsp
 have I:Inv (cxQ CX P w K mg base N qual scope f cdv A outer s H E) [] (jS N vs) H s1:=Jy S e0 hl r x
 refine wpAny_mono (ht [] s1 (jS N vs) H _ I hq) (fun fl s' hs=>?_) fun e s' hs=>hs
 have fin:∀ {σ':St} {H':Hp} {v:V} {u:Value},Inv (cxQ CX P w K mg base N qual scope f cdv A outer s H E) [] σ' H' s'->RelV v u->Q v H'->CE outer P w H s Q u s':=
  fun {σ' H' v u} J rv q=>⟨v,H',J.os,J.bare,J.base,J.hok,rv,q⟩
 cases fl with
 | ret u=>
  obtain ⟨v,σ',H',J,rv,q⟩:=hs
  exact fin J rv q
 | next=>
  obtain ⟨σ',H',J,q⟩:=hs
  exact fin (v:=V.non) (u:=Value.none) J rfl q
 | brk=>
  obtain ⟨_,_,_,q⟩:=hs
  exact False.elim q
 | cont=>
  obtain ⟨_,_,_,q⟩:=hs
  exact False.elim q
theorem qaw {P:Program} {w:World} {K:Frag} {mg:Str->Option Value} {base:Heap} {CX:CXT} {x qual:Str} {st:Stmt} {f:Addr} {fd:FuncData} {N ps:List Str} {k:Nat} {cv:Str->Value} {ms:List PM} {mr:Mo} {own':List Nat} {fb:Sl->Out (Fl×Sl)} {G:List D->Out (D×List D)}
  (F:Fun K x qual st f fd) (S:FnScope N ps (qc st)) (hl:ms.length=ps.length) (hsub:∀ i∈gB 0 ms,i∈own') (hmr:mr=.sh\/∀ ds ρ,(fb (qy N ds))≠.ok (.nx,ρ))
  (hbody:∀ (cdv:Value) (A:Around) (outer:List Env) (s:Shared) (H:Hp) (E:XK),RoomQ k (A.deeper (envOfC qual (qc st) s.heap.objs.size f cdv)) ->
   PSs (cxQ CX P w K mg base N qual (qc st) f cdv A outer s H E) (jA st) (tSt (XE K cv E ms mr) (ja 0 ms) own' fb))
  (hG:∀ ds,Out.le (G ds) (kJ N ms fb ds)):FnQ P w K mg base CX (k+1) f fd ps (spD K cv ms mr G):=by
 obtain ⟨oc,od,kV,doc,pm,an,cdv,ct,osl,rfl,lk,hcd⟩:=F.ex
 refine ZH lk hcd S (fun vs H Q E h=>?_) fun A outer s H vs Q E hr hsp=>?_
 ·obtain ⟨F,ds,_,ar,_⟩:=h
  rw [ar.length.1,hl]
 ·obtain ⟨F1,ds,sb,ar,nd,h⟩:=hsp
  refine ⟨_,hbody cdv A outer s H E hr,?_⟩
  exact KO (C:=XE K cv E ms mr) rfl rfl (hmr.imp id fun z ρ=>z ds ρ) hsub sb ar nd (hG ds) h
section
variable {X:Cx} {C:Ct} {own:List Nat} {as:List AK} {G:List D->Out (D×List D)} {fr:Sl->Out (List D×Sl)} {mr:Mo} {e:Expr} {es:List Expr}
theorem YQ {CX:CXT} {k:Nat} {f:Addr} {fd:FuncData} {ps:List Str} {sp:Sp} {E:XK} {pins:List (Addr×Obj)} {σ:St} {H:Hp} {s:Shared} {Q:VK} {us:List Value} {vs:List V} (F:FnQ X.prog X.w X.K X.mg X.base CX k f fd ps sp) (hr:RoomQ k X.A) (hb:Binds X.K fd ps []) (hx:jh CX X E)
  (I:Inv X pins σ H s) (r:Vals vs us) (h:sp (vs++[]) H Q E):wpAny (model X.prog X.w) X.A (call (.ref f) us) (EP X pins σ Q) X.xe s:=by
 have r2:Vals (vs++[]) (us++[]):=r.append .nil
 have hl:(us++[]).length=ps.length:=by rw [<-r2.length]; exact F.len _ _ _ _ h
 refine wpAny_call (codeAny_mono (F.run X.A X.stack s H ⟨us,[]⟩ (us++[]) (vs++[]) Q E hr I.env0 (hb s us I.kIn hl) r2 h) fun r s' hq=>?_)
 cases r with
 | error e=>exact hx pins σ H s e s' I hq
 | ok fl=>
  cases fl with
  | ret u=>exact I.after hq
  | next=>exact False.elim hq
  | brk=>exact False.elim hq
  | cont=>exact False.elim hq
theorem WJ {CX:CXT} {k:Nat} {f:Addr} {fd:FuncData} {ps:List Str} {x:Str} {p pos:Pos} {ms:List PM} (F:FnQ X.prog X.w X.K X.mg X.base CX k f fd ps (spD C.K C.cv ms mr G)) (hr:RoomQ k X.A) (hg:Gl X x) (hm:X.mg x=some (.ref f)) (hk:keepIn X.K (.ref f)=true) (hb:Binds X.K fd ps []) (hx:jh CX X C.E)
  (ha:PA X (e::es) (tAr C own as fr)) (hms:ms=as.map yC:=by rfl) (hs:∀ i∈qK as,i∈own:=by decide) (nd:(qK as).Nodup:=by decide) (hf:frA as<=1:=by decide) (hio:∀ i∈C.ox,i∈own:=by exact jI rfl) (hdb:(x == ("__debug__":Str))=false:=by decide) (he:starEach (e::es) X.env=(false,eval e X.env)::starEach es X.env:=by exact qT rfl)
  (hpl:(backTo pos (starEach es X.env)).any (·.1)=false:=by exact vh rfl):PE X (.Call (.Name x p) (e::es) [] pos) (tE C own mr (qB as G fr)):=by
 subst hms
 refine ⟨?_⟩
 intro pins s σ H Q I h
 refine wpAny_Call_Name_kw (wm I hg hm ?_ hdb)
 refine PySem.W.callWith_K (h₀:=X.base) I.ok.mod.kin hk (thn (ha pos pins s σ H _ I (xa hio hs nd hf h)) fun us s1 ⟨vs,H1,I1,r,q⟩=>⟨I1.kIn,?_⟩) he hpl
 exact YQ F hr hb hx I1 r q
end
def DefOk (P:Program) (w:World) (K:Frag) (mg:Str->Option Value) (base:Heap) (cv:Str->Value) (k:Nat) (x:Str) (ps:List Str) (ms:List PM) (mr:Mo) (G:List D->Out (D×List D)):Prop:=
 ∃ f fd,FnOk P w K mg base (CXk P w) k f fd ps (spD K cv ms mr G)/\mg x=some (.ref f)/\keepIn K (.ref f)=true/\Binds K fd ps []
def qax (P:Program) (w:World) (K:Frag) (mg:Str->Option Value) (base:Heap) (cv:Str->Value) (k:Nat) (x:Str) (ps:List Str) (ms:List PM) (mr:Mo) (G:List D->Out (D×List D)):Prop:=
 ∃ f fd,FnQ P w K mg base (CXk P w) k f fd ps (spD K cv ms mr G)/\mg x=some (.ref f)/\keepIn K (.ref f)=true/\Binds K fd ps []
def qY (K:Frag) (mg:Str->Option Value) (x:Str) (st:Stmt) (ps:List Str):Prop:=∃ f fd,Fun K x x st f fd/\mg x=some (.ref f)/\Binds K fd ps []
theorem qL {P:Program} {w:World} {K:Frag} {mg:Str->Option Value} {base:Heap} {cv:Str->Value} {x:Str} {st:Stmt} {N ps:List Str} {k:Nat} {ms:List PM} {mr:Mo} {own':List Nat} {fb:Sl->Out (Fl×Sl)} (T:qY K mg x st ps) (S:FnScope N ps (qc st))
  (hbody:∀ (cdv:Value) (f:Addr) (A:Around) (outer:List Env) (s:Shared) (H:Hp) (E:XK),Room k (A.deeper (envOfC x (qc st) s.heap.objs.size f cdv)) ->
   PSs (cxk P w K mg base N x (qc st) f cdv A outer s H E) (jA st) (tSt (XE K cv E ms mr) (ja 0 ms) own' fb))
  (hl:ms.length=ps.length:=by rfl) (hsub:∀ i∈gB 0 ms,i∈own':=by exact jI rfl) (hmr:mr=.sh\/∀ ds ρ,(fb (qy N ds))≠.ok (.nx,ρ):=by exact .inl rfl):DefOk P w K mg base cv (k+1) x ps ms mr (kJ N ms fb):=by
 obtain ⟨f,fd,F,hm,hb⟩:=T
 exact ⟨f,fd,qa4 F S hl hsub hmr (fun cdv A outer s H E hr=>hbody cdv f A outer s H E hr) fun _=>.inr rfl,hm,F.kp,hb⟩
theorem qay {P:Program} {w:World} {K:Frag} {mg:Str->Option Value} {base:Heap} {cv:Str->Value} {x:Str} {st:Stmt} {N ps:List Str} {k:Nat} {ms:List PM} {mr:Mo} {own':List Nat} {fb:Sl->Out (Fl×Sl)} (T:qY K mg x st ps) (S:FnScope N ps (qc st))
  (hbody:∀ (cdv:Value) (f:Addr) (A:Around) (outer:List Env) (s:Shared) (H:Hp) (E:XK),RoomQ k (A.deeper (envOfC x (qc st) s.heap.objs.size f cdv)) ->
   PSs (cxQ (CXk P w) P w K mg base N x (qc st) f cdv A outer s H E) (jA st) (tSt (XE K cv E ms mr) (ja 0 ms) own' fb))
  (hl:ms.length=ps.length:=by rfl) (hsub:∀ i∈gB 0 ms,i∈own':=by exact jI rfl) (hmr:mr=.sh\/∀ ds ρ,(fb (qy N ds))≠.ok (.nx,ρ):=by exact .inl rfl):qax P w K mg base cv (k+1) x ps ms mr (kJ N ms fb):=by
 obtain ⟨f,fd,F,hm,hb⟩:=T
 exact ⟨f,fd,qaw F S hl hsub hmr (fun cdv A outer s H E hr=>hbody cdv f A outer s H E hr) fun _=>.inr rfl,hm,F.kp,hb⟩
theorem DefOk.mono {P:Program} {w:World} {K:Frag} {mg:Str->Option Value} {base:Heap} {cv:Str->Value} {j k:Nat} {x:Str} {ps:List Str} {ms:List PM} {mr:Mo} {G:List D->Out (D×List D)} (h:DefOk P w K mg base cv j x ps ms mr G) (hj:j<=k):DefOk P w K mg base cv k x ps ms mr G:=by
 obtain ⟨f,fd,F,r⟩:=h
 exact ⟨f,fd,F.mono hj,r⟩
theorem DefOk.by {P:Program} {w:World} {K:Frag} {mg:Str->Option Value} {base:Heap} {cv:Str->Value} {k:Nat} {x:Str} {ps:List Str} {ms:List PM} {mr:Mo} {G G':List D->Out (D×List D)} (h:DefOk P w K mg base cv k x ps ms mr G) (e:∀ ds,Out.le (G' ds) (G ds)):DefOk P w K mg base cv k x ps ms mr G':=by
 obtain ⟨f,fd,F,r⟩:=h
 refine ⟨f,fd,F.imp fun vs H Q E ⟨F1,ds,sb,ar,nd,po⟩=>⟨F1,ds,sb,ar,nd,?_⟩,r⟩
 rcases e ds with z | z
 ·rw [z] at po; exact po.elim
 ·rw [<-z]; exact po
section
variable {X:Cx} {C:Ct} {own:List Nat} {as:List AK} {G:List D->Out (D×List D)} {fr:Sl->Out (List D×Sl)} {mr:Mo} {e:Expr} {es:List Expr} {x:Str} {p pos:Pos} {ms:List PM} {ps:List Str} {k j:Nat} {cv:Str->Value}
theorem qt (F:DefOk X.prog X.w X.K X.mg X.base cv j x ps ms mr G) (hr:Room k X.A) (hj:j<=k) (hx:jh (CXk X.prog X.w) X C.E) (hg:Gl X x) (ha:PA X (e::es) (tAr C own as fr)) (hcv:C.cv=cv:=by rfl) (hK:C.K=X.K:=by rfl) (hms:ms=as.map yC:=by rfl) (hs:∀ i∈qK as,i∈own:=by decide) (nd:(qK as).Nodup:=by decide) (hf:frA as<=1:=by decide) (hio:∀ i∈C.ox,i∈own:=by exact jI rfl)
  (hdb:(x == ("__debug__":Str))=false:=by decide) (he:starEach (e::es) X.env=(false,eval e X.env)::starEach es X.env:=by exact qT rfl) (hpl:(backTo pos (starEach es X.env)).any (·.1)=false:=by exact vh rfl):PE X (.Call (.Name x p) (e::es) [] pos) (tE C own mr (qB as G fr)):=by
 subst hcv
 obtain ⟨f,fd,F,hm,hk,hb⟩:=F
 rw [<-hK] at F
 exact YF (by rw [<-hK]; exact F) (hr.mono hj) hg hm hk hb hx ha hms hs nd hf hio hdb he hpl
theorem Vc (F:qax X.prog X.w X.K X.mg X.base cv j x ps ms mr G) (hr:RoomQ j X.A) (hx:jh (CXk X.prog X.w) X C.E) (hg:Gl X x) (ha:PA X (e::es) (tAr C own as fr)) (hcv:C.cv=cv:=by rfl) (hK:C.K=X.K:=by rfl) (hms:ms=as.map yC:=by rfl) (hs:∀ i∈qK as,i∈own:=by decide) (nd:(qK as).Nodup:=by decide) (hf:frA as<=1:=by decide) (hio:∀ i∈C.ox,i∈own:=by exact jI rfl)
  (hdb:(x == ("__debug__":Str))=false:=by decide) (he:starEach (e::es) X.env=(false,eval e X.env)::starEach es X.env:=by exact qT rfl) (hpl:(backTo pos (starEach es X.env)).any (·.1)=false:=by exact vh rfl):PE X (.Call (.Name x p) (e::es) [] pos) (tE C own mr (qB as G fr)):=by
 subst hcv
 obtain ⟨f,fd,F,hm,hk,hb⟩:=F
 rw [<-hK] at F
 exact WJ (by rw [<-hK]; exact F) hr hg hm hk hb hx ha hms hs nd hf hio hdb he hpl
noncomputable def Wh:D->Out D
 | .int i=>.ok (.int (-i))
 | _=>.bad
theorem yF:UnD X C .sh (unaryOp .USub) Wh:=by
 intro pins s σ H x v Q I rx h
 obtain ⟨F,dx,sb,tx,po⟩:=h
 cases dx <;> try exact po.elim
 obtain rfl:=tx.int
 exact Zf pins s σ H _ v Q I rx ⟨_,rfl,po _ F H sb .refl (.int _)⟩
end
noncomputable def uF:Option (Option D)->Bool
 | some (some (.lst _))=>true
 | _=>false
noncomputable def QD (i:Nat) (g:List D->D->Out (List D)) (fe:Sl->Out (D×Sl)):Sl->Out (D×Sl):=fun ρ=>if uF ρ[i]?=true then (fe ρ).bind fun p=>match p.2[i]? with
 | some (some (.lst xs))=>match g xs p.1 with
  | .ok ys=>.ok (.non,p.2.set i (some (.lst ys)))
  | _=>.bad
 | _=>.bad
 else .bad
noncomputable def Jz (xs:List D) (d:D):Out (List D):=if xs.length < sizeLine then .ok (xs++[d]) else .bad
noncomputable def YR (xs:List D):D->Out (List D)
 | .lst ys=>if xs.length+ys.length<=sizeLine then .ok (xs++ys) else .bad
 | .tup ys=>if xs.length+ys.length<=sizeLine then .ok (xs++ys) else .bad
 | _=>.bad
section
variable {X:Cx} {C:Ct} {own:List Nat} {m:Mo} {e:Expr} {fe:Sl->Out (D×Sl)}
theorem Rep.write {K:Frag} {F H:Hp} {σ:St} {ρ:Sl} {i:Nat} {a:Addr} {d:D} {u:HO} (rp:Rep K own F H σ ρ) (hi:i∈own) (ha:σ[i]?=some (some (V.ref a))) (ow:OwnIs K F (upd H a u) a d) :
  Rep K own F (upd H a u) σ (ρ.set i (some d))/\Chg (OA own σ) F H F (upd H a u):=by
 obtain ⟨d0,hd0⟩:=rp.opn i hi
 obtain ⟨a',e1,hF,o0⟩:=rp.ow i d0 hi hd0
 rw [ha] at e1; cases e1
 have hl:i < ρ.length:=(List.getElem?_eq_some_iff.mp hd0).1
 refine ⟨⟨fun b o e=>by rw [qp (qv e hF)]; exact rp.sub b o e,by simp [rp.len],fun j d' hj e=>?_,fun j d' hj e=>?_,fun j hj=>?_,rp.dis⟩,⟨fun b o e n=>?_,fun b e=>?_,Same.refl _,fun b e=>.inl e⟩⟩
 ·rw [List.getElem?_set_ne (fun z=>hj (by rw [<-z]; exact hi))] at e
  exact rp.val j d' hj e
 ·by_cases q:j=i
  ·subst q
   rw [List.getElem?_set_self hl] at e
   cases e
   exact ⟨a,ha,hF,ow⟩
  ·rw [List.getElem?_set_ne (Ne.symm q)] at e
   obtain ⟨b,h1,h2,h3⟩:=rp.ow j d' hj e
   have nb:b≠a:=fun z=>by subst z; exact q (rp.dis j i b hj hi h1 ha)
   exact ⟨b,h1,h2,h3.grow (Same.refl _) fun o z=>by rw [qp nb]; exact z⟩
 ·by_cases q:j=i
  ·subst q; exact ⟨d,List.getElem?_set_self hl⟩
  ·rw [List.getElem?_set_ne (Ne.symm q)]; exact rp.opn j hj
 ·have nb:b≠a:=fun z=>n (by rw [z]; exact ⟨i,hi,ha⟩)
  rw [qp nb]; exact e
 ·by_cases q:b=a
  ·rw [q,qf]; simp
  ·rw [qp q]; exact e
theorem QE {o:Option (Option D)} (h:uF o=true):∃ xs,o=some (some (.lst xs)):=by
 unfold uF at h
 split at h
 ·exact ⟨_,rfl⟩
 ·cases h
theorem WK {i:Nat} {g:List D->D->Out (List D)} {R:V->V->Hp->VK->Prop} {σ:St} {H:Hp} {Q:VK} (ho:i∈own) (hm:m≠.any)
  (hR:∀ (a:Addr) (xs:List V) (ds ys:List D) (v:V) (d:D) (F H:Hp),Same F H->H a=some (.lst xs)->F a=none->IsL C.K F xs ds->Is C.K F v d->g ds d=.ok ys->(∀ zs,IsL C.K F zs ys->Q .non (upd H a (.lst zs)))->R (.ref a) v H Q)
  (h:tE C own .sh (QD i g fe) σ H Q):∃ a xs,σ[i]?=some (some (V.ref a))/\H a=some (.lst xs)/\tE C own .sh fe σ H fun v H1=>R (.ref a) v H1 Q:=by
 obtain ⟨F,ρ,rp,h⟩:=h
 unfold QD at h
 by_cases q:uF ρ[i]?=true
 ·rw [if_pos q] at h
  obtain ⟨ds,hd⟩:=QE q
  obtain ⟨a,h1,h2,xs,h3,h4⟩:=rp.ow i _ ho hd
  refine ⟨a,xs,h1,h3,F,ρ,rp,Po.bind h fun v F1 H1 d ρ1 rp1 c1 mo1 po=>?_⟩
  cases q1:ρ1[i]? with
  | none=>simp only [q1] at po; exact po.elim
  | some o=>
   cases o with
   | none=>simp only [q1] at po; exact po.elim
   | some dd=>
    simp only [q1] at po
    cases dd with
    | lst es=>
     simp only at po
     cases q2:g es d with
     | ok ys=>
      simp only [q2] at po
      obtain ⟨a',e1,e2,vs,e3,e4⟩:=rp1.ow i _ ho q1
      rw [h1] at e1; cases e1
      refine hR a vs es ys v d F1 H1 rp1.sub e3 e2 e4 mo1 q2 fun zs iz=>?_
      obtain ⟨r2,c2⟩:=rp1.write (u:=.lst zs) (d:=.lst ys) ho h1 ⟨zs,qf,iz⟩
      exact po .non F1 _ r2 c2 .non
     | exc c o=>simp only [q2] at po; exact po.elim
     | bad=>simp only [q2] at po; exact po.elim
    | _=>exact po.elim
 ·rw [if_neg q] at h; exact h.elim
theorem vX {i:Nat} {x:Str} {px apos cpos:Pos} (hK:C.K=X.K) (hN:X.N[i]?=some x) (hv:Vis X.env.scope x) (ho:i∈own) (he:PE X e (tE C own m fe)) (hm:m≠.any:=by decide)
  (hd:(x == ("__debug__":Str))=false:=by decide) (hcd:(x == ("__classdict__":Str))=false:=by decide)
  (hbase:attributeBase (.Name x px) "append" X.env (eval (.Name x px) X.env)=eval (.Name x px) X.env:=by rfl)
  (hfew:((backTo cpos (starEach [e] X.env)).all (fun x=>!x.1)&&(backToKw cpos (keywordEach [] X.env)).all (fun x=>x.1.isSome)
   && decide ([e].length+([]:List Keyword).length+(if ([]:List Keyword).isEmpty then 0 else 1) < 30))=true:=by exact vi rfl)
  (hline:(apos.endLine == cpos.line)=true:=by rfl) (hs:starEach [e] X.env=[(false,eval e X.env)]:=by exact qM rfl) :
  PE X (.Call (.Attribute (.Name x px) "append" apos) [e] [] cpos) (tE C own .sh (QD i Jz fe)):=by
 refine qS (Jo PySem.F.plainAttrs_list PySem.F.slot_list_append PySem.F.type_list_append uA (zc hN hv hd hcd) (qG (wn he hm) qZ hs) hbase hfew hline hs rfl) fun σ H Q h=>?_
 have hR:∀ (a:Addr) (xs:List V) (ds ys:List D) (v:V) (d:D) (F H:Hp),Same F H->H a=some (.lst xs)->F a=none->IsL C.K F xs ds->Is C.K F v d->Jz ds d=.ok ys->(∀ zs,IsL C.K F zs ys->Q .non (upd H a (.lst zs)))->gm (.ref a) [v] H Q:=fun a xs ds ys v d F H sb ea ef ix iv eg k=>by
  unfold Jz at eg
  split at eg
  ·cases eg
   exact ⟨a,xs,v,rfl,rfl,ea,by rw [ix.length]; assumption,k _ (ix.append (.cons iv .nil))⟩
  ·cases eg
 obtain ⟨a,xs,h1,h2,k⟩:=WK (R:=fun x v H Q=>gm x [v] H Q) ho hm hR h
 exact ⟨.ref a,h1,.inl ⟨rfl,xs,.inl (.inl h2)⟩,k⟩
theorem uG {i:Nat} {x:Str} {px apos cpos:Pos} (hN:X.N[i]?=some x) (hv:Vis X.env.scope x) (ho:i∈own) (he:PE X e (tE C own .fr fe))
  (hd:(x == ("__debug__":Str))=false:=by decide) (hcd:(x == ("__classdict__":Str))=false:=by decide)
  (hbase:attributeBase (.Name x px) "extend" X.env (eval (.Name x px) X.env)=eval (.Name x px) X.env:=by rfl)
  (hfew:((backTo cpos (starEach [e] X.env)).all (fun x=>!x.1)&&(backToKw cpos (keywordEach [] X.env)).all (fun x=>x.1.isSome)
   && decide ([e].length+([]:List Keyword).length+(if ([]:List Keyword).isEmpty then 0 else 1) < 30))=true:=by exact vi rfl)
  (hline:(apos.endLine == cpos.line)=true:=by rfl) (hs:starEach [e] X.env=[(false,eval e X.env)]:=by exact qM rfl) :
  PE X (.Call (.Attribute (.Name x px) "extend" apos) [e] [] cpos) (tE C own .sh (QD i YR fe)):=by
 refine qS (Jo PySem.F.plainAttrs_list PySem.F.slot_list_extend PySem.F.type_list_extend Ko (zc hN hv hd hcd) (qG he qZ hs) hbase hfew hline hs rfl) fun σ H Q ⟨F,ρ,rp,h⟩=>?_
 unfold QD at h
 by_cases q:uF ρ[i]?=true
 ·rw [if_pos q] at h
  obtain ⟨ds,hd⟩:=QE q
  obtain ⟨a,h1,h2,xs,h3,h4⟩:=rp.ow i _ ho hd
  refine ⟨.ref a,h1,.inl ⟨rfl,xs,.inl (.inl h3)⟩,F,ρ,rp,Po.bind h fun v F1 H1 d ρ1 rp1 c1 mo1 po=>?_⟩
  obtain ⟨b,rfl,hb0,hbF,ob⟩:=mo1
  cases q1:ρ1[i]? with
  | none=>simp only [q1] at po; exact po.elim
  | some o=>
   cases o with
   | none=>simp only [q1] at po; exact po.elim
   | some dd=>
    simp only [q1] at po
    cases dd with
    | lst es=>
     simp only at po
     obtain ⟨a',e1,e2,vs,e3,e4⟩:=rp1.ow i _ ho q1
     rw [h1] at e1; cases e1
     cases d with
     | lst ys=>
      obtain ⟨zs,hz,iz⟩:=ob
      have po:Po C own .sh σ F1 H1 (match (if es.length+ys.length<=sizeLine then .ok (es++ys) else .bad:Out (List D)) with | .ok ys=>.ok (.non,ρ1.set i (some (.lst ys))) | _=>.bad) Q:=po
      by_cases qz:es.length+ys.length<=sizeLine
      ·rw [if_pos qz] at po
       refine ⟨a,b,vs,zs,rfl,rfl,e3,hz,by rw [e4.length,iz.length]; exact qz,?_⟩
       obtain ⟨r2,c2⟩:=rp1.write (u:=.lst (vs++zs)) (d:=.lst (es++ys)) ho h1 ⟨_,qf,e4.append iz⟩
       exact po .non F1 _ r2 c2 .non
      ·rw [if_neg qz] at po; exact po.elim
     | dct ys=>
      exact po.elim
     | ins _ _=>exact po.elim
     | at_ _ _=>exact po.elim
     | _=>exact ob.elim
    | _=>exact po.elim
 ·rw [if_neg q] at h; exact h.elim
end
noncomputable def scB (names:List (Str×NameKind)) (scope:Scope):Bool:=decide (scope.kind=.function)&&scope.names.all fun y=>decide (y.2≠.cell)&&(!decide (y.2=.local)||decide (scope.names.lookup y.1=some .local)) &&
 (!decide (y.2=.free)||((decide (names.lookup y.1=some .cell)||decide (names.lookup y.1=some .free))&&decide (scope.names.lookup y.1=some .free)))
theorem ue {X:Cx} {scope:Scope} {names:List (Str×NameKind)} (hX:X.env.scope.names=names) (b:scB names scope=true):ScOk X scope:=by
 subst hX
 unfold scB at b
 rw [Bool.and_eq_true,List.all_eq_true] at b
 obtain ⟨b0,b1⟩:=b
 refine ⟨of_decide_eq_true b0,fun y hy=>?_,fun y hy e=>?_,fun y hy e=>?_,fun y hy e=>?_⟩
 all_goals
  have q:=b1 y hy
  simp only [Bool.and_eq_true,Bool.or_eq_true,Bool.not_eq_true',decide_eq_true_eq,decide_eq_false_iff_not] at q
 ·exact q.1.1
 ·exact q.1.2.resolve_left fun z=>z e
 ·exact (q.2.resolve_left fun z=>z e).1
 ·exact (q.2.resolve_left fun z=>z e).2
noncomputable def qa5 (names:List (Str×NameKind)) (N:List Str) (scope:Scope) (Nc:List Str) (nt:Nat) (cap:List Nat):Bool:=decide cap.Nodup&&decide (Nc.length=nt+cap.length)&&(List.range cap.length).all fun j=>match cap[j]? with
 | some k=>match Nc[nt+j]? with
  | some x=>decide (N[k]?=some x)&&(((decide (names.lookup x=some .local)||decide (names.lookup x=some .cell)||decide (names.lookup x=some .free))&&decide ((x,NameKind.free)∈scope.names))||scope.names.all fun y=>decide (y.1≠x))
  | none=>false
 | none=>false
theorem kK {X:Cx} {scope:Scope} {names:List (Str×NameKind)} {N Nc:List Str} {nt:Nat} {cap:List Nat} (hX:X.env.scope.names=names) (hN:X.N=N) (b:qa5 names N scope Nc nt cap=true):CapOk X scope Nc nt cap:=by
 subst hX hN
 unfold qa5 at b
 rw [Bool.and_eq_true,Bool.and_eq_true,List.all_eq_true] at b
 obtain ⟨⟨b0,b1⟩,b2⟩:=b
 refine ⟨of_decide_eq_true b0,of_decide_eq_true b1,fun j k hj=>?_⟩
 have q:=b2 j (List.mem_range.mpr (List.getElem?_eq_some_iff.mp hj).1)
 rw [hj] at q
 cases e:Nc[nt+j]? with
 | none=>simp only [e] at q; cases q
 | some x=>
  simp only [e,Bool.and_eq_true,Bool.or_eq_true,decide_eq_true_eq] at q
  refine ⟨x,rfl,q.1,?_⟩
  rcases q.2 with ⟨z,q2⟩ | z
  ·refine .inl ⟨?_,q2⟩
   rcases z with (z | z) | z
   ·exact .inl z
   ·exact .inr (.inl z)
   ·exact .inr (.inr z)
  ·refine .inr fun k' hk'=>?_
   rw [List.all_eq_true] at z
   exact of_decide_eq_true (z (x,k') hk') rfl
theorem yr {P:Program} {w:World} {X:Cx}:jh (CXk P w) X (fun _ _ _=>False):=fun _ _ _ _ _ _ _ h=>by
 obtain ⟨_,_,_,_,_,_,_,_,_,_,_,_,_,_,hE⟩:=h
 exact hE.elim
noncomputable def qaz (f:Sl->Out (D×Sl)):Sl->Out (D×Sl):=fun ρ=>(kh f ρ).bind fun p=>.ok (.bl (!p.1),p.2)
section
variable {X:Cx} {C:Ct} {own:List Nat} {e:Expr} {x:Str} {pos:Pos} {i:Int}
theorem vo (h:∃ t,X.mg x=some (.int i t)) (hg:Gl X x) (hd:(x == ("__debug__":Str))=false:=by decide):PE X (.Name x pos) (tE C own .sh (dC (.int i))):=by
 obtain ⟨t,h⟩:=h
 exact gu (v:=.int i) hg h ⟨t,rfl⟩ (fun _=>.int i) hd
end
section
variable {X:Cx} {C:Ct} {own:List Nat} {a b e:Expr} {f fa fb:Sl->Out (D×Sl)} {m ma mb:Mo} {pos:Pos}
noncomputable def yG:D->Out D
 | .lst xs=>.ok (.tup xs)
 | .tup xs=>.ok (.tup xs)
 | _=>.bad
theorem xk (hK:C.K=X.K):yY X C .sh (.type "tuple") yG:=by
 intro pins s σ H xs us Q I r h
 obtain ⟨x,F,dx,rfl,sb,tx,po⟩:=h
 cases dx with
 | lst ds=>
  obtain ⟨p,vs,rfl,hq,t⟩:=tx.lst sb
  refine vN pins s σ H _ us Q I r ⟨p,vs,rfl,.inl ⟨by rw [<-hK]; exact hq,fun l hl=>?_⟩⟩
  obtain ⟨s2,c2⟩:=kQ (u:=.tup vs) sb hl
  exact po _ _ _ s2 c2 (.tup (.inl (.inl qf)) (t.mono c2.grow))
 | tup ds=>
  rcases tx with tx | ⟨_,_,tx⟩
  ·have tx0:=tx
   cases tx with
   | tup hq t=>exact vN pins s σ H _ us Q I r ⟨_,_,rfl,.inr ⟨by rw [<-hK]; exact qA sb hq,po _ F H sb .refl tx0⟩⟩
  ·exact tx.elim
 | _=>exact po.elim
def Vd (X:Cx) (C:Ct) (m:Mo) (f:Value) (g:D->D->Out D):Prop:=vD X f (fun xs H Q=>∃ x y F dx dy,xs=[x,y]/\Same F H/\TopIs C.K F H x dx/\TopIs C.K F H y dy/\PoV C m F H (g dx dy) Q)
theorem QF {σ:St} {H:Hp} {Q:VK} {g:D->D->Out D} (hma:ma≠.any) (h:tE C own m (d2 g fa fb) σ H Q):Jn (tE C own ma fa) (Jn (tE C own mb fb) Zi) σ H fun xs H1=>∃ x y F dx dy,xs=[x,y]/\Same F H1/\TopIs C.K F H1 x dx/\TopIs C.K F H1 y dy/\PoV C m F H1 (g dx dy) Q:=by
 obtain ⟨F,ρ,rp,h⟩:=zj (mb:=mb) hma h
 refine ⟨F,ρ,rp,?_⟩
 cases q:fa ρ with
 | ok p=>
  rw [q] at h
  obtain ⟨d,ρ1⟩:=p
  intro v F1 H1 rp1 c1 mo1
  obtain ⟨F2,ρ2,rp2,h2⟩:=h v F1 H1 rp1 c1 mo1
  refine ⟨F2,ρ2,rp2,?_⟩
  cases q2:fb ρ2 with
  | ok p=>
   rw [q2] at h2
   obtain ⟨d',ρ3⟩:=p
   intro w F3 H3 rp3 c3 mo3
   obtain ⟨F4,dx,dy,z⟩:=h2 w F3 H3 rp3 c3 mo3
   exact ⟨v,w,F4,dx,dy,rfl,z⟩
  | exc c=>rw [q2] at h2; exact h2
  | bad=>rw [q2] at h2; exact h2.elim
 | exc c=>rw [q] at h; exact h
 | bad=>rw [q] at h; exact h.elim
theorem zw {x:Str} {id:String} {p:Pos} {g:D->D->Out D} (hc:Vd X C m (.builtin id) g) (hg:Gl X x) (hm:X.mg x=none) (hv:bootBuiltins x=some (.builtin id)) (ha:PE X a (tE C own ma fa)) (hb:PE X b (tE C own mb fb)) (hma:ma≠.any:=by decide) (hn:x ≠ "__name__":=by decide) (hdb:(x == ("__debug__":Str))=false:=by decide)
  (h1:starEach [a,b] X.env=(false,eval a X.env)::starEach [b] X.env:=by rfl) (h2:starEach [b] X.env=[(false,eval b X.env)]:=by exact qM rfl):PE X (.Call (.Name x p) [a,b] [] pos) (tE C own m (d2 g fa fb)):=
 qS (vg hc hg hm hv (qG ha (qG hb qZ h2) h1) hn hdb (by rw [h1]) (by rw [h2]; rfl)) fun _ _ _ h=>QF hma h
noncomputable def qa6:D->D->Out D:=JV fun i j=>.ok (.int (if j > i then j else i))
noncomputable def qa7:D->D->Out D:=JV fun i j=>.ok (.int (if j < i then j else i))
theorem ZI (hc:X.calm=true):Vd X C .sh (.builtin "max") qa6:=by
 intro pins s σ H xs us Q I r h
 obtain ⟨x,y,F,dx,dy,rfl,sb,tx,ty,po⟩:=h
 cases dx <;> try exact po.elim
 cases dy <;> try exact po.elim
 obtain rfl:=tx.int
 obtain rfl:=ty.int
 exact Ki hc pins s σ H _ us Q I r ⟨_,_,rfl,po _ F H sb .refl (.int _)⟩
theorem ZJ (hc:X.calm=true):Vd X C .sh (.builtin "min") qa7:=by
 intro pins s σ H xs us Q I r h
 obtain ⟨x,y,F,dx,dy,rfl,sb,tx,ty,po⟩:=h
 cases dx <;> try exact po.elim
 cases dy <;> try exact po.elim
 obtain rfl:=tx.int
 obtain rfl:=ty.int
 exact Kj hc pins s σ H _ us Q I r ⟨_,_,rfl,po _ F H sb .refl (.int _)⟩
noncomputable def jk (a T:String):Option Bool:=if (Value.type a == Value.type T)=true then some true else if PySem.W.kitMeta T=true then (fastBuiltinMro a).map (·.contains (.type T)) else none
theorem WL (K:Frag) (a T:String):PySem.W.kitOne K (.type a) (.type T)=jk a T:=rfl
noncomputable def tyN:D->Option String
 | .non=>some "NoneType"
 | .bl _=>some "bool"
 | .int _=>some "int"
 | .str _=>some "str"
 | .tup _=>some "tuple"
 | .lst _=>some "list"
 | .dct _=>some "dict"
 | _=>none
noncomputable def zx (T:String) (d:D):Out D:=match tyN d with
 | some a=>match jk a T with
  | some b=>.ok (.bl b)
  | none=>.bad
 | none=>.bad
theorem WM {T:String} (hK:C.K=X.K):vD X (.builtin "isinstance") (fun xs H Q=>∃ x F d,xs=[x,.ty T]/\Same F H/\TopIs C.K F H x d/\PoV C .sh F H (zx T d) Q):=by
 intro pins s σ H xs us Q I r h
 obtain ⟨x,F,d,rfl,sb,tx,po⟩:=h
 obtain ⟨u,c,rfl,ru,rc⟩:=Wu r
 cases rc
 cases q:tyN d with
 | none=>unfold zx at po; rw [q] at po; exact po.elim
 | some a=>
  cases q2:jk a T with
  | none=>unfold zx at po; rw [q] at po; simp only [q2] at po; exact po.elim
  | some b=>
   have po:PoV C .sh F H (.ok (.bl b)) Q:=by unfold zx at po; rw [q] at po; simp only [q2] at po; exact po
   have fin:∀ tk,EP X pins σ Q (.bool b) { s with toks:=tk }:=fun tk=>⟨.bl b,H,I.tok tk,rfl,po _ F H sb .refl (.bl b)⟩
   have e:PySem.W.kitOne X.K (.type a) (.type T)=some b:=(WL X.K a T).trans q2
   cases d with
   | non=>obtain rfl:=tx.non; cases ru; cases q; exact PySem.W.kia_one PySem.W.kitx_none I.kIn True.intro e (fun z=>nomatch z) fin
   | bl y=>obtain rfl:=tx.bl; cases ru; cases q; exact PySem.W.kia_one PySem.W.kitx_bool I.kIn True.intro e (fun z=>nomatch z) fin
   | int y=>obtain rfl:=tx.int; obtain ⟨t,rfl⟩:=ru; cases q; exact PySem.W.kia_one PySem.W.kitx_int I.kIn True.intro e (fun z=>nomatch z) fin
   | str y=>obtain ⟨rfl,_⟩:=tx.str; obtain ⟨t,rfl⟩:=ru; cases q; exact PySem.W.kia_one PySem.W.kitx_str I.kIn True.intro e (fun z=>nomatch z) fin
   | tup y=>
    obtain ⟨p,vs,rfl,hq,t⟩:=tx.tup sb
    cases ru; cases q
    obtain ⟨its,_,⟨o,h1,h2,_⟩,_⟩:=I.tuple (show SqT X.K H p vs by rw [<-hK]; exact hq)
    exact PySem.W.kia_one PySem.W.kitx_tuple I.kIn ⟨o,h1,h2⟩ e (fun z=>nomatch z) fin
   | lst y=>
    obtain ⟨p,vs,rfl,hq,t⟩:=tx.lst sb
    cases ru; cases q
    obtain ⟨its,_,⟨o,n,h1,h2,_⟩,_⟩:=I.list (show SqL X.K H p vs by rw [<-hK]; exact hq)
    exact PySem.W.kia_one PySem.W.kitx_list I.kIn ⟨o,h1,h2⟩ e (fun z=>nomatch z) fin
   | dct y=>
    obtain ⟨p,vs,rfl,hq,t⟩:=tx.dct sb
    cases ru; cases q
    obtain ⟨_,_,ws,_,o,es,ep,h1,h2,_⟩:=(show ObjOk X.prog X.w H s.heap p (.dK vs) from I.hok p _ hq)
    exact PySem.W.kia_one PySem.W.kitx_dict I.kIn ⟨o,h1,h2.1⟩ e (fun z=>nomatch z) fin
   | _=>cases q
theorem uH {T:String} {tn:Str} {p tp:Pos} (hK:C.K=X.K) (hg:Gl X "isinstance") (hm:X.mg "isinstance"=none) (hv:bootBuiltins "isinstance"=some (.builtin "isinstance")) (ht:Gl X tn) (htm:X.mg tn=none) (htv:bootBuiltins tn=some (.type T)) (ha:PE X a (tE C own ma fa)) (hn:tn ≠ "__name__":=by decide) (hdb:(tn == ("__debug__":Str))=false:=by decide)
  (h1:starEach [a,.Name tn tp] X.env=(false,eval a X.env)::starEach [.Name tn tp] X.env:=by rfl) (h2:starEach [.Name tn tp] X.env=[(false,eval (.Name tn tp) X.env)]:=by rfl):PE X (.Call (.Name "isinstance" p) [a,.Name tn tp] [] pos) (tE C own .sh (d1 (zx T) fa)):=by
 refine qS (vg (WM (T:=T) hK) hg hm hv (qG ha (qG (Kb (v:=.ty T) ht htm htv rfl hn hdb) qZ h2) h1) (by decide) (by decide) (by rw [h1]) (by rw [h2]; rfl)) fun σ H Q h=>?_
 obtain ⟨F,ρ,rp,h⟩:=zk (ma:=ma) h
 refine ⟨F,ρ,rp,?_⟩
 cases q:fa ρ with
 | ok p=>
  rw [q] at h
  obtain ⟨d,ρ1⟩:=p
  intro v F1 H1 rp1 c1 mo1
  obtain ⟨F2,dx,z⟩:=h v F1 H1 rp1 c1 mo1
  exact ⟨v,F2,dx,rfl,z⟩
 | exc c=>rw [q] at h; exact h
 | bad=>rw [q] at h; exact h.elim
noncomputable def jL:List D->Option (List Bool)
 | []=>some []
 | .bl b::ds=>(jL ds).map (b::·)
 | _::_=>none
noncomputable def YS:D->Out D
 | .lst ds=>match jL ds with
  | some bs=>.ok (.bl (bs.all id))
  | none=>.bad
 | _=>.bad
theorem uo {K:Frag} {F:Hp}:∀ {vs:List V} {us:List Value} {ds:List D} {bs:List Bool},IsL K F vs ds->Vals vs us->jL ds=some bs->us=bs.map Value.bool
 | _,_,_,_,.nil,.nil,e=>by cases e; rfl
 | _,_,_,_,.cons (d:=d) h t,.cons r rs,e=>by
  cases d with
  | bl b=>
   unfold jL at e
   obtain ⟨bs',e1,e2⟩:=Option.map_eq_some_iff.mp e
   subst e2
   cases h
   cases r
   rw [uo t rs e1]; rfl
  | _=>cases e
theorem Ve (hK:C.K=X.K) (hc:X.calm=true):yY X C .sh (.builtin "all") YS:=by
 intro pins s σ H xs us Q I r h
 obtain ⟨x,F,dx,rfl,sb,tx,po⟩:=h
 cases dx <;> try exact po.elim
 rename_i ds
 obtain ⟨p,vs,rfl,hq,t⟩:=tx.lst sb
 obtain ⟨u,rfl,ru⟩:=ua r
 cases ru
 unfold YS at po
 cases q:jL ds with
 | none=>simp only [q] at po; exact po.elim
 | some bs=>
  simp only [q] at po
  obtain ⟨its,rv,pl,hz⟩:=I.list (show SqL X.K H p vs by rw [<-hK]; exact hq)
  have eb:=uo t rv q
  subst eb
  have hp:p < s.heap.objs.size:=let ⟨o,h1,_⟩:=pl.isList; Heap.lt_size h1
  refine call_all_walk (wpAny_pyIter_list pl.isList ?_)
  have W:Walks X.prog X.w X.A.in1 s.heap.objs.size [s.heap.objs.size,p] [s.heap.objs.size] (bs.map Value.bool).toArray.size (fun i v=>(bs.map Value.bool).toArray[i]?=some v) (fun i h=>h.IsListIter s.heap.objs.size p i/\h.IsList p (bs.map Value.bool).toArray):=Walks.list (A:=X.A.in1) (show X.A.in1.handled=none from I.ok.hd hc) s.heap.objs.size p (Nat.ne_of_lt hp) _
  have st:(s.heap.push { cls:=.type "list_iterator",data:=.fields #[.ref p,.int 0 0] }).IsListIter s.heap.objs.size p 0/\(s.heap.push { cls:=.type "list_iterator",data:=.fields #[.ref p,.int 0 0] }).IsList p (bs.map Value.bool).toArray:=⟨⟨_,Heap.get?_push_size _ rfl,rfl,rfl⟩,let ⟨o,h1,h2⟩:=pl.isList; ⟨o,Heap.get?_push_of_some _ h1,h2⟩⟩
  refine ⟨_,_,_,_,_,_,fun i=>(bs[i]?).getD false,rfl,W,st,fun i v s' Q' E' hP hQ'=>?_,fun h' tk kp=>?_⟩
  ·have hP:(bs.map Value.bool).toArray[i]?=some v:=hP
   rw [List.getElem?_toArray,List.getElem?_map] at hP
   cases qi:bs[i]? with
   | none=>rw [qi] at hP; cases hP
   | some b=>
    have hQ2:Q' ((bs[i]?).getD false) s':=hQ'
    rw [qi] at hP hQ2
    cases hP
    exact wpAny_truthy_bool hQ2
  ·have e:(List.range (bs.map Value.bool).toArray.size).all (fun i=>(bs[i]?).getD false)=bs.all id:=by
    rw [List.size_toArray,List.length_map,Bool.eq_iff_iff,List.all_eq_true,List.all_eq_true]
    constructor
    ·intro h b hb
     obtain ⟨i,hi,e⟩:=List.mem_iff_getElem.mp hb
     have:=h i (List.mem_range.mpr hi)
     rw [List.getElem?_eq_getElem hi,e] at this
     exact this
    ·intro h i hi
     have hi:=List.mem_range.mp hi
     rw [List.getElem?_eq_getElem hi]
     exact h _ (List.getElem_mem hi)
   rw [e]
   refine ⟨.bl (bs.all id),H,?_,rfl,po _ F H sb .refl (.bl _)⟩
   have k2:∀ b o,s.heap.get? b=some o->h'.get? b=some o:=fun b o eb=>kp b o (by simp; exact Nat.ne_of_lt (Heap.lt_size eb)) (Heap.get?_push_of_some _ eb)
   exact I.kept (t':=tk) k2
end
noncomputable def kl {α:Type} (idx:List Nat) (xs:List α):List α:=idx.filterMap fun k=>xs[k]?
theorem IsL.pick {K:Frag} {F:Hp} {vs:List V} {ds:List D} (h:IsL K F vs ds):∀ (idx:List Nat),IsL K F (kl idx vs) (kl idx ds)
 | []=>.nil
 | k::idx=>by
  unfold kl
  rw [List.filterMap_cons,List.filterMap_cons]
  cases e:vs[k]? with
  | none=>
   have e2:ds[k]?=none:=List.getElem?_eq_none_iff.mpr (by rw [<-h.length]; exact List.getElem?_eq_none_iff.mp e)
   rw [e2]
   exact IsL.pick h idx
  | some v=>
   obtain ⟨d,e2,i⟩:=h.get e
   rw [e2]
   exact .cons i (IsL.pick h idx)
theorem uI {vs:List V} {us:List Value} (h:Vals vs us):∀ (idx:List Nat),Vals (kl idx vs) (kl idx us)
 | []=>.nil
 | k::idx=>by
  unfold kl
  rw [List.filterMap_cons,List.filterMap_cons]
  cases e:vs[k]? with
  | none=>rw [h.none_of e]; exact uI h idx
  | some v=>
   obtain ⟨u,e2,r⟩:=h.get e
   rw [e2]
   exact .cons r (uI h idx)
theorem WN {α:Type} (xs:List α):kl (List.range xs.length) xs=xs:=by
 unfold kl
 have:=PySem.W.krv_all xs.toArray
 simpa using this
noncomputable def zy (n:Nat) (lo hi:Option Int) (st:Int):List Nat:=(List.range (Builtin.Slice.slicePlaces (Builtin.Slice.sliceAdjust lo hi st n).1 (Builtin.Slice.sliceAdjust lo hi st n).2 st)).map fun (k:Nat)=>((Builtin.Slice.sliceAdjust lo hi st n).1+(k:Int) * st).toNat
noncomputable def yH (x:Str) (lo hi:Option Int) (st:Int):Str:=if (st == 1&&(Builtin.Str.strSliceIndices lo hi st x.length).length == x.length)=true then x else ⟨((Builtin.Str.strSliceIndices lo hi st x.length).filterMap (x.cps[·]?)).toArray⟩
noncomputable def slD (lo hi st:Option Int):D->Out D
 | .tup xs=>if st.getD 1≠0/\(kl (zy xs.length lo hi (st.getD 1)) xs).length<=sizeLine then .ok (.tup (kl (zy xs.length lo hi (st.getD 1)) xs)) else .bad
 | .str x=>if st.getD 1≠0/\(yH x lo hi (st.getD 1)).length<=sizeLine then .ok (.str (yH x lo hi (st.getD 1))) else .bad
 | _=>.bad
def qa8 (X:Cx) (r:V->Option Int->Option Int->Option Int->Hp->VK->Prop):Prop:=
 ∀ (pins:List (Addr×Obj)) (s:Shared) (σ:St) (H:Hp) (x:V) (v vl vu vk:Value) (lo hi st:Option Int) (sl:Addr) (Q:VK),Inv X pins σ H s->RelV x v->s.heap.IsSliceOf sl vl vu vk->IsPart vl lo->IsPart vu hi->IsPart vk st->r x lo hi st H Q ->
  ∃ T id,typeLookup (.type T) "__getitem__"=pure (some (.builtin id))/\s.TypeIs v T/\wpAny (model X.prog X.w) X.A (getItem v (.ref sl)) (EP X pins σ Q) X.xe s
section
variable {prog:Program} {w:World} {A:Around} {E:Value->Shared->Prop} {s:Shared}
theorem yt {sl:Addr} {vl vu vk:Value} {lo hi st:Option Int} {n:Nat} {Q:Int×Int×Nat->Shared->Prop} (hs:s.heap.IsSliceOf sl vl vu vk) (pl:IsPart vl lo) (pu:IsPart vu hi) (pk:IsPart vk st) (h0:st.getD 1≠0)
  (h:Q ((Builtin.Slice.sliceAdjust lo hi (st.getD 1) n).1,st.getD 1,Builtin.Slice.slicePlaces (Builtin.Slice.sliceAdjust lo hi (st.getD 1) n).1 (Builtin.Slice.sliceAdjust lo hi (st.getD 1) n).2 (st.getD 1)) s):wpAny (model prog w) A (Builtin.Slice.sliceApplied (.ref sl) (pure (n:Int))) Q E s:=by
 obtain ⟨os,hos,hcs,hds⟩:=id hs
 unfold Builtin.Slice.sliceApplied Builtin.Slice.sliceFields
 refine wpAny_bind (wpAny_bind (wpAny_field hos hds (x:=vl) rfl (wpAny_bind (wpAny_field hos hds (x:=vu) rfl (wpAny_bind (wpAny_field hos hds (x:=vk) rfl (wpAny_pure ?_)))))))
 refine wpAny_bind (HT.slicePart_ pk ?_)
 show wpAny _ _ (if (st.getD 1 == 0)=true then _ else _) _ _ s
 rw [if_neg (by simpa using h0)]
 refine wpAny_bind (HT.slicePart_ pl (wpAny_bind (HT.slicePart_ pu (wpAny_bind (wpAny_pure ?_)))))
 exact wpAny_pure h
theorem uJ {t sl:Addr} {items:Array Value} {vl vu vk:Value} {lo hi st:Option Int} {Q:Value->Shared->Prop} (ht:IsTup s.heap t items) (hs:s.heap.IsSliceOf sl vl vu vk) (pl:IsPart vl lo) (pu:IsPart vu hi) (pk:IsPart vk st) (h0:st.getD 1≠0)
  (hw:zy items.size lo hi (st.getD 1)=List.range items.size->Q (.ref t) s)
  (h:Q (.ref s.heap.objs.size) { s with heap:=s.heap.push { cls:=.type "tuple",data:=.seq (kl (zy items.size lo hi (st.getD 1)) items.toList).toArray } })
  (hsz:(kl (zy items.size lo hi (st.getD 1)) items.toList).length<=sizeLine):wpAny (model prog w) A (getItem (.ref t) (.ref sl)) Q E s:=by
 obtain ⟨os,hos,hcs,hds⟩:=id hs
 have hTs:s.TypeIs (.ref sl) "slice":=⟨os,hos,hcs⟩
 unfold getItem
 try with_reducible refine wpAny_holding ?_
 first | refine wpAny_bind (wpAny_pure ?_) | skip
 refine wpAny_bind (wpAny_sequenceKey ht.typeIs (by decide) ?_)
 refine wpAny_bind (wpAny_callSpecial?_slot (name:=Str.ofString "__getitem__") ht.typeIs PyProof.Rows.slot_tuple_getitem
  (wpAny_call_entry PyProof.Rows.slot_tuple_getitem ht.typeIs entry_tuple_getitem ?_ (args_tuple_getitem _ _)))
 show wpAny _ _ (Builtin.Tuple.tupleItemsOf (.ref t) >>= _) _ _ s
 refine wpAny_bind (tupleItemsOf_ ht ?_)
 refine wpAny_bind (wpAny_typeOf hTs ?_)
 rw [if_pos (by decide)]
 refine wpAny_bind (yt hs pl pu pk h0 ?_)
 generalize hA:Builtin.Slice.sliceAdjust lo hi (st.getD 1) items.size=A0
 generalize hN:Builtin.Slice.slicePlaces A0.1 A0.2 (st.getD 1)=N0
 have ep:kl (zy items.size lo hi (st.getD 1)) items.toList=(List.range N0).filterMap fun (k:Nat)=>items[(A0.1+(k:Int) * st.getD 1).toNat]?:=by
  unfold kl zy
  rw [hA,hN,List.filterMap_map]
  congr 1
  funext k
  simp
 rw [ep] at h hsz
 by_cases hc:(A0.1 == 0&&st.getD 1 == 1&&N0 == items.size)=true
 ·have hc':=hc
  rw [Bool.and_eq_true,Bool.and_eq_true] at hc'
  have q1:A0.1=0:=eq_of_beq hc'.1.1
  have q2:st.getD 1=1:=eq_of_beq hc'.1.2
  have q3:N0=items.size:=eq_of_beq hc'.2
  have whole:zy items.size lo hi (st.getD 1)=List.range items.size:=by
   unfold zy
   rw [hA,hN,q1,q2,q3]
   have e:(fun (k:Nat)=>((0:Int)+(k:Int) * 1).toNat)=id:=by
    funext k
    show ((0:Int)+(k:Int) * 1).toNat=k
    omega
   rw [e,List.map_id]
  have hQ:=hw whole
  show wpAny _ _ (if (A0.1 == 0&&st.getD 1 == 1&&N0 == items.size)=true then _ else _) _ _ s
  rw [if_pos hc]
  unfold Builtin.Tuple.tupleIsExact
  refine wpAny_bind (wpAny_bind (wpAny_typeOf ht.typeIs (wpAny_pure ?_)))
  rw [if_pos (by decide)]
  exact wpAny_bind (wpAny_rule (wpAny_pure ⟨_,rfl,wpAny_pure hQ⟩))
 ·show wpAny _ _ (if (A0.1 == 0&&st.getD 1 == 1&&N0 == items.size)=true then _ else _) _ _ s
  rw [if_neg hc]
  have htake:sizeOk (.seq ((List.range N0).filterMap fun (k:Nat)=>items[(A0.1+(k:Int) * st.getD 1).toNat]?).toArray):=by
   show (((List.range N0).filterMap fun (k:Nat)=>items[(A0.1+(k:Int) * st.getD 1).toNat]?).toArray).size<=sizeLine
   rw [List.size_toArray]; exact hsz
  first
   | exact wpAny_bind (m:=Builtin.Tuple.tupleExact _) (wpAny_newObj_type (wpAny_pure ⟨_,rfl,wpAny_pure h⟩) htake)
   | exact wpAny_bind (m:=Builtin.Tuple.tupleExact _) (wpAny_newObj_type (wpAny_bind (wpAny_pure (wpAny_pure ⟨_,rfl,wpAny_pure h⟩))) htake)
   | exact wpAny_bind (wpAny_bind (m:=Builtin.Tuple.tupleExact _) (wpAny_newObj_type (wpAny_pure (wpAny_pure ⟨_,rfl,wpAny_pure h⟩)) htake))
   | exact wpAny_bind (wpAny_bind (m:=Builtin.Tuple.tupleExact _) (wpAny_newObj_type (wpAny_pure ⟨_,rfl,wpAny_pure h⟩) htake))
end
def PoO (C:Ct) (own:List Nat) (σ:St) (F H:Hp) (r:Out (Option Int×Sl)) (Q:Option Int->Hp->Prop):Prop:=match r with
 | .ok (b,ρ')=>∀ F' H',Rep C.K own F' H' σ ρ'->Chg (OA own σ) F H F' H'->Q b H'
 | .exc c ρ'=>∀ F' H',Same F' H'->JU C.K C.ox F' H' σ ρ'->Chg (OA own σ) F H F' H'->C.E (C.cv c) none H'
 | .bad=>False
def tO (C:Ct) (own:List Nat) (f:Sl->Out (Option Int×Sl)):TO:=fun σ H Q=>∃ F ρ,Rep C.K own F H σ ρ/\PoO C own σ F H (f ρ) Q
noncomputable def xl:Option (Sl->Out (D×Sl))->Sl->Out (Option Int×Sl)
 | none,ρ=>.ok (none,ρ)
 | some f,ρ=>(f ρ).bind fun p=>match p.1 with
  | .int i=>.ok (some i,p.2)
  | _=>.bad
theorem Po.bindO {C:Ct} {own:List Nat} {m:Mo} {σ:St} {F H:Hp} {o:Out (Option Int×Sl)} {k:Option Int×Sl->Out (D×Sl)} {Q:VK} {R:Option Int->Hp->Prop} (hp:Po C own m σ F H (o.bind k) Q)
  (h:∀ F1 H1 b ρ1,Rep C.K own F1 H1 σ ρ1->Chg (OA own σ) F H F1 H1->Po C own m σ F1 H1 (k (b,ρ1)) Q->R b H1):PoO C own σ F H o R:=by
 cases o with
 | ok p=>
  obtain ⟨d,ρ1⟩:=p
  exact fun F1 H1 rp c=>h F1 H1 d ρ1 rp c (Po.shift (show Po C own m σ F H (k (d,ρ1)) Q from hp) c)
 | exc x=>exact hp
 | bad=>exact hp.elim
noncomputable def zz (fa:Sl->Out (D×Sl)) (l u k:Option (Sl->Out (D×Sl))):Sl->Out (D×Sl):=fun ρ=>(fa ρ).bind fun p=>(xl l p.2).bind fun a=>(xl u a.2).bind fun b=>(xl k b.2).bind fun c=>(slD a.1 b.1 c.1 p.1).plain.bind fun d=>.ok (d,c.2)
section
variable {X:Cx} {C:Ct} {own:List Nat} {a e:Expr} {fa f:Sl->Out (D×Sl)} {m ma:Mo} {pos p2:Pos}
theorem vp:PO X none (tO C own (xl none)):=by
 intro pins s σ H Q I ⟨F,ρ,rp,h⟩
 exact Yo pins s σ H Q I (h F H rp .refl)
theorem xm (h:PE X e (tE C own m f)):PO X (some e) (tO C own (xl (some f))):=by
 intro pins s σ H Q I ⟨F,ρ,rp,hp⟩
 refine Yp h pins s σ H Q I ⟨F,ρ,rp,?_⟩
 have hp:PoO C own σ F H ((f ρ).bind fun p=>match p.1 with | .int i=>.ok (some i,p.2) | _=>.bad) Q:=hp
 cases q:f ρ with
 | ok p=>
  rw [q] at hp
  obtain ⟨d,ρ1⟩:=p
  cases d with
  | int i=>exact fun v F1 H1 rp1 c1 mo1=>⟨i,mo1.top.int,hp F1 H1 rp1 c1⟩
  | _=>exact hp.elim
 | exc c=>rw [q] at hp; exact hp
 | bad=>rw [q] at hp; exact hp.elim
theorem Vf {r:V->Option Int->Option Int->Option Int->Hp->VK->Prop} {te:TE} {tl th tk:TO} {lo hi st:Option Expr} (hr:qa8 X r) (he:PE X e te) (hl:PO X lo tl) (hu:PO X hi th) (hk:PO X st tk) :
  PE X (.Subscript e (.Slice lo hi st p2) pos) (fun σ H Q=>te σ H fun x H1=>tl σ H1 fun l H2=>th σ H2 fun u H3=>tk σ H3 fun k H4=>r x l u k H4 Q):=by
 refine ⟨?_⟩
 intro pins s σ H Q I h
 refine Subscript_ (thn (he pins s σ H _ I h) fun v s1 ⟨x,H1,I1,r1,q1⟩=>?_)
 refine wpAny_Slice (thn (hl pins s1 σ H1 _ I1 q1) fun vl s2 ⟨l,H2,I2,pl,q2⟩=>thn (hu pins s2 σ H2 _ I2 q2) fun vu s3 ⟨u,H3,I3,pu,q3⟩=>thn (hk pins s3 σ H3 _ I3 q3) fun vk s4 ⟨k,H4,I4,pk,q4⟩=>?_)
 have I5:Inv X pins σ H4 { s4 with heap:=s4.heap.push { cls:=.type "slice",data:=.fields #[vl,vu,vk] } }:=I4.kept (t':=s4.toks) fun b ob q=>Heap.get?_push_of_some _ q
 obtain ⟨T,id,hT,ht,hg⟩:=hr pins { s4 with heap:=s4.heap.push { cls:=.type "slice",data:=.fields #[vl,vu,vk] } } σ H4 x v vl vu vk l u k s4.heap.objs.size Q I5 r1 (Heap.IsSliceOf.new ..) pl pu pk q4
 show wpAny (model X.prog X.w) X.A (subscriptTail e (.Slice lo hi st p2) v (.ref s4.heap.objs.size)) (EP X pins σ Q) X.xe { s4 with heap:=s4.heap.push { cls:=.type "slice",data:=.fields #[vl,vu,vk] } }
 cases st with
 | none=>exact tail_any (ops:=[.ref s4.heap.objs.size,v]) ht hT hg (by with_unfolding_all rfl)
 | some st=>exact tail_any (ops:=[v,.ref s4.heap.objs.size]) ht hT hg (by with_unfolding_all rfl)
theorem xn {v:Value} {o:Option Int} (h:IsPart v o):∃ l:Option (Int×Tok),v=partValue l/\l.map (·.1)=o:=by
 cases h with
 | none=>exact ⟨none,rfl,rfl⟩
 | int i t=>exact ⟨some (i,t),rfl,rfl⟩
theorem qbI (hK:C.K=X.K):qa8 X (fun x lo hi st H Q=>∃ F d,Same F H/\Is C.K F x d/\PoV C .sh F H (slD lo hi st d) Q):=by
 intro pins s σ H x v vl vu vk lo hi st sl Q I rx hs pl pu pk h
 obtain ⟨F,d,sb,is,po⟩:=h
 cases d with
 | tup ds=>
  have is0:=is
  cases is with
  | @tup a xs _ hq t=>
   cases rx
   have hq':SqT X.K H a xs:=by rw [<-hK]; exact qA sb hq
   obtain ⟨its,r,ht,hz⟩:=I.tuple hq'
   have hlen:its.length=ds.length:=r.length.symm.trans t.length
   have po:PoV C .sh F H (if st.getD 1≠0/\(kl (zy ds.length lo hi (st.getD 1)) ds).length<=sizeLine then .ok (.tup (kl (zy ds.length lo hi (st.getD 1)) ds)) else .bad) Q:=po
   by_cases c:st.getD 1≠0/\(kl (zy ds.length lo hi (st.getD 1)) ds).length<=sizeLine
   ·rw [if_pos c] at po
    have iv:=t.pick (zy ds.length lo hi (st.getD 1))
    have rv:=uI r (zy ds.length lo hi (st.getD 1))
    refine ⟨"tuple",_,PyProof.Rows.slot_tuple_getitem.lookup,ht.typeIs,uJ ht hs pl pu pk c.1 (fun e=>?_) ?_ ?_⟩
    ·rw [List.size_toArray,hlen] at e
     refine ⟨.ref a,H,I,rfl,po _ F H sb .refl ?_⟩
     rw [e,WN]
     exact is0
    ·simp only [List.size_toArray,hlen]
     have hlv:(kl (zy ds.length lo hi (st.getD 1)) xs).length<=sizeLine:=by rw [iv.length]; exact c.2
     refine ⟨.ref s.heap.objs.size,_,I.laid (t':=s.toks) (o:=.tup (kl (zy ds.length lo hi (st.getD 1)) xs)) (fun b ob q=>Heap.get?_push_of_some _ q) (Nat.le_refl _) ⟨⟨hlv,⟨_,Heap.get?_push_size _ rfl,rfl⟩⟩,_,rv,IsTup.new _ _⟩,rfl,?_⟩
     obtain ⟨s2,c2⟩:=kQ (u:=.tup (kl (zy ds.length lo hi (st.getD 1)) xs)) sb (I.hok.fresh (Nat.le_refl _))
     exact po _ _ _ s2 c2 (.tup (.inl (.inl qf)) (iv.mono c2.grow))
    ·simp only [List.size_toArray,hlen]
     rw [<-rv.length,iv.length]
     exact c.2
   ·rw [if_neg c] at po; exact po.elim
 | str z=>
  cases is
  obtain ⟨t,rfl⟩:=rx
  have po:PoV C .sh F H (if st.getD 1≠0/\(yH z lo hi (st.getD 1)).length<=sizeLine then .ok (.str (yH z lo hi (st.getD 1))) else .bad) Q:=po
  by_cases c:st.getD 1≠0/\(yH z lo hi (st.getD 1)).length<=sizeLine
  ·rw [if_pos c] at po
   obtain ⟨l,rfl,el⟩:=xn pl
   obtain ⟨u,rfl,eu⟩:=xn pu
   obtain ⟨k,rfl,ek⟩:=xn pk
   refine ⟨"str",_,PySem.F.slot_str_getitem.lookup,typeIs_str s z t,wpAny_getItem_str_slice (l:=l) (u:=u) (st:=k) hs (by rw [ek]; simpa using c.1) ?_⟩
   have c2:=c.2
   unfold sliceMade slicePicked
   rw [el,eu,ek]
   unfold yH at c2 po
   by_cases q:(st.getD 1 == 1&&(Builtin.Str.strSliceIndices lo hi (st.getD 1) z.length).length == z.length)=true
   ·rw [if_pos q] at c2 po ⊢
    exact ⟨.str z,H,I,⟨t,rfl⟩,po _ F H sb .refl (.str c2)⟩
   ·rw [if_neg q] at c2 po ⊢
    exact ⟨c2,.str _,H,I.tok _,⟨_,rfl⟩,po _ F H sb .refl (.str c2)⟩
  ·rw [if_neg c] at po; exact po.elim
 | _=>exact po.elim
theorem xo {lo hi st:Option Expr} {l u k:Option (Sl->Out (D×Sl))} (hK:C.K=X.K) (he:PE X e (tE C own ma fa)) (hl:PO X lo (tO C own (xl l))) (hu:PO X hi (tO C own (xl u))) (hk:PO X st (tO C own (xl k))) (hma:ma≠.any:=by decide) :
  PE X (.Subscript e (.Slice lo hi st p2) pos) (tE C own .sh (zz fa l u k)):=by
 refine qS (Vf (qbI (C:=C) hK) (wn he hma) hl hu hk) fun σ H Q ⟨F,ρ,rp,h⟩=>⟨F,ρ,rp,Po.bind h fun v F1 H1 d ρ1 rp1 c1 mo1 h1=>?_⟩
 refine ⟨F1,ρ1,rp1,Po.bindO h1 fun F2 H2 a ρ2 rp2 c2 h2=>⟨F2,ρ2,rp2,Po.bindO h2 fun F3 H3 b ρ3 rp3 c3 h3=>⟨F3,ρ3,rp3,Po.bindO h3 fun F4 H4 c ρ4 rp4 c4 h4=>?_⟩⟩⟩
 exact ⟨F4,d,rp4.sub,((mo1.mono c2.grow).mono c3.grow).mono c4.grow,PoV.of rp4 h4⟩
end
noncomputable def Its (x:Str):It:=⟨fun i _=>i < x.cps.size,fun i H v H'=>H'=H/\∃ c,x.cps[i]?=some c/\v=.str ⟨#[c]⟩,fun i _=>x.cps.size<=i⟩
noncomputable def kx (x:Str):List D:=x.cps.toList.map fun c=>.str ⟨#[c]⟩
theorem QG {P:Program} {w:World} {K:Frag} {tg:Expr} (it:Addr) (x:Str) (t:Tok) (ty:String) (hn:["enumerate", "zip", "dict_itemiterator", "dict_reverseitemiterator", "odict_iterator", "itertools.zip_longest", "itertools.pairwise"].contains ty=false)
  (W:∀ A:Around,A.handled=none->Walks P w A it [it] [it] x.cps.size (SignAt x) (fun i h=>h.IsStrIter it ty x t i)) (sf:∀ (A:Around) (i:Nat) (s:Shared) (Q:Value->Shared->Prop) (E:Value->Shared->Prop),s.heap.IsStrIter it ty x t i->Q (.ref it) s->wpAny (model P w) A (pyIter (.ref it)) Q E s) :
  Turn P w K tg (Its x) [it] it (fun i h=>h.IsStrIter it ty x t i/\i<=x.cps.size) where
 mem:=by simp
 obj:=fun i h st b hb=>by
  have e:b=it:=by simpa using hb
  subst e
  obtain ⟨o,e,c,d⟩:=st.1
  exact ⟨o,e,fun v z=>by rw [d] at z; cases z⟩
 keep:=fun i h h' st k=>by
  obtain ⟨⟨o,e,r⟩,hi⟩:=st
  exact ⟨⟨o,k it (by simp) o e,r⟩,hi⟩
 item:=by
  intro X hP hw hK hc i pins s σ H E I hf st hg
  subst hP hw hK
  obtain ⟨f0,f1,f2,f3,f4,f5⟩:=hf it (by simp)
  refine (W X.A (I.ok.hd hc)).item i s _ _ hg st.1 fun v h' tk hP st' kp=>?_
  have I1:Inv X pins σ H { s with heap:=h',toks:=tk }:=I.turned (t':=tk) (fun b o hb e=>kp b o (by simpa using hb) e) f0 f1 f3 f4 f5
  obtain ⟨o,e,c,d⟩:=id st'
  obtain ⟨c',u,h1,h2⟩:∃ c' u,x.cps[i]?=some c'/\v=Value.str ⟨#[c']⟩ u:=by
   unfold SignAt at hP
   first
    | exact hP
    | (obtain ⟨c',u,h1,h2⟩:=hP; exact ⟨c',u,h1,h2⟩)
    | (obtain ⟨c',h1,u,h2⟩:=hP; exact ⟨c',u,h1,h2⟩)
    | (obtain ⟨u,c',h1,h2⟩:=hP; exact ⟨c',u,h1,h2⟩)
  subst h2
  exact ⟨_,rfl,Wp (s:={ s with heap:=h',toks:=tk }) e c d hn ⟨.str ⟨#[c']⟩,H,I1,⟨u,rfl⟩,⟨rfl,c',h1,rfl⟩,⟨st',hg⟩,fun b hb=>(hf b hb).1⟩⟩
 done:=by
  intro X hP hw hK hc i pins s σ H E I hf st hg
  subst hP hw hK
  obtain ⟨f0,f1,f2,f3,f4,f5⟩:=hf it (by simp)
  have hi:i=x.cps.size:=Nat.le_antisymm st.2 hg
  subst hi
  exact (W X.A (I.ok.hd hc)).done s _ _ st.1 fun h' tk kp=>⟨rfl,I.turned (t':=tk) (fun b o hb e=>kp b o (by simpa using hb) e) f0 f1 f3 f4 f5⟩
 self:=fun A i s Q E st h=>sf A i s Q E st.1 h
theorem ZK {K:Frag} {F:Hp} {x:Str}:ItIs K F (Its x) (kx x) where
 go:=fun i H hi _=>by
  have:i < x.cps.size:=by simpa [kx] using hi
  exact this
 yld:=fun i Fi H v H' d e s1 s2 y=>by
  obtain ⟨rfl,c,h1,rfl⟩:=y
  have e:d=.str ⟨#[c]⟩:=by
   unfold kx at e
   rw [List.getElem?_map] at e
   have h1:x.cps.toList[i]?=some c:=by simpa using h1
   rw [h1] at e
   exact (Option.some.inj e).symm
  subst e
  exact ⟨Fi,.refl,s2,.str (Qz c)⟩
 stop:=fun i H hi _=>by
  have:x.cps.size<=i:=by simpa [kx] using hi
  exact this
noncomputable def uK:D->Out (List D)
 | .lst xs=>.ok xs
 | .tup xs=>.ok xs
 | .str x=>.ok (kx x)
 | _=>.bad
noncomputable def xY (f:Sl->Out (D×Sl)):Sl->Out (List D×Sl):=fun ρ=>(f ρ).bind fun p=>(uK p.1).bind fun ds=>.ok (ds,p.2)
section
variable {X:Cx} {C:Ct} {own:List Nat} {tg e:Expr} {f:Sl->Out (D×Sl)} {m:Mo} {pos:Pos}
theorem ZL {l:Expr} {tl:TE} (hl:PE X l tl):PI X tg l (fun σ H R=>tl σ H fun x H1=>(∃ a,x=.ref a/\(((∃ xs,SqL X.K H1 a xs)/\R (Itl X.K a) H1)\/((∃ xs,SqT X.K H1 a xs)/\R (Itt X.K a) H1)))\/∃ z,x=.str z/\R (Its z) H1):=by
 refine ⟨?_⟩
 intro pins s σ H R I h
 refine thn (hl pins s σ H _ I h) fun v s1 ⟨x,H1,I1,r1,q1⟩=>?_
 have fp:∀ b∈[s1.heap.objs.size],uw X pins H1 b:=fun b hb=>by
  have e:b=s1.heap.objs.size:=by simpa using hb
  subst e
  exact I1.fpOk (Nat.le_refl _) (I1.hok.fresh (Nat.le_refl _))
 rcases q1 with ⟨a,rfl,q⟩ | ⟨z,rfl,q⟩
 ·cases r1
  rcases q with ⟨⟨xs,hq⟩,q⟩ | ⟨⟨xs,hq⟩,q⟩
  ·obtain ⟨its,rv,p,hz⟩:=I1.list hq
   refine wpAny_pyIter_list p.isList ?_
   exact ⟨s1.heap.objs.size,[s1.heap.objs.size],_,_,H1,rfl,I1.kept (t':=s1.toks) fun b o e=>Heap.get?_push_of_some _ e,Kd a _,⟨_,Heap.get?_push_size _ rfl,rfl,rfl⟩,fp,q⟩
  ·obtain ⟨its,rv,p,hz⟩:=I1.tuple hq
   refine wpAny_pyIter_tuple (show s1.heap.IsTuple a its.toArray from p) ?_
   exact ⟨s1.heap.objs.size,[s1.heap.objs.size],_,_,H1,rfl,I1.kept (t':=s1.toks) fun b o e=>Heap.get?_push_of_some _ e,Jj a _,⟨_,Heap.get?_push_size _ rfl,rfl,rfl⟩,fp,q⟩
 ·obtain ⟨t,rfl⟩:=r1
  cases ha:z.cps.all (· < 128) with
  | true=>
   refine wpAny_pyIter_ascii ha ?_
   exact ⟨s1.heap.objs.size,[s1.heap.objs.size],_,_,H1,rfl,I1.kept (t':=s1.toks) fun b o e=>Heap.get?_push_of_some _ e,QG _ z t "str_ascii_iterator" (by decide) (fun A hA=>Walks.strAscii hA _ z t) (fun A i s Q E st h=>wpAny_pyIter_striter_ascii st h),⟨⟨_,Heap.get?_push_size _ rfl,rfl,rfl⟩,Nat.zero_le _⟩,fp,q⟩
  | false=>
   refine wpAny_pyIter_wide ha ?_
   exact ⟨s1.heap.objs.size,[s1.heap.objs.size],_,_,H1,rfl,I1.kept (t':=s1.toks) fun b o e=>Heap.get?_push_of_some _ e,QG _ z t "str_iterator" (by decide) (fun A hA=>Walks.strWide hA _ z t) (fun A i s Q E st h=>wpAny_pyIter_striter_wide st h),⟨⟨_,Heap.get?_push_size _ rfl,rfl,rfl⟩,Nat.zero_le _⟩,fp,q⟩
theorem jZ (hK:C.K=X.K) (h:PE X e (tE C own m f)) (hm:m≠.any:=by decide):PI X tg e (tIt C own (xY f)):=by
 refine YG (ZL (wn h hm)) fun σ H R ⟨F,ρ,rp,h⟩=>⟨F,ρ,rp,PoI.bindV h fun v F1 H1 d ρ1 rp1 c1 mo1 h1=>?_⟩
 have mo1:Is C.K F1 v d:=mo1
 cases mo1 with
 | lst p t=>exact .inl ⟨_,rfl,.inl ⟨⟨_,by rw [<-hK]; exact rp1.sub.seq p⟩,by rw [<-hK]; exact h1 _ F1 H1 rp1 c1 (ZB p t)⟩⟩
 | tup p t=>exact .inl ⟨_,rfl,.inr ⟨⟨_,by rw [<-hK]; exact qA rp1.sub p⟩,by rw [<-hK]; exact h1 _ F1 H1 rp1 c1 (ZC p t)⟩⟩
 | str hz=>exact .inr ⟨_,rfl,h1 _ F1 H1 rp1 c1 ZK⟩
 | _=>exact h1.elim
end
noncomputable def yI (b:Bool):D->Out D
 | .lst ds=>match jL ds with
  | some bs=>.ok (.int (bs.countP (· == b):Nat))
  | none=>.bad
 | _=>.bad
noncomputable def yJ (b:Bool):D->Out D
 | .lst ds=>match jL ds with
  | some bs=>match bs.findIdx? (· == b) with
   | some j=>.ok (.int (j:Nat))
   | none=>.bad
  | none=>.bad
 | _=>.bad
section
variable {X:Cx} {C:Ct} {own:List Nat} {o:Expr} {fo:Sl->Out (D×Sl)} {m:Mo} {apos cpos:Pos} {b:Bool}
theorem zA (A:Around) (s:Shared) (c b:Bool):SeqAt.EqAt A s (.bool c) (.bool b) (c == b):=SeqAt.EqAt.bool_bool _ _
theorem WO:MtR X "list.count" (fun x vs H Q=>∃ (a:Addr) (xs:List V) (bs:List Bool) (b:Bool),x=.ref a/\vs=[.bl b]/\SqL X.K H a xs/\(∀ us,Vals xs us->us=bs.map Value.bool)/\Q (.int (bs.countP (· == b):Nat)) H):=by
 intro pins s σ H x vs v us Q I rx rv h
 obtain ⟨a,xs,bs,b,rfl,rfl,hq,hb,q⟩:=h
 cases rx
 obtain ⟨u,rfl,ru⟩:=rv.one
 cases ru
 obtain ⟨its,r,pl,hz⟩:=I.list hq
 have e:=hb its r
 subst e
 obtain ⟨⟨cls,dd,data,sl⟩,n,ho,hc,hd,hdt⟩:=pl
 simp only at hc hd hdt
 subst hc hdt
 refine call_meets PySem.F.slot_list_count ⟨_,ho,rfl⟩ PySem.F.entry_list_count (PySem.F.args_list_count_2 _ _) (SeqAt.list_countAt a _ n dd sl (.bool b) (fun v=>v == .bool b)) ⟨ho,fun y hy=>?_,?_⟩
 ·have hy:y∈bs.map Value.bool:=by simpa using hy
  obtain ⟨c,_,rfl⟩:=List.mem_map.mp hy
  have e:(Value.bool c == Value.bool b)=(c == b):=by cases c <;> cases b <;> rfl
  show SeqAt.EqAt _ s (.bool c) (.bool b) (Value.bool c == Value.bool b)
  rw [e]
  exact zA _ s c b
 ·refine ⟨.int (bs.countP (· == b):Nat),H,I.tok _,⟨s.toks,?_⟩,q⟩
  have e:(bs.map Value.bool).toArray.toList.countP (fun v=>v == Value.bool b)=bs.countP (· == b):=by
   rw [List.toList_toArray,List.countP_map]
   congr 1
   funext c
   cases c <;> cases b <;> rfl
  rw [e]
theorem WP:MtR X "list.index" (fun x vs H Q=>∃ (a:Addr) (xs:List V) (bs:List Bool) (b:Bool) (j:Nat),x=.ref a/\vs=[.bl b]/\SqL X.K H a xs/\(∀ us,Vals xs us->us=bs.map Value.bool)/\bs.findIdx? (· == b)=some j/\Q (.int (j:Nat)) H):=by
 intro pins s σ H x vs v us Q I rx rv h
 obtain ⟨a,xs,bs,b,j,rfl,rfl,hq,hb,hj,q⟩:=h
 cases rx
 obtain ⟨u,rfl,ru⟩:=rv.one
 cases ru
 obtain ⟨its,r,pl,hz⟩:=I.list hq
 have e:=hb its r
 subst e
 obtain ⟨⟨cls,dd,data,sl⟩,n,ho,hc,hd,hdt⟩:=pl
 simp only at hc hd hdt
 subst hc hdt
 obtain ⟨hj1,hj2,hj3⟩:=List.findIdx?_eq_some_iff_getElem.mp hj
 have hlen:bs.length<=sizeLine:=by have:=r.length; simp at this; omega
 have ev:∀ c:Bool,(Value.bool c == Value.bool b)=(c == b):=fun c=>by cases c <;> cases b <;> rfl
 refine call_meets PySem.F.slot_list_index ⟨_,ho,rfl⟩ PySem.F.entry_list_index (PySem.F.args_list_index_2 _ _) (SeqAt.list_indexAt a _ n dd sl (.bool b) (fun v=>v == .bool b) j (by simpa using hj1) (by rw [sizeLine_eq] at hlen; omega) (by simp [ev]; simpa using hj2) fun m hm h1=>?_) ⟨ho,fun y hy=>?_,?_⟩
 ·have:=hj3 m h1
  simp [ev]
  simpa using this
 ·have hy:y∈bs.map Value.bool:=by simpa using hy
  obtain ⟨c,_,rfl⟩:=List.mem_map.mp hy
  show SeqAt.EqAt _ s (.bool c) (.bool b) (Value.bool c == Value.bool b)
  rw [ev]
  exact zA _ s c b
 ·exact ⟨.int (j:Nat),H,I.tok _,⟨_,rfl⟩,q⟩
theorem WQ {c1 c2} (hK:C.K=X.K) (ho:PE X o (tE C own m fo))
  (hbase:attributeBase o "count" X.env (eval o X.env)=eval o X.env:=by rfl)
  (hfew:((backTo cpos (starEach [.Constant (.bool b) c1 c2] X.env)).all (fun x=>!x.1)&&(backToKw cpos (keywordEach [] X.env)).all (fun x=>x.1.isSome)
   && decide ([Expr.Constant (.bool b) c1 c2].length+([]:List Keyword).length+(if ([]:List Keyword).isEmpty then 0 else 1) < 30))=true:=by exact vi rfl)
  (hline:(apos.endLine == cpos.line)=true:=by rfl) (hs:starEach [.Constant (.bool b) c1 c2] X.env=[(false,eval (.Constant (.bool b) c1 c2) X.env)]:=by exact qM rfl) :
  PE X (.Call (.Attribute o "count" apos) [.Constant (.bool b) c1 c2] [] cpos) (tE C own .sh (d1 (yI b) fo)):=by
 refine qS (Jo PySem.F.plainAttrs_list PySem.F.slot_list_count PySem.F.type_list_count WO ho (qG Yc qZ hs) hbase hfew hline hs rfl) fun σ H Q h=>?_
 obtain ⟨F,ρ,rp,h⟩:=zk (ma:=m) h
 refine ⟨F,ρ,rp,?_⟩
 cases q:fo ρ with
 | ok p=>
  rw [q] at h
  obtain ⟨d,ρ1⟩:=p
  intro v F1 H1 rp1 c1 mo1
  obtain ⟨F2,dx,sb,tx,po⟩:=h v F1 H1 rp1 c1 mo1
  cases dx <;> try exact po.elim
  rename_i ds
  unfold yI at po
  cases q2:jL ds with
  | none=>simp only [q2] at po; exact po.elim
  | some bs=>
   simp only [q2] at po
   obtain ⟨a,vs,rfl,hq,t⟩:=tx.lst sb
   have hq':SqL X.K H1 a vs:=by rw [<-hK]; exact hq
   exact ⟨.inl ⟨rfl,vs,hq'⟩,a,vs,bs,b,rfl,rfl,hq',fun us r=>uo t r q2,po _ F2 H1 sb .refl (.int _)⟩
 | exc c=>rw [q] at h; exact h
 | bad=>rw [q] at h; exact h.elim
theorem WS {c1 c2} (hK:C.K=X.K) (ho:PE X o (tE C own m fo))
  (hbase:attributeBase o "index" X.env (eval o X.env)=eval o X.env:=by rfl)
  (hfew:((backTo cpos (starEach [.Constant (.bool b) c1 c2] X.env)).all (fun x=>!x.1)&&(backToKw cpos (keywordEach [] X.env)).all (fun x=>x.1.isSome)
   && decide ([Expr.Constant (.bool b) c1 c2].length+([]:List Keyword).length+(if ([]:List Keyword).isEmpty then 0 else 1) < 30))=true:=by exact vi rfl)
  (hline:(apos.endLine == cpos.line)=true:=by rfl) (hs:starEach [.Constant (.bool b) c1 c2] X.env=[(false,eval (.Constant (.bool b) c1 c2) X.env)]:=by exact qM rfl) :
  PE X (.Call (.Attribute o "index" apos) [.Constant (.bool b) c1 c2] [] cpos) (tE C own .sh (d1 (yJ b) fo)):=by
 refine qS (Jo PySem.F.plainAttrs_list PySem.F.slot_list_index PySem.F.type_list_index WP ho (qG Yc qZ hs) hbase hfew hline hs rfl) fun σ H Q h=>?_
 obtain ⟨F,ρ,rp,h⟩:=zk (ma:=m) h
 refine ⟨F,ρ,rp,?_⟩
 cases q:fo ρ with
 | ok p=>
  rw [q] at h
  obtain ⟨d,ρ1⟩:=p
  intro v F1 H1 rp1 c1 mo1
  obtain ⟨F2,dx,sb,tx,po⟩:=h v F1 H1 rp1 c1 mo1
  cases dx <;> try exact po.elim
  rename_i ds
  unfold yJ at po
  cases q2:jL ds with
  | none=>simp only [q2] at po; exact po.elim
  | some bs=>
   simp only [q2] at po
   cases q3:bs.findIdx? (· == b) with
   | none=>simp only [q3] at po; exact po.elim
   | some j=>
    simp only [q3] at po
    obtain ⟨a,vs,rfl,hq,t⟩:=tx.lst sb
    have hq':SqL X.K H1 a vs:=by rw [<-hK]; exact hq
    exact ⟨.inl ⟨rfl,vs,hq'⟩,a,vs,bs,b,j,rfl,rfl,hq',fun us r=>uo t r q2,q3,po _ F2 H1 sb .refl (.int _)⟩
 | exc c=>rw [q] at h; exact h
 | bad=>rw [q] at h; exact h.elim
end
end L2.D2
namespace L2.D2
open PySem PySem.Spec PySem.Calls PyProof.Rows PySem.W Builtin Builtin.ObjectAttr Builtin.Getset_descriptor
section
variable {prog:Program} {w:World} {A:Around} {E:Value->Shared->Prop} {h:Heap} {g:Array GenState} {d:Drawn} {t:Nat} {os:OsState} {a C:Addr} {o:Obj} {K:Frag}
theorem ZM {R:Result->Shared->Prop} (X:K.In h) (L0:Looks (model prog w) h (typeOf (.ref a)) (.ref C)) (hm:mroIn K C (.type "object")=some true) (hq:R (.ok (.ret (.ref C))) ⟨h,g,d,t,os⟩) :
  codeAny (model prog w) A (.call (.builtin "getset_descriptor.__get__") ⟨[.builtin "object.__class__",.ref a,.ref C],[]⟩) R ⟨h,g,d,t,os⟩:=by
 have L1:=looks_mroIn (M:=model prog w) X hm
 refine codeAny_call_builtin KF.slot_gs.plain KF.entry_gs (KF.slot_gs.check _ _ _ _ _ _ _ _ KF.type_class (KF.args_gs _ _ _) ?_)
 unfold Builtin.«getset_descriptor.__get__» descrGet
 rw [dga_obj]
 refine wpAny_bind (wpAny_pure ?_)
 unfold descrGetter descrCheckInstance descrNameAndClass isInstance
 simp only [KF.owner_class]
 repeat lk
 refine ⟨Code.quiet_builtin _ (by decide +kernel),codeAny_builtin KF.entry_class ?_⟩
 unfold Builtin.«object.__class__» shownTypeOf
 repeat lk
 exact hq
theorem WT {nameV:Value} {Q:Unit->Shared->Prop} (X:K.In h) (L0:Looks (model prog w) h (typeOf (.ref a)) (.ref C)) (hs:subIn K (.ref C) (.type "BaseException")=some true) (hq:Q () ⟨h,g,d,t,os⟩) :
  wpAny (model prog w) A (checkBuiltinCall "BaseException.__getattribute__" ⟨[.ref a,nameV],[]⟩) Q E ⟨h,g,d,t,os⟩:=by
 have hk:builtinKind "BaseException.__getattribute__"=some .slot:=by decide +kernel
 have hsplit:splitId "BaseException.__getattribute__"=some ("BaseException", "__getattribute__"):=by decide +kernel
 have ha:=F.args_bexc_ga (.ref a) nameV
 have LI:Looks (model prog w) h (isInstance (.ref a) (.type "BaseException")) true:=L0.andThen (looks_subIn X hs)
 simp only [checkBuiltinCall,hk,hsplit]
 refine wpAny_bind (LI.at ?_)
 repeat (first | assumption | wp_step)
theorem WU {tk:Tok} {Q:Fin->Shared->Prop} (X:K.In h) (L0:Looks (model prog w) h (typeOf (.ref a)) (.ref C)) (g3:findIn K (.ref C) "__class__"=some (some (.builtin "object.__class__"))) (hm:mroIn K C (.type "object")=some true) (hq:Q (.done (.ret (.ref C))) ⟨h,g,d,t,os⟩) :
  wpAny (model prog w) A (Builtin.«object.__getattribute__» ⟨[.ref a,.str "__class__" tk],[]⟩) Q E ⟨h,g,d,t,os⟩:=by
 have L3:=looks_findIn (M:=model prog w) X g3
 have hT5:(⟨h,g,d,t,os⟩:Shared).TypeIs (.builtin "object.__class__") "getset_descriptor":=KF.type_class
 have f5:=KF.type_class
 have f6:=F.slot_gs_get.lookup
 have f7:=F.slot_gs_set.lookup
 repeat (any_goals (first | assumption | with_reducible refine L0.at ?_ | with_reducible refine L3.at ?_ | wp_step))
 refine ZM X L0 hm ?_
 repeat (any_goals (first | assumption | wp_step))
theorem YT {tk:Tok} {R:Result->Shared->Prop} (X:K.In h) (L0:Looks (model prog w) h (typeOf (.ref a)) (.ref C)) (hs:subIn K (.ref C) (.type "BaseException")=some true) (g3:findIn K (.ref C) "__class__"=some (some (.builtin "object.__class__"))) (hm:mroIn K C (.type "object")=some true) (hq:R (.ok (.ret (.ref C))) ⟨h,g,d,t,os⟩) :
  codeAny (model prog w) A (.call (.builtin "BaseException.__getattribute__") ⟨[.ref a,.str "__class__" tk],[]⟩) R ⟨h,g,d,t,os⟩:=
 codeAny_call_builtin F.excAttr_ValueError.ga.plain F.entry_bexc_ga (WT X L0 hs (WU X L0 g3 hm hq))
theorem qaA {tk:Tok} {fill expr:Bool} {Q:Value->Shared->Prop} (X:K.In h) (L0:Looks (model prog w) h (typeOf (.ref a)) (.ref C)) (hs:subIn K (.ref C) (.type "BaseException")=some true) (g1:findIn K (.ref C) "__getattribute__"=some (some (.builtin "BaseException.__getattribute__"))) (g2:findIn K (.ref C) "__getattr__"=some none)
  (g3:findIn K (.ref C) "__class__"=some (some (.builtin "object.__class__"))) (hm:mroIn K C (.type "object")=some true) (hq:Q (.ref C) ⟨h,g,d,t,os⟩) :
  wpAny (model prog w) A (getAttrBy (.ref a) (.str "__class__" tk) fill expr) Q E ⟨h,g,d,t,os⟩:=by
 have L1:=looks_findIn (M:=model prog w) X g1
 have L2:=looks_findIn (M:=model prog w) X g2
 have f3:=F.excAttr_ValueError.ga.bind (.ref a)
 have hx0:(expr&&onTheHeap (Value.builtin "BaseException.__getattribute__"))=false:=by cases expr <;> rfl
 have hx2:(Value.builtin "BaseException.__getattribute__" == Value.builtin "object.__getattribute__")=false:=by decide +kernel
 have hx1:(onTheHeap (Value.ref C)&&Value.builtin "BaseException.__getattribute__" == Value.builtin "object.__getattribute__")=false:=by rw [hx2]; rfl
 repeat (any_goals (first | assumption | with_reducible refine L0.at ?_ | with_reducible refine L1.at ?_ | with_reducible refine L2.at ?_ | wp_step))
 refine YT X L0 hs g3 hm ?_
 repeat (any_goals (first | assumption | wp_step))
theorem YU {Q:Option Value->Shared->Prop} (X:K.In h) (L0:Looks (model prog w) h (typeOf (.ref a)) (.ref C)) (hs:subIn K (.ref C) (.type "BaseException")=some true) (g1:findIn K (.ref C) "__getattribute__"=some (some (.builtin "BaseException.__getattribute__"))) (g2:findIn K (.ref C) "__getattr__"=some none)
  (g3:findIn K (.ref C) "__class__"=some (some (.builtin "object.__class__"))) (hm:mroIn K C (.type "object")=some true) (hq:Q (some (.ref C)) ⟨h,g,d,t+1,os⟩) :
  wpAny (model prog w) A (getAttr? (.ref a) "__class__") Q E ⟨h,g,d,t,os⟩:=by
 unfold getAttr? getAttrBy?
 exact wpAny_bind (wpAny_mkText (wpAny_bind (wpAny_attempt (qaA X L0 hs g1 g2 g3 hm (wpAny_pure hq)))))
end
noncomputable def xcB (K:Frag) (C:Addr):Bool:=decide (subIn K (.ref C) (.type "BaseException")=some true)&&decide (findIn K (.ref C) "__getattribute__"=some (some (.builtin "BaseException.__getattribute__")))&&decide (findIn K (.ref C) "__getattr__"=some none) &&
 decide (findIn K (.ref C) "__class__"=some (some (.builtin "object.__class__")))&&decide (mroIn K C (.type "object")=some true)&&(clsIn K C).isSome
def YV (a C:Addr) (h:Heap):Prop:=∃ oe vs,h.get? a=some oe/\oe.cls=.ref C/\oe.data=.fields vs
theorem WV {K:Frag} {a C:Addr} (b:xcB K C=true):KitX K (.ref a) (.ref C) (YV a C):=by
 unfold xcB at b
 simp only [Bool.and_eq_true,decide_eq_true_eq] at b
 obtain ⟨⟨⟨⟨⟨b1,b2⟩,b3⟩,b4⟩,b5⟩,b6⟩:=b
 have ty:∀ (M:Model) (h:Heap),YV a C h->Looks M h (typeOf (.ref a)) (.ref C):=fun M h ⟨oe,vs,e1,e2,e3⟩=>by rw [<-e2]; exact (Looks.ld e1).andThen .now
 refine ⟨fun M h _ x=>ty M h x,fun M h X _=>?_,fun h tp dd its n sl X ht=>?_,fun {prog w A E Q s} X x hq=>?_⟩
 ·unfold clsIn at b6
  split at b6
  ·rename_i c' d' cd' sl' ho
   intro A' Q' E' s' k q
   unfold isType loadHead
   exact wpAny_bind (wpAny_loadPart (k _ _ (X _ _ ho)) (wpAny_pure q))
  ·cases b6
 ·refine Bool.eq_false_iff.mpr fun q=>?_
  have q:Value.ref C=Value.ref tp:=beq_iff_eq.mp q
  cases q
  unfold clsIn at b6
  split at b6
  ·rename_i c' d' cd' sl' ho
   rw [X _ _ ho] at ht
   cases ht
  ·cases b6
 ·obtain ⟨h,g,d,t,os⟩:=s
  exact YU X (ty _ h x) b1 b2 b3 b4 b5 hq
noncomputable def uL (ans:Addr->Option Bool):D->Out D
 | .xcp C=>match ans C with
  | some b=>.ok (.bl b)
  | none=>.bad
 | _=>.bad
section
variable {X:Cx} {C:Ct} {own:List Nat} {a:Expr} {fa:Sl->Out (D×Sl)} {ma:Mo} {pos:Pos} {cls:Value} {vc:V} {ans:Addr->Option Bool}
theorem QH (hans:∀ Cc b,ans Cc=some b->xcB X.K Cc=true/\kitOne X.K (.ref Cc) cls=some b) (rc:RelV vc cls):vD X (.builtin "isinstance") (fun xs H Q=>∃ x F d,xs=[x,vc]/\Same F H/\TopIs C.K F H x d/\PoV C .sh F H (uL ans d) Q):=by
 intro pins s σ H xs us Q I r h
 obtain ⟨x,F,d,rfl,sb,tx,po⟩:=h
 obtain ⟨u,c,rfl,ru,rc'⟩:=Wu r
 cases d with
 | xcp Cc=>
  unfold uL at po
  cases q:ans Cc with
  | none=>simp only [q] at po; exact po.elim
  | some b=>
   simp only [q] at po
   obtain ⟨h1,h2⟩:=hans Cc b q
   rcases tx with tx | ⟨_,_,tx⟩
   ·cases tx with
    | @xcp ad _ hF=>
     cases ru
     have hx:YV ad Cc s.heap:=(show ObjOk X.prog X.w H s.heap ad (gp ad Cc) from I.hok ad _ (sb _ _ hF)).1
     have e:cls=c:=by
      cases vc with
      | ref z=>exact (show cls=Value.ref z from rc).trans (show c=Value.ref z from rc').symm
      | ty z=>exact (show cls=Value.type z from rc).trans (show c=Value.type z from rc').symm
      | non=>exact (show cls=Value.none from rc).trans (show c=Value.none from rc').symm
      | bl z=>exact (show cls=Value.bool z from rc).trans (show c=Value.bool z from rc').symm
      | int z=>obtain ⟨t,rfl⟩:=rc; unfold kitOne kitCls at h2; simp at h2
      | str z=>obtain ⟨t,rfl⟩:=rc; unfold kitOne kitCls at h2; simp at h2
      | byt z=>obtain ⟨t,rfl⟩:=rc; unfold kitOne kitCls at h2; simp at h2
      | flt z=>obtain ⟨t,rfl⟩:=rc; unfold kitOne kitCls at h2; simp at h2
     subst e
     exact kia_one (WV h1) I.kIn hx h2 (fun z=>nomatch z) fun tk=>⟨.bl b,H,I.tok tk,rfl,po _ F H sb .refl (.bl b)⟩
   ·exact tx.elim
 | _=>exact po.elim
theorem QI {σ:St} {H:Hp} {Q:VK} (h:tE C own .sh (d1 (uL ans) fa) σ H Q):Jn (tE C own ma fa) (Jn (tC vc) Zi) σ H fun xs H1=>∃ x F d,xs=[x,vc]/\Same F H1/\TopIs C.K F H1 x d/\PoV C .sh F H1 (uL ans d) Q:=by
 obtain ⟨F,ρ,rp,h⟩:=zk (ma:=ma) h
 refine ⟨F,ρ,rp,?_⟩
 cases q:fa ρ with
 | ok p=>
  rw [q] at h
  obtain ⟨d,ρ1⟩:=p
  intro v F1 H1 rp1 c1 mo1
  obtain ⟨F2,dx,z⟩:=h v F1 H1 rp1 c1 mo1
  exact ⟨v,F2,dx,rfl,z⟩
 | exc c=>rw [q] at h; exact h
 | bad=>rw [q] at h; exact h.elim
theorem km {cn:Str} {Ct:Addr} {p tp:Pos} (hg:Gl X "isinstance") (hm:X.mg "isinstance"=none) (hv:bootBuiltins "isinstance"=some (.builtin "isinstance")) (ht:Gl X cn) (htm:X.mg cn=some (.ref Ct)) (hans:∀ Cc b,ans Cc=some b->xcB X.K Cc=true/\kitOne X.K (.ref Cc) (.ref Ct)=some b) (ha:PE X a (tE C own ma fa)) (hdb:(cn == ("__debug__":Str))=false:=by decide)
  (h1:starEach [a,.Name cn tp] X.env=(false,eval a X.env)::starEach [.Name cn tp] X.env:=by rfl) (h2:starEach [.Name cn tp] X.env=[(false,eval (.Name cn tp) X.env)]:=by rfl):PE X (.Call (.Name "isinstance" p) [a,.Name cn tp] [] pos) (tE C own .sh (d1 (uL ans) fa)):=
 qS (vg (QH (vc:=.ref Ct) hans rfl) hg hm hv (qG ha (qG (Ka (v:=.ref Ct) ht htm rfl hdb) qZ h2) h1) (by decide) (by decide) (by rw [h1]) (by rw [h2]; rfl)) fun σ H Q h=>QI h
theorem YW {cn:Str} {T:String} {p tp:Pos} (hg:Gl X "isinstance") (hm:X.mg "isinstance"=none) (hv:bootBuiltins "isinstance"=some (.builtin "isinstance")) (ht:Gl X cn) (htm:X.mg cn=none) (htv:bootBuiltins cn=some (.type T)) (hans:∀ Cc b,ans Cc=some b->xcB X.K Cc=true/\kitOne X.K (.ref Cc) (.type T)=some b) (ha:PE X a (tE C own ma fa)) (hn:cn ≠ "__name__":=by decide) (hdb:(cn == ("__debug__":Str))=false:=by decide)
  (h1:starEach [a,.Name cn tp] X.env=(false,eval a X.env)::starEach [.Name cn tp] X.env:=by rfl) (h2:starEach [.Name cn tp] X.env=[(false,eval (.Name cn tp) X.env)]:=by rfl):PE X (.Call (.Name "isinstance" p) [a,.Name cn tp] [] pos) (tE C own .sh (d1 (uL ans) fa)):=
 qS (vg (QH (vc:=.ty T) hans rfl) hg hm hv (qG ha (qG (Kb (v:=.ty T) ht htm htv rfl hn hdb) qZ h2) h1) (by decide) (by decide) (by rw [h1]) (by rw [h2]; rfl)) fun σ H Q h=>QI h
end
end L2.D2
namespace L2.D2
open PySem PySem.Spec PyProof.Rows
theorem Vg {P:Program} {w:World} {K:Frag} {mg:Str->Option Value} {base:Heap} {N:List Str} {qual:Str} {scope:Scope} {f:Addr} {cd:Value} {A:Around} {outer:List Env} {s0:Shared} {H0:Hp} {E:XK} {C:Ct} (h:C.E=E):KZ (cxk P w K mg base N qual scope f cd A outer s0 H0 E) C:=by
 subst h
 exact ZG
theorem RoomQ.mono {j k:Nat} {A:Around} (r:RoomQ k A) (h:j<=k):RoomQ j A:=⟨by have:=r.dp; omega,by have:=r.un; omega⟩
noncomputable def ZN (ca:Str->Addr) (cs:List Str) (c:Str):Option Addr:=if c∈cs then some (ca c) else none
noncomputable def zB (ca:Str->Addr) (cs:List Str) (x:Str) (C:Addr):Option Bool:=if C∈cs.map ca then some (decide (C=ca x)) else none
noncomputable def ZO (ca:Str->Addr) (cs:List Str) (C:Addr):Option Bool:=if C∈cs.map ca then some true else none
structure Xs (K:Frag) (cv:Str->Value) (ca:Str->Addr) (cs:List Str) (top:Str):Prop where
 val:∀ c∈cs,cv c=.ref (ca c)
 own:∀ c∈cs,PySem.W.exmOne K (.ref (ca c)) (cv top)=some true
 cls:∀ c∈cs,xcB K (ca c)=true
 kit:∀ c∈cs,∀ d∈cs,PySem.W.kitOne K (.ref (ca c)) (.ref (ca d))=some (decide (ca c=ca d))
 ve:∀ c∈cs,PySem.W.kitOne K (.ref (ca c)) (.type "ValueError")=some true
section
variable {K:Frag} {cv:Str->Value} {ca:Str->Addr} {cs:List Str} {top:Str}
theorem Xs.hit (z:Xs K cv ca cs top):∀ c Cc,ZN ca cs c=some Cc->cv c=.ref Cc/\PySem.W.exmOne K (.ref Cc) (cv top)=some true:=fun c Cc h=>by
 unfold ZN at h
 split at h
 ·cases h
  exact ⟨z.val c (by assumption),z.own c (by assumption)⟩
 ·cases h
theorem Xs.ans (z:Xs K cv ca cs top) {x:Str} (hx:x∈cs):∀ Cc b,zB ca cs x Cc=some b->xcB K Cc=true/\PySem.W.kitOne K (.ref Cc) (.ref (ca x))=some b:=fun Cc b h=>by
 unfold zB at h
 split at h
 ·rename_i hm
  obtain ⟨c,hc,rfl⟩:=List.mem_map.mp hm
  cases h
  exact ⟨z.cls c hc,z.kit c hc x hx⟩
 ·cases h
theorem Xs.ansV (z:Xs K cv ca cs top):∀ Cc b,ZO ca cs Cc=some b->xcB K Cc=true/\PySem.W.kitOne K (.ref Cc) (.type "ValueError")=some b:=fun Cc b h=>by
 unfold ZO at h
 split at h
 ·rename_i hm
  obtain ⟨c,hc,rfl⟩:=List.mem_map.mp hm
  cases h
  exact ⟨z.cls c hc,z.ve c hc⟩
 ·cases h
end
noncomputable def Gz:D->Option Key
 | .int i=>some (.inl i)
 | .str x=>some (.inr x)
 | _=>none
theorem IsK.any {K:Frag} {F:Hp} {k:Key}:∀ {kv:List (Key×V)} {ks:List (Key×D)},IsK K F kv ks->(kv.any fun p=>decide (p.1=k))=(ks.any fun p=>decide (p.1=k))
 | _,_,.nil=>rfl
 | _,_,.cons h t=>by rw [List.any_cons,List.any_cons,IsK.any t]
section
variable {X:Cx} {C:Ct} {pins:List (Addr×Obj)} {σ:St} {F H:Hp} {s:Shared}
theorem Qp {v:V} {u:Value} {d:D} {k:Key} (i:Is C.K F v d) (r:RelV v u) (e:Gz d=some k):gi k u=true:=by
 cases d with
 | int z=>cases i; cases e; obtain ⟨t,rfl⟩:=r; exact xZ z t
 | str z=>cases i; cases e; obtain ⟨t,rfl⟩:=r; exact za z t
 | _=>cases e
noncomputable def qa9 (kvs:List (Key×D)) (k:Key):Bool:=kvs.any fun p=>decide (p.1=k)
noncomputable def UO:D->D->Out D
 | x,.dct kvs=>match Gz x with
  | some k=>.ok (.bl (!qa9 kvs k))
  | none=>.bad
 | x,y=>Jq x y
theorem WW {K:Frag} {kv:List (Key×V)} {ks:List (Key×D)} {k:Key} (h:IsK K F kv ks):(Qn kv k).isSome=qa9 ks k:=by
 rw [<-Qo,h.any]; rfl
theorem qbJ {v:V} {d:D} {k:Key} (h:TopIs C.K F H v d) (e:Gz d=some k):v=kV k:=by
 cases d with
 | int z=>cases e; exact h.int
 | str z=>cases e; exact h.str.1
 | _=>cases e
theorem Vh (hK:C.K=X.K) (hu:X.A.units+64 < cLine):OpD X C .sh (compareOp .NotIn) UO:=by
 intro pins s σ H x y v u Q I rx ry h
 obtain ⟨F,dx,dy,sb,tx,ty,po⟩:=h
 by_cases hd:∃ kvs,dy=.dct kvs
 ·obtain ⟨kvs,rfl⟩:=hd
  cases q:Gz dx with
  | none=>unfold UO at po; simp only [q] at po; exact po.elim
  | some k=>
   unfold UO at po
   simp only [q] at po
   obtain ⟨a,kv,rfl,hH,ik⟩:=ty.dct sb
   cases ry
   have ex:=qbJ tx q
   subst ex
   refine Yw (by omega) I (DGet.k (k:=k) hH) rx fun s' I'=>⟨.bl _,H,I',rfl,?_⟩
   rw [WW ik]
   exact po _ F H sb .refl (.bl _)
 ·have e:UO dx dy=Jq dx dy:=by
   cases dy <;> first | rfl | exact absurd ⟨_,rfl⟩ hd
  rw [e] at po
  exact WD hK hu pins s σ H x y v u Q I rx ry ⟨F,dx,dy,sb,tx,ty,po⟩
end
theorem YX (t:SetTable) (es:Array (Int×Value)) (h:Int) (x:Value):(layNew t es h x).2.1.led=t.led:=by
 unfold layNew
 cases t.freeSlot h with
 | none=>rfl
 | some p=>
  obtain ⟨sl,wd⟩:=p
  show (SetTable.orStandIn (t.put sl).1 _).led=t.led
  unfold SetTable.orStandIn
  split <;> rfl
theorem Vi {t:SetTable} (es:Array (Int×Value)) (h:Int) (x:Value) (e:t.plain=false):(layNew t es h x).2.1.plain=false:=by
 unfold layNew
 cases t.freeSlot h with
 | none=>rfl
 | some p=>
  obtain ⟨sl,wd⟩:=p
  show (SetTable.orStandIn (t.put sl).1 _).plain=false
  unfold SetTable.orStandIn
  split
  ·exact e
  ·rfl
theorem YY {m f v:Nat} {l p:Bool} {hs:Array Int} {t:SetTable} {o:Array Nat} (h:SetTable.laid m f v l p hs=some (t,o)):t.led=l/\t.plain=p:=by
 unfold SetTable.laid at h
 cases e:SetTable.layClean m hs with
 | none=>
  rw [e] at h
  cases h
 | some ow=>
  rw [e] at h
  have h2:=congrArg Prod.fst (Option.some.inj h)
  subst h2
  exact ⟨rfl,rfl⟩
theorem gJ (t:SetTable) (es:Array (Int×Value)) (n:Nat):(relayAll t es n).2.1.led=t.led/\(t.plain=false->(relayAll t es n).2.1.plain=false):=by
 unfold relayAll
 cases e:t.relaid (es.map (·.1)) n with
 | none=>exact ⟨rfl,fun _=>rfl⟩
 | some q=>
  obtain ⟨t',o⟩:=q
  have hk:=YY (show SetTable.laid _ _ _ _ _ _=some (t',o) from e)
  dsimp only
  split
  ·exact ⟨hk.1,fun z=>hk.2.trans z⟩
  ·exact ⟨rfl,fun _=>rfl⟩
noncomputable def wl (ks:List Str) (x:Str):List Str:=if x∈ks then ks else ks++[x]
noncomputable def uM (es:Array (Int×Value)) (ep:Nat) (t:SetTable):Obj:={ cls:=.type "set",dict:=none,data:=.set es ep t,slots:=#[] }
structure SetD (prog:Program) (w:World) (es:Array (Int×Value)) (t:SetTable) (ks:List Str):Prop where
 el:ElemsOf (PySem.strKind prog w) es.toList
 perm:(es.toList.map fun e=>strOf e.2).Perm ks
 nd:ks.Nodup
 bd:es.size < scanBound
 fits:t.fits es.size=true
 led:t.led=!(w.params.followText "set-order")
 plain:ks≠[]->t.plain=false
def SetS (prog:Program) (w:World) (h:Heap) (a:Addr) (ks:List Str):Prop:=∃ es ep t,h.get? a=some (uM es ep t)/\SetD prog w es t ks
section
variable {prog:Program} {w:World} {A:Around} {E:Value->Shared->Prop} {s:Shared}
theorem UP {l:List (Int×Value)} (h:ElemsOf (PySem.strKind prog w) l) {e:Int×Value} (he:e∈l):∃ x t,e.2=.str x t:=by
 obtain ⟨⟨k,hk,_⟩,_⟩:=h e he
 obtain ⟨t,ht⟩:=Value.isStrOf_shape hk
 exact ⟨k,t,ht⟩
theorem isS {x y:Str} {t:Tok}:(PySem.strKind prog w).is x (.str y t)=decide (x=y):=by
 have h:(PySem.strKind prog w).is y (.str y t)=true:=by
  show Value.isStrOf y (.str y t)=true
  simp [Value.isStrOf]
 exact KeyKind.is_eq_decide h x
theorem SetD.mem {es:Array (Int×Value)} {t:SetTable} {ks:List Str} (h:SetD prog w es t ks) {x:Str}:x∈ks↔∃ e∈es.toList,(PySem.strKind prog w).is x e.2=true:=by
 rw [<-h.perm.mem_iff,List.mem_map]
 constructor
 ·rintro ⟨e,he,z⟩
  obtain ⟨y,t,hy⟩:=UP h.el he
  refine ⟨e,he,?_⟩
  rw [hy] at z ⊢
  rw [isS]
  exact decide_eq_true z.symm
 ·rintro ⟨e,he,z⟩
  obtain ⟨y,t,hy⟩:=UP h.el he
  refine ⟨e,he,?_⟩
  rw [hy] at z ⊢
  rw [isS] at z
  exact (of_decide_eq_true z).symm
theorem SetD.size {es:Array (Int×Value)} {t:SetTable} {ks:List Str} (h:SetD prog w es t ks):es.size=ks.length:=by
 have e:=h.perm.length_eq
 simpa using e
theorem UQ {h:Heap} {a:Addr} {es es':Array (Int×Value)} {ep:Nat} {t t':SetTable} (ho:h.get? a=some (uM es ep t)):(h.update a (Obj.putSet es' t')).get? a=some (uM es' (ep+1) t'):=by
 have e:=Heap.get?_update_self (Obj.putSet es' t') ho (by rw [putSet_of (o:=uM es ep t) es' t' rfl]; rfl)
 rw [putSet_of (o:=uM es ep t) es' t' rfl] at e
 exact e
theorem SetD.more {es es1:Array (Int×Value)} {t t1:SetTable} {ks:List Str} {x:Str} {tk:Tok} (h:SetD prog w es t ks) (nx:x∉ks) (hr:ks.length+1 < scanBound)
  (hp:es1.toList.Perm (es.toList++[((PySem.strKind prog w).hash x,.str x tk)])) (hf:t1.fits es1.size=true) (hl:t1.led=t.led) (hq:t1.plain=false):SetD prog w es1 t1 (wl ks x):=by
 have ex:wl ks x=ks++[x]:=if_neg nx
 have hz:es1.size=ks.length+1:=by
  rw [<-Array.length_toList,hp.length_eq,List.length_append,Array.length_toList,h.size]
  rfl
 rw [ex]
 refine ⟨(h.el.push (by rw [isS]; exact decide_eq_true rfl) rfl).perm hp,?_,?_,?_,hf,hl.trans h.led,fun _=>hq⟩
 ·refine (hp.map _).trans ?_
  rw [List.map_append]
  exact h.perm.append (List.Perm.refl _)
 ·exact List.nodup_append.mpr ⟨h.nd,by simp,fun a ha b hb=>by rw [List.mem_singleton.mp hb]; exact fun z=>nx (z ▸ ha)⟩
 ·rw [hz]
  exact hr
theorem YZ {a:Addr} {ks:List Str} {x:Str} {tk:Tok} {Q:Bool->Shared->Prop} (hS:SetS prog w s.heap a ks) (hr:ks.length+1 < scanBound)
  (h:∀ h' b,Heap.SameBut a s.heap h'->SetS prog w h' a (wl ks x)->Q b { s with heap:=h' }):wpAny (model prog w) A (setAddHashed a (.str x tk) ((PySem.strKind prog w).hash x)) Q E s:=by
 obtain ⟨es,ep,t,ho,d⟩:=hS
 have hk:(PySem.strKind prog w).is x (.str x tk)=true:=by rw [isS]; exact decide_eq_true rfl
 unfold setAddHashed setAddHashedIn
 refine wpAny_holding (wpAny_bind (wpAny_setState_of ho rfl d.fits ?_))
 dsimp only
 rw [byScan_of rfl d.bd d.el,if_pos rfl]
 unfold setAddByScan
 refine wpAny_bind (wpAny_bind (wpAny_rule (wpAny_bind (wpAny_setScan_of hk ho rfl d.fits d.el ?_))))
 cases hq:es.toList.findIdx? (fun e=>(PySem.strKind prog w).is x e.2) with
 | some j=>
  obtain ⟨hj,hp,_⟩:=List.findIdx?_eq_some_iff_getElem.mp hq
  have hx:x∈ks:=d.mem.mpr ⟨_,List.getElem_mem hj,hp⟩
  have q:=h s.heap false (Heap.SameBut.refl a s.heap) ⟨es,ep,t,ho,by rw [show wl ks x=ks from if_pos hx]; exact d⟩
  dsimp only
  exact wpAny_pure (wpAny_pure q)
 | none=>
  have hx:x∉ks:=fun z=>by
   obtain ⟨e,he,q⟩:=d.mem.mp z
   have:=List.findIdx?_eq_none_iff.mp hq e he
   rw [q] at this
   cases this
  dsimp only
  have hp:=layNew_perm t es ((PySem.strKind prog w).hash x) (.str x tk)
  have hf:=layNew_fits t es ((PySem.strKind prog w).hash x) (.str x tk)
  have hl:=YX t es ((PySem.strKind prog w).hash x) (.str x tk)
  have hn:=fun e=>Vi (t:=t) es ((PySem.strKind prog w).hash x) (.str x tk) e
  generalize layNew t es ((PySem.strKind prog w).hash x) (.str x tk)=L at hp hf hl hn ⊢
  obtain ⟨es1,t1,wd,gv⟩:=L
  dsimp only at hp hf hl hn ⊢
  rw [Array.toList_push] at hp
  have tail:∀ t2:SetTable,t2.fits es1.size=true->t2.led=t.led->t2.plain=false->wpAny (model prog w) A (do
    storeSet a es1 t2
    if (!wd&&t2.tooFull)=true then do
      (match (relayAll t2 es1 (SetTable.grown es1.size)).2.2 with | true=>rule "set.scan.the-table-gave-way" | false=>pure ())
      storeSet a (relayAll t2 es1 (SetTable.grown es1.size)).1 (relayAll t2 es1 (SetTable.grown es1.size)).2.1
      pure (some true)
     else pure (some true)) (fun r s'=>∃ h',s'={ s with heap:=h' }/\r=some true/\Heap.SameBut a s.heap h'/\SetS prog w h' a (wl ks x)) E s:=by
   intro t2 f2 l2 p2
   have d2:=d.more hx hr hp f2 l2 p2
   refine wpAny_bind (wpAny_storeSet_of ho rfl ?_ (fits_of_scanBound d2.bd))
   have ho1:=UQ (es':=es1) (t':=t2) ho
   have sb:=Heap.SameBut.update s.heap a (Obj.putSet es1 t2)
   split
   ·have rp:=relayAll_perm t2 es1 (SetTable.grown es1.size)
    have rf:=relayAll_fits t2 es1 (SetTable.grown es1.size)
    have rk:=gJ t2 es1 (SetTable.grown es1.size)
    generalize relayAll t2 es1 (SetTable.grown es1.size)=R at rp rf rk ⊢
    obtain ⟨es2,t3,g2⟩:=R
    dsimp only at rp rf rk ⊢
    have d3:=d.more hx hr (rp.trans hp) rf (rk.1.trans l2) (rk.2 p2)
    refine wpAny_bind ?_
    have go:wpAny (model prog w) A (storeSet a es2 t3 >>= fun _=>pure (some true)) (fun r s'=>∃ h',s'={ s with heap:=h' }/\r=some true/\Heap.SameBut a s.heap h'/\SetS prog w h' a (wl ks x)) E { s with heap:=s.heap.update a (Obj.putSet es1 t2) }:=
     wpAny_bind (wpAny_storeSet_of ho1 rfl (wpAny_pure ⟨_,rfl,rfl,sb.trans (Heap.SameBut.update _ a _),es2,_,t3,UQ ho1,d3⟩) (fits_of_scanBound d3.bd))
    cases g2
    ·exact wpAny_pure go
    ·exact wpAny_rule go
   ·exact wpAny_pure ⟨_,rfl,rfl,sb,es1,_,t2,ho1,d2⟩
  have fin:∀ (r:Option Bool) (s':Shared),(∃ h',s'={ s with heap:=h' }/\r=some true/\Heap.SameBut a s.heap h'/\SetS prog w h' a (wl ks x)) ->
    wpAny (model prog w) A (match r with | some added=>pure added | none=>setAddHashedIn a (.str x tk) ((PySem.strKind prog w).hash x) 99999) Q E s':=by
   rintro r s' ⟨h',rfl,rfl,sb,hS⟩
   exact wpAny_pure (h h' true sb hS)
  have gw:∀ (b:Bool) {s₁:Shared} {Q':Unit->Shared->Prop},Q' () s₁->wpAny (model prog w) A (match b with | true=>rule "set.scan.the-table-gave-way" | false=>pure ()) Q' E s₁:=fun b s₁ Q' q=>by
   cases b
   ·exact wpAny_pure q
   ·exact wpAny_rule q
  refine wpAny_bind (gw _ ?_)
  cases e1:t1.plain with
  | true=>
   rw [if_pos rfl,hashByValue_scannable 8 (x:=.str x tk) rfl]
   refine wpAny_bind (wpAny_pure ?_)
   show wpAny _ _ (storeSet a es1 { t1 with plain:=false } >>= _) _ _ _
   exact wpAny_mono (tail { t1 with plain:=false } (SetTable.fits_plain_off hf) hl rfl) fin fun _ _ z=>z
  | false=>
   rw [if_neg (by simp)]
   refine wpAny_bind (wpAny_pure ?_)
   show wpAny _ _ (storeSet a es1 t1 >>= _) _ _ _
   exact wpAny_mono (tail t1 hf hl e1) fin fun _ _ z=>z
end
theorem WX (ks:List Str) (x:Str):(wl ks x).length<=ks.length+1:=by
 unfold wl
 split
 ·omega
 ·rw [List.length_append]
  exact Nat.le_refl _
theorem zC:∀ (l ks:List Str),(l.foldl wl ks).length<=ks.length+l.length
 | [],ks=>Nat.le_refl _
 | x::l,ks=>by
  have h1:=zC l (wl ks x)
  have h2:=WX ks x
  rw [List.foldl_cons,List.length_cons]
  omega
theorem SetS.at {prog:Program} {w:World} {h h':Heap} {a:Addr} {ks:List Str} (hS:SetS prog w h a ks) (k:∀ o,h.get? a=some o->h'.get? a=some o):SetS prog w h' a ks:=
 let ⟨es,ep,t,ho,d⟩:=hS; ⟨es,ep,t,k _ ho,d⟩
section
variable {prog:Program} {w:World} {A:Around} {R:Result->Shared->Prop} {I:Addr} {fp wr:List Addr} {n:Nat} {P:Nat->Value->Prop} {St:Nat->Shared->Prop}
theorem QJ {G:Array GenState->Array GenState->Prop} (W:WalksS prog w A.in1 I fp wr G n P St) (S:Addr) (hSf:S∉fp) (ss:List Str) (hn:ss.length=n) (hv:∀ i v,P i v->∃ x t,ss[i]?=some x/\v=.str x t) (hb:n+1 < scanBound) :
  ∀ (k i:Nat) (s:Shared),n - i=k->i<=n->St i s->SetS prog w s.heap S ((ss.take i).foldl wl []) ->
   (∀ s',Moved (S::wr) G s s'->SetS prog w s'.heap S (ss.foldl wl [])->R (.ok (.ret .none)) s')->codeAny (model prog w) A (.builtin "set.update.loop" ⟨[.ref S,.ref I],[]⟩) R s:=by
 have nw:S∉wr:=fun h=>hSf (W.sub _ h)
 have up:∀ b∈wr,b∈S::wr:=fun b hb=>List.mem_cons_of_mem _ hb
 intro k
 induction k with
 | zero=>
  intro i s hk hi hst hS hR
  have hin:i=n:=by omega
  subst hin
  refine codeAny_builtin F.entry_set_update_loop ?_
  rw [Around.under_plainId F.plain_set_update_loop _]; show wpAny _ A.in1 (pyNext (.ref I) >>= _) _ _ s
  refine wpAny_bind (W.done s _ _ hst fun s' hm=>wpAny_pure (hR s' (hm.mono up) ?_))
  rw [List.take_of_length_le (Nat.le_of_eq hn)] at hS
  exact hS.at fun o e=>hm.heap S o nw e
 | succ k ih=>
  intro i s hk hi hst hS hR
  have hlt:i < n:=by omega
  refine codeAny_builtin F.entry_set_update_loop ?_
  rw [Around.under_plainId F.plain_set_update_loop _]; show wpAny _ A.in1 (pyNext (.ref I) >>= _) _ _ s
  refine wpAny_bind (W.item i s _ _ hlt hst fun v s' hP hst' hm=>?_)
  obtain ⟨x,t,hx,rfl⟩:=hv i v hP
  have hS':SetS prog w s'.heap S ((ss.take i).foldl wl []):=hS.at fun o e=>hm.heap S o nw e
  show wpAny _ A.in1 (holding [Value.str x t] (setAdd S (.str x t)) >>= _) _ _ s'
  refine wpAny_bind (wpAny_holding ?_)
  unfold setAdd
  refine wpAny_holding (wpAny_bind ((PySem.strKind prog w).pyHash (k:=x) (by rw [isS]; exact decide_eq_true rfl) ?_))
  have hroom:((ss.take i).foldl wl []).length+1 < scanBound:=by
   have h1:=zC (ss.take i) []
   rw [List.length_take,List.length_nil] at h1
   omega
  refine YZ (s:={ s' with toks:=s'.toks+1 }) hS' hroom fun h' b sb hS2=>?_
  have e2:wl ((ss.take i).foldl wl []) x=(ss.take (i+1)).foldl wl []:=by
   rw [List.take_add_one,hx,List.foldl_append]
   rfl
  rw [e2] at hS2
  refine wpAny_pure ⟨plainId_quiet F.plain_set_update_loop _,ih (i+1) _ (by omega) hlt (W.frame _ s' _ _ hst' (Nat.le_succ _) fun b hb o e=>?_) hS2 fun s'' hm'' hS''=>?_⟩
  ·rw [sb.2 b fun z:b=S=>hSf (z ▸ hb)]
   exact e
  ·refine hR s'' (Moved.trans W.gtrans ((hm.mono up).then_heap (Nat.le_succ _) fun b o hb e=>?_) hm'') hS''
   rw [sb.2 b fun z:b=S=>hb (z ▸ List.mem_cons_self)]
   exact e
end
section
variable {prog:Program} {w:World} {A:Around} {E:Value->Shared->Prop} {s:Shared}
abbrev ZP (w:World):Obj:=uM #[] 0 (.fresh 0 0 (!(w.params.followText "set-order")))
theorem zD {h:Heap} {a:Addr} (e:h.get? a=some (ZP w)):SetS prog w h a []:=
 ⟨_,_,_,e,⟨fun e he=>by simp at he,by simp,List.nodup_nil,by decide,by rfl,rfl,fun z=>absurd rfl z⟩⟩
theorem Xa (a:Value) {Q₁:Value->Shared->Prop} (h:Q₁ (.ref s.heap.objs.size) { s with heap:=s.heap.push (ZP w) }) :
  codeAny (model prog w) A (.call (.builtin "set.__new__") ⟨[.type "set",a],[]⟩) (wants Q₁ E) s:=by
 refine codeAny_of_tree ?_; show wpAny _ A.in1 (do checkBuiltinCall "set.__new__" ⟨[.type "set",a],[]⟩; again (.builtin "set.__new__" ⟨[.type "set",a],[]⟩)) _ _ s
 refine wpAny_bind (wpAny_of_eq (PySem.F.newCall_set_1 a) (wpAny_pure ⟨plainId_quiet PySem.F.plain_set_new _,codeAny_builtin PySem.F.entry_set_new ?_⟩)); rw [Around.under_plainId PySem.F.plain_set_new _]
 unfold Builtin.«set.__new__» Builtin.Frozenset.newClass; have hsub:=sub_set_self; obtain ⟨hp,g,d,tk,os⟩:=s; dsimp only; wp_walk
 refine wpAny_askSetting (wpAny_pure ?_); dsimp only; simp only [newObj]
 exact wpAny_bind (wpAny_alloc (wpAny_pure (wpAny_pure h)))
theorem gK:isSubtype (.type "tuple") (.type "set")=pure false:=by rw [isSubtype_type]; kernel_rfl
theorem yu:isSubtype (.type "tuple") (.type "frozenset")=pure false:=by rw [isSubtype_type]; kernel_rfl
theorem Vj {vs:List Value} {ss:List Str} (h:StrsAre vs ss) {i:Nat} {v:Value} (e:vs[i]?=some v):∃ x t,ss[i]?=some x/\v=.str x t:=by
 obtain ⟨y,t,e1,e2⟩:=h.item i v e
 exact ⟨y,t,e2,e1⟩
theorem WY {S l:Addr} {items:Array Value} {ss:List Str} {Q:Unit->Shared->Prop} (hh:A.handled=none) (hS:SetS prog w s.heap S []) (hl:s.heap.IsList l items) (hi:StrsAre items.toList ss) (hb:items.size+1 < scanBound) (hne:l≠S)
  (h:∀ h' tk,SetS prog w h' S (ss.foldl wl [])->(∀ b o,b≠S->s.heap.get? b=some o->h'.get? b=some o)->Q () { s with heap:=h',toks:=tk }) :
  wpAny (model prog w) A (Builtin.Frozenset.updateFrom "set.__init__" S (.ref l)) Q E s:=by
 have hT:s.TypeIs (.ref l) "list":=let ⟨o,e,c,_⟩:=hl; ⟨o,e,c⟩
 unfold Builtin.Frozenset.updateFrom
 refine wpAny_bind (m:=Builtin.Frozenset.isAnySet _) ?_
 unfold Builtin.Frozenset.isAnySet
 refine wpAny_bind (wpAny_isInstance hT PySem.F.sub_list_set ?_)
 refine wpAny_isInstance hT PySem.F.sub_list_frozenset ?_
 rw [if_neg (by decide)]
 refine wpAny_bind (wpAny_typeOf hT ?_)
 rw [if_neg (by decide)]
 refine wpAny_bind (wpAny_pyIter_list hl ?_)
 have hz:s.heap.objs.size≠S:=fun z=>by
  obtain ⟨es,ep,t,ho,_⟩:=hS
  exact Nat.lt_irrefl _ (z ▸ Heap.lt_size ho)
 have hzl:l≠s.heap.objs.size:=by
  obtain ⟨o,e,_⟩:=hl
  exact Nat.ne_of_lt (Heap.lt_size e)
 refine wpAny_bind (wpAny_runValue (QJ ((Walks.list (A:=A.in1) hh _ l hzl items).toS) S ?_ ss (by rw [<-hi.length]; simp) (fun i v e=>Vj hi (by rw [Array.getElem?_toList]; exact e)) hb items.size 0 _ (by omega) (Nat.zero_le _) ⟨⟨_,Heap.get?_push_size _ rfl,rfl,rfl⟩,hl.push _⟩ ?_ ?_))
 ·intro z
  rcases List.mem_cons.mp z with z | z
  ·exact hz z.symm
  ·exact hne (List.mem_singleton.mp z).symm
 ·exact hS.at fun o e=>Heap.get?_push_of_some _ e
 ·intro s' hm hS'
  obtain ⟨h',g',d',tk',os'⟩:=s'
  have eg:g'=s.gens:=hm.gens
  have ed:d'=s.drawn:=hm.drawn
  have eo:os'=s.os:=hm.os
  subst eg ed eo
  refine wpAny_pure (h h' tk' hS' fun b o hb e=>hm.heap b o ?_ (Heap.get?_push_of_some _ e))
  intro z
  rcases List.mem_cons.mp z with z | z
  ·exact hb z
  ·rw [List.mem_singleton.mp z] at e
   exact Nat.lt_irrefl _ (Heap.lt_size e)
theorem Vk {S l:Addr} {items:Array Value} {ss:List Str} {Q:Unit->Shared->Prop} (hh:A.handled=none) (hS:SetS prog w s.heap S []) (hl:s.heap.IsTuple l items) (hi:StrsAre items.toList ss) (hb:items.size+1 < scanBound) (hne:l≠S)
  (h:∀ h' tk,SetS prog w h' S (ss.foldl wl [])->(∀ b o,b≠S->s.heap.get? b=some o->h'.get? b=some o)->Q () { s with heap:=h',toks:=tk }) :
  wpAny (model prog w) A (Builtin.Frozenset.updateFrom "set.__init__" S (.ref l)) Q E s:=by
 have hT:s.TypeIs (.ref l) "tuple":=let ⟨o,e,c,_⟩:=hl; ⟨o,e,c⟩
 unfold Builtin.Frozenset.updateFrom
 refine wpAny_bind (m:=Builtin.Frozenset.isAnySet _) ?_
 unfold Builtin.Frozenset.isAnySet
 refine wpAny_bind (wpAny_isInstance hT gK ?_)
 refine wpAny_isInstance hT yu ?_
 rw [if_neg (by decide)]
 refine wpAny_bind (wpAny_typeOf hT ?_)
 rw [if_neg (by decide)]
 refine wpAny_bind (wpAny_pyIter_tuple hl ?_)
 have hz:s.heap.objs.size≠S:=fun z=>by
  obtain ⟨es,ep,t,ho,_⟩:=hS
  exact Nat.lt_irrefl _ (z ▸ Heap.lt_size ho)
 have hzl:l≠s.heap.objs.size:=by
  obtain ⟨o,e,_⟩:=hl
  exact Nat.ne_of_lt (Heap.lt_size e)
 refine wpAny_bind (wpAny_runValue (QJ ((Walks.tuple (A:=A.in1) hh _ l hzl items).toS) S ?_ ss (by rw [<-hi.length]; simp) (fun i v e=>Vj hi (by rw [Array.getElem?_toList]; exact e)) hb items.size 0 _ (by omega) (Nat.zero_le _) ⟨⟨_,Heap.get?_push_size _ rfl,rfl,rfl⟩,?_⟩ ?_ ?_))
 ·intro z
  rcases List.mem_cons.mp z with z | z
  ·exact hz z.symm
  ·exact hne (List.mem_singleton.mp z).symm
 ·obtain ⟨o,e,c⟩:=hl
  exact ⟨o,Heap.get?_push_of_some _ e,c⟩
 ·exact hS.at fun o e=>Heap.get?_push_of_some _ e
 ·intro s' hm hS'
  obtain ⟨h',g',d',tk',os'⟩:=s'
  have eg:g'=s.gens:=hm.gens
  have ed:d'=s.drawn:=hm.drawn
  have eo:os'=s.os:=hm.os
  subst eg ed eo
  refine wpAny_pure (h h' tk' hS' fun b o hb e=>hm.heap b o ?_ (Heap.get?_push_of_some _ e))
  intro z
  rcases List.mem_cons.mp z with z | z
  ·exact hb z
  ·rw [List.mem_singleton.mp z] at e
   exact Nat.lt_irrefl _ (Heap.lt_size e)
set_option maxHeartbeats 3200000 in
theorem zE {l:Addr} {ks:List Str} {Q:Value->Shared->Prop}
  (hup:∀ (A1:Around) (Q1:Unit->Shared->Prop) (E1:Value->Shared->Prop),A1.handled=A.handled->(∀ h' tk,SetS prog w h' s.heap.objs.size ks->(∀ b o,s.heap.get? b=some o->h'.get? b=some o)->Q1 () { s with heap:=h',toks:=tk }) ->
   wpAny (model prog w) A1 (Builtin.Frozenset.updateFrom "set.__init__" s.heap.objs.size (.ref l)) Q1 E1 { s with heap:=s.heap.push (ZP w) })
  (h:∀ h' tk,SetS prog w h' s.heap.objs.size ks->(∀ b o,s.heap.get? b=some o->h'.get? b=some o)->Q (.ref s.heap.objs.size) { s with heap:=h',toks:=tk }) :
  wpAny (model prog w) A (call (.type "set") [.ref l]) Q E s:=by
 have hnew:∀ {Q₁:Value->Shared->Prop},Q₁ (.ref s.heap.objs.size) { s with heap:=s.heap.push (ZP w) }->codeAny (model prog w) A.in1 (.call (.builtin "set.__new__") ⟨[.type "set",.ref l],[]⟩) (wants Q₁ E) s:=fun h=>Xa (.ref l) h
 unfold ZP uM at hnew hup
 generalize (!(w.params.followText "set-order"))=led at hnew hup
 obtain ⟨c,tl,hmro⟩:=PySem.F.called_set.mro
 have hmade:=PySem.F.called_set.made
 have hsub:=PySem.F.called_set.sub
 refine wpAny_call (codeAny_of_tree ?_); show wpAny _ _ (callAny (.type "set") _) _ _ _
 refine wpAny_pure ⟨Code.quiet_builtin _ (by decide +kernel),codeAny_builtin PySem.F.entry_type_call ?_⟩; rw [Around.under_plain (weight_type_call_type "set" [.ref l] []) rfl]
 have h1:=PySem.F.called_set.notType
 have h2:=PySem.F.called_set.canCreate
 have hct:=PySem.F.typeCall_set_1 (.ref l)
 repeat (any_goals (first | assumption | wp_step))
 refine codeAny_mono (hnew (Q₁:=fun obj s₁=>obj=.ref s.heap.objs.size/\s₁={ s with heap:=s.heap.push { cls:=.type "set",dict:=none,data:=.set #[] 0 (.fresh 0 0 led) } }) ⟨rfl,rfl⟩) fun r s₁ hr=>?_
 cases r with
 | error e=>exact hr
 | ok fl=>
  cases fl with
  | ret obj=>
   obtain ⟨rfl,rfl⟩:=hr
   have hS:(s.heap.push { cls:=.type "set",dict:=none,data:=.set #[] 0 (.fresh 0 0 led) }).get? s.heap.objs.size=some { cls:=.type "set",dict:=none,data:=.set #[] 0 (.fresh 0 0 led) }:=Heap.get?_push_size _ rfl
   have hT:Shared.TypeIs { s with heap:=s.heap.push { cls:=.type "set",dict:=none,data:=.set #[] 0 (.fresh 0 0 led) } } (.ref s.heap.objs.size) "set":=⟨_,hS,rfl⟩
   have hli:=PySem.F.called_set.init.lookup
   have hbi:=PySem.F.called_set.init.bind (.ref s.heap.objs.size)
   repeat (any_goals (first | assumption | wp_step))
   refine codeAny_mono (codeAny_call_builtin (R:=wants (fun r s₂=>r=.none/\∃ h' tk,s₂={ s with heap:=h',toks:=tk }/\SetS prog w h' s.heap.objs.size ks/\(∀ b o,s.heap.get? b=some o->h'.get? b=some o)) E) PySem.F.called_set.init.plain PySem.F.entry_set_init (check_set_init_1 hT ?_)) fun r₂ s₂ hr₂=>?_
   ·unfold Builtin.«set.__init__» noKeywords
    generalize hU:Builtin.Frozenset.updateFrom=U
    wp_walk
    subst hU
    refine hup _ _ _ rfl fun h' tk hS' hk=>?_
    exact wpAny_pure ⟨rfl,h',tk,rfl,hS',hk⟩
   ·cases r₂ with
    | error e=>exact hr₂
    | ok fl₂=>
     cases fl₂ with
     | ret r=>
      obtain ⟨rfl,h',tk,rfl,hS',hk'⟩:=hr₂
      repeat (any_goals (first | assumption | wp_step))
      exact h _ _ hS' hk'
     | _=>exact hr₂.elim
  | _=>exact hr.elim
end
section
variable {prog:Program} {w:World} {A:Around} {E:Value->Shared->Prop} {s:Shared}
variable {z TI TO i1 i2:Addr} {fp1 fp2:List Addr} {n1 n2 i:Nat} {P1 P2:Nat->Value->Prop} {S1 S2:Nat->Heap->Prop} {a b:Value}
end
inductive SK where
 | l | t
noncomputable def SK.itc:SK->String
 | .l => "list_iterator"
 | .t => "tuple_iterator"
def ItK (h:Heap) (it a:Addr):SK->Nat->Prop
 | .l,i=>h.IsListIter it a i
 | .t,i=>h.IsTupleIter it a i
theorem ItK.obj {h:Heap} {it a:Addr} {i:Nat}:∀ {k:SK},ItK h it a k i->∃ o,h.get? it=some o/\o.cls=.type k.itc/\o.data=.fields #[.ref a,.int i 0]
 | .l,⟨o,e,c,d⟩=>⟨o,e,c,d⟩
 | .t,⟨o,e,c,d⟩=>⟨o,e,c,d⟩
section
variable {X:Cx} {pins:List (Addr×Obj)} {σ:St} {H:Hp} {s:Shared} {h':Heap}
theorem Vl {t':Nat} {ch:List Addr} (I:Inv X pins σ H s) (k:∀ b o,b∉ch->s.heap.get? b=some o->h'.get? b=some o) (hf:∀ b∈ch,uw X pins H b):Inv X pins σ H { s with heap:=h',toks:=t' }:=by
 have nit:∀ b u,H b=some u->b∉ch:=fun b u e z=>by
  rw [(hf b z).1] at e
  cases e
 refine I.step (g':=s.gens) (d':=s.drawn) (ch:=ch) (fun b hb=>?_) (fun b o _ _ hc e _=>k b o hc e) (fun b o _ _ hc e _=>⟨o.slots,k b o hc e⟩) (fun _ _ _ _ n=>n) (fun b o hc e=>⟨o,k b o hc e⟩) (fun _ _ e=>e) (fun _ _ _ e=>e) (fun b ps e=>⟨#[],by rw [e]; simp⟩) (fun m hm=>?_) (fun b u e=>?_) I.bare
 ·obtain ⟨f0,f1,f2,f3,f4,f5⟩:=hf b hb
  exact ⟨f3,f1,f4,f5⟩
 ·obtain ⟨o,es,ep,ho,r⟩:=hm
  exact ⟨o,es,ep,k _ o (fun z=>(hf _ z).2.1 rfl) ho,r⟩
 ·refine (I.hok b u e).stay (fun c v hc q=>k c v ?_ q) (fun _ q=>q) fun _ _ q=>q
  rcases hc with z | z
  ·rw [z]
   exact nit b u e
  ·exact nit c _ z
end
theorem Vm {xs:List V} {us:List Value} (r:Vals xs us) {i:Nat} {u:Value} (h:us[i]?=some u):∃ x,xs[i]?=some x/\RelV x u:=by
 have hi:i < us.length:=(List.getElem?_eq_some_iff.mp h).1
 have hx:i < xs.length:=by rw [r.length]; exact hi
 obtain ⟨u',h1,h2⟩:=r.get (List.getElem?_eq_getElem hx)
 rw [h] at h1
 cases h1
 exact ⟨xs[i],List.getElem?_eq_getElem hx,h2⟩
def leS (x y:Str):Prop:=¬y.cps.toList < x.cps.toList
noncomputable def XG (x:Str):List Str->List Str
 | []=>[x]
 | y::l=>if vF y x=true then y::XG x l else x::y::l
noncomputable def xp:List Str->List Str
 | []=>[]
 | x::l=>XG x (xp l)
theorem zF {x y z:Str} (a:leS x y) (b:leS y z):leS x z:=List.le_trans (α:=Nat) a b
theorem Vn (x y:Str):leS x y\/leS y x:=List.le_total (α:=Nat) x.cps.toList y.cps.toList
theorem WZ {x y:Str} (a:leS x y) (b:leS y x):x=y:=by
 have e:=List.le_antisymm (α:=Nat) (as:=x.cps.toList) (bs:=y.cps.toList) a b
 obtain ⟨⟨l⟩⟩:=x
 obtain ⟨⟨m⟩⟩:=y
 simp at e
 rw [e]
theorem strLt_false {x y:Str}:vF y x=false↔leS x y:=by
 unfold vF leS
 exact decide_eq_false_iff_not
theorem uN (x:Str):∀ l,(XG x l).Perm (x::l)
 | []=>List.Perm.refl _
 | y::l=>by
  unfold XG
  split
  ·exact ((uN x l).cons y).trans (List.Perm.swap _ _ _)
  ·exact List.Perm.refl _
theorem vt:∀ l,(xp l).Perm l
 | []=>List.Perm.refl _
 | x::l=>(uN x _).trans ((vt l).cons x)
theorem uO (x:Str):∀ l,l.Pairwise leS->(XG x l).Pairwise leS
 | [],_=>List.pairwise_singleton _ _
 | y::l,h=>by
  have h0:=List.pairwise_cons.mp h
  unfold XG
  split
  ·rename_i hlt
   have hyx:leS y x:=by
    rcases Vn y x with q | q
    ·exact q
    ·rw [<-strLt_false] at q
     rw [q] at hlt
     cases hlt
   refine List.pairwise_cons.mpr ⟨fun z hz=>?_,uO x l h0.2⟩
   rcases List.mem_cons.mp ((uN x l).mem_iff.mp hz) with rfl | hz
   ·exact hyx
   ·exact h0.1 z hz
  ·rename_i hlt
   have hxy:leS x y:=strLt_false.mp (by cases e:vF y x with | true=>exact absurd e hlt | false=>rfl)
   refine List.pairwise_cons.mpr ⟨fun z hz=>?_,h⟩
   rcases List.mem_cons.mp hz with rfl | hz
   ·exact hxy
   ·exact zF hxy (h0.1 z hz)
theorem wL:∀ l,(xp l).Pairwise leS
 | []=>List.Pairwise.nil
 | x::l=>uO x _ (wL l)
theorem zG:∀ {l m:List Str},l.Perm m->l.Pairwise leS->m.Pairwise leS->l=m
 | [],m,p,_,_=>p.nil_eq
 | x::l,[],p,_,_=>absurd p.length_eq (by simp)
 | x::l,y::m,p,hl,hm=>by
  have a:=List.pairwise_cons.mp hl
  have b:=List.pairwise_cons.mp hm
  have exy:x=y:=by
   have h1:y∈x::l:=p.mem_iff.mpr (List.mem_cons_self ..)
   have h2:x∈y::m:=p.mem_iff.mp (List.mem_cons_self ..)
   rcases List.mem_cons.mp h1 with e | e
   ·exact e.symm
   ·rcases List.mem_cons.mp h2 with e' | e'
    ·exact e'
    ·exact WZ (a.1 y e) (b.1 x e')
  subst exy
  rw [zG p.cons_inv a.2 b.2]
theorem yK:∀ (x:Str) (l:List Str),risingS x l=true->(x::l).Pairwise leS
 | x,[],_=>List.pairwise_singleton _ _
 | x,y::l,h=>by
  have h:(!ltCps y.cps.toList x.cps.toList&&risingS y l)=true:=h
  rw [Bool.and_eq_true] at h
  have ih:=yK y l h.2
  have hxy:leS x y:=by
   have h1:=h.1
   rw [ltCps_eq] at h1
   unfold leS
   simpa using h1
  refine List.pairwise_cons.mpr ⟨fun z hz=>?_,ih⟩
  rcases List.mem_cons.mp hz with rfl | hz
  ·exact hxy
  ·exact zF hxy ((List.pairwise_cons.mp ih).1 z hz)
theorem gL:∀ (l:List Str),sortedS l=true->l.Pairwise leS
 | [],_=>List.Pairwise.nil
 | x::l,h=>yK x l h
theorem Vo {ss ks:List Str} (p:ss.Perm ks) (h:sortedS ss=true):ss=xp ks:=zG (p.trans (vt ks).symm) (gL ss h) (wL ks)
noncomputable def uP:List D->Option (List Str)
 | []=>some []
 | .str x::l=>(uP l).map (x::·)
 | _::_=>none
noncomputable def QK:D->Option (List Str)
 | .lst ds=>uP ds
 | .tup ds=>uP ds
 | _=>none
noncomputable def GA (P:Program) (w:World) (p:Addr) (ks:List Str):HO:=.ext fun h=>SetS P w h p ks
theorem Xb {P:Program} {w:World} {H:Hp} {h:Heap} {p:Addr} {ks:List Str} (x:SetS P w h p ks):ObjOk P w H h p (GA P w p ks):=
 ⟨x,let ⟨_,_,_,e,_⟩:=x; ⟨_,e⟩,fun _ _ a k=>a.at k⟩
theorem xq {K:Frag} {F:Hp}:∀ {vs:List V} {us:List Value} {ds:List D} {ss:List Str},IsL K F vs ds->Vals vs us->uP ds=some ss->StrsAre us ss/\∀ x∈ss,x.length<=sizeLine
 | [],[],[],ss,_,_,e=>by cases e; exact ⟨.nil,fun x h=>by cases h⟩
 | v::vs,u::us,d::ds,ss,.cons i il,.cons r rl,e=>by
  cases d with
  | str x=>
   cases q:uP ds with
   | none=>
    have e:(uP ds).map (x::·)=some ss:=e
    rw [q] at e
    cases e
   | some sl=>
    have e:(uP ds).map (x::·)=some ss:=e
    rw [q] at e
    cases e
    cases i with
    | str hz=>
     obtain ⟨t,rfl⟩:=r
     have ih:=xq il rl q
     refine ⟨.cons x t ih.1,fun y hy=>?_⟩
     rcases List.mem_cons.mp hy with rfl | hy
     ·exact hz
     ·exact ih.2 y hy
  | _=>cases e
section
variable {X:Cx} {C:Ct} {own:List Nat} {e:Expr} {fa:Sl->Out (D×Sl)} {ma:Mo} {pos:Pos}
theorem ZQ (hK:C.K=X.K) (hc:X.calm=true):vD X (.type "set") (fun xs H Q=>∃ x F dx ss,xs=[x]/\Same F H/\TopIs C.K F H x dx/\QK dx=some ss/\ss.length < 4000/\((∀ y∈ss,y.length<=sizeLine)->∀ p,H p=none->Q (.ref p) (upd H p (GA X.prog X.w p (ss.foldl wl []))))):=by
 intro pins s σ H xs us Q I r h
 obtain ⟨x,F,dx,ss,rfl,sb,tx,es,hl,q⟩:=h
 obtain ⟨u,rfl,ru⟩:=ua r
 have fin:(∀ y∈ss,y.length<=sizeLine)->∀ h' tk,SetS X.prog X.w h' s.heap.objs.size (ss.foldl wl [])->(∀ b o,s.heap.get? b=some o->h'.get? b=some o)->EP X pins σ Q (.ref s.heap.objs.size) { s with heap:=h',toks:=tk }:=fun hy h' tk hS kp=>
  ⟨.ref s.heap.objs.size,_,I.laid (t':=tk) kp (Nat.le_refl _) (Xb hS),rfl,q hy _ (I.hok.fresh (Nat.le_refl _))⟩
 cases dx with
 | lst ds=>
  obtain ⟨a,vs,rfl,hq,il⟩:=tx.lst sb
  cases ru
  rw [hK] at hq
  obtain ⟨its,rv,pl,hz⟩:=I.list hq
  obtain ⟨st,hy⟩:=xq il rv es
  have hlt:a < s.heap.objs.size:=let ⟨o,_,e,_⟩:=pl; Heap.lt_size e
  have hn:its.length=ss.length:=st.length
  refine zE (fun A1 Q1 E1 hA k=>?_) (fin hy)
  refine WY (items:=its.toArray) (hA.trans (I.ok.hd hc)) (zD (Heap.get?_push_size _ rfl)) (pl.isList.push _) (by simpa using st) (by rw [List.size_toArray,hn]; unfold scanBound; omega) (Nat.ne_of_lt hlt) fun h' tk hS kp=>k h' tk hS fun b o eb=>kp b o (Nat.ne_of_lt (Heap.lt_size eb)) (Heap.get?_push_of_some _ eb)
 | tup ds=>
  obtain ⟨a,vs,rfl,hq,il⟩:=tx.tup sb
  cases ru
  rw [hK] at hq
  obtain ⟨its,rv,pl,hz⟩:=I.tuple hq
  obtain ⟨st,hy⟩:=xq il rv es
  have hlt:a < s.heap.objs.size:=pl.lt
  have hn:its.length=ss.length:=st.length
  refine zE (fun A1 Q1 E1 hA k=>?_) (fin hy)
  refine Vk (items:=its.toArray) (hA.trans (I.ok.hd hc)) (zD (Heap.get?_push_size _ rfl)) (by obtain ⟨o,e,c⟩:=pl; exact ⟨o,Heap.get?_push_of_some _ e,c⟩) (by simpa using st) (by rw [List.size_toArray,hn]; unfold scanBound; omega) (Nat.ne_of_lt hlt) fun h' tk hS kp=>k h' tk hS fun b o eb=>kp b o (Nat.ne_of_lt (Heap.lt_size eb)) (Heap.get?_push_of_some _ eb)
 | _=>cases es
theorem zH:∀ {us:List Value} {ss:List Str},StrsAre us ss->Vals (ss.map V.str) us
 | _,_,.nil=>.nil
 | _,_,.cons y t h=>.cons ⟨t,rfl⟩ (zH h)
theorem Xc:vD X (.builtin "len") (fun xs H Q=>∃ a ks,xs=[.ref a]/\H a=some (GA X.prog X.w a ks)/\Q (.int ks.length) H):=by
 intro pins s σ H xs us Q I r h
 obtain ⟨a,ks,rfl,ha,q⟩:=h
 obtain ⟨u,rfl,ru⟩:=ua r
 cases ru
 obtain ⟨es,ep,t,ho,d⟩:SetS X.prog X.w s.heap a ks:=(I.hok a _ ha).1
 have hb:=d.bd
 refine call_len_set ho ⟨rfl,rfl,rfl⟩ rfl d.fits (by unfold scanBound at hb; omega) ?_
 exact ⟨.int ks.length,H,I.tok _,⟨_,by rw [d.size]⟩,q⟩
theorem xr {m:Mo} {f:Sl->Out (D×Sl)} {σ:St} {H:Hp} {Q R:VK} (h:tE C own m f σ H Q) (i:∀ v H1,Q v H1->R v H1):tE C own m f σ H R:=by
 obtain ⟨F,ρ,rp,po⟩:=h
 refine ⟨F,ρ,rp,?_⟩
 cases q:f ρ with
 | ok p=>
  rw [q] at po
  obtain ⟨d,ρ1⟩:=p
  exact fun v F1 H1 a b c=>i _ _ (po v F1 H1 a b c)
 | exc c ρ1=>
  rw [q] at po
  exact po
 | bad=>
  rw [q] at po
  exact po.elim
noncomputable def xu (d:D):Out D:=match QK d with
 | some ss=>if ss.length < 4000 then .ok (.int (ss.foldl wl []).length) else .bad
 | none=>.bad
theorem QL {K:Frag} {F:Hp}:∀ {ss:List Str},(∀ x∈ss,x.length<=sizeLine)->IsL K F (ss.map V.str) (ss.map D.str)
 | [],_=>.nil
 | x::l,h=>.cons (.str (h x (List.mem_cons_self ..))) (QL fun y hy=>h y (List.mem_cons_of_mem _ hy))
theorem Vp {p p2 pos2:Pos} (hK:C.K=X.K) (hc:X.calm=true) (hg:Gl X "len") (hm:X.mg "len"=none) (hv:bootBuiltins "len"=some (.builtin "len")) (hg2:Gl X "set") (hm2:X.mg "set"=none) (hv2:bootBuiltins "set"=some (.type "set")) (ha:PE X e (tE C own ma fa))
  (he:starEach [e] X.env=[(false,eval e X.env)]:=by exact qM rfl) (he2:starEach [.Call (.Name "set" p2) [e] [] pos2] X.env=[(false,eval (.Call (.Name "set" p2) [e] [] pos2) X.env)]:=by exact qM rfl) :
  PE X (.Call (.Name "len" p) [.Call (.Name "set" p2) [e] [] pos2] [] pos) (tE C own .sh (d1 xu fa)):=by
 refine qS (vg Xc hg hm hv (qG (vM (ZQ hK hc) hg2 hm2 hv2 (qG ha qZ he) (by decide) (by decide) (by rw [he]; rfl) rfl) qZ he2) (by decide) (by decide) (by rw [he2]; rfl) rfl) fun σ H Q h=>?_
 refine xr (gz (ma:=ma) h) fun x H1 ⟨x',F,dx,ex,sb,tx,po⟩=>?_
 cases ex
 unfold xu at po
 cases es:QK dx with
 | none=>
  rw [es] at po
  exact po.elim
 | some ss=>
  rw [es] at po
  have po:PoV C .sh F H1 (if ss.length < 4000 then .ok (.int (ss.foldl wl []).length) else .bad) Q:=po
  by_cases hl:ss.length < 4000
  ·rw [if_pos hl] at po
   refine ⟨x,F,dx,ss,rfl,sb,tx,es,hl,fun hy q hq=>⟨q,_,rfl,qf,?_⟩⟩
   obtain ⟨s1,c1,f1⟩:=wp (u:=GA X.prog X.w q (ss.foldl wl [])) sb hq
   exact po _ _ _ s1 c1 (.int _)
  ·rw [if_neg hl] at po
   exact po.elim
end
@[simp] theorem Ua {α β:Type} {a:α} {k:α->Out β}:(Out.ok a).bind k=k a:=rfl
@[simp] theorem qba {α β:Type} {c:Str} {o:Sl} {k:α->Out β}:(Out.exc c o:Out α).bind k=.exc c o:=rfl
@[simp] theorem qbb {α β:Type} {k:α->Out β}:(Out.bad:Out α).bind k=.bad:=rfl
@[simp] theorem qbK {α:Type} {a:α}:(Out.ok a).plain=.ok a:=rfl
@[simp] theorem qbc {α:Type}:(Out.bad:Out α).plain=.bad:=rfl
@[simp] theorem qbd {α β:Type} {c:Prop} [Decidable c] {a b:Out α} {k:α->Out β}:(if c then a else b).bind k=if c then a.bind k else b.bind k:=by split <;> rfl
@[simp] theorem qbe {α:Type} {c:Prop} [Decidable c] {a b:Out α}:(if c then a else b).plain=if c then a.plain else b.plain:=by split <;> rfl
noncomputable def Ub {α:Type} (d:D) (A B:Out α):Out α:=match d with
 | .bl b=>if b=true then A else B
 | _=>.bad
@[simp] theorem GB {α:Type} {b:Bool} {A B:Out α}:Ub (.bl b) A B=if b=true then A else B:=rfl
noncomputable def qbf (p:D×Sl):Out (Bool×Sl):=match p.1 with
 | .bl b=>.ok (b,p.2)
 | _=>.bad
@[simp] theorem qaB {b:Bool} {ρ:Sl}:qbf (.bl b,ρ)=.ok (b,ρ):=rfl
noncomputable def Wi (ms:List PM):Out (Fl×Sl)->Out (D×List D)
 | .ok (.nx,ρ)=>.ok (.non,qx ρ 0 ms)
 | .ok (.rt d,ρ)=>.ok (d,qx ρ 0 ms)
 | .ok _=>.bad
 | .exc c ρ=>.exc c ((qx ρ 0 ms).map some)
 | .bad=>.bad
theorem runD_ap {N:List Str} {ms:List PM} {f:Sl->Out (Fl×Sl)} {ds:List D}:kJ N ms f ds=Wi ms (f (qy N ds)):=by
 unfold kJ Wi
 rfl
@[simp] theorem qbg {ms:List PM} {d:D} {ρ:Sl}:Wi ms (.ok (.rt d,ρ))=.ok (d,qx ρ 0 ms):=rfl
@[simp] theorem qbh {ms:List PM} {ρ:Sl}:Wi ms (.ok (.nx,ρ))=.ok (.non,qx ρ 0 ms):=rfl
@[simp] theorem qaC {ms:List PM} {c:Str} {ρ:Sl}:Wi ms (.exc c ρ)=.exc c ((qx ρ 0 ms).map some):=rfl
@[simp] theorem qaD {ms:List PM} {c:Prop} [Decidable c] {a b:Out (Fl×Sl)}:Wi ms (if c then a else b)=if c then Wi ms a else Wi ms b:=by split <;> rfl
noncomputable def JA (as:List AK) (ρ:Sl):Out (D×List D)->Out (D×Sl)
 | .ok q=>.ok (q.1,jm as q.2 ρ)
 | .exc c o=>.exc c (jm as (o.map (·.getD .non)) ρ)
 | .bad=>.bad
@[simp] theorem GC {as:List AK} {ρ:Sl} {q:D×List D}:JA as ρ (.ok q)=.ok (q.1,jm as q.2 ρ):=rfl
@[simp] theorem ZR {as:List AK} {ρ:Sl} {c:Str} {o:Sl}:JA as ρ (.exc c o)=.exc c (jm as (o.map (·.getD .non)) ρ):=rfl
@[simp] theorem ZS {as:List AK} {ρ:Sl} {c:Prop} [Decidable c] {a b:Out (D×List D)}:JA as ρ (if c then a else b)=if c then JA as ρ a else JA as ρ b:=by split <;> rfl
variable {ρ:Sl}
@[simp] theorem qaE {i:Nat}:qu i ρ=match ρ[i]? with | some (some d)=>.ok (d,ρ) | _=>.bad:=rfl
@[simp] theorem qbL {d:D}:dC d ρ=.ok (d,ρ):=rfl
section
variable {g g':D->D->Out D} {g1:D->Out D} {fa fb fc f:Sl->Out (D×Sl)} {ft fu:Sl->Out (Bool×Sl)} {fr:Sl->Out (List D×Sl)} {fs ft1:Sl->Out (Fl×Sl)} {fi:Sl->Out (List D×Sl)} {n i:Nat} {as:List AK} {G:List D->Out (D×List D)}
@[simp] theorem Xd:d1 g1 fa ρ=(fa ρ).bind fun p=>(g1 p.1).plain.bind fun d=>.ok (d,p.2):=rfl
@[simp] theorem qaF:d2 g fa fb ρ=(fa ρ).bind fun p=>(fb p.2).bind fun q=>(g p.1 q.1).plain.bind fun d=>.ok (d,q.2):=rfl
@[simp] theorem qaG:JW f ρ=(f ρ).bind fun p=>(Jr p.1).bind fun b=>.ok (b,p.2):=rfl
@[simp] theorem Uc:kh f ρ=(f ρ).bind qbf:=rfl
@[simp] theorem qaH:JY ft ρ=(ft ρ).bind fun p=>.ok (!p.1,p.2):=rfl
@[simp] theorem GD:qaz f ρ=(kh f ρ).bind fun p=>.ok (.bl (!p.1),p.2):=rfl
@[simp] theorem qaI:qbG ft fu ρ=(ft ρ).bind fun p=>if p.1=true then fu p.2 else .ok (false,p.2):=rfl
@[simp] theorem qbi:dOr ft fu ρ=(ft ρ).bind fun p=>if p.1=true then .ok (true,p.2) else fu p.2:=rfl
@[simp] theorem GE:yX fa fb ρ=(fa ρ).bind fun p=>Ub p.1 (fb p.2) (.ok (.bl false,p.2)):=by
 unfold yX
 cases fa ρ with
 | ok p=>
  obtain ⟨d,r⟩:=p
  cases d <;> try rfl
  rename_i b
  cases b <;> rfl
 | exc c o=>rfl
 | bad=>rfl
@[simp] theorem qaJ:Gw fa fb ρ=(fa ρ).bind fun p=>Ub p.1 (.ok (.bl true,p.2)) (fb p.2):=by
 unfold Gw
 cases fa ρ with
 | ok p=>
  obtain ⟨d,r⟩:=p
  cases d <;> try rfl
  rename_i b
  cases b <;> rfl
 | exc c o=>rfl
 | bad=>rfl
@[simp] theorem qbj:dIf ft fa fb ρ=(ft ρ).bind fun p=>if p.1=true then fa p.2 else fb p.2:=rfl
@[simp] theorem ZT:vO g g' fa fb fc ρ=(fa ρ).bind fun p=>(fb p.2).bind fun q=>(g p.1 q.1).plain.bind fun z=>Ub z ((fc q.2).bind fun r=>(g' q.1 r.1).plain.bind fun d=>.ok (d,r.2)) (.ok (.bl false,q.2)):=by
 unfold vO
 congr 1
 funext p
 congr 1
 funext q
 congr 1
 funext z
 cases z <;> try rfl
 rename_i b
 cases b <;> rfl
@[simp] theorem qaK:qO ρ=.ok ([],ρ):=rfl
@[simp] theorem GF:qd fa fr ρ=(fa ρ).bind fun p=>(fr p.2).bind fun q=>.ok (p.1::q.1,q.2):=rfl
@[simp] theorem GG:vA fr ρ=(fr ρ).bind fun q=>.ok (D.non::q.1,q.2):=rfl
@[simp] theorem qaL:gy fr ρ=(fr ρ).bind fun p=>if p.1.length<=sizeLine then .ok (.tup p.1,p.2) else .bad:=rfl
@[simp] theorem qaM:yp fr ρ=(fr ρ).bind fun p=>if p.1.length<=sizeLine then .ok (.lst p.1,p.2) else .bad:=rfl
@[simp] theorem GH:kN ρ=.ok (.nx,ρ):=rfl
@[simp] theorem Vq:jr fs ft1 ρ=(fs ρ).bind fun p=>match p.1 with | .nx=>ft1 p.2 | _=>.ok p:=by
 show _=_
 unfold jr
 cases fs ρ with
 | ok p=>obtain ⟨fl,r⟩:=p; cases fl <;> rfl
 | exc c o=>rfl
 | bad=>rfl
@[simp] theorem ZU:sIf ft fs ft1 ρ=(ft ρ).bind fun p=>if p.1=true then fs p.2 else ft1 p.2:=rfl
@[simp] theorem GI:vz f ρ=(f ρ).bind fun p=>.ok (.nx,p.2):=rfl
@[simp] theorem Vr:kf f ρ=(f ρ).bind fun p=>.ok (.rt p.1,p.2):=rfl
@[simp] theorem Vs:ub i f ρ=(f ρ).bind fun p=>if i < p.2.length then .ok (.nx,p.2.set i (some p.1)) else .bad:=rfl
@[simp] theorem Ud:qB as G fr ρ=(fr ρ).bind fun p=>match qE as p.1 p.2 with | some ds=>JA as p.2 (G ds) | none=>.bad:=rfl
@[simp] theorem qaN:qbH f ρ=(f ρ).bind fun p=>(ZA p.1).bind fun ds=>.ok (ds,p.2):=rfl
@[simp] theorem qaO:xY f ρ=(f ρ).bind fun p=>(uK p.1).bind fun ds=>.ok (ds,p.2):=rfl
@[simp] theorem qbk {d:D}:gNm i d ρ=if i < ρ.length then .ok (ρ.set i (some d)) else .bad:=rfl
@[simp] theorem qaP {gg:D->Sl->Out Sl}:XF fi gg fs ρ=(fi ρ).bind fun p=>gh gg fs p.1 p.2:=rfl
@[simp] theorem qaQ {gg:D->Sl->Out Sl}:qar f gg ρ=(f ρ).bind fun p=>match gg p.1 p.2 with | .ok ρ'=>.ok (.nx,ρ') | _=>.bad:=rfl
@[simp] theorem qaR {gg:List D->D->Out (List D)}:QD i gg f ρ=if uF ρ[i]?=true then (f ρ).bind fun p=>(match p.2[i]? with | some (some (.lst xs))=>(match gg xs p.1 with | .ok ys=>.ok (.non,p.2.set i (some (.lst ys))) | _=>.bad) | _=>.bad) else .bad:=rfl
@[simp] theorem qbl:ftT ρ=.ok (true,ρ):=rfl
end
end L2.D2
namespace L2.D2
open PySem PySem.Spec PyProof.Rows
def XB (i j:Int):Prop:=(0<=j/\j<=64)/\-4611686018427387904 < i/\i < 4611686018427387904
instance:∀ i j,Decidable (XB i j):=fun i j=>inferInstanceAs (Decidable (_/\_))
section
variable {X:Cx} {C:Ct}
theorem UE:OpR X (binaryOp .Pow) (rI XB fun i j=>.int (i ^ j.toNat)):=opI fun i j _ _ _ _ _ hc q=>by
 obtain ⟨⟨h0,h1⟩,h2,h3⟩:=hc
 exact pow_int_small h0 (by omega) (by omega) q
noncomputable def qaS:D->D->Out D:=JV fun i j=>if XB i j then .ok (.int (i ^ j.toNat)) else .bad
theorem ZV:OpD X C .sh (binaryOp .Pow) qaS:=Kv UE fun _ _ _=>.int _
end
noncomputable def zI (sep:Str):D->Out D
 | .lst ds=>match uP ds with
  | some ss=>if (ss.map (·.length)).sum+ss.length * sep.length<=16777216/\(Txt.join sep ss).length<=sizeLine then .ok (.str (Txt.join sep ss)) else .bad
  | none=>.bad
 | _=>.bad
section
variable {X:Cx} {C:Ct} {own:List Nat} {e:Expr} {fe:Sl->Out (D×Sl)} {m:Mo} {apos cpos:Pos} {sep:Str}
theorem Xe:MtR X "str.join" (fun x vs H Q=>∃ (sep:Str) (a:Addr) (xs:List V) (ss:List Str),x=.str sep/\vs=[.ref a]/\SqL X.K H a xs/\(∀ us,Vals xs us->StrsAre us ss)/\(ss.map (·.length)).sum+ss.length * sep.length<=16777216/\Q (.str (Txt.join sep ss)) H):=by
 intro pins s σ H x vs v us Q I rx rv h
 obtain ⟨sep,a,xs,ss,rfl,rfl,hq,hb,hz,q⟩:=h
 obtain ⟨t,rfl⟩:=rx
 obtain ⟨u,rfl,ru⟩:=rv.one
 cases ru
 obtain ⟨its,r,pl,_⟩:=I.list hq
 obtain ⟨o,n,ho,hc,hd,hdt⟩:=pl
 exact join_list ⟨o,ho,hc,n,hdt⟩ (by simpa using hb its r) hz fun t' k=>⟨.str (Txt.join sep ss),H,I.tok _,⟨_,rfl⟩,q⟩
theorem Vt {c1 c2} (hK:C.K=X.K) (he:PE X e (tE C own m fe))
  (hbase:attributeBase (.Constant (.str sep) c1 c2) "join" X.env (eval (.Constant (.str sep) c1 c2) X.env)=eval (.Constant (.str sep) c1 c2) X.env:=by rfl)
  (hfew:((backTo cpos (starEach [e] X.env)).all (fun x=>!x.1)&&(backToKw cpos (keywordEach [] X.env)).all (fun x=>x.1.isSome)
   && decide ([e].length+([]:List Keyword).length+(if ([]:List Keyword).isEmpty then 0 else 1) < 30))=true:=by exact vi rfl)
  (hline:(apos.endLine == cpos.line)=true:=by rfl) (hs:starEach [e] X.env=[(false,eval e X.env)]:=by exact qM rfl) :
  PE X (.Call (.Attribute (.Constant (.str sep) c1 c2) "join" apos) [e] [] cpos) (tE C own .sh (d1 (zI sep) fe)):=by
 refine qS (Jo PySem.F.plainAttrs_str PySem.F.slot_str_join PySem.F.type_str_join Xe UC (qG he qZ hs) hbase hfew hline hs rfl) fun σ H Q h=>?_
 refine ⟨rfl,?_⟩
 obtain ⟨F,ρ,rp,h⟩:=zk (ma:=m) h
 refine ⟨F,ρ,rp,?_⟩
 cases q:fe ρ with
 | ok p=>
  rw [q] at h
  obtain ⟨d,ρ1⟩:=p
  intro v F1 H1 rp1 c1 mo1
  obtain ⟨F2,dx,sb,tx,po⟩:=h v F1 H1 rp1 c1 mo1
  cases dx <;> try exact po.elim
  rename_i ds
  unfold zI at po
  cases q2:uP ds with
  | none=>simp only [q2] at po; exact po.elim
  | some ss=>
   simp only [q2] at po
   by_cases hz:(ss.map (·.length)).sum+ss.length * sep.length<=16777216/\(Txt.join sep ss).length<=sizeLine
   ·rw [if_pos hz] at po
    obtain ⟨a,vs,rfl,hq,t⟩:=tx.lst sb
    have hq':SqL X.K H1 a vs:=by rw [<-hK]; exact hq
    exact ⟨sep,a,vs,ss,rfl,rfl,hq',fun us r=>(xq t r q2).1,hz.1,po _ F2 H1 sb .refl (.str hz.2)⟩
   ·rw [if_neg hz] at po
    exact po.elim
 | exc c=>rw [q] at h; exact h
 | bad=>rw [q] at h; exact h.elim
end
noncomputable def dM (k:D->Bool) (g:D->D->Out D) (fo fa:Sl->Out (D×Sl)):Sl->Out (D×Sl):=fun ρ=>(fo ρ).bind fun p=>if k p.1 then (fa p.2).bind fun q=>(g p.1 q.1).plain.bind fun d=>.ok (d,q.2) else .bad
section
variable {X:Cx} {C:Ct} {own:List Nat} {a b:Expr} {fa fb:Sl->Out (D×Sl)} {m ma mb:Mo} {pos:Pos}
theorem Po.imp {σ:St} {F H:Hp} {r:Out (D×Sl)} {Q R:VK} (h:Po C own m σ F H r Q) (i:∀ v H',Q v H'->R v H'):Po C own m σ F H r R:=by
 cases r with
 | ok p=>exact fun v F' H' rp c mo=>i v H' (h v F' H' rp c mo)
 | exc x=>exact h
 | bad=>exact h.elim
theorem Xf {k:D->Bool} {g:D->D->Out D} {σ:St} {H:Hp} {Q:VK} (hma:ma≠.any) (h:tE C own m (dM k g fa fb) σ H Q) :
  tE C own ma fa σ H fun x H1=>(∃ F dx,Same F H1/\TopIs C.K F H1 x dx/\k dx=true)/\tE C own mb fb σ H1 fun y H2=>∃ F dx dy,Same F H2/\TopIs C.K F H2 x dx/\TopIs C.K F H2 y dy/\PoV C m F H2 (g dx dy) Q:=by
 obtain ⟨F,ρ,rp,h⟩:=h
 refine ⟨F,ρ,rp,Po.bind h fun v F1 H1 d ρ1 rp1 c1 mo1 h1=>?_⟩
 cases hk:k d with
 | false=>simp only [hk] at h1; exact h1.elim
 | true=>
  simp only [hk,if_true] at h1
  exact ⟨⟨F1,d,rp1.sub,mo1.top,hk⟩,F1,ρ1,rp1,Po.bind h1 fun w F2 H2 e ρ2 rp2 c2 mo2 h2=>⟨F2,d,e,rp2.sub,(mo1.grow hma c2 fun x z=>(rp.OA_there z).1).top,mo2.top,PoV.of rp2 h2⟩⟩
def MtD (X:Cx) (C:Ct) (m:Mo) (id:String) (g:D->D->Out D):Prop:=
 MtR X id (fun x vs H Q=>∃ y F dx dy,vs=[y]/\Same F H/\TopIs C.K F H x dx/\TopIs C.K F H y dy/\PoV C m F H (g dx dy) Q)
end
noncomputable def ZW (ca:Str->Addr):List Str->Sl->Out (List D×Sl)
 | []=>qO
 | x::l=>qd (dC (.raw (.ref (ca x)))) (ZW ca l)
theorem Vu (ca:Str->Addr) (ρ:Sl):∀ l:List Str,ZW ca l ρ=.ok (l.map fun x=>D.raw (.ref (ca x)),ρ)
 | []=>rfl
 | x::l=>by
  unfold ZW qd dC
  rw [Out.ok_bind,Vu ca ρ l]
  rfl
theorem Xg {α β:Type} (f:α->β) (xs:List α) (i:Int):atI (xs.map f) i=(atI xs i).map f:=by
 unfold atI ixN
 rw [List.length_map]
 split
 ·split <;> simp
 ·split <;> simp
noncomputable def gM (as:List AK) (fi:Sl->Out (D×Sl)) (gs:List (List D->Out (D×List D))) (fr:Sl->Out (List D×Sl)):Sl->Out (D×Sl):=fun ρ=>(fi ρ).bind fun p=>match p.1 with
 | .int i=>match atI gs i with
  | some G=>qB as G fr p.2
  | none=>.bad
 | _=>.bad
def DsOk (P:Program) (w:World) (K:Frag) (mg:Str->Option Value) (base:Heap) (cv:Str->Value) (j:Nat) (ms:List PM) (mr:Mo):List Str->List (List D->Out (D×List D))->Prop
 | [],[]=>True
 | x::l,G::gs=>(∃ ps,DefOk P w K mg base cv j x ps ms mr G)/\DsOk P w K mg base cv j ms mr l gs
 | _,_=>False
theorem DsOk.len {P:Program} {w:World} {K:Frag} {mg:Str->Option Value} {base:Heap} {cv:Str->Value} {j:Nat} {ms:List PM} {mr:Mo}:∀ {l:List Str} {gs:List (List D->Out (D×List D))},DsOk P w K mg base cv j ms mr l gs->l.length=gs.length
 | [],[],_=>rfl
 | _::_,_::_,h=>congrArg (·+1) h.2.len
 | [],_::_,h=>h.elim
 | _::_,[],h=>h.elim
theorem DsOk.get {P:Program} {w:World} {K:Frag} {mg:Str->Option Value} {base:Heap} {cv:Str->Value} {j:Nat} {ms:List PM} {mr:Mo}:∀ {l:List Str} {gs:List (List D->Out (D×List D))},DsOk P w K mg base cv j ms mr l gs->∀ (n:Nat) (G:List D->Out (D×List D)),gs[n]?=some G->∃ x ps,l[n]?=some x/\DefOk P w K mg base cv j x ps ms mr G
 | [],[],_,n,G,e=>by simp at e
 | x::_,_::_,h,0,G,e=>by
  simp at e
  subst e
  obtain ⟨ps,q⟩:=h.1
  exact ⟨x,ps,rfl,q⟩
 | _::_,_::_,h,n+1,G,e=>h.2.get n G (by simpa using e)
 | [],_::_,h,_,_,_=>h.elim
 | _::_,[],h,_,_,_=>h.elim
theorem ZX {α:Type} {xs:List α} {i:Int} {d:α} (h:atI xs i=some d):∃ n:Nat,xs[n]?=some d/\∀ {β:Type} (ys:List β),ys.length=xs.length->atI ys i=ys[n]?:=by
 unfold atI at h
 cases q:ixN xs.length i with
 | none=>rw [q] at h; cases h
 | some n=>
  rw [q] at h
  refine ⟨n,h,fun ys hl=>?_⟩
  unfold atI
  rw [hl,q]
  rfl
section
variable {X:Cx} {C:Ct} {own:List Nat} {as:List AK} {fr:Sl->Out (List D×Sl)} {mr:Mo} {e:Expr} {es:List Expr} {x:Str} {p pos:Pos} {ms:List PM} {k j:Nat} {cv:Str->Value} {fi:Sl->Out (D×Sl)} {ca:Str->Addr} {ns:List Str} {gs:List (List D->Out (D×List D))} {v sl:Expr}
theorem Vv {a:Addr} (hm:X.mg x=some (.ref a)) (hg:Gl X x) (hd:(x == ("__debug__":Str))=false:=by decide):PE X (.Name x pos) (tE C own .sh (dC (.raw (.ref a)))):=gu (v:=.ref a) hg hm rfl (fun _=>.raw _) hd
theorem QM {env:Env} {args:List Expr} {M:Model} {A:Around} {E:Value->Shared->Prop} {s:Shared} {Q:Value->Shared->Prop}
  (h:wpAny M A (eval (.Subscript v sl p) env) (fun f s₁=>wpAny M A (callWith pos f [] (backTo pos (starEach args env)) (backToKw pos (keywordEach [] env))) Q E s₁) E s) :
  wpAny M A (eval (.Call (.Subscript v sl p) args [] pos) env) Q E s:=by
 have e:eval (.Call (.Subscript v sl p) args [] pos) env=(do
  callWith pos (<-eval (.Subscript v sl p) env) [] (backTo pos (starEach args env)) (backToKw pos (keywordEach [] env))):=rfl
 rw [e]
 exact wpAny_bind h
theorem Vw (DD:DsOk X.prog X.w X.K X.mg X.base cv j ms mr ns gs) (hm:∀ x∈ns,X.mg x=some (.ref (ca x))) (hz:ns.length<=sizeLine) (hr:Room k X.A) (hj:j<=k) (hx:jh (CXk X.prog X.w) X C.E)
  (hf:PE X (.Subscript v sl p) (tE C own .sh (d2 ixD (yp (ZW ca ns)) fi))) (ha:PA X (e::es) (tAr C own as fr)) (hcv:C.cv=cv:=by rfl) (hK:C.K=X.K:=by rfl) (hms:ms=as.map yC:=by rfl) (hs:∀ i∈qK as,i∈own:=by decide) (nd:(qK as).Nodup:=by decide) (hfr:frA as<=1:=by decide) (hio:∀ i∈C.ox,i∈own:=by exact jI rfl)
  (he:starEach (e::es) X.env=(false,eval e X.env)::starEach es X.env:=by exact qT rfl) (hpl:(backTo pos (starEach es X.env)).any (·.1)=false:=by exact vh rfl) :
  PE X (.Call (.Subscript v sl p) (e::es) [] pos) (tE C own mr (gM as fi gs fr)):=by
 subst hms hcv
 refine ⟨?_⟩
 intro pins s σ H Q I h
 obtain ⟨F,ρ,rp,h⟩:=h
 have ed:yp (ZW ca ns) ρ=.ok (.lst (ns.map fun x=>.raw (.ref (ca x))),ρ):=by
  unfold yp
  rw [Vu,Out.ok_bind,if_pos (by rw [List.length_map]; exact hz)]
 unfold gM at h
 cases q:fi ρ with
 | bad=>rw [q] at h; exact h.elim
 | exc c ρ1=>
  rw [q] at h
  refine QM (thn (hf pins s σ H (fun _ _=>False) I ⟨F,ρ,rp,?_⟩) fun _ _ ⟨_,_,_,_,z⟩=>z.elim)
  unfold d2
  rw [ed,Out.ok_bind]
  show Po C own .sh σ F H ((fi ρ).bind _) _
  rw [q]
  exact h
 | ok pr=>
  obtain ⟨d,ρ1⟩:=pr
  rw [q,Out.ok_bind] at h
  cases d <;> try exact h.elim
  rename_i i
  cases qg:atI gs i with
  | none=>simp only [qg] at h; exact h.elim
  | some G=>
   simp only [qg] at h
   obtain ⟨n,h1,h2⟩:=ZX qg
   obtain ⟨x,ps,hx1,f,fd,FF,hmg,hk,hb⟩:=DD.get n G h1
   have hxm:=hm x (List.mem_of_getElem? hx1)
   obtain rfl:f=ca x:=by
    rw [hxm] at hmg
    cases hmg
    rfl
   have hat:atI (ns.map fun x=>(D.raw (.ref (ca x)))) i=some (.raw (.ref (ca x))):=by
    rw [Xg,h2 ns DD.len,hx1]
    rfl
   refine QM (thn (hf pins s σ H (fun y H1=>y=.ref (ca x)/\tE C own mr (qB as G fr) σ H1 Q) I ⟨F,ρ,rp,?_⟩) fun w s1 ⟨y,H1,I1,r1,⟨ey,h3⟩⟩=>?_)
   ·unfold d2
    rw [ed,Out.ok_bind]
    show Po C own .sh σ F H ((fi ρ).bind _) _
    rw [q,Out.ok_bind]
    show Po C own .sh σ F H ((ixD (.lst (ns.map fun x=>.raw (.ref (ca x)))) (.int i)).plain.bind _) _
    unfold ixD
    simp only [hat]
    intro y F' H' rp' c' mo
    refine ⟨?_,F',ρ1,rp',Po.shift h c'⟩
    have mo:Is C.K F' y (.raw (.ref (ca x))):=mo
    cases mo
    rfl
   ·subst ey
    cases r1
    have h4:=xa hio hs nd hfr h3
    refine PySem.W.callWith_K (h₀:=X.base) I1.ok.mod.kin hk (thn (ha pos pins s1 σ H1 _ I1 h4) fun us s2 ⟨vs,H2,I2,r,q2⟩=>⟨I2.kIn,?_⟩) he hpl
    exact Kl (FF.mono hj) hr hb .nil hx I2 r (by rw [<-hK]; exact q2)
end
noncomputable def qbm:Sl->Out (D×Sl):=fun _=>.bad
section
variable {X:Cx} {C:Ct} {own own':List Nat} {m:Mo} {e:Expr} {sts:List Stmt}
theorem ZY:PE X e (tE C own m qbm):=⟨fun _ _ _ _ _ _ ⟨_,_,_,h⟩=>h.elim⟩
end
theorem QN {xs:List V} {us:List Value} (r:Vals xs us):∀ n:Nat,Vals (List.replicate n xs).flatten (List.replicate n us).flatten
 | 0=>.nil
 | n+1=>by
  rw [List.replicate_succ,List.replicate_succ,List.flatten_cons,List.flatten_cons]
  exact r.append (QN r n)
theorem Vx {K:Frag} {F:Hp} {vs:List V} {ds:List D} (r:IsL K F vs ds):∀ n:Nat,IsL K F (List.replicate n vs).flatten (List.replicate n ds).flatten
 | 0=>.nil
 | n+1=>by
  rw [List.replicate_succ,List.replicate_succ,List.flatten_cons,List.flatten_cons]
  exact r.append (Vx r n)
theorem Vy {α:Type} (l:List α):∀ n:Nat,(List.replicate n l).flatten.length=l.length * n
 | 0=>by simp
 | n+1=>by rw [List.replicate_succ,List.flatten_cons,List.length_append,Vy l n,Nat.mul_succ,Nat.add_comm]
noncomputable def GJ:D->D->Out D
 | .lst ds,.int n=>if (0<=n/\n<=100000)/\ds.length * n.toNat<=1000000 then .ok (.lst (List.replicate n.toNat ds).flatten) else .bad
 | _,_=>.bad
section
variable {X:Cx} {C:Ct}
theorem Xh (hK:C.K=X.K):OpD X C .fr (binaryOp .Mult) GJ:=by
 intro pins s σ H x y v u Q I rx ry h
 obtain ⟨F,dx,dy,sb,tx,ty,po⟩:=h
 cases dx <;> try exact po.elim
 cases dy <;> try exact po.elim
 rename_i ds n
 unfold GJ at po
 by_cases hz:(0<=n/\n<=100000)/\ds.length * n.toNat<=1000000
 ·simp only [if_pos hz] at po
  obtain ⟨a,xs,rfl,p,il⟩:=tx.lst sb
  obtain rfl:=ty.int
  cases rx
  obtain ⟨t,rfl⟩:=ry
  rw [hK] at p
  obtain ⟨its,r,pl,_⟩:=I.list p
  have hlen:its.length=ds.length:=by rw [<-r.length,il.length]
  obtain ⟨⟨cls,d,data,sl⟩,k,ho,hc,hd,hdt⟩:=pl
  simp only at hc hd hdt
  subst hc hdt
  have hq:H s.heap.objs.size=none:=I.hok.fresh (Nat.le_refl _)
  obtain ⟨s2,c2,f2⟩:=wp (u:=.lst (List.replicate n.toNat xs).flatten) sb hq
  have hw:(List.replicate n.toNat xs).flatten.length<=sizeLine:=by rw [Vy,il.length,sizeLine_eq]; omega
  refine wpAny_binaryOp_repeat_ref (T := "list") (U := "int") (by decide) ⟨_,ho,rfl⟩ (fun s'=>typeIs_int s' n t) noFill_list_mul PySem.F.fills_int_mul PySem.F.slot_int_rmul repeat_list PySem.F.slot_int_index.lookup
   (call_meets PySem.F.slot_int_rmul (typeIs_int s n t) PySem.F.entry_int_rmul (PySem.F.args_int_rmul_2 _ _) (lm_int_rmul_list_any n t a its.toArray k d sl)
    ⟨ho,rfl,⟨_,ho,rfl⟩,call_meets PySem.F.slot_list_mul ⟨_,ho,rfl⟩ PySem.F.entry_list_mul (PySem.F.args_list_mul_2 _ _)
     (lm_list_mul_any a its.toArray k d sl n t (by simp [Builtin.List.listFitsIndex]; omega) (by rw [List.size_toArray,hlen]; omega) (by simp [Builtin.List.listTooLong,sizeLine]; rw [hlen]; omega))
     ⟨ho,?_⟩⟩)
  refine ⟨.ref s.heap.objs.size,_,I.laid (t':=s.toks) (o:=.lst (List.replicate n.toNat xs).flatten) (fun b o e=>Heap.get?_push_of_some _ e) (Nat.le_refl _) ⟨hw,(List.replicate n.toNat its).flatten,0,QN r _,?_⟩,rfl,po _ _ _ s2 c2 ⟨_,rfl,hq,f2,_,qf,Vx il _⟩⟩
  rw [listMul_foldl_if]
  exact Heap.get?_push_size _ rfl
 ·simp only [if_neg hz] at po
  exact po.elim
end
def GK (i j:Int):Prop:=(-(2 ^ 62)<=i/\i < 2 ^ 62)/\-(2 ^ 62)<=j/\j < 2 ^ 62
instance:∀ i j,Decidable (GK i j):=fun i j=>inferInstanceAs (Decidable (_/\_))
section
variable {X:Cx} {C:Ct} {own:List Nat} {a b e tg:Expr} {fa fb:Sl->Out (D×Sl)} {ma mb:Mo} {pos:Pos}
theorem Vz:∀ {xs:List V} {us:List Value},xs.length=us.length->(∀ (j:Nat) (x:V) (u:Value),xs[j]?=some x->us[j]?=some u->RelV x u)->Vals xs us
 | [],[],_,_=>.nil
 | x::xs,u::us,hl,h=>.cons (h 0 x u rfl rfl) (Vz (Nat.succ.inj hl) fun j y w a b=>h (j+1) y w (by simpa using a) (by simpa using b))
 | [],_::_,hl,_=>nomatch hl
 | _::_,[],hl,_=>nomatch hl
noncomputable def GL (p:Addr) (lo hi:Int):HO:=.ext fun h=>∃ t u v,IsRange h p lo hi 1 t u v
theorem Xi {P:Program} {w:World} {H:Hp} {h:Heap} {p:Addr} {lo hi:Int} {t u v:Tok} (x:IsRange h p lo hi 1 t u v):ObjOk P w H h p (GL p lo hi):=
 ⟨⟨t,u,v,x⟩,⟨_,x⟩,fun _ _ ⟨t,u,v,x⟩ k=>⟨t,u,v,k _ x⟩⟩
theorem Ue (hc:X.calm=true):vD X (.type "list") (fun xs H Q=>∃ r lo hi,xs=[.ref r]/\H r=some (GL r lo hi)/\(GK lo hi/\hi - lo<=1000000)/\∀ p,H p=none->Q (.ref p) (upd H p (.lst ((List.range (hi - lo).toNat).map fun k=>V.int (lo+(k:Nat)))))):=by
 intro pins s σ H xs us Q I r h
 obtain ⟨a,lo,hi,rfl,ha,hz,q⟩:=h
 obtain ⟨u,rfl,ru⟩:=ua r
 cases ru
 obtain ⟨t,u,v,hr⟩:=(I.hok a _ ha).1
 have e2:Builtin.Range.rangeSize lo hi 1=(((hi - lo).toNat:Nat):Int):=by rw [rangeSize_one]; split <;> omega
 refine call_list_range (n:=(hi - lo).toNat) (I.ok.hd hc) hr (small_one hz.1.1.1 hz.1.1.2 hz.1.2.1 hz.1.2.2) e2 (by omega) fun h' tk acc c k hp hi2=>?_
 refine ⟨.ref s.heap.objs.size,_,I.laid (t':=tk) (o:=.lst ((List.range (hi - lo).toNat).map fun k=>V.int (lo+(k:Nat)))) k (Nat.le_refl _) ⟨by rw [List.length_map,List.length_range,sizeLine_eq]; omega,acc.toList,c,?_,by simpa using hp⟩,rfl,q _ (I.hok.fresh (Nat.le_refl _))⟩
 refine Vz (by rw [List.length_map,List.length_range,Array.length_toList,hi2.1]) fun j x w ex ew=>?_
 rw [List.getElem?_map] at ex
 obtain ⟨k,ek,rfl⟩:=Option.map_eq_some_iff.mp ex
 obtain ⟨hj,rfl⟩:=List.getElem?_eq_some_iff.mp ek
 obtain ⟨t,rfl⟩:=hi2.2 j w (by simpa using ew)
 exact ⟨t,by simp⟩
theorem VA {K:Frag} {F:Hp} {lo:Int}:∀ l:List Nat,IsL K F (l.map fun k=>V.int (lo+(k:Nat))) (l.map fun k=>D.int (lo+(k:Nat)))
 | []=>.nil
 | k::l=>.cons (.int _) (VA l)
end
noncomputable def Ite (K:Frag) (a:Addr) (xs:List V):It:=
 ⟨fun i H=>i < xs.length/\SqL K H a xs,fun i H v H'=>∃ x p,xs[i]?=some x/\H p=none/\v=.ref p/\H'=upd H p (.tup [.int (i:Nat),x]),fun i H=>xs.length<=i/\SqL K H a xs⟩
theorem VB {P:Program} {w:World} {K:Frag} {elts:List Expr} {x1} {pos:Pos} (b a:Nat) (xs:List V) (h1:a < b) :
  Turn P w K (.Tuple elts x1 pos) (Ite K a xs) [b+1,b] (b+1) (fun i h=>(∃ old,IsEnum h (b+1) b i old)/\h.IsListIter b a i) where
 mem:=by simp
 obj:=fun i h st c hc=>by
  obtain ⟨⟨old,he⟩,o,ho,hcl,hd⟩:=st
  simp only [List.mem_cons,List.not_mem_nil,or_false] at hc
  rcases hc with rfl | rfl
  ·exact ⟨_,he,fun v z=>by cases z⟩
  ·exact ⟨o,ho,fun v z=>by rw [hd] at z; cases z⟩
 keep:=fun i h h' st k=>by
  obtain ⟨⟨old,he⟩,o,ho,hcl,hd⟩:=st
  exact ⟨⟨old,k _ (by simp) _ he⟩,o,k _ (by simp) _ ho,hcl,hd⟩
 item:=by
  intro X hP hw hK hc i pins s σ H E I hf st hg
  subst hP hw hK
  obtain ⟨⟨old,he⟩,hit⟩:=st
  obtain ⟨hl,q⟩:=hg
  obtain ⟨its,r,pl,_⟩:=I.list q
  have hi:i < its.length:=by rw [<-r.length]; exact hl
  have hx:its.toArray[i]?=some its[i]:=by simp [hi]
  refine wpAny_pyNext_enum_item he hit pl.isList hx (Nat.succ_ne_self b) fun h' eo it' tp hz kp=>?_
  refine ⟨_,rfl,wpAny_letOwnedTupleGo_enum eo fun hq e2 sb2=>?_⟩
  obtain ⟨x,ex,rx⟩:=Vm r (List.getElem?_eq_getElem hi)
  have hT:H s.heap.objs.size=none:=I.hok.fresh (Nat.le_refl _)
  have lt1:b+1 < s.heap.objs.size:=Heap.lt_size he
  have fT:∀ c∈[b+1,b],c≠s.heap.objs.size:=fun c hc=>by
   simp only [List.mem_cons,List.not_mem_nil,or_false] at hc
   have lt':b+1 < s.heap.objs.size:=lt1
   generalize s.heap.objs.size=m at lt'
   intro z
   omega
  have I1:Inv X pins σ (upd H s.heap.objs.size (.tup [.int (i:Nat),x])) { s with heap:=s.heap.push { cls:=.type "tuple",data:=.seq #[.int i s.toks,its[i]] } }:=
   I.laid (t':=s.toks) (fun _ _ e=>Heap.get?_push_of_some _ e) (Nat.le_refl _) ⟨⟨by simp only [List.length_cons,List.length_nil]; rw [sizeLine_eq]; decide,_,Heap.get?_push_size _ rfl,rfl⟩,[.int i s.toks,its[i]],.cons ⟨_,rfl⟩ (.cons rx .nil),⟨_,Heap.get?_push_size _ rfl,rfl,_,rfl⟩⟩
  have I2:Inv X pins σ (upd H s.heap.objs.size (.tup [.int (i:Nat),x])) { s with heap:=hq,toks:=s.toks+1 }:=by
   refine Vl (s:={ s with heap:=s.heap.push { cls:=.type "tuple",data:=.seq #[.int i s.toks,its[i]] } }) (ch:=[b+1,b]) I1 (fun c o nc e=>?_) fun c hc=>⟨by rw [qp (fT c hc)]; exact (hf c hc).1,(hf c hc).2⟩
   simp only [List.mem_cons,List.not_mem_nil,or_false,not_or] at nc
   rw [sb2.2 c nc.1]
   by_cases ec:c=s.heap.objs.size
   ·subst ec
    have e3:(s.heap.push ({ cls:=.type "tuple",data:=.seq #[.int i s.toks,its[i]] }:Obj)).get? s.heap.objs.size=some { cls:=.type "tuple",data:=.seq #[.int i s.toks,its[i]] }:=Heap.get?_push_size _ rfl
    rw [show (s.heap.push ({ cls:=.type "tuple",data:=.seq #[.int i s.toks,its[i]] }:Obj)).get? s.heap.objs.size=some o from e] at e3
    rw [e3]
    exact tp
   ·have e4:s.heap.get? c=some o:=by
     have:=e
     rwa [show (s.heap.push ({ cls:=.type "tuple",data:=.seq #[.int i s.toks,its[i]] }:Obj)).get? c=s.heap.get? c from Heap.get?_push_ne _ _ _ ec] at this
    exact kp c o nc.1 nc.2 e4
  refine ⟨.ref s.heap.objs.size,_,I2,rfl,⟨x,_,ex,hT,rfl,rfl⟩,⟨⟨_,by simpa using e2⟩,?_⟩,fun c hc=>by rw [qp (fT c hc)]; exact (hf c hc).1⟩
  obtain ⟨o,ho,hcl,hd⟩:=it'
  exact ⟨o,(sb2.2 _ (Nat.succ_ne_self b).symm).trans ho,hcl,hd⟩
 done:=by
  intro X hP hw hK hc i pins s σ H E I hf st hg
  subst hP hw hK
  obtain ⟨⟨old,he⟩,hit⟩:=st
  obtain ⟨hl,q⟩:=hg
  obtain ⟨its,r,pl,_⟩:=I.list q
  refine wpAny_pyNext_enum_end (I.ok.hd hc) he hit pl.isList (by simp; rw [<-r.length]; exact hl) fun h' ex=>⟨rfl,Vl (t':=s.toks) (ch:=[b+1,b]) I (fun c o nc e=>?_) hf⟩
  simp only [List.mem_cons,List.not_mem_nil,or_false,not_or] at nc
  exact ex c o nc.2 e
 self:=fun _ _ _ _ _ st h=>wpAny_pyIter_enum st.1.choose_spec h
theorem VC:bootBuiltins "enumerate"=some (.type "enumerate"):=by decide +kernel
noncomputable def VD (xs:List D):List D:=(xs.zipIdx).map fun p=>.tup [.int (p.2:Nat),p.1]
noncomputable def Xj (f:Sl->Out (D×Sl)):Sl->Out (List D×Sl):=fun ρ=>(f ρ).bind fun p=>match p.1 with
 | .lst xs=>.ok (VD xs,p.2)
 | _=>.bad
theorem ZZ {K:Frag} {F:Hp} {a:Addr} {xs:List V} {ds:List D} (p:SqL K F a xs) (t:IsL K F xs ds):ItIs K F (Ite K a xs) (VD ds) where
 go:=fun i H hi s=>by
  unfold VD at hi
  rw [List.length_map,List.length_zipIdx] at hi
  exact ⟨by rw [t.length]; exact hi,s.seq p⟩
 yld:=fun i Fi H v H' d e s1 s2 y=>by
  obtain ⟨x,q,hx,hn,rfl,rfl⟩:=y
  obtain ⟨d1,e1,i1⟩:=t.get hx
  have ed:d=.tup [.int (i:Nat),d1]:=by
   unfold VD at e
   rw [List.getElem?_map,List.getElem?_zipIdx,e1] at e
   simpa using e.symm
  subst ed
  obtain ⟨g1,g2⟩:=kQ (u:=.tup [.int (i:Nat),x]) s2 hn
  exact ⟨_,g2,g1,.tup (.of qf) (.cons (.int _) (.cons ((i1.mono s1).mono g2.grow) .nil))⟩
 stop:=fun i H hi s=>by
  unfold VD at hi
  rw [List.length_map,List.length_zipIdx] at hi
  exact ⟨by rw [t.length]; exact hi,s.seq p⟩
section
variable {X:Cx} {C:Ct} {own:List Nat} {a:Expr} {fa:Sl->Out (D×Sl)} {ma:Mo} {pos:Pos}
theorem Xk {ta:TA} {p tpos:Pos} {elts:List Expr} {x1} (hg:Gl X "enumerate") (hm:X.mg "enumerate"=none) (ha:PA X [a] ta) (hs:starEach [a] X.env=[(false,eval a X.env)]) :
  PI X (.Tuple elts x1 tpos) (.Call (.Name "enumerate" p) [a] [] pos) (fun σ H R=>ta σ H fun vs H1=>∃ a1 xs,vs=[.ref a1]/\SqL X.K H1 a1 xs/\R (Ite X.K a1 xs) H1):=by
 refine ⟨?_⟩
 intro pins s σ H R I h
 refine Call_ (zd I hg hm VC (PyProof.Rows.callWith_type1 (thn (ha pos pins s σ H _ I h) fun us s1 ⟨vs,H1,I1,r1,q1⟩=>?_) hs rfl))
 obtain ⟨a1,xs,rfl,w1,q⟩:=q1
 obtain ⟨u1,rfl,e1⟩:=ua r1
 cases e1
 obtain ⟨its,v1,pl,_⟩:=I1.list w1
 have hlt:a1 < s1.heap.objs.size:=let ⟨o,_,e,_⟩:=pl; Heap.lt_size e
 refine call_enumerate_list pl.isList fun h' he hit hz kp=>?_
 refine wpAny_pyIter_enum he ?_
 refine ⟨s1.heap.objs.size+1,_,_,Ite X.K a1 xs,H1,rfl,I1.kept (t':=s1.toks) kp,VB s1.heap.objs.size a1 xs hlt,⟨⟨_,he⟩,hit⟩,fun b hb=>?_,q⟩
 have hle:s1.heap.objs.size<=b:=by
  simp only [List.mem_cons,List.not_mem_nil,or_false] at hb
  rcases hb with rfl | rfl
  ·exact Nat.le_add_right _ _
  ·exact Nat.le_refl _
 exact I1.fpOk hle (I1.hok.fresh hle)
theorem QO {p tpos:Pos} {elts:List Expr} {x1} (hK:C.K=X.K) (hg:Gl X "enumerate") (hm:X.mg "enumerate"=none) (ha:PE X a (tE C own ma fa)) (h1:ma≠.any:=by decide) (hs:starEach [a] X.env=[(false,eval a X.env)]:=by exact qM rfl) :
  PI X (.Tuple elts x1 tpos) (.Call (.Name "enumerate" p) [a] [] pos) (tIt C own (Xj fa)):=by
 refine YG (Xk hg hm (qG (wn ha h1) qZ hs) hs) fun σ H R ⟨F,ρ,rp,h⟩=>⟨F,ρ,rp,PoI.bindV h fun v F1 H1 d ρ1 rp1 c1 mo1 h1=>?_⟩
 have mo1:Is C.K F1 v d:=mo1
 cases mo1 with
 | lst p t=>exact ⟨_,_,rfl,by rw [<-hK]; exact rp1.sub.seq p,by rw [<-hK]; exact h1 _ F1 H1 rp1 c1 (ZZ p t)⟩
 | _=>exact h1.elim
end
mutual
def Ga:Nat->Expr->Option D
 | 0,_=>none
 | n+1,e=>match e with
  | .Constant c _ _=>match c with
   | .none=>some .non
   | .bool b=>some (.bl b)
   | .int i=>some (.int i)
   | .str x=>if x.length<=sizeLine then some (.str x) else none
   | _=>none
  | .UnaryOp .USub (.Constant (.int i) _ _) _=>some (.int (-i))
  | .List es _=>(XH n es).bind fun ds=>if ds.length<=sizeLine then some (.lst ds) else none
  | .Tuple es _ _=>(XH n es).bind fun ds=>if ds.length<=sizeLine then some (.tup ds) else none
  | _=>none
def XH:Nat->List Expr->Option (List D)
 | _,[]=>some []
 | 0,_::_=>none
 | n+1,e::es=>(Ga n e).bind fun d=>(XH n es).bind fun ds=>some (d::ds)
end
theorem QP {α:Type}:∀ l:List α,((l.map fun _=>AK.vl).all fun a=>decide (a=.vl))=true
 | []=>rfl
 | _::l=>by rw [List.map_cons,List.all_cons,QP l]; rfl
theorem VE {n:Nat} {e:Expr} {d:D} (h:Ga n e=some d):Ku e=true:=by
 cases n with
 | zero=>cases h
 | succ n=>cases e <;> first | rfl | (simp [Ga] at h)
section
variable {X:Cx} {C:Ct} {own:List Nat}
mutual
theorem UR:∀ (n:Nat) {e:Expr} {d:D},Ga n e=some d->PE X e (tE C own .sh (dC d))
 | 0,_,_,h=>by cases h
 | n+1,e,d,h=>by
  unfold Ga at h
  split at h
  ·split at h
   ·cases h; exact Qr
   ·cases h; exact gt
   ·cases h; exact qw
   ·split at h
    ·rename_i hz
     cases h
     exact ji hz
    ·cases h
   ·cases h
  ·cases h
   exact qS (Jp yF qw) fun σ H Q h=>h
  ·obtain ⟨ds,h1,h2⟩:=Option.bind_eq_some_iff.mp h
   split at h2
   ·rename_i hz
    cases h2
    have e2:yp (fun ρ=>.ok (ds,ρ))=dC (.lst ds):=by
     funext ρ
     unfold yp dC
     rw [Out.ok_bind,if_pos hz]
    rw [<-e2]
    exact wn (jJ (xw n h1) (QP _)) (by decide)
   ·cases h2
  ·obtain ⟨ds,h1,h2⟩:=Option.bind_eq_some_iff.mp h
   split at h2
   ·rename_i hz
    cases h2
    have e2:gy (fun ρ=>.ok (ds,ρ))=dC (.tup ds):=by
     funext ρ
     unfold gy dC
     rw [Out.ok_bind,if_pos hz]
    rw [<-e2]
    exact kI (xw n h1) (QP _)
   ·cases h2
  ·cases h
theorem xw:∀ (n:Nat) {es:List Expr} {ds:List D},XH n es=some ds->PA X es (tAr C own (es.map fun _=>.vl) fun ρ=>.ok (ds,ρ))
 | 0,[],ds,h=>by
  cases h
  exact qe
 | _+1,[],ds,h=>by
  cases h
  exact qe
 | 0,_::_,ds,h=>by cases h
 | n+1,e::es,ds,h=>by
  unfold XH at h
  obtain ⟨d,h1,h⟩:=Option.bind_eq_some_iff.mp h
  obtain ⟨ds',h2,h⟩:=Option.bind_eq_some_iff.mp h
  cases h
  have e2:qd (dC d) (fun ρ=>.ok (ds',ρ))=fun ρ=>.ok (d::ds',ρ):=rfl
  rw [<-e2]
  exact qb (UR n h1) (xw n h2) (by decide) (qT (VE h1))
end
theorem xx {es:List Expr} {ds:List D} {pos:Pos} (n:Nat) (h:XH n es=some ds):PE X (.List es pos) (tE C own .fr (yp fun ρ=>.ok (ds,ρ))):=jJ (xw n h) (QP _)
end
noncomputable def txI (i:Int):Str:=toString i
def CTx (i:Int):Prop:=i.natAbs.log2 < 1920/\(txI i).length<=sizeLine
instance:∀ i,Decidable (CTx i):=fun i=>inferInstanceAs (Decidable (_/\_))
end L2.D2
namespace PySem
open Builtin Builtin.Str
end PySem
namespace L2.D2
open PySem PySem.Spec PyProof.Rows
def qbM (x y:Str):Prop:=(y.length == 0)=false/\(Txt.split x y).length<=sizeLine/\∀ z∈Txt.split x y,z.length<=sizeLine
instance:∀ x y,Decidable (qbM x y):=fun x y=>inferInstanceAs (Decidable (_/\_))
noncomputable def GM:D->Bool
 | .str _=>true
 | _=>false
section
variable {X:Cx} {C:Ct} {own:List Nat} {a b:Expr} {fa fb:Sl->Out (D×Sl)} {m ma mb:Mo} {pos:Pos}
theorem Uf {name:Str} {id:String} {g:D->D->Out D} {apos cpos:Pos} (slot:Slot "str" name id) (hty:typeOf (.builtin id)=pure (.type "method_descriptor")) (hm:MtD X C m id g) (hK:C.K=X.K)
  (ha:PE X a (tE C own ma fa)) (hb:PE X b (tE C own mb fb)) (hma:ma≠.any:=by decide)
  (hbase:attributeBase a name X.env (eval a X.env)=eval a X.env:=by rfl)
  (hfew:((backTo cpos (starEach [b] X.env)).all (fun x=>!x.1)&&(backToKw cpos (keywordEach [] X.env)).all (fun x=>x.1.isSome)
   && decide ([b].length+([]:List Keyword).length+(if ([]:List Keyword).isEmpty then 0 else 1) < 30))=true:=by exact vi rfl)
  (hline:(apos.endLine == cpos.line)=true:=by rfl) (hs:starEach [b] X.env=[(false,eval b X.env)]:=by exact qM rfl) :
  PE X (.Call (.Attribute a name apos) [b] [] cpos) (tE C own m (dM GM g fa fb)):=by
 refine qS (Jo PySem.F.plainAttrs_str slot hty hm ha (qG hb qZ hs) hbase hfew hline hs rfl) fun σ H Q h=>?_
 obtain ⟨F,ρ,rp,h⟩:=Xf (ma:=ma) (mb:=mb) hma h
 refine ⟨F,ρ,rp,Po.imp h fun x H1 h1=>?_⟩
 obtain ⟨⟨F1,dx,sb,tx,hk⟩,h2⟩:=h1
 refine ⟨?_,?_⟩
 ·cases dx <;> try (cases hk; done)
  obtain ⟨rfl,hz⟩:=tx.str
  rfl
 ·obtain ⟨F2,ρ2,rp2,h2⟩:=h2
  exact ⟨F2,ρ2,rp2,Po.imp h2 fun y H2 q=>⟨y,q.choose,q.choose_spec.choose,q.choose_spec.choose_spec.choose,rfl,q.choose_spec.choose_spec.choose_spec⟩⟩
end
inductive IntsAre:List Value->List Int->Prop
 | nil:IntsAre [] []
 | cons (y:Int) (t:Tok) {vs:List Value} {ys:List Int} (h:IntsAre vs ys):IntsAre (Value.int y t::vs) (y::ys)
theorem IntsAre.item:∀ {vs:List Value} {ys:List Int},IntsAre vs ys->∀ (i:Nat) (v:Value),vs[i]?=some v->∃ y t,v=Value.int y t/\ys[i]?=some y
 | _,_,.nil,i,v,e=>by simp at e
 | _,_,.cons y t h,0,v,e=>by simp at e; subst e; exact ⟨y,t,rfl,rfl⟩
 | _,_,.cons y t h,i+1,v,e=>by
  obtain ⟨z,t',e1,e2⟩:=h.item i v (by simpa using e)
  exact ⟨z,t',e1,by simpa using e2⟩
section
variable {K:Frag} {F:Hp}
theorem TopIs.ins {H:Hp} {v:V} {c:Addr} {fs:List (Str×D)} (s:Same F H) (h:TopIs K F H v (.ins c fs)):∃ a dx fv,v=.ref a/\H a=some (.ins c dx fv)/\IsF K F fv fs:=by
 rcases h with h | ⟨a,rfl,dx,fv,e,t⟩
 ·cases h with
  | ins e t=>exact ⟨_,_,_,rfl,s _ _ e,t⟩
 ·exact ⟨a,dx,fv,rfl,e,t⟩
end
section
variable {K:Frag} {own own1:List Nat} {F H:Hp} {σ:St} {ρ:Sl} {i:Nat}
theorem Rep.frz {b:Addr} {o:HO} (rp:Rep K own F H σ ρ) (hb:H b=some o) (hF:F b=none) (nA:¬OA own σ b):Rep K own (upd F b o) H σ ρ:=by
 have gr:Same F (upd F b o):=fun c w e=>by rw [qp (qv e hF)]; exact e
 refine ⟨fun c w e=>?_,rp.len,fun j d hj e=>?_,fun j d hj e=>?_,rp.opn,rp.dis⟩
 ·by_cases q:c=b
  ·subst q; rw [qf] at e; cases e; exact hb
  ·rw [qp q] at e; exact rp.sub c w e
 ·obtain ⟨v,h1,h2⟩:=rp.val j d hj e
  exact ⟨v,h1,h2.mono gr⟩
 ·obtain ⟨a,h1,h2,h3⟩:=rp.ow j d hj e
  exact ⟨a,h1,by rw [qp (fun z=>nA ⟨j,hj,by rw [<-z]; exact h1⟩)]; exact h2,h3.grow gr fun _ q=>q⟩
end
noncomputable def kL (x:Str):List V:=x.cps.toList.map fun c=>.str ⟨#[c]⟩
theorem yL:∀ (cs:List Nat) (us:List Value),us.length=cs.length->(∀ (j:Nat) (v:Value),us[j]?=some v->∃ c u,cs[j]?=some c/\v=Value.str ⟨#[c]⟩ u)->Vals (cs.map fun c=>V.str ⟨#[c]⟩) us
 | [],[],_,_=>.nil
 | [],_::_,h,_=>by cases h
 | _::_,[],h,_=>by cases h
 | c::cs,u::us,h,k=>by
  obtain ⟨c',t,e1,e2⟩:=k 0 u rfl
  cases e1
  refine .cons ⟨t,e2⟩ (yL cs us (by simpa using h) fun j v e=>?_)
  simpa using k (j+1) v (by simpa using e)
theorem yM {x:Str} {acc:Array Value} (h:ItemsOf (SignAt x) acc x.cps.size):Vals (kL x) acc.toList:=by
 refine yL _ _ (by simpa using h.1) fun j v e=>?_
 obtain ⟨c,u,e1,e2⟩:=h.2 j v (by rw [<-Array.getElem?_toList]; exact e)
 exact ⟨c,u,by simpa using e1,e2⟩
theorem zJ {K:Frag} {F:Hp} (x:Str):IsL K F (kL x) (kx x):=by
 unfold kL kx
 induction x.cps.toList with
 | nil=>exact .nil
 | cons c cs ih=>exact .cons (.str (show 1<=sizeLine by rw [sizeLine_eq]; decide)) ih
noncomputable def gN:D->Out D
 | .str x=>.ok (.tup (kx x))
 | _=>.bad
noncomputable def QQ:D->Out D
 | .str x=>.ok (.lst (kx x))
 | _=>.bad
section
variable {X:Cx} {C:Ct}
theorem VF (hc:X.calm=true):yY X C .sh (.type "tuple") gN:=by
 intro pins s σ H xs us Q I r h
 obtain ⟨x,F,dx,rfl,sb,tx,po⟩:=h
 cases dx with
 | str z=>
  obtain ⟨rfl,hz⟩:=tx.str
  obtain ⟨u,rfl,ru⟩:=ua r
  obtain ⟨t,rfl⟩:=ru
  have hl:(kL z).length=z.cps.size:=by simp [kL]
  refine call_tuple_str (I.ok.hd hc) z t (fun h' tk acc kp it=>?_) hz
  have I1:Inv X pins σ H { s with heap:=h',toks:=tk }:=I.kept (t':=tk) kp
  have I2:Inv X pins σ (upd H h'.objs.size (.tup (kL z))) { s with heap:=h'.push { cls:=.type "tuple",data:=.seq acc },toks:=tk }:=
   I1.laid (t':=tk) (fun b o e=>Heap.get?_push_of_some _ e) (Nat.le_refl _) (show ObjOk X.prog X.w _ _ _ (.tup (kL z)) from ⟨⟨by rw [hl]; exact hz,_,Heap.get?_push_size _ rfl,rfl⟩,acc.toList,yM it,by simpa using IsTup.new h' acc⟩)
  obtain ⟨s2,c2⟩:=kQ (u:=.tup (kL z)) sb (I1.hok.fresh (Nat.le_refl _))
  exact ⟨.ref h'.objs.size,_,I2,rfl,po _ _ _ s2 c2 (.tup (.inl (.inl qf)) (zJ z))⟩
 | _=>exact po.elim
theorem QR (hc:X.calm=true):yY X C .fr (.type "list") QQ:=by
 intro pins s σ H xs us Q I r h
 obtain ⟨x,F,dx,rfl,sb,tx,po⟩:=h
 cases dx with
 | str z=>
  obtain ⟨rfl,hz⟩:=tx.str
  obtain ⟨u,rfl,ru⟩:=ua r
  obtain ⟨t,rfl⟩:=ru
  have hl:(kL z).length=z.cps.size:=by simp [kL]
  have hq:H s.heap.objs.size=none:=I.hok.fresh (Nat.le_refl _)
  refine call_list_str (I.ok.hd hc) z t (fun h' tk acc n kp e it=>?_) hz
  have I2:Inv X pins σ (upd H s.heap.objs.size (.lst (kL z))) { s with heap:=h',toks:=tk }:=
   I.laid (t':=tk) kp (Nat.le_refl _) ⟨by rw [hl]; exact hz,acc.toList,n,yM it,by simpa using e⟩
  obtain ⟨s2,c2,f2⟩:=wp (u:=.lst (kL z)) sb hq
  exact ⟨.ref s.heap.objs.size,_,I2,rfl,po _ _ _ s2 c2 ⟨_,rfl,hq,f2,_,qf,zJ z⟩⟩
 | _=>exact po.elim
end
section
variable {X:Cx} {C:Ct} {own:List Nat} {pos:Pos}
theorem vr (i:Nat) {x:Str} (hN:X.N[i]?=some x:=by rfl) (hv:Vis X.env.scope x:=by first | exact Or.inl rfl | exact Or.inr (Or.inl rfl) | exact Or.inr (Or.inr rfl)) (ho:i∉own:=by decide) (hd:(x == ("__debug__":Str))=false:=by decide) (hcd:(x == ("__classdict__":Str))=false:=by decide):PE X (.Name x pos) (tE C own .sh (qu i)):=Zq hN hv ho hd hcd
end
section
variable {K:Frag}
theorem Rep.swap {own:List Nat} {F H F' H':Hp} {σ:St} {ρ:Sl} {g:Nat} {b:Addr} {o:D} (rp:Rep K own F H σ ρ) (hg:g∈own) (eb:σ[g]?=some (some (V.ref b))) (c:Chg (fun z=>z=b) F H F' H') (sb:Same F' H') (fb:F' b=none) (ow:OwnIs K F' H' b o) :
  Rep K own F' H' σ (ρ.set g (some o))/\Chg (OA own σ) F H F' H':=by
 obtain ⟨d0,hd0⟩:=rp.opn g hg
 have hl:g < ρ.length:=(List.getElem?_eq_some_iff.mp hd0).1
 refine ⟨⟨sb,by simp [rp.len],fun j d hj e=>?_,fun j d hj e=>?_,fun j hj=>?_,rp.dis⟩,c.mono fun z hz=>⟨g,hg,by rw [hz]; exact eb⟩⟩
 ·rw [List.getElem?_set_ne (fun z=>hj (by rw [<-z]; exact hg))] at e
  obtain ⟨v,h1,h2⟩:=rp.val j d hj e
  exact ⟨v,h1,h2.mono c.grow⟩
 ·by_cases q:j=g
  ·subst q
   rw [List.getElem?_set_self hl] at e
   cases e
   exact ⟨b,eb,fb,ow⟩
  ·rw [List.getElem?_set_ne (Ne.symm q)] at e
   obtain ⟨a,h1,h2,h3⟩:=rp.ow j d hj e
   have na:a≠b:=fun z=>by subst z; exact q (rp.dis j g a hj hg h1 eb)
   refine ⟨a,h1,?_,h3.grow c.grow fun o q=>c.keep a o q na⟩
   cases qa:F' a with
   | none=>rfl
   | some u=>
    rcases c.new a (by rw [qa]; simp) with z | z | z
    ·exact absurd h2 z
    ·exact absurd z h3.there
    ·exact absurd z na
 ·by_cases q:j=g
  ·subst q; exact ⟨o,List.getElem?_set_self hl⟩
  ·rw [List.getElem?_set_ne (Ne.symm q)]; exact rp.opn j hj
end
section
variable {M:Model} {A:Around} {E:Value->Shared->Prop} {s:Shared}
theorem JB {e:Value} {env env':Env} (h:env.frame=env'.frame):noteFrame e env=noteFrame e env':=by
 unfold noteFrame PySem.frameOf
 rw [h]
theorem QS {base:Heap} {l:List Env} {e:Addr} {cls a0 fl v:Value} (kb:base.StaysIn s.heap) (fr:s.heap.FunFrames base l) (tr:s.heap.TracedAtW base e cls a0 fl) :
  ∃ oe vs T oT ts,s.heap.get? e=some oe/\oe.data=.fields vs/\vs[1]?=some (.ref T)/\s.heap.get? T=some oT/\oT.data=.fields ts/\ts[3]?=some fl/\(oe.cls=cls/\vs[0]?=some a0) /\
   ∀ h',h'=s.heap.update T (Obj.mapFields (·.setIfInBounds 3 v))->base.StaysIn h'/\h'.FunFrames base l/\h'.TracedAtW base e cls a0 v/\s.heap.UpToSlots h'/\h'.get? e=some oe:=by
 obtain ⟨oe,vs,T,oT,ts,g1,g2,g3,g4,g5,g6,g7,g8,g9⟩:=tr
 refine ⟨oe,vs,T,oT,ts,g1,g3,g4,g7,g8,g9,g2,fun h' eh=>?_⟩
 have lt3:=(Array.getElem?_eq_some_iff.mp g9).1
 have ot:∀ b,b≠T->h'.get? b=s.heap.get? b:=fun b hb=>by rw [eh]; exact Heap.get?_update_other _ _ (Ne.symm hb)
 have nT:∀ b o,s.heap.get? b=some o->(∀ ws,o.data≠.fields ws)->b≠T:=fun b o hb hn z=>by
  subst z
  rw [g7] at hb
  cases hb
  exact hn _ g8
 have gT:=Heap.get?_update_self (Obj.mapFields (·.setIfInBounds 3 v)) g7 (Obj.isFreed_of_fields (Obj.data_mapFields g8 _))
 refine ⟨fun b o hb=>(ot b fun z=>by rw [z,g5] at hb; cases hb).trans (kb b o hb),fr.of_keeps fun b o hb hn=>⟨o,(ot b (nT b o hb hn)).trans hb,rfl⟩,?_,fun b o hb hn=>⟨o.slots,(ot b (nT b o hb hn)).trans hb⟩,(ot e (Ne.symm g6)).trans g1⟩
 exact ⟨oe,vs,T,_,_,(ot e (Ne.symm g6)).trans g1,g2,g3,g4,g5,g6,by rw [eh]; exact gT,Obj.data_mapFields g8 _,by simp [lt3]⟩
theorem JC {base:Heap} {l:List Env} {e:Addr} {cls a0 fl:Value} {fo:Option Addr} {Q:Unit->Shared->Prop} (kb:base.StaysIn s.heap) (fr:s.heap.FunFrames base l) (tr:s.heap.TracedAtW base e cls a0 fl)
  (k:∀ h',base.StaysIn h'->h'.FunFrames base l->h'.TracedAtW base e cls a0 (fo.elim Value.none fun f=>rawInt f)->s.heap.UpToSlots h'->Q () { s with heap:=h' }):wpAny M A (setFlight (.ref e) fo) Q E s:=by
 obtain ⟨oe,vs,T,oT,ts,g1,g3,g4,g7,g8,g9,_,fin⟩:=QS (v:=fo.elim Value.none fun f=>rawInt f) kb fr tr
 unfold setFlight
 refine wpAny_bind (wpAny_field g1 g3 g4 ?_)
 rw [if_pos (by simp:(Value.ref T != Value.none)=true)]
 obtain ⟨a,b,c,d,_⟩:=fin _ rfl
 exact wpAny_setField g7 g8 (Array.getElem?_eq_some_iff.mp g9).1 (k _ a b c d)
theorem QT {base:Heap} {env:Env} {outer:List Env} {L e:Addr} {cls a0 fl:Value} {Q:Unit->Shared->Prop} (hA:A.frames=some (env::outer)) (hf:env.frame=some L) (hen:base.get? e=none) (kb:base.StaysIn s.heap) (fr:s.heap.FunFrames base (env::outer)) (tr:s.heap.TracedAtW base e cls a0 fl)
  (k:∀ h',base.StaysIn h'->h'.FunFrames base (env::outer)->h'.TracedAtW base e cls a0 (rawInt L)->s.heap.UpToSlots h'->Q () { s with heap:=h' }):wpAny M A (noteFrame (.ref e) env) Q E s:=by
 by_cases q:fl=rawInt L
 ·subst q
  exact wpAny_noteFrame_againW hf tr (k s.heap kb fr tr (.refl _))
 ·obtain ⟨oe,vs,T,oT,ts,g1,g3,g4,g7,g8,g9,⟨c1,c2⟩,fin⟩:=QS (v:=Value.none) kb fr tr
  obtain ⟨a,b,c,d,e1⟩:=fin _ rfl
  unfold noteFrame
  simp only [hf]
  refine wpAny_bind (wpAny_field g1 g3 g4 ?_)
  rw [if_pos (by simp:(Value.ref T != Value.none)=true)]
  refine wpAny_bind (wpAny_field g7 g8 g9 ?_)
  rw [if_neg (by simpa using q)]
  refine wpAny_bind (wpAny_setField g7 g8 (Array.getElem?_eq_some_iff.mp g9).1 ?_)
  refine wpAny_entryW hA b hf e1 a hen g3 (Array.getElem?_eq_some_iff.mp g4).1 c2 fun h' n=>?_
  obtain ⟨n1,n2,n3,n4⟩:=n
  rw [c1] at n3
  exact k h' n1 n2 n3 (d.trans n4)
end
def FlyA (h:Heap) (ex T:Addr) (cls:Value):Prop:=∃ oe vs oT ts fl,h.get? ex=some oe/\oe.cls=cls/\oe.data=.fields vs/\vs[1]?=some (.ref T)/\T≠ex/\h.get? T=some oT/\oT.data=.fields ts/\ts[3]?=some fl
theorem Fly.any {h:Heap} {ex T:Addr} {cls:Value} (f:Fly h ex T cls):FlyA h ex T cls:=let ⟨oe,vs,oT,ts,a,b,c,d,e,f,g,i⟩:=f; ⟨oe,vs,oT,ts,_,a,b,c,d,e,f,g,i⟩
theorem FlyA.tr {h base:Heap} {ex T:Addr} {cls:Value} (f:FlyA h ex T cls) (hb:base.get? T=none):∃ a0 fl,h.TracedAtW base ex cls a0 fl:=by
 obtain ⟨oe,vs,oT,ts,fl,a1,a2,a3,a4,a5,a6,a7,a8⟩:=f
 have hz:0 < vs.size:=Nat.lt_of_succ_lt (Array.getElem?_eq_some_iff.mp a4).1
 exact ⟨vs[0],fl,oe,vs,T,oT,ts,a1,⟨a2,by simp [hz]⟩,a3,a4,hb,a5,a6,a7,a8⟩
def Gb (X:Cx) (E:XK):Prop:=∀ (pins:List (Addr×Obj)) (σ:St) (H:Hp) (s:Shared) (ex T Cc:Addr) (cenv:Env) (what:String),Inv X pins σ H s->FlyA s.heap ex T (.ref Cc)->H ex=none->H T=none->X.s₀.heap.get? ex=none->X.s₀.heap.get? T=none->E (.ref Cc) none H ->
 wpAny (model X.prog X.w) X.A (PySem.passOn what (.ref ex) cenv:Sem Value) (fun _ _=>False) X.xe s
section
variable {P:Program} {w:World} {K:Frag} {mg:Str->Option Value} {base:Heap} {N:List Str} {qual:Str} {scope:Scope} {f:Addr} {cd:Value} {A:Around} {outer:List Env} {s0:Shared} {H0:Hp} {E:XK}
theorem Gc {pins:List (Addr×Obj)} {σ:St} {H:Hp} {s:Shared} {ex T C:Addr} {h2:Heap} (I:Inv (cxk P w K mg base N qual scope f cd A outer s0 H0 E) pins σ H s) (g:Gone (cxk P w K mg base N qual scope f cd A outer s0 H0 E) H s ex (.ref C) h2) (fl:Fly h2 ex T (.ref C)) (hex:H ex=none) (hT:H T=none) (n1:s0.heap.get? ex=none) (nT:s0.heap.get? T=none) (hE:E (.ref C) none H) :
  CXk P w outer H0 s0 E (.ref ex) { s with heap:=h2 }:=by
 have bs0:=I.base
 have neL:∀ b o,s0.heap.get? b=some o->b≠(cxk P w K mg base N qual scope f cd A outer s0 H0 E).env.locals:=fun b o e=>Nat.ne_of_lt (Nat.lt_of_lt_of_le (Heap.lt_size e) I.ok.above)
 have nst:∀ b o,s0.heap.get? b=some o->b∉frs outer->b∉frs (cxk P w K mg base N qual scope f cd A outer s0 H0 E).stack:=fun b o e hb z=>by
  rcases List.mem_cons.mp (I.stkSub b z) with q | q
  ·exact neL b o e q
  ·exact hb q
 have ist:∀ b,b∈frs outer->b∈frs (cxk P w K mg base N qual scope f cd A outer s0 H0 E).stack:=fun b hb=>by
  show b∈frs (_::outer)
  unfold frs
  rw [List.filterMap_cons]
  exact List.mem_cons_of_mem _ hb
 refine ⟨ex,T,C,H,rfl,I.os,I.bare,⟨fun b o e n hb hx=>?_,fun b o e n hb hx=>?_,bs0.free,fun b o e hx=>?_,bs0.tups,bs0.frzs,bs0.tbls⟩,g.ok,fl,hex,hT,n1,nT,hE⟩
 ·exact g.keep b o (bs0.keep b o e n hb hx) (.inr ⟨by show s0.heap.get? b≠none; rw [e]; simp,nst b o e hb⟩)
 ·obtain ⟨sl,q⟩:=bs0.slot b o e n hb hx
  obtain ⟨sl2,q2⟩:=g.slot b _ q (ist b hb)
  exact ⟨sl2,q2⟩
 ·obtain ⟨o',q⟩:=bs0.there b o e hx
  by_cases hb:b∈frs (cxk P w K mg base N qual scope f cd A outer s0 H0 E).stack
  ·obtain ⟨sl,q2⟩:=g.slot b o' q hb
   exact ⟨_,q2⟩
  ·exact ⟨o',g.keep b o' q (.inr ⟨by show s0.heap.get? b≠none; rw [e]; simp,hb⟩)⟩
theorem qaT:Gb (cxk P w K mg base N qual scope f cd A outer s0 H0 E) E:=fun pins σ H s ex T Cc cenv what I fl hex hT n1 n2 hE=>by
 have hB:∀ as,(PySem.W.hideAll s.heap as).StaysIn s.heap:=fun as b o e=>PySem.W.of_hideAll as e
 have hfn:=PySem.W.funFrames_hide (as:=jY ex (some T) (cxk P w K mg base N qual scope f cd A outer s0 H0 E)) I.stack fun env he b hb=>List.mem_cons_of_mem _ (List.mem_append_right _ (List.mem_filterMap.mpr ⟨env,he,hb⟩))
 obtain ⟨a0,m,tr⟩:=fl.tr (PySem.W.hideAll_none (h:=s.heap) (jY ex (some T) (cxk P w K mg base N qual scope f cd A outer s0 H0 E)) (List.mem_cons_of_mem _ (List.mem_append_left _ (by simp))))
 have hen:(PySem.W.hideAll s.heap (jY ex (some T) (cxk P w K mg base N qual scope f cd A outer s0 H0 E))).get? ex=none:=PySem.W.hideAll_none _ (List.mem_cons.mpr (.inl rfl))
 have hT':∀ T1,some T=some T1->H T1=none:=fun T1 z=>by cases z; exact hT
 have n2':∀ T1,some T=some T1->(cxk P w K mg base N qual scope f cd A outer s0 H0 E).s₀.heap.get? T1=none:=fun T1 z=>by cases z; exact n2
 obtain ⟨oe,vs,oT,ts,fl',a1,a2,a3,a4,a5,a6,a7,a8⟩:=fl
 unfold PySem.passOn
 refine wpAny_bind (wpAny_field a1 a3 a4 ?_)
 rw [if_neg (by simp)]
 refine wpAny_bind (JC (hB _) hfn tr fun h1 b1 f1 t1 u1=>?_)
 refine wpAny_throw ?_
 show wpAny _ (A.deeper _) (leaving _ (.ref ex)) _ _ _
 unfold leaving
 refine wpAny_bind (QT (base:=PySem.W.hideAll s.heap (jY ex (some T) (cxk P w K mg base N qual scope f cd A outer s0 H0 E))) I.ok.frames rfl hen b1 f1 t1 fun h2 b2 f2 t2 u2=>?_)
 refine wpAny_setFlight_noneW b2 f2 t2 fun h3 b3 f3 t3 k3=>?_
 have sl:∀ b o,s.heap.get? b=some o->(∀ vs,o.data≠.fields vs)->∃ sl,h3.get? b=some { o with slots:=sl }:=(u1.trans u2).trans fun b o e n=>⟨o.slots,k3 b o e n⟩
 have g:Gone (cxk P w K mg base N qual scope f cd A outer s0 H0 E) H s ex (.ref Cc) h3:=gG I hex (T0:=some T) hT' n1 n2' b3 sl
 obtain ⟨T',f1',f2',f3'⟩:=uD I hT' n2' g rfl (let ⟨oe,vs,T,oT,ts,he,hc,r⟩:=t3; ⟨oe,vs,T,oT,ts,he,hc.1,r⟩)
 have z:=Gc I g f1' hex f2' n1 f3' hE
 exact z
end
theorem JD {prog:Program} {w:World} {A:Around} {R:Result->Shared->Prop} {s:Shared} {elt target iter:Expr} {ifs:List Expr} {scope:Scope} {pos:Pos} {it acc:Value} {env:Env} (I:Nat->Shared->Prop)
  (turn:∀ n s,I n s->wpAny (model prog w) A (pyNext it) (fun r s₁=>match r with
   | none=>R (.ok .next) s₁
   | some v=>wpAny (model prog w) A (letOwnedTupleGo target it v) (fun _ t₁=>wpAny (model prog w) A (assign target env v) (fun _ s₂=>
     wpAny (model prog w) A (forIn ifs true fun c r=>if r=true then do let ok <-isTrue c env (eval c env); pure (ForInStep.yield ok) else pure (ForInStep.yield r)) (fun ok s₃=>
      if ok=true then wpAny (model prog w) A (eval elt env) (fun x s₄=>
       wpAny (model prog w) A (call (.builtin "list.append") [acc,x]) (fun _ s₅=>∃ m,m < n/\I m s₅) (fun _ _=>False) s₄) (notedBy (model prog w) A env fun e s'=>R (.error e) s') s₃
      else ∃ m,m < n/\I m s₃) (fun _ _=>False) s₂) (fun _ _=>False) t₁) (fun _ _=>False) s₁) (fun _ _=>False) s)
  (n:Nat) (h:I n s):codeAny (model prog w) A (.compLoop (.ListComp elt [⟨target,iter,ifs,0⟩] scope pos) 0 it acc env) R s:=by
 have no:∀ {α:Type} {t:Sem α} {Q Q':α->Shared->Prop} {E':Value->Shared->Prop} {s:Shared},wpAny (model prog w) A t Q (fun _ _=>False) s->(∀ a s,Q a s->Q' a s)->wpAny (model prog w) A t Q' E' s:=fun h k=>wpAny_mono h k fun _ _ z=>z.elim
 refine codeAny_loop rfl I (fun n s hI=>?_) n h
 show wpAny _ A ((compTurn (.ListComp elt [⟨target,iter,ifs,0⟩] scope pos) 0 it acc env).onRaise (fun x=>do noteFrame x env; theTreesLotGoes x)) _ _ s
 refine wpAny_noted ?_
 rw [compTurn_list]
 refine wpAny_bind (wpAny_standAt (wpAny_bind (no (turn n s hI) fun r s₁ h₁=>?_)))
 cases r with
 | none=>exact wpAny_pure h₁
 | some v=>
  refine wpAny_bind (no h₁ fun _ t₁ k₁=>wpAny_bind (no k₁ fun _ s₂ h₂=>wpAny_bind (no h₂ fun ok s₃ h₃=>?_)))
  cases ok with
  | false=>exact wpAny_pure ⟨rfl,h₃⟩
  | true=>exact wpAny_bind (wpAny_bind (thn h₃ fun x s₄ h₄=>wpAny_bind (no h₄ fun _ s₅ h₅=>wpAny_pure (wpAny_pure ⟨rfl,h₅⟩))))
def ky (X:Cx) (scope:Scope) (N:List Str) (fp:List Addr) (L:Addr) (s:Shared) (H:Hp) (xe:Value->Shared->Prop):Cx:={ qF X scope N fp L s H with xe:=xe }
section
variable {X:Cx} {pins:List (Addr×Obj)} {σ σc:St} {H:Hp} {s:Shared} {scope:Scope} {N:List Str} {fp:List Addr} {it:Addr} {tn:Nat->Heap->Prop} {J:It} {tg elt iter:Expr} {ifs:List Expr} {pos:Pos} {g:TG} {tt:TT} {te:TE} {E:Value->Shared->Prop} {L:Addr} {xe:Value->Shared->Prop} {EX:XK}
theorem Xl (I:Inv (qF X scope N fp L s H) pins σ H' s'):Inv (ky X scope N fp L s H xe) pins σ H' s':=
 ⟨⟨I.ok.mod,I.ok.kind,I.ok.glob,I.ok.blt,I.ok.above,I.ok.inj,I.ok.has,I.ok.cab,I.ok.hd,I.ok.frames,I.ok.stk,I.ok.exf,I.ok.bs,I.ok.bsz,I.ok.noex,I.ok.exfs,I.ok.funs,I.ok.frf⟩,I.os,I.bare,I.base,I.loc,I.cell,I.free,I.freeC,I.pin,I.hok,I.len⟩
theorem VG (I:Inv (ky X scope N fp L s H xe) pins σ H' s'):Inv (qF X scope N fp L s H) pins σ H' s':=
 ⟨⟨I.ok.mod,I.ok.kind,I.ok.glob,I.ok.blt,I.ok.above,I.ok.inj,I.ok.has,I.ok.cab,I.ok.hd,I.ok.frames,I.ok.stk,I.ok.exf,I.ok.bs,I.ok.bsz,I.ok.noex,I.ok.exfs,I.ok.funs,I.ok.frf⟩,I.os,I.bare,I.base,I.loc,I.cell,I.free,I.freeC,I.pin,I.hok,I.len⟩
def rX (X:Cx) (pins:List (Addr×Obj)) (scope:Scope) (N:List Str) (fp:List Addr) (L:Addr) (s:Shared) (H:Hp) (EX:XK):Value->Shared->Prop:=fun e s'=>∃ σ1 H' ex T Cc,e=.ref ex/\Inv (qF X scope N fp L s H) [] σ1 H' s'/\Caught X pins H' s' ex T Cc/\EX (.ref Cc) none H'
theorem VH (I:Inv X pins σ H s) (hx0:X.ex=[]) (hf:∀ b∈fp,uw X pins H b):jh (CXk X.prog X.w) (ky X scope N fp L s H (rX X pins scope N fp L s H EX)) EX:=fun pins' σ1 H1 s1 e s' I1 h=>by
 obtain ⟨ex,T,Cc,H',rfl,os,bare,un,hok,fl,e1,e2,n1,n2,hE⟩:=h
 have U:Un (frs X.stack) fp H H1 s.heap s1.heap:=I1.base
 have there:∀ b o,s.heap.get? b=some o->b∉fp->s1.heap.get? b≠none:=fun b o e hb z=>by
  obtain ⟨o',q⟩:=U.there b o e hb
  rw [z] at q; cases q
 have old:∀ b,s1.heap.get? b=none->X.s₀.heap.get? b=none:=fun b hb=>by
  cases q:X.s₀.heap.get? b with
  | none=>rfl
  | some o=>
   obtain ⟨o',e'⟩:=I.base.there b o q (by rw [hx0]; simp)
   refine absurd hb (there b o' e' fun z=>?_)
   rcases (hf b z).2.2.2.1 with y | y
   ·rw [hx0] at y; simp at y
   ·exact absurd (Nat.lt_of_lt_of_le (Heap.lt_size q) y) (Nat.lt_irrefl _)
 have I2:=I1.call' (ch:=[]) os un hok bare (fun b z=>absurd z (by simp))
 refine ⟨σ1,H',ex,T,Cc,rfl,Inv.unpinned (pins:=[]) (VG I2),⟨fl,e1,e2,old ex n1,old T n2,fun p hp=>?_⟩,hE⟩
 have q:=(I.pin p hp).1
 have np:p.1∉fp:=fun z=>(hf _ z).2.2.2.2.2 p hp rfl
 exact ⟨fun z=>there _ _ q np (by rw [z]; exact n1),fun z=>there _ _ q np (by rw [z]; exact n2)⟩
theorem qaU {σ:St} {H':Hp} {s:Shared} {ex T Cc L:Addr} {Q:Unit->Shared->Prop} {E:Value->Shared->Prop} {Z:(Str->Option Value)->Prop} (I:Inv X pins σ H' s) (hstk:X.stack=X.env::X.outer) (hfr:X.env.frame=some X.env.locals) (hx0:X.ex=[]) (c:Caught X pins H' s ex T Cc) (fp:uw X pins H' L) (hns:∃ m,s.heap.Ns L m/\Z m)
  (k:∀ s' T',(∃ m,s'.heap.Ns L m)->(∀ h',Heap.SameBut L s'.heap h'->Inv X pins σ H' { s' with heap:=h' }/\FlyA h' ex T' (.ref Cc))->H' ex=none->H' T'=none->X.s₀.heap.get? ex=none->X.s₀.heap.get? T'=none->Q () s'):wpAny (model X.prog X.w) X.A (noteFrame (.ref ex) X.env) Q E s:=by
 obtain ⟨a0,fl,tr⟩:=c.fly.any.tr (PySem.W.hideAll_none (h:=s.heap) (jY ex (some T) X) (List.mem_cons_of_mem _ (List.mem_append_left _ (by simp))))
 refine QT (base:=PySem.W.hideAll s.heap (jY ex (some T) X)) (by rw [I.ok.frames,hstk]) hfr (PySem.W.hideAll_none _ (List.mem_cons.mpr (.inl rfl))) (fun b o e=>PySem.W.of_hideAll _ e) (ww I hstk) tr fun h1 b1 f1 t1 u1=>?_
 have slot:∀ b o,s.heap.get? b=some o->b∈frs X.stack->∃ sl,h1.get? b=some { o with slots:=sl }:=fun b o e hb=>by
  obtain ⟨o',e',nf⟩:=kw I hb
  rw [e] at e'; cases e'
  exact u1 b o e nf
 have I1:Inv X pins σ H' { s with heap:=h1 }:=xj I hstk hfr hx0 c (wv b1) slot
 obtain ⟨oe,vs,T',oT,ts,g1,⟨g2,_⟩,g3,g4,g5,g6,g7,g8,g9⟩:=t1
 have noS:∀ o,s.heap.get? T'=some o->T'=T:=fun o e=>by
  have hm:T'∈jY ex (some T) X:=by
   refine Classical.byContradiction fun hn=>?_
   rw [PySem.W.hideAll_get _ e hn] at g5
   cases g5
  rcases List.mem_cons.mp hm with q | hm
  ·exact absurd q g6
  ·rcases List.mem_append.mp hm with q | q
   ·simpa using q
   ·obtain ⟨o',e',nf⟩:=kw I q
    obtain ⟨sl,e2⟩:=slot T' o' e' q
    rw [g7] at e2
    cases e2
    exact absurd g8 (nf ts)
 obtain ⟨m,hn,_⟩:=hns
 have hn1:=u1.ns hn
 obtain ⟨oL,es,ep,hoL,hdL,_⟩:=id hn1
 have nL:∀ b o ws,h1.get? b=some o->o.data=.fields ws->b≠L:=fun b o ws e d z=>by
  subst z
  rw [hoL] at e; cases e
  rw [hdL] at d; cases d
 obtain ⟨p0,p1,p2,p3,p4,p5⟩:=fp
 refine k { s with heap:=h1 } T' ⟨m,hn1⟩ (fun h' sb=>⟨?_,oe,vs,oT,ts,_,(sb.2 ex (nL _ _ _ g1 g3)).trans g1,g2,g3,g4,g6,(sb.2 T' (nL _ _ _ g7 g8)).trans g7,g8,g9⟩) c.hex ?_ c.n1 ?_
 ·exact I1.turned (h':=h') (t':=s.toks) (it:=L) (fun b o hb e=>(sb.2 b hb).trans e) p0 p1 p3 p4 p5
 ·cases q:H' T' with
  | none=>rfl
  | some u=>
   obtain ⟨o,e⟩:=KY I.hok q
   rw [noS o e,c.hT] at q; cases q
 ·cases q:X.s₀.heap.get? T' with
  | none=>rfl
  | some o=>
   obtain ⟨o',e'⟩:=I.base.there T' o q (by rw [hx0]; simp)
   rw [noS o' e',c.n2] at q; cases q
theorem VI (I:Inv X pins σ H s) (hcalm:X.calm=true) (hstk:X.stack=X.env::X.outer) (hfr:X.env.frame=some X.env.locals) (hx0:X.ex=[]) (S:ScOk X scope) (T:Turn X.prog X.w X.K tg J fp it tn) (st0:tn 0 s.heap) (hf:∀ b∈fp,uw X pins H b)
  (hg:∀ fp L s' H',PG (qF X scope N fp L s' H') tg g) (ht:∀ fp L s' H',PTs (qF X scope N fp L s' H') ifs tt) (he:∀ fp L s' H' xe,jh (CXk X.prog X.w) (ky X scope N fp L s' H' xe) EX->PE (ky X scope N fp L s' H' xe) elt te) (hl:σc.length=N.length)
  (hσ:∀ (j:Nat) (x:Str) (v:V),N[j]?=some x->σc[j]?=some (some v)->(∃ k,(x,k)∈scope.names)->∃ i:Nat,X.N[i]?=some x/\σ[i]?=some (some v)/\Vis X.env.scope x/\(x,NameKind.free)∈scope.names)
  (W:Addr->Nat->Nat->St->Hp->Prop) (Fin:Addr->Hp->Prop) (w0:∀ p,H p=none->∃ m,W p 0 m σc (upd H p (.lst [])))
  (turn:∀ p i m σ1 H1,W p i m σ1 H1->(J.stop i H1/\Fin p H1)\/(J.go i H1/\∀ x H2,J.yld i H1 x H2->g x σ1 H2 fun σ2 H3=>tt σ2 H3 fun b H4=>if b=true then te σ2 H4 fun y H5=>∃ xs,H5 p=some (.lst xs)/\xs.length < sizeLine/\∃ m',m' < m/\W p (i+1) m' σ2 (upd H5 p (.lst (xs++[y]))) else ∃ m',m' < m/\W p (i+1) m' σ2 H4))
  (RR:Value->Addr->Result->Shared->Prop)
  (hRR:∀ p L H' s',Fin p H'->(∃ m,s'.heap.Ns L m)->uw X pins H' L->(∀ h',Heap.SameBut L s'.heap h'->Inv X pins σ H' { s' with heap:=h' })->RR (.ref p) L (.ok .next) s')
  (hRX:∀ p L H' s' ex T Cc,(∃ m,s'.heap.Ns L m)->(∀ h',Heap.SameBut L s'.heap h'->Inv X pins σ H' { s' with heap:=h' }/\FlyA h' ex T (.ref Cc))->H' ex=none->H' T=none->X.s₀.heap.get? ex=none->X.s₀.heap.get? T=none->EX (.ref Cc) none H'->RR (.ref p) L (.error (.ref ex)) s') :
  wpAny (model X.prog X.w) X.A (newList []) (fun acc s₃=>wpAny (model X.prog X.w) X.A (newFunctionEnv scope X.env.globals (uC X.env.cells scope.names []) [] X.env.qual none .none (some X.env)) (fun cenv s₄=>
   codeAny (model X.prog X.w) X.A (.compStart (.ListComp elt [⟨tg,iter,ifs,0⟩] scope pos) 0 (.ref it) acc { cenv with scope:=relabel scope X.env }) (RR acc cenv.locals) s₄) E s₃) E s:=by
 have hfo:∀ b∈fp,b < s.heap.objs.size:=fun b hb=>let ⟨o,e,_⟩:=T.obj 0 _ st0 b hb; Heap.lt_size e
 have hfresh:=I.fresh
 have I3:Inv X pins σ (upd H s.heap.objs.size (.lst [])) { s with heap:=s.heap.push { cls:=.type "list",data:=.seq ([]:List Value).toArray } }:=I.lnew (t':=s.toks) (ys:=[]) (its:=[]) .nil (Nat.zero_le _)
 have hf3:∀ b∈fp,uw X pins (upd H s.heap.objs.size (.lst [])) b:=fun b hb=>⟨by rw [qp (Nat.ne_of_lt (hfo b hb))]; exact (hf b hb).1,(hf b hb).2⟩
 have st3:tn 0 (s.heap.push { cls:=.type "list",data:=.seq ([]:List Value).toArray }):=T.keep 0 _ _ st0 fun b hb o e=>Heap.get?_push_of_some _ e
 refine wpAny_newObj_type (wpAny_newFunctionEnv S.nocell (fun y hy=>by simp at hy) (fun h₁ hns₁ hsb₁=>?_) S.kind)
 dsimp only at hns₁ hsb₁ ⊢
 generalize hs3:({ s with heap:=s.heap.push { cls:=.type "list",data:=.seq ([]:List Value).toArray } }:Shared)=s3 at I3
 have e3:s3.heap=s.heap.push { cls:=.type "list",data:=.seq ([]:List Value).toArray }:=by rw [<-hs3]
 rw [<-e3] at hns₁ hsb₁ st3 ⊢
 have keep:∀ b o,s3.heap.get? b=some o->h₁.get? b=some o:=fun b o e=>(hsb₁.2 b (Nat.ne_of_lt (Heap.lt_size e))).trans (Heap.get?_push_of_some _ e)
 have ho3:∀ b∈fp,b < s3.heap.objs.size:=fun b hb=>by rw [e3,Heap.size_push]; exact Nat.lt_succ_of_lt (hfo b hb)
 have J1:Inv (qF X scope N fp s3.heap.objs.size s3 (upd H s.heap.objs.size (.lst []))) [] σc (upd H s.heap.objs.size (.lst [])) { s3 with heap:=h₁,toks:=s.toks+0 }:=
  QC I3 S hf3 ho3 (by simpa using hns₁) keep hl hσ
 have st4:tn 0 h₁:=T.keep 0 _ _ st3 fun b hb o e=>keep b o e
 have loop:∀ s4:Shared,s4={ s3 with heap:=h₁,toks:=s.toks+0 }->codeAny (model X.prog X.w) X.A (.compLoop (.ListComp elt [⟨tg,iter,ifs,0⟩] scope pos) 0 (.ref it) (.ref s.heap.objs.size) (compEnvC scope (uC X.env.cells scope.names []) s3.heap.objs.size X.env)) (RR (.ref s.heap.objs.size) s3.heap.objs.size) s4:=by
  rintro s4 rfl
  generalize hY:qF X scope N fp s3.heap.objs.size s3 (upd H s.heap.objs.size (.lst []))=Y at J1
  have eP:Y.prog=X.prog:=by rw [<-hY]; rfl
  have ew:Y.w=X.w:=by rw [<-hY]; rfl
  have eA:Y.A=X.A:=by rw [<-hY]; rfl
  have ee:Y.env=compEnvC scope (uC X.env.cells scope.names []) s3.heap.objs.size X.env:=by rw [<-hY]; rfl
  have eK:Y.K=X.K:=by rw [<-hY]; rfl
  have ec:Y.calm=true:=by rw [<-hY]; exact hcalm
  have ex:Y.xe=fun _ _=>False:=by rw [<-hY]; rfl
  have hgY:PG Y tg g:=by rw [<-hY]; exact hg fp _ _ _
  have htY:PTs Y ifs tt:=by rw [<-hY]; exact ht fp _ _ _
  have heY:=he fp s3.heap.objs.size s3 (upd H s.heap.objs.size (.lst [])) _ (VH (scope:=scope) (N:=N) (L:=s3.heap.objs.size) I3 hx0 hf3)
  have stat:∀ {H1:Hp},(∀ b∈fp,H1 b=none)->∀ b∈fp,uw Y [] H1 b:=fun hn b hb=>by
   have q:=J1.ok.exf b (by rw [<-hY]; exact hb)
   refine ⟨hn b hb,q.1,J1.ok.exfs b (by rw [<-hY]; exact hb),.inl (by rw [<-hY]; exact hb),q.2,fun p hp=>?_⟩
   rw [<-hY] at hp
   exact absurd (show p∈([]:List (Addr×Obj)) from hp) (by simp)
  obtain ⟨m0,hm0⟩:=w0 s.heap.objs.size hfresh
  refine JD (fun n s'=>∃ i σ1 H1,Inv Y [] σ1 H1 s'/\tn i s'.heap/\(∀ b∈fp,H1 b=none)/\W s.heap.objs.size i n σ1 H1) ?_ m0 ⟨0,σc,_,J1,st4,fun b hb=>(hf3 b hb).1,hm0⟩
  rintro n s5 ⟨i,σ1,H1,J5,st5,fr5,w5⟩
  rw [<-eP,<-ew,<-eA,<-ee]
  have TY:Turn Y.prog Y.w Y.K tg J fp it tn:=by rw [eP,ew,eK]; exact T
  rcases turn _ i n σ1 H1 w5 with ⟨stop,fin⟩ | ⟨go,step⟩
  ·refine thn (TY.done Y rfl rfl rfl ec i [] s5 σ1 H1 _ J5 (stat fr5) st5 stop) fun r s6 ⟨hr,J6⟩=>?_
   subst hr
   have J6':Inv (qF X scope N fp s3.heap.objs.size s3 (upd H s.heap.objs.size (.lst []))) [] σ1 H1 s6:=by rw [hY]; exact J6
   exact hRR _ _ H1 s6 fin (let ⟨m,hn,_⟩:=J6'.loc; ⟨m,hn⟩) (I3.fpOk (Nat.le_refl _) J6'.free) fun h' sb=>xf (s1:=s6) (H1:=H1) (L:=0) I3 hf3 J6' sb
  ·refine thn (TY.item Y rfl rfl rfl ec i [] s5 σ1 H1 _ J5 (stat fr5) st5 go) fun r s6 ⟨u,hr,h6⟩=>?_
   subst hr
   refine thn h6 fun _ s7 ⟨x,H7,J7,r7,y7,st7,fr7⟩=>?_
   have J7':=J7.pinned (stat fr7) (TY.obj _ _ st7)
   have back:∀ {σ9:St} {H9:Hp} {s9:Shared},Inv Y ([]++wH fp s7.heap) σ9 H9 s9->(∃ m',m' < n/\W s.heap.objs.size (i+1) m' σ9 H9)->∃ m,m < n/\∃ i σ1 H1,Inv Y [] σ1 H1 s9/\tn i s9.heap/\(∀ b∈fp,H1 b=none)/\W s.heap.objs.size i m σ1 H1:=fun {σ9 H9 s9} J9 ⟨m',hm,w9⟩=>by
    refine ⟨m',hm,i+1,σ9,H9,J9.unpinned,TY.keep _ _ _ st7 fun b hb o e=>(J9.pin (b,o) (List.mem_append_right _ (List.mem_append_right _ (jv hb e)))).1,fun b hb=>?_,w9⟩
    obtain ⟨o,e,d⟩:=TY.obj _ _ st7 b hb
    exact (J9.pin (b,o) (List.mem_append_right _ (List.mem_append_right _ (jv hb e)))).2.1
   rw [<-ex]
   refine thn (hgY _ s7 σ1 H7 x u _ J7' r7 (step x H7 y7)) fun _ s8 ⟨σ8,H8,J8,q8⟩=>?_
   refine thn (htY _ s8 σ8 H8 _ J8 q8) fun ok s9 ⟨H9,J9,q9⟩=>?_
   cases ok with
   | false=>exact back J9 q9
   | true=>
    have J9':Inv (qF X scope N fp s3.heap.objs.size s3 (upd H s.heap.objs.size (.lst []))) ([]++wH fp s7.heap) σ8 H9 s9:=by rw [hY]; exact J9
    have run:=heY _ s9 σ8 H9 _ (Xl J9') q9
    rw [eP,ew,eA,ee,ex]
    refine wpAny_mono run (fun v s10 h10=>?_) fun e s10 h10=>?_
    ·obtain ⟨y,H10,J10,r10,xs,hx,hlen,q10⟩:=h10
     have J10:Inv Y ([]++wH fp s7.heap) σ8 H10 s10:=by rw [<-hY]; exact VG J10
     rw [<-eP,<-ew,<-eA]
     have:=uA _ s10 σ8 H10 (.ref s.heap.objs.size) [y] (.ref s.heap.objs.size) [v] (fun _ H11=>∃ m',m' < n/\W s.heap.objs.size (i+1) m' σ8 H11) J10 rfl (.cons r10 .nil) ⟨_,xs,y,rfl,rfl,hx,hlen,q10⟩
     rw [ex] at this
     exact thn this fun _ s11 ⟨_,H11,J11,_,q11⟩=>back J11 q11
    ·obtain ⟨σ1,H',ex',T,Cc,rfl,JX,c,hE⟩:=h10
     have IX:Inv X pins σ H' s10:=xf (s1:=s10) (H1:=H') (L:=0) I3 hf3 JX (Heap.SameBut.refl _ _)
     show wpAny _ X.A (noteFrame (.ref ex') _) _ _ s10
     rw [show noteFrame (.ref ex') (compEnvC scope (uC X.env.cells scope.names []) s3.heap.objs.size X.env)=noteFrame (.ref ex') X.env from JB rfl]
     exact qaU IX hstk hfr hx0 c (I3.fpOk (Nat.le_refl _) JX.free) JX.loc fun s' T' hns hin h1 h2 h3 h4=>hRX _ _ H' s' ex' T' Cc hns hin h1 h2 h3 h4 hE
 have e4:({ heap:=h₁,gens:=s.gens,drawn:=s.drawn,toks:=s.toks+([]:List (Str×Value)).length,os:=s.os }:Shared)={ s3 with heap:=h₁,toks:=s.toks+0 }:=by rw [<-hs3]; rfl
 exact codeAny_compStart_list (loop _ e4) (T.self _ 0 _ _ _ st4 (loop _ e4))
end
noncomputable def Xm (g:D->Sl->Out Sl) (ft:Sl->Out (Bool×Sl)) (fe:Sl->Out (D×Sl)) (d:D) (ρ:Sl):Out (Option D×Sl):=
 (g d ρ).plain.bind fun ρ1=>(ft ρ1).plain.bind fun q=>if q.1=true then (fe q.2).bind fun r=>.ok (some r.1,r.2) else .ok (none,q.2)
noncomputable def vY (g:D->Sl->Out Sl) (ft:Sl->Out (Bool×Sl)) (fe:Sl->Out (D×Sl)):List D->Sl->Out (List D×Sl)
 | [],ρ=>.ok ([],ρ)
 | d::ds,ρ=>(Xm g ft fe d ρ).bind fun p=>(vY g ft fe ds p.2).bind fun q=>.ok (p.1.toList++q.1,q.2)
noncomputable def zK (nt:Nat) (cap:List Nat) (fi:Sl->Out (List D×Sl)) (g:D->Sl->Out Sl) (ft:Sl->Out (Bool×Sl)) (fe:Sl->Out (D×Sl)):Sl->Out (D×Sl):=fun ρ=>(fi ρ).bind fun p=>
 if p.1.length<=sizeLine then (match vY g ft fe p.1 (jb nt cap p.2) with | .ok q=>.ok (.lst q.1,p.2) | .exc c _=>.exc c p.2 | .bad=>.bad) else .bad
def qbn (C:Ct) (E:XK) (nt len:Nat):Ct:=⟨C.K,C.cv,E,ioC nt len,.sh,[],[],fun _ h=>absurd h (by simp)⟩
theorem QU {own:List Nat}:∀ {cap:List Nat} {n:Nat},(∀ k∈cap,k∉own)->vB own n cap=[]
 | [],_,_=>rfl
 | k::cap,n,h=>by
  unfold vB
  rw [if_neg (h k List.mem_cons_self)]
  exact QU fun k' hk=>h k' (List.mem_cons_of_mem _ hk)
theorem JE {g:D->Sl->Out Sl} {ft:Sl->Out (Bool×Sl)} {fe:Sl->Out (D×Sl)} {d:D} {ds acc:List D} {ρ:Sl} {r:Out (List D×Sl)} (h:(vY g ft fe (d::ds) ρ).bind (fun q=>.ok (acc++q.1,q.2))=r) (hr:r≠.bad) :
  ∃ ρ1,g d ρ=.ok ρ1/\∃ b ρ2,ft ρ1=.ok (b,ρ2)/\((b=true/\((∃ y ρ3,fe ρ2=.ok (y,ρ3)/\(vY g ft fe ds ρ3).bind (fun q=>.ok ((acc++[y])++q.1,q.2))=r)\/∃ c ρ3,fe ρ2=.exc c ρ3/\r=.exc c ρ3))\/(b=false/\(vY g ft fe ds ρ2).bind (fun q=>.ok (acc++q.1,q.2))=r)):=by
 unfold vY Xm at h
 cases q1:g d ρ with
 | exc c=>rw [q1] at h; exact absurd h.symm hr
 | bad=>rw [q1] at h; exact absurd h.symm hr
 | ok ρ1=>
  rw [q1] at h
  refine ⟨ρ1,rfl,?_⟩
  simp only [Out.plain,Out.ok_bind] at h
  cases q2:ft ρ1 with
  | exc c=>rw [q2] at h; exact absurd h.symm hr
  | bad=>rw [q2] at h; exact absurd h.symm hr
  | ok p=>
   obtain ⟨b,ρ2⟩:=p
   rw [q2] at h
   refine ⟨b,ρ2,rfl,?_⟩
   simp only [Out.plain,Out.ok_bind] at h
   cases b with
   | true=>
    refine .inl ⟨rfl,?_⟩
    simp only [if_true] at h
    cases q3:fe ρ2 with
    | exc c ρ3=>rw [q3] at h; exact .inr ⟨c,ρ3,rfl,h.symm⟩
    | bad=>rw [q3] at h; exact absurd h.symm hr
    | ok p=>
     obtain ⟨y,ρ3⟩:=p
     rw [q3] at h
     refine .inl ⟨y,ρ3,rfl,?_⟩
     simp only [Out.ok_bind] at h
     rw [<-h]
     cases vY g ft fe ds ρ3 with
     | ok q=>simp [Out.bind]
     | exc c o=>rfl
     | bad=>rfl
   | false=>
    refine .inr ⟨rfl,?_⟩
    simp only [Bool.false_eq_true,if_false,Out.ok_bind] at h
    rw [<-h]
    cases vY g ft fe ds ρ2 with
    | ok q=>simp [Out.bind]
    | exc c o=>rfl
    | bad=>rfl
structure CWX (C:Ct) (F H:Hp) (g:D->Sl->Out Sl) (ft:Sl->Out (Bool×Sl)) (fe:Sl->Out (D×Sl)) (ds:List D) (r:Out (List D×Sl)) (p:Addr) (i:Nat) (σ1:St) (H1:Hp) (F1:Hp) (ρi:Sl) (accD:List D) (xs:List V):Prop where
 rep:Rep C.K [] F1 H1 σ1 ρi
 chg:Chg No F H F1 H1
 at_:H1 p=some (.lst xs)
 nF:F1 p=none
 is:IsL C.K F1 xs accD
 le:accD.length<=i
 run:(vY g ft fe (ds.drop i) ρi).bind (fun q=>.ok (accD++q.1,q.2))=r
section
variable {X:Cx} {C:Ct} {own cap:List Nat} {nt:Nat} {scope:Scope} {N:List Str} {tg elt iter:Expr} {ifs:List Expr} {pos:Pos} {fi:Sl->Out (List D×Sl)} {g:D->Sl->Out Sl} {ft:Sl->Out (Bool×Sl)} {fe:Sl->Out (D×Sl)} {me:Mo}
theorem JF {pins:List (Addr×Obj)} {s:Shared} {σ:St} {F H:Hp} {ρ1:Sl} {it:Addr} {fp:List Addr} {tn:Nat->Heap->Prop} {J:It} {E:Value->Shared->Prop} {ds:List D} {r:Out (List D×Sl)} (I:Inv X pins σ H s) (hcalm:X.calm=true) (hstk:X.stack=X.env::X.outer) (hfr:X.env.frame=some X.env.locals) (hx0:X.ex=[]) (S:ScOk X scope) (CO:CapOk X scope N nt cap)
  (T:Turn X.prog X.w X.K tg J fp it tn) (st0:tn 0 s.heap) (hf:∀ b∈fp,uw X pins H b) (rp:Rep C.K own F H σ ρ1) (itI:ItIs C.K F J ds) (hz:ds.length<=sizeLine) (hcap:∀ k∈cap,k∉own)
  (hg:∀ fp L s' H',PG (qF X scope N fp L s' H') tg (tGd (ctC C nt cap.length) [] g)) (ht:∀ fp L s' H',PTs (qF X scope N fp L s' H') ifs (tT (ctC C nt cap.length) [] ft))
  (he:∀ fp L s' H' xe E,jh (CXk X.prog X.w) (ky X scope N fp L s' H' xe) E->PE (ky X scope N fp L s' H' xe) elt (tE (qbn C E nt cap.length) [] me fe)) (hme:me≠.any)
  (hrun:vY g ft fe ds (jb nt cap ρ1)=r) (hr:r≠.bad) (RR:Value->Addr->Result->Shared->Prop)
  (hRR:∀ p L s' F' H' ys ρe,r=.ok (ys,ρe)->H p=none->Same F' H'->Chg No F H F' H'->F' p=none->OwnIs C.K F' H' p (.lst ys)->(∃ m,s'.heap.Ns L m)->(∀ h',Heap.SameBut L s'.heap h'->Inv X pins σ H' { s' with heap:=h' })->RR (.ref p) L (.ok .next) s')
  (hRX:∀ p L s' F' H' ex T Cc c ρe,r=.exc c ρe->.ref Cc=C.cv c->Same F' H'->Chg No F H F' H'->(∃ m,s'.heap.Ns L m)->(∀ h',Heap.SameBut L s'.heap h'->Inv X pins σ H' { s' with heap:=h' }/\FlyA h' ex T (.ref Cc))->H' ex=none->H' T=none->X.s₀.heap.get? ex=none->X.s₀.heap.get? T=none->RR (.ref p) L (.error (.ref ex)) s') :
  wpAny (model X.prog X.w) X.A (newList []) (fun acc s₃=>wpAny (model X.prog X.w) X.A (newFunctionEnv scope X.env.globals (uC X.env.cells scope.names []) [] X.env.qual none .none (some X.env)) (fun cenv s₄=>
   codeAny (model X.prog X.w) X.A (.compStart (.ListComp elt [⟨tg,iter,ifs,0⟩] scope pos) 0 (.ref it) acc { cenv with scope:=relabel scope X.env }) (RR acc cenv.locals) s₄) E s₃) E s:=by
 have no:∀ {σ1:St} {Fa Ha Fb Hb:Hp},Chg (OA [] σ1) Fa Ha Fb Hb->Chg No Fa Ha Fb Hb:=fun c=>c.mono fun b ⟨i,hi,_⟩=>by simp at hi
 have rc:=KS (nt:=nt) rp CO.nd
 rw [QU hcap] at rc
 refine VI (σc:=jb nt cap σ) (EX:=fun cls _ H'=>∃ c ρe F',r=.exc c ρe/\cls=C.cv c/\Same F' H'/\Chg No F H F' H') I hcalm hstk hfr hx0 S T st0 hf hg ht (fun fp L s' H' xe hx=>wn (he fp L s' H' xe _ hx) hme) (by rw [xh,CO.len]) (fun j x v e1 e2 e3=>?_)
  (fun p i m σ1 H1=>H p=none/\m=ds.length - i/\i<=ds.length/\∃ F1 ρi accD xs,CWX C F H g ft fe ds r p i σ1 H1 F1 ρi accD xs)
  (fun p H1=>H p=none/\∃ F1 xs ys ρe,r=.ok (ys,ρe)/\Same F1 H1/\Chg No F H F1 H1/\H1 p=some (.lst xs)/\F1 p=none/\IsL C.K F1 xs ys) (fun p hp=>?_) ?_ RR ?_ ?_
 ·obtain ⟨j',k,rfl,h1,h2⟩:=get_cap.mp e2
  obtain ⟨y,g1,g2,g3⟩:=CO.at_ j' k h1
  rw [g1] at e1; cases e1
  obtain ⟨k',hk'⟩:=e3
  rcases g3 with ⟨g3,g4⟩ | g3
  ·exact ⟨k,g2,h2,g3,g4⟩
  ·exact absurd hk' (g3 k')
 ·obtain ⟨r1,c1,hF⟩:=KK (C:=C) (u:=.lst []) rc hp
  refine ⟨ds.length,hp,by simp,Nat.zero_le _,F,jb nt cap ρ1,[],[],r1,c1,qf,hF,.nil,Nat.le_refl _,?_⟩
  rw [List.drop_zero,hrun]
  cases r with
  | ok q=>simp [Out.bind]
  | exc c o=>rfl
  | bad=>rfl
 ·rintro p i m σ1 H1 ⟨hp,rfl,hle,F1,ρi,accD,xs,w⟩
  by_cases hlt:i < ds.length
  ·have hd:ds.drop i=ds[i]::ds.drop (i+1):=List.drop_eq_getElem_cons hlt
   have run:=w.run
   rw [hd] at run
   obtain ⟨ρa,ea,b,ρb,eb,hrest⟩:=JE run hr
   have sub1:Same F H1:=w.chg.grow.trans w.rep.sub
   refine .inr ⟨itI.go i H1 hlt sub1,fun x H2 y=>?_⟩
   obtain ⟨F2,c2,s2,is2⟩:=itI.yld i F1 H1 x H2 ds[i] (by simp [hlt]) w.chg.grow w.rep.sub y
   have rp2:=w.rep.grow c2 s2
   have keepP:∀ {Fa Ha Fb Hb:Hp} {zs:List V},Chg No Fa Ha Fb Hb->Ha p=some (.lst zs)->Fa p=none->Hb p=some (.lst zs)/\Fb p=none:=fun {Fa Ha Fb Hb zs} c e1 e2=>by
    refine ⟨c.keep p _ e1 fun z=>z,?_⟩
    cases q:Fb p with
    | none=>rfl
    | some u=>
     rcases c.new p (by rw [q]; simp) with z | z | z
     ·exact absurd e2 z
     ·rw [e1] at z; cases z
     ·exact z.elim
   obtain ⟨at2,nF2⟩:=keepP c2 w.at_ w.nF
   refine ⟨F2,ρi,ds[i],rp2,is2,ρa,ea,fun σ3 rp3 oa3 io3=>?_⟩
   refine ⟨F2,ρa,rp3,?_⟩
   rw [eb]
   intro F4 H4 rp4 c4
   have c4:=no c4
   obtain ⟨at4,nF4⟩:=keepP c4 at2 nF2
   have chg4:Chg No F H F4 H4:=(w.chg.trans' c2).trans' c4
   have is4:IsL C.K F4 xs accD:=(w.is.mono c2.grow).mono c4.grow
   rcases hrest with ⟨rfl,hrest⟩ | ⟨rfl,er⟩
   ·rw [if_pos rfl]
    refine ⟨F4,ρb,rp4,?_⟩
    rcases hrest with ⟨y',ρc,ec,er⟩ | ⟨c,ρc,ec,er⟩
    ·rw [ec]
     intro v F5 H5 rp5 c5 mo5
     have c5:=no c5
     obtain ⟨at5,nF5⟩:=keepP c5 at4 nF4
     have hlen:xs.length=accD.length:=is4.length
     refine ⟨xs,at5,by have:=w.le; omega,ds.length - (i+1),by omega,hp,rfl,hlt,F5,ρc,accD++[y'],xs++[v],?_⟩
     have cp:Chg (fun b=>b=p) F5 H5 F5 (upd H5 p (.lst (xs++[v]))):=⟨fun b o e n=>by rw [qp n]; exact e,fun b e=>by
      by_cases q:b=p
      ·rw [q,qf]; simp
      ·rw [qp q]; exact e,Same.refl _,fun b e=>.inl e⟩
     have sb5:Same F5 (upd H5 p (.lst (xs++[v]))):=fun b o e=>by rw [qp (qv e nF5)]; exact rp5.sub b o e
     have rp6:Rep C.K [] F5 (upd H5 p (.lst (xs++[v]))) σ3 ρc:=⟨sb5,rp5.len,rp5.val,fun i d hi e=>by simp at hi,fun i hi=>by simp at hi,fun i j a hi=>by simp at hi⟩
     refine ⟨rp6,?_,qf,nF5,(is4.mono c5.grow).append (.cons mo5 .nil),by simp only [List.length_append,List.length_cons,List.length_nil]; have:=w.le; omega,er⟩
     exact (chg4.trans' c5).trans cp fun b z=>.inr (by rw [z]; exact hp)
    ·rw [ec]
     exact fun F5 H5 s5 _ c5=>⟨c,ρc,F5,er,rfl,s5,chg4.trans' (no c5)⟩
   ·rw [if_neg Bool.false_ne_true]
    exact ⟨ds.length - (i+1),by omega,hp,rfl,hlt,F4,ρb,accD,xs,rp4,chg4,at4,nF4,is4,by have:=w.le; omega,er⟩
  ·have e:i=ds.length:=by omega
   subst e
   have run:=w.run
   rw [List.drop_length] at run
   unfold vY at run
   simp only [Out.ok_bind,List.append_nil] at run
   exact .inl ⟨itI.stop _ H1 (Nat.le_refl _) (w.chg.grow.trans w.rep.sub),hp,F1,xs,accD,ρi,run.symm,w.rep.sub,w.chg,w.at_,w.nF,w.is⟩
 ·rintro p L H' s' ⟨hp,F1,xs,ys,ρe,er,s1,c1,e1,n1,is1⟩ hns hfp hinv
  exact hRR p L s' F1 H' ys ρe er hp s1 c1 n1 ⟨xs,e1,is1⟩ hns hinv
 ·rintro p L H' s' ex T Cc hns hinv h1 h2 h3 h4 ⟨c,ρe,F',er,ec,s1,c1⟩
  exact hRX p L s' F' H' ex T Cc c ρe er ec s1 c1 hns hinv h1 h2 h3 h4
theorem Ug (hcalm:X.calm=true) (hpc:Gb X C.E) (S:ScOk X scope) (CO:CapOk X scope N nt cap) (hi:PI X tg iter (tIt C own fi))
  (hg:∀ fp L s' H',PG (qF X scope N fp L s' H') tg (tGd (ctC C nt cap.length) [] g)) (ht:∀ fp L s' H',PTs (qF X scope N fp L s' H') ifs (tT (ctC C nt cap.length) [] ft))
  (he:∀ fp L s' H' xe E,jh (CXk X.prog X.w) (ky X scope N fp L s' H' xe) E->PE (ky X scope N fp L s' H' xe) elt (tE (qbn C E nt cap.length) [] me fe)) (hme:me≠.any:=by decide) (hcap:∀ k∈cap,k∉own:=by decide) (hox:∀ i∈C.ox,i∈own:=by exact jI rfl) (hs:∀ x,foldedSetIterable iter X.env x=pure x:=by intro _; rfl)
  (hstk:X.stack=X.env::X.outer:=by rfl) (hfr:X.env.frame=some X.env.locals:=by rfl) (hx0:X.ex=[]:=by rfl) :
  PE X (.ListComp elt [⟨tg,iter,ifs,0⟩] scope pos) (tE C own .fr (zK nt cap fi g ft fe)):=by
 refine ⟨?_⟩
 intro pins s σ H Q I ⟨F,ρ,rp,h⟩
 rw [eval_ListComp]
 have main:tIt C own fi σ H fun J H1=>∃ ds ρ1 r F1,ds.length<=sizeLine/\vY g ft fe ds (jb nt cap ρ1)=r/\r≠.bad/\Rep C.K own F1 H1 σ ρ1/\Chg (OA own σ) F H F1 H1/\ItIs C.K F1 J ds/\Po C own .fr σ F H (match r with | .ok q=>.ok (.lst q.1,ρ1) | .exc c _=>.exc c ρ1 | .bad=>.bad) Q:=by
  refine ⟨F,ρ,rp,?_⟩
  unfold zK at h
  cases q:fi ρ with
  | exc c=>rw [q] at h; exact h
  | bad=>rw [q] at h; exact h.elim
  | ok p=>
   obtain ⟨ds,ρ1⟩:=p
   rw [q] at h
   have h:Po C own .fr σ F H (if ds.length<=sizeLine then (match vY g ft fe ds (jb nt cap ρ1) with | .ok q=>.ok (.lst q.1,ρ1) | .exc c _=>.exc c ρ1 | .bad=>.bad) else .bad) Q:=h
   by_cases z:ds.length<=sizeLine
   ·rw [if_pos z] at h
    exact fun J F1 H1 rp1 c1 it=>⟨ds,ρ1,_,F1,z,rfl,fun z=>by rw [z] at h; exact h.elim,rp1,c1,it,h⟩
   ·rw [if_neg z] at h; exact h.elim
 refine wpAny_comprehension_free (use:=none) rfl hs (wt (vV I S)) S.kind S.names (thn (hi pins s σ H _ I main) fun xv s1 h1=>thn h1 fun itv s2 h2=>?_)
 obtain ⟨it,fp,tn,J,H2,e,I2,T,st2,f2,ds,ρ1,r,F1,hz,hrun,hr,rp1,c1,itI,po⟩:=h2
 subst e
 refine JF (RR:=fun acc C'=>compPost (model X.prog X.w) X.A X.xe none (EP X pins σ Q) acc C') I2 hcalm hstk hfr hx0 S CO T st2 f2 rp1 itI hz hcap hg ht he hme hrun hr (fun p L s' F' H' ys ρe er hp s3 c' nF o hns hinv=>?_) fun p L s' F' H' ex T Cc c ρe er ec s3 c' hns hinv h1 h2 h3 h4=>?_
 ·obtain ⟨m,hn⟩:=hns
  subst er
  refine ⟨m,hn,fun h' sb=>⟨.ref p,H',hinv h' sb,rfl,?_⟩⟩
  refine po (.ref p) F' H' (rp1.grow c' s3) (c1.trans' c'.ofNo) ⟨p,rfl,?_,nF,o⟩
  cases q:H p with
  | none=>rfl
  | some u=>exact absurd hp (c1.stay p (by rw [q]; simp))
 ·obtain ⟨m,hn⟩:=hns
  subst er
  refine ⟨m,hn,fun h' sb cenv _=>?_⟩
  obtain ⟨IX,fl⟩:=hinv h' sb
  refine hpc pins σ H' _ ex T Cc cenv _ IX fl h1 h2 h3 h4 ?_
  rw [ec]
  exact po F' H' s3 ((rp1.grow c' s3).ioIs hox) (c1.trans' c'.ofNo)
end
section
variable {prog:Program} {w:World} {A:Around} {E:Value->Shared->Prop} {s:Shared}
theorem VJ {T:String} {name:Str} {id:String} {B:Builtin} {self:Value} {rest:List Value} {m:Made} {Q:Value->Shared->Prop}
  (slot:Slot T name id) (hT:s.TypeIs self T) (entry:entryFor table id=some B) (args:argsOk id ⟨self::rest,[]⟩) (g:Gives (B ⟨self::rest,[]⟩) m) (h:m.post Q s) :
  wpAny (model prog w) A (call (.builtin id) (self::rest)) Q E s:=
 wpAny_call (codeAny_call_builtin slot.plain entry (slot.check _ _ _ _ _ _ _ _ hT args
  (g prog w A (fun r s'=>match r with | .ok (.ret v)=>Q v s' | .ok _=>False | .error e=>E e s') s h)))
noncomputable def yv (x:Str):List Str:=x.cps.toList.map fun c=>⟨#[c]⟩
theorem yN:∀ (cs:List Nat) (us:List Value),us.length=cs.length->(∀ (j:Nat) (v:Value),us[j]?=some v->∃ c u,cs[j]?=some c/\v=Value.str ⟨#[c]⟩ u)->StrsAre us (cs.map fun c=>(⟨#[c]⟩:Str))
 | [],[],_,_=>.nil
 | [],_::_,h,_=>by cases h
 | _::_,[],h,_=>by cases h
 | c::cs,u::us,h,k=>by
  obtain ⟨c',t,e1,e2⟩:=k 0 u rfl
  cases e1
  rw [e2]
  refine .cons _ t (yN cs us (by simpa using h) fun j v e=>?_)
  simpa using k (j+1) v (by simpa using e)
theorem JG {x:Str} {acc:Array Value} (h:ItemsOf (SignAt x) acc x.cps.size):StrsAre acc.toList (yv x):=by
 refine yN _ _ (by simpa using h.1) fun j v e=>?_
 obtain ⟨c,u,e1,e2⟩:=h.2 j v (by rw [<-Array.getElem?_toList]; exact e)
 exact ⟨c,u,by simpa using e1,e2⟩
theorem JH {x:Str} {t:Tok} {Q:Value->Shared->Prop} (hh:A.handled=none) (h64:x.length < 64)
  (hQ:∀ (h1 h':Heap) tk vs e ss',(∀ b o,s.heap.get? b=some o->h1.get? b=some o)->(∀ b o,h1.get? b=some o->h'.get? b=some o)->h'.get? h1.objs.size=some (seqObj "list" vs e)->StrsAre vs.toList ss'->ss'.Perm (yv x)->sortedS ss'=true->Q (.ref h1.objs.size) { s with heap:=h',toks:=tk }) :
  wpAny (model prog w) A (call (.builtin "sorted") [.str x t]) Q E s:=by
 refine Calls.call_function_entry kind_sorted plain_sorted entry_sorted (args_sorted1 _) ?_; unfold Builtin.«sorted»
 refine wpAny_bind (m:=checkCount "sorted" 1 1 _) (wpAny_pure ?_)
 refine wpAny_bind (wpAny_collect_str (A:=A.in1) (show A.in1.handled=none from hh) x t (fun s' acc k1 e1 e2 e3 hi=>?_) (by rw [sizeLine_eq]; exact Nat.le_trans (Nat.le_of_lt h64) (by decide)))
 obtain ⟨h1,g',d',tk',os'⟩:=s'
 have e1:g'=s.gens:=e1
 have e2:d'=s.drawn:=e2
 have e3:os'=s.os:=e3
 subst e1 e2 e3
 have hst:=JG hi
 have hl:acc.toList.length < 64:=by
  rw [hst.length]
  unfold yv
  rw [List.length_map,Array.length_toList]
  exact h64
 refine wpAny_bind (wpAny_newList ?_ (by rw [sizeLine_eq]; omega))
 have hoL:(h1.push (seqObj "list" acc.toList.toArray 0)).get? h1.objs.size=some (seqObj "list" acc.toList.toArray 0):=Heap.get?_push_size _ rfl
 refine wpAny_bind (wpAny_holding (wpAny_call_entry slot_list_sort (s:={ s with heap:=h1.push (seqObj "list" acc.toList.toArray 0),toks:=tk' }) ⟨_,hoL,rfl⟩ entry_list_sort (list_sort_treeK strKind_oneLt hoL hst.keysOf (fun v₁ v₂ rest e=>keyKind_strs (by rw [<-e]; exact hst)) hl fun st' a1 a2=>⟨_,rfl,?_⟩) (args_list_sort _)))
 obtain ⟨ss',b1,b2,b3⟩:=sorted_out_str hst a1 a2
 obtain ⟨e,he⟩:=sortedHeap_at (out:=(arrOf st').map (·.2)) hoL
 refine wpAny_pure ⟨_,rfl,hQ h1 _ tk' _ e ss' k1 (fun b o eb=>?_) he b1 b2 b3⟩
 have hb:=Heap.lt_size eb
 rw [sortedHeap_old (Nat.ne_of_lt hb) (by rw [Heap.size_push]; exact Nat.lt_succ_of_lt hb)]
 exact Heap.get?_push_of_some _ eb
end
noncomputable def QV:D->Out D
 | .str x=>if x.length < 64 then .ok (.lst ((xp (yv x)).map D.str)) else .bad
 | _=>.bad
noncomputable def uQ:D->D->Out D
 | .str x,.str y=>match Builtin.Str.occurrences x y 0 x.length 1 with
  | i::_=>.ok (.int i)
  | []=>.bad
 | _,_=>.bad
noncomputable def QW:D->Out D
 | .str x=>if Builtin.Str.tooLong (Txt.upper x).length=false then .ok (.str (Txt.upper x)) else .bad
 | _=>.bad
noncomputable def US:D->Out D:=fun _=>.bad
section
variable {X:Cx} {C:Ct} {own:List Nat} {a b e:Expr} {fa fb:Sl->Out (D×Sl)} {m ma mb:Mo} {pos:Pos} {x:Str}
theorem uR {z:Str} (h:∃ t,X.mg x=some (.str z t)) (hg:Gl X x) (hz:z.length<=sizeLine:=by decide) (hd:(x == ("__debug__":Str))=false:=by decide):PE X (.Name x pos) (tE C own .sh (dC (.str z))):=by
 obtain ⟨t,h⟩:=h
 exact gu (v:=.str z) hg h ⟨t,rfl⟩ (fun _=>.str hz) hd
theorem Gd {f:Value}:yY X C m f US:=by
 intro pins s σ H xs us Q I r h
 obtain ⟨x,F,dx,rfl,sb,tx,po⟩:=h
 exact po.elim
theorem JI (hc:X.calm=true):yY X C .fr (.builtin "sorted") QV:=by
 intro pins s σ H xs us Q I r h
 obtain ⟨x,F,dx,rfl,sb,tx,po⟩:=h
 obtain ⟨u,rfl,ru⟩:=ua r
 cases dx with
 | str z=>
  obtain ⟨rfl,hz⟩:=tx.str
  obtain ⟨t,rfl⟩:=ru
  have po:PoV C .fr F H (if z.length < 64 then .ok (.lst ((xp (yv z)).map D.str)) else .bad) Q:=po
  by_cases hl:z.length < 64
  ·rw [if_pos hl] at po
   refine JH (I.ok.hd hc) hl fun h1 h' tk vs e ss' k1 k2 hp st pm so=>?_
   rw [Vo pm so] at st
   have I1:Inv X pins σ H { s with heap:=h1,toks:=tk }:=I.kept (t':=tk) k1
   have hz:(xp (yv z)).length<=sizeLine:=by
    rw [(vt _).length_eq,sizeLine_eq]
    unfold yv
    rw [List.length_map,Array.length_toList]
    exact Nat.le_trans (Nat.le_of_lt hl) (by decide)
   have hq:H h1.objs.size=none:=I1.hok.fresh (Nat.le_refl _)
   obtain ⟨s2,c2,f2⟩:=wp (u:=.lst ((xp (yv z)).map V.str)) sb hq
   exact ⟨.ref h1.objs.size,_,I1.laid (t':=tk) (o:=.lst ((xp (yv z)).map V.str)) k2 (Nat.le_refl _) ⟨by rw [List.length_map]; exact hz,vs.toList,e,zH st,by simpa [seqObj] using hp⟩,rfl,po _ _ _ s2 c2 ⟨_,rfl,hq,f2,_,qf,QL fun y hy2=>by
    have:=(vt _).mem_iff.mp hy2
    unfold yv at this
    obtain ⟨c,_,rfl⟩:=List.mem_map.mp this
    show 1<=sizeLine
    rw [sizeLine_eq]
    decide⟩⟩
  ·rw [if_neg hl] at po; exact po.elim
 | _=>exact po.elim
theorem VL:MtD X C .sh "str.index" uQ:=by
 intro pins s σ H x vs v us Q I rx rv h
 obtain ⟨y,F,dx,dy,rfl,sb,tx,ty,po⟩:=h
 obtain ⟨u,rfl,ru⟩:=rv.one
 cases dx <;> try exact po.elim
 rename_i sx
 cases dy <;> try exact po.elim
 rename_i sy
 obtain ⟨rfl,hzx⟩:=tx.str
 obtain ⟨rfl,hzy⟩:=ty.str
 obtain ⟨t,rfl⟩:=rx
 obtain ⟨t',rfl⟩:=ru
 have po:PoV C .sh F H (match Builtin.Str.occurrences sx sy 0 sx.length 1 with | i::_=>.ok (.int i) | []=>.bad) Q:=po
 cases ho:Builtin.Str.occurrences sx sy 0 sx.length 1 with
 | nil=>rw [ho] at po; exact po.elim
 | cons i rest=>
  rw [ho] at po
  exact VJ PySem.F.slot_str_index (typeIs_str _ _ _) PySem.F.entry_str_index (PySem.F.args_str_index_2 _ _) (gives_str_index sx sy t t' i rest ho) ⟨.int i,H,I.tok _,⟨_,rfl⟩,po _ F H sb .refl (.int i)⟩
theorem Uh {apos cpos:Pos} (ha:PE X a (tE C own ma fa)) (hbase:attributeBase a "upper" X.env (eval a X.env)=eval a X.env:=by rfl) (hline:(apos.endLine == cpos.line)=true:=by rfl) :
  PE X (.Call (.Attribute a "upper" apos) [] [] cpos) (tE C own .sh (d1 QW fa)):=by
 refine qS (Zo (r:=fun x xs H Q=>∃ F dx,xs=[]/\Same F H/\TopIs C.K F H x dx/\PoV C .sh F H (QW dx) Q) PySem.F.plainAttrs_str PySem.F.slot_str_upper PySem.F.type_str_upper ?_ ha hbase hline) fun σ H Q h=>?_
 ·intro pins s σ H x vs v us Q I rx rv h
  obtain ⟨F,dx,rfl,sb,tx,po⟩:=h
  cases rv
  cases dx <;> try exact po.elim
  rename_i sx
  obtain ⟨rfl,hzx⟩:=tx.str
  obtain ⟨t,rfl⟩:=rx
  have po:PoV C .sh F H (if Builtin.Str.tooLong (Txt.upper sx).length=false then .ok (.str (Txt.upper sx)) else .bad) Q:=po
  by_cases hc:Builtin.Str.tooLong (Txt.upper sx).length=false
  ·rw [if_pos hc] at po
   exact VJ PySem.F.slot_str_upper (typeIs_str _ _ _) PySem.F.entry_str_upper (PySem.F.args_str_upper_1 _) (gives_str_upper sx t hc) ⟨fit_le hc,.str (Txt.upper sx),H,I.tok _,⟨_,rfl⟩,po _ F H sb .refl (.str (fit_le hc))⟩
  ·rw [if_neg hc] at po; exact po.elim
 ·refine xr (zk (ma:=ma) h) fun x H1 ⟨F,dx,sb,tx,po⟩=>?_
  refine ⟨?_,F,dx,rfl,sb,tx,po⟩
  cases dx <;> try exact po.elim
  obtain ⟨rfl,hz⟩:=tx.str
  rfl
theorem VM:vD X (.type "range") (fun xs H Q=>∃ i j:Int,xs=[.int i,.int j]/\∀ p,H p=none->Q (.ref p) (upd H p (GL p i j))):=by
 intro pins s σ H xs us Q I r h
 obtain ⟨i,j,rfl,q⟩:=h
 cases r with
 | cons ri rj=>
  obtain ⟨t,rfl⟩:=ri
  obtain ⟨u,rfl,ru⟩:=ua rj
  obtain ⟨t',rfl⟩:=ru
  exact call_range_2 ⟨.ref s.heap.objs.size,_,I.laid (t':=s.toks+1) (fun b o e=>Heap.get?_push_of_some _ e) (Nat.le_refl _) (Xi (IsRange.new ..)),rfl,q _ (I.hok.fresh (Nat.le_refl _))⟩
noncomputable def uS:D->D->Out D
 | .int i,.int j=>if GK i j/\j - i<=1000000 then .ok (.lst (gC i (j - i).toNat)) else .bad
 | _,_=>.bad
theorem gO {p p2 pos2:Pos} {e2:Expr} (hc:X.calm=true) (hg:Gl X "list") (hm:X.mg "list"=none) (hv:bootBuiltins "list"=some (.type "list")) (hg2:Gl X "range") (hm2:X.mg "range"=none) (hv2:bootBuiltins "range"=some (.type "range")) (ha:PE X e (tE C own ma fa)) (hb:PE X e2 (tE C own mb fb)) (hma:ma≠.any:=by decide)
  (he:starEach [e2] X.env=[(false,eval e2 X.env)]:=by exact qM rfl) (he3:starEach [e,e2] X.env=[(false,eval e X.env),(false,eval e2 X.env)]:=by rfl) (he2:starEach [.Call (.Name "range" p2) [e,e2] [] pos2] X.env=[(false,eval (.Call (.Name "range" p2) [e,e2] [] pos2) X.env)]:=by exact qM rfl) :
  PE X (.Call (.Name "list" p) [.Call (.Name "range" p2) [e,e2] [] pos2] [] pos) (tE C own .fr (d2 uS fa fb)):=by
 refine qS (vM (Ue hc) hg hm hv (qG (vM VM hg2 hm2 hv2 (qG ha (qG hb qZ he) (by rw [he3,he])) (by decide) (by decide) (by rw [he3,he]) (by rw [he]; rfl)) qZ he2) (by decide) (by decide) (by rw [he2]; rfl) rfl) fun σ H Q h=>?_
 refine xr (QF (ma:=ma) (mb:=mb) hma h) fun x H0 h0=>xr h0 fun y H1 ⟨x',y',F,dx,dy,ex,sb,tx,ty,po⟩=>?_
 cases ex
 cases dx <;> try exact po.elim
 rename_i i
 cases dy <;> try exact po.elim
 rename_i j
 unfold uS at po
 by_cases hz:GK i j/\j - i<=1000000
 ·simp only [if_pos hz] at po
  obtain rfl:=tx.int
  obtain rfl:=ty.int
  refine ⟨i,j,rfl,fun q hq=>⟨q,i,j,rfl,qf,hz,fun l hl2=>?_⟩⟩
  obtain ⟨s1,c1,f1⟩:=wp (u:=GL q i j) sb hq
  obtain ⟨s2,c2,f2⟩:=wp (u:=.lst ((List.range (j - i).toNat).map fun k=>V.int (i+(k:Nat)))) s1 hl2
  have hl1:H1 l=none:=by
   by_cases z:l=q
   ·rw [z] at hl2
    rw [qf] at hl2
    cases hl2
   ·rwa [qp z] at hl2
  exact po _ _ _ s2 (c1.trans' c2) ⟨l,rfl,hl1,f2,_,qf,VA _⟩
 ·simp only [if_neg hz] at po
  exact po.elim
end
section
variable {X:Cx} {C:Ct} {own:List Nat} {G:List D->Out (D×List D)} {mr:Mo} {x:Str} {p pos:Pos} {ps:List Str} {k j:Nat} {cv:Str->Value}
theorem VN (F:DefOk X.prog X.w X.K X.mg X.base cv j x ps [] mr G) (hr:Room k X.A) (hj:j<=k) (hx:jh (CXk X.prog X.w) X C.E) (hg:Gl X x) (hcv:C.cv=cv:=by rfl) (hK:C.K=X.K:=by rfl) (hio:∀ i∈C.ox,i∈own:=by exact jI rfl)
  (hdb:(x == ("__debug__":Str))=false:=by decide):PE X (.Call (.Name x p) [] [] pos) (tE C own mr (qB [] G qO)):=by
 subst hcv
 obtain ⟨f,fd,F,hm,hk,hb⟩:=F
 rw [<-hK] at F
 refine qS (Wv (E:=C.E) (F:=by rw [<-hK]; exact F) (hr.mono hj) hg hm hk hb .nil hx hdb) fun σ H Q h=>?_
 obtain ⟨F,ρ,rp,h⟩:=xa (as:=[]) hio (fun i hi=>nomatch hi) (by decide) (by decide) h
 exact h [] F H rp .refl trivial
end
end L2.D2
set_option maxHeartbeats 4000000
namespace Kx
open PySem PySem.Spec PyProof.Rows L2 L2.D2
noncomputable def top (i:Nat):Stmt:=PySem.Challenge.pw_lookwords_k21_seen_refused.main.body.getD i (.Pass ⟨0,0,0,0⟩)
noncomputable def CS:List Str:=["NoWords", "NoLook", "NoNumbers", "NoRoom", "NoWord", "NoWorths", "Never", "Full", "Known", "NoPlace", "NoLetters", "NoText", "Nothing"]
noncomputable def FS:List Str:=["alike", "best_looks", "mirrored", "renamed", "turned"]
structure Zt (K:Frag) (mg:Str->Option Value) (cv:Str->Value) (ca:Str->Addr):Prop where
 xs:Xs K cv ca CS "WordError"
 mref:∀ c∈CS,mg c=some (.ref (ca c))
 xin:∀ c∈CS,PySem.W.excIn K (ca c) bmV "ValueError.__new__"=true
 fref:∀ x∈FS,mg x=some (.ref (ca x))
 m_WordError:mg "WordError"=some (cv "WordError")
 z_ValueError:mg "ValueError"=none
 z_all:mg "all"=none
 z_bool:mg "bool"=none
 z_enumerate:mg "enumerate"=none
 z_int:mg "int"=none
 z_isinstance:mg "isinstance"=none
 z_len:mg "len"=none
 z_list:mg "list"=none
 z_max:mg "max"=none
 z_min:mg "min"=none
 z_range:mg "range"=none
 z_set:mg "set"=none
 z_sorted:mg "sorted"=none
 z_str:mg "str"=none
 z_tuple:mg "tuple"=none
 c_LEAST_PLACE:∃ t,mg "LEAST_PLACE"=some (.int (-3) t)
 c_LETTERS:∃ t,mg "LETTERS"=some (.str "abcdefghijklmnopqrstuvwxyz" t)
 c_MOST_LETTERS:∃ t,mg "MOST_LETTERS"=some (.int 6 t)
 c_MOST_PLACE:∃ t,mg "MOST_PLACE"=some (.int 2 t)
 c_MOST_WORDS:∃ t,mg "MOST_WORDS"=some (.int 6 t)
theorem xy:bootBuiltins "ValueError"=some (.type "ValueError"):=by decide +kernel
theorem VO:bootBuiltins "all"=some (.builtin "all"):=by decide +kernel
theorem Xn:bootBuiltins "bool"=some (.type "bool"):=by decide +kernel
theorem Ge:bootBuiltins "int"=some (.type "int"):=by decide +kernel
theorem qm:bootBuiltins "isinstance"=some (.builtin "isinstance"):=by decide +kernel
theorem jF:bootBuiltins "len"=some (.builtin "len"):=by decide +kernel
theorem gP:bootBuiltins "list"=some (.type "list"):=by decide +kernel
theorem UT:bootBuiltins "max"=some (.builtin "max"):=by decide +kernel
theorem Gf:bootBuiltins "min"=some (.builtin "min"):=by decide +kernel
theorem Ui:bootBuiltins "range"=some (.type "range"):=by decide +kernel
theorem Gg:bootBuiltins "set"=some (.type "set"):=by decide +kernel
theorem VP:bootBuiltins "sorted"=some (.builtin "sorted"):=by decide +kernel
theorem VQ:bootBuiltins "str"=some (.type "str"):=by decide +kernel
theorem vw:bootBuiltins "tuple"=some (.type "tuple"):=by decide +kernel
instance {α:Type}:Inhabited (Out α):=⟨.bad⟩
section
variable {P:Program} {w:World} {K:Frag} {mg:Str->Option Value} {base:Heap} {cv:Str->Value} {ca:Str->Addr}
abbrev vx:Stmt:=top 44
abbrev yO:List Str:=["_law_script", "_law_k"]
theorem gQ:FnScope yO ["_law_script", "_law_k"] (qc vx):=⟨rfl,rfl,rfl,by decide +kernel,rfl,by decide +kernel,by decide +kernel⟩
noncomputable def kn:Sl->Out (Fl×Sl):=(jr (sIf (kh (d2 ltD (qu 1) (d1 uc (qu 0)))) (kf (d2 ixD (qu 0) (qu 1))) kN)
  (jr (sIf (kh (d2 eqD (qu 0) (yp qO))) (kf (dC (.int 0))) kN)
  (kf (d2 xX (d2 XD (d2 ixD (qu 0) (d2 UI (qu 1) (d1 uc (qu 0)))) (dC (.int 31))) (qu 1)))))
noncomputable abbrev wx:List D->Out (D×List D):=kJ yO [.val,.val] (kn)
abbrev uT P w K mg base cv:=DefOk P w K mg base cv 1 "_law_cell_at" ["_law_script", "_law_k"] [.val,.val] .sh (wx)
theorem gR (Z:Zt K mg cv ca) (T:qY K mg "_law_cell_at" vx ["_law_script", "_law_k"]):uT P w K mg base cv:=
 qL (k:=0) (own':=[]) (fb:=kn) T gQ fun cdv f A outer s H E hr=>(ql (jC (jB Zs (vr 1) (qH (jK rfl) rfl Z.z_len jF (vr 0))) (qo (qr (vQ rfl hr.units (vr 0) (vr 1) (fun _ _=>rfl)))) qV)
  (ql (jC (jB (yq rfl hr.units) (vr 0) (jJ qe)) (qo (qr qw)) qV)
  (qo (qr (js (vC rfl) (js Ky (vQ rfl hr.units (vr 0) (js zl (vr 1) (qH (jK rfl) rfl Z.z_len jF (vr 0))) (fun _ _=>rfl)) qw) (vr 1))))))
abbrev uq:Stmt:=top 45
abbrev QX:List Str:=["_law_script", "_law_k", "_law_many", "_law_drawn"]
theorem sc_Lmixed:FnScope QX ["_law_script", "_law_k", "_law_many"] (qc uq):=⟨rfl,rfl,rfl,by decide +kernel,rfl,by decide +kernel,by decide +kernel⟩
noncomputable def xz:Sl->Out (Fl×Sl):=(jr (ub 3 (d2 UI (d2 xX (d2 xX (d2 XD (qB [.vl,.vl] wx (qd (qu 0) (qd (qu 1) qO))) (dC (.int 1103515245))) (d2 XD (dC (.int 7919)) (qu 1))) (dC (.int 12345))) (dC (.int 2147483647))))
  (kf (d2 UI (d2 UI (d2 UI (d2 qaS (qu 3) (dC (.int 5))) (dC (.int 2147483647))) (dC (.int 999983))) (qu 2))))
noncomputable abbrev xA:List D->Out (D×List D):=kJ QX [.val,.val,.val] (xz)
abbrev zL P w K mg base cv:=DefOk P w K mg base cv 2 "_law_mixed" ["_law_script", "_law_k", "_law_many"] [.val,.val,.val] .sh (xA)
theorem VR (Z:Zt K mg cv ca) (T:qY K mg "_law_mixed" uq ["_law_script", "_law_k", "_law_many"]) (ok_Lcell_at:uT P w K mg base cv):zL P w K mg base cv:=
 qL (k:=1) (own':=[]) (fb:=xz) T sc_Lmixed fun cdv f A outer s H E hr=>(ql (jj (i:=3) sc_Lmixed.nd rfl (Or.inl rfl) (js zl (js (vC rfl) (js (vC rfl) (js Ky (qt ok_Lcell_at hr (by decide) jg rfl (qb (vr 0) (qb (vr 1) qe))) qw) (js Ky qw (vr 1))) qw) qw))
  (qo (qr (js zl (js zl (js zl (js ZV (vr 3) qw) qw) qw) (vr 2)))))
abbrev xB:Stmt:=top 46
abbrev VS:List Str:=["_law_script", "_law_town", "_law_many"]
theorem Uj:FnScope VS ["_law_script", "_law_town", "_law_many"] (qc xB):=⟨rfl,rfl,rfl,by decide +kernel,rfl,by decide +kernel,by decide +kernel⟩
noncomputable def gS:Sl->Out (Fl×Sl):=(jr (vz (QD 1 Jz (dC (.int 0))))
  (kf (qB [.vl,.vl,.vl] xA (qd (qu 0) (qd (d1 uc (qu 1)) (qd (qu 2) qO))))))
noncomputable abbrev uU:List D->Out (D×List D):=kJ VS [.val,.io,.val] (gS)
abbrev ur P w K mg base cv:=DefOk P w K mg base cv 3 "_law_draw" ["_law_script", "_law_town", "_law_many"] [.val,.io,.val] .sh (uU)
theorem Uk (Z:Zt K mg cv ca) (T:qY K mg "_law_draw" xB ["_law_script", "_law_town", "_law_many"]) (ok_Lmixed:zL P w K mg base cv):ur P w K mg base cv:=
 qL (k:=2) (own':=[1]) (fb:=gS) T Uj fun cdv f A outer s H E hr=>(ql (qQ (vX (i:=1) rfl rfl (Or.inl rfl) (by decide) qw))
  (qo (qr (qt ok_Lmixed hr (by decide) jg rfl (qb (vr 0) (qb (qH (jK rfl) rfl Z.z_len jF (gq (i:=1) rfl (Or.inl rfl) (by decide))) (qb (vr 2) qe)))))))
abbrev xC:Stmt:=top 47
abbrev VT:List Str:=["_law_script", "_law_town", "_law_some"]
theorem Ul:FnScope VT ["_law_script", "_law_town", "_law_some"] (qc xC):=⟨rfl,rfl,rfl,by decide +kernel,rfl,by decide +kernel,by decide +kernel⟩
noncomputable def gU:Sl->Out (Fl×Sl):=(kf (d2 ixD (qu 2) (qB [.vl,.sl 1,.vl] uU (qd (qu 0) (vA (qd (d1 uc (qu 2)) qO))))))
noncomputable abbrev kT:List D->Out (D×List D):=kJ VT [.val,.io,.val] (gU)
abbrev vy P w K mg base cv:=DefOk P w K mg base cv 4 "_law_pick" ["_law_script", "_law_town", "_law_some"] [.val,.io,.val] .sh (kT)
theorem Um (Z:Zt K mg cv ca) (T:qY K mg "_law_pick" xC ["_law_script", "_law_town", "_law_some"]) (ok_Ldraw:ur P w K mg base cv):vy P w K mg base cv:=
 qL (k:=3) (own':=[1]) (fb:=gU) T Ul fun cdv f A outer s H E hr=>(qo (qr (vQ rfl hr.units (vr 2) (qt ok_Ldraw hr (by decide) jg rfl (qb (vr 0) (qU (i:=1) rfl (Or.inl rfl) (by decide) (qb (qH (jK rfl) rfl Z.z_len jF (vr 2)) qe)))) (fun _ _=>rfl))))
abbrev wy:Stmt:=top 48
abbrev gW:List Str:=["_law_script", "_law_town", "_law_letters", "_law_most"]
theorem Uo:FnScope gW ["_law_script", "_law_town", "_law_letters", "_law_most"] (qc wy):=⟨rfl,rfl,rfl,by decide +kernel,rfl,by decide +kernel,by decide +kernel⟩
noncomputable def gX:Sl->Out (Fl×Sl):=(kf (d1 (zI "") (jW [1] 1 [0,1,2] (jV (d2 xX (dC (.int 1)) (qB [.vl,.sl 1,.vl] uU (qd (qu 0) (vA (qd (qu 3) qO)))))) (gNm 0) ftT (qB [.vl,.sl 2,.vl] kT (qd (qu 1) (vA (qd (qu 3) qO)))))))
noncomputable abbrev xD:List D->Out (D×List D):=kJ gW [.val,.io,.val,.val] (gX)
abbrev QY P w K mg base cv:=DefOk P w K mg base cv 5 "_law_word" ["_law_script", "_law_town", "_law_letters", "_law_most"] [.val,.io,.val,.val] .sh (xD)
theorem Up (Z:Zt K mg cv ca) (T:qY K mg "_law_word" wy ["_law_script", "_law_town", "_law_letters", "_law_most"]) (ok_Ldraw:ur P w K mg base cv) (ok_Lpick:vy P w K mg base cv):QY P w K mg base cv:=
 qL (k:=4) (own':=[1]) (fb:=gX) T Uo fun cdv f A outer s H E hr=>(qo (qr (Vt rfl (jX (N:=["_law_k", "_law_script", "_law_town", "_law_letters"]) (nt:=1) (cap:=[0,1,2]) rfl (ue (names:=(qc wy).names) rfl (by decide +kernel)) (kK (names:=(qc wy).names) (N:=gW) rfl rfl (by decide +kernel)) (wq rfl Z.z_range (js (vC rfl) qw (qt ok_Ldraw hr (by decide) jg rfl (qb (vr 0) (qU (i:=1) rfl (Or.inr (Or.inl rfl)) (by decide) (qb (vr 3) qe)))))) (fun fp L s1 H1=>(qI (i:=0) (show List.Nodup (["_law_k", "_law_script", "_law_town", "_law_letters"]:List Str) from by decide +kernel) rfl (Or.inl rfl))) (fun fp L s1 H1=>jc) (fun fp L s1 H1=>(qt ok_Lpick hr (by decide) yr rfl (qb (vr 1) (qU (i:=2) rfl (by first | exact Or.inr (Or.inr rfl) | exact Or.inr (Or.inl rfl)) (by decide) (qb (vr 3) qe)))))))))
abbrev ut:Stmt:=top 49
abbrev QZ:List Str:=["_law_script", "_law_town", "_law_most", "_law_letters", "_law_made", "_law_k", "_law_word_here"]
theorem sc_Lwords:FnScope QZ ["_law_script", "_law_town", "_law_most"] (qc ut):=⟨rfl,rfl,rfl,by decide +kernel,rfl,by decide +kernel,by decide +kernel⟩
noncomputable def xE:Sl->Out (Fl×Sl):=(jr (ub 3 (qB [.vl,.sl 1,.vl] kT (qd (qu 0) (vA (qd (yp fun ρ=>.ok ([(.lst [(.str "a"),(.str "b")]),(.lst [(.str "a"),(.str "b"),(.str "c")]),(.lst [(.str "a"),(.str "b"),(.str "c"),(.str "d")]),(.lst [(.str "k"),(.str "m"),(.str "z"),(.str "a"),(.str "e")])],ρ)) qO)))))
  (jr (ub 4 (yp qO))
  (jr (XF (jV (d2 xX (dC (.int 1)) (qB [.vl,.sl 1,.vl] uU (qd (qu 0) (vA (qd (qu 2) qO)))))) (gNm 5)
  (jr (ub 6 (qB [.vl,.sl 1,.vl,.vl] xD (qd (qu 0) (vA (qd (qu 3) (qd (dC (.int 6)) qO))))))
  (sIf (kh (d2 UO (qu 6) (qu 4))) (vz (QD 4 Jz (qu 6))) kN)))
  (kf (d1 yG (qu 4))))))
noncomputable abbrev xF:List D->Out (D×List D):=kJ QZ [.val,.io,.val] (xE)
abbrev zM P w K mg base cv:=DefOk P w K mg base cv 6 "_law_words" ["_law_script", "_law_town", "_law_most"] [.val,.io,.val] .sh (xF)
theorem VU (Z:Zt K mg cv ca) (T:qY K mg "_law_words" ut ["_law_script", "_law_town", "_law_most"]) (ok_Ldraw:ur P w K mg base cv) (ok_Lpick:vy P w K mg base cv) (ok_Lword:QY P w K mg base cv):zM P w K mg base cv:=
 qL (k:=5) (own':=[1]) (fb:=xE) T sc_Lwords fun cdv f A outer s H E hr=>(ql (jj (i:=3) sc_Lwords.nd rfl (Or.inl rfl) (qt ok_Lpick hr (by decide) jg rfl (qb (vr 0) (qU (i:=1) rfl (Or.inl rfl) (by decide) (qb (xx 16 rfl) qe)))))
  (ql (vP (i:=4) sc_Lwords.nd rfl (Or.inl rfl) (jJ qe))
  (ql (gE PassesOwn.leaving rfl (wq rfl Z.z_range (js (vC rfl) qw (qt ok_Ldraw hr (by decide) jg rfl (qb (vr 0) (qU (i:=1) rfl (Or.inl rfl) (by decide) (qb (vr 2) qe)))))) (qI (i:=5) sc_Lwords.nd rfl (Or.inl rfl))
  (ql (jj (i:=6) sc_Lwords.nd rfl (Or.inl rfl) (qt ok_Lword hr (by decide) jg rfl (qb (vr 0) (qU (i:=1) rfl (Or.inl rfl) (by decide) (qb (vr 3) (qb qw qe))))))
  (qo (jC (jB (Vh rfl hr.units) (vr 6) (gq (i:=4) rfl (Or.inl rfl) (by decide))) (qo (qQ (vX (i:=4) rfl rfl (Or.inl rfl) (by decide) (vr 6)))) qV))))
  (qo (qr (ki (xk rfl) rfl Z.z_tuple vw (gq (i:=4) rfl (Or.inl rfl) (by decide))))))))
abbrev jM:Stmt:=top 51
abbrev wM:List Str:=["_law_script", "_law_town", "_law_some"]
theorem sc_Lodd_words:FnScope wM ["_law_script", "_law_town"] (qc jM):=⟨rfl,rfl,rfl,by decide +kernel,rfl,by decide +kernel,by decide +kernel⟩
noncomputable def kU:Sl->Out (Fl×Sl):=(jr (ub 2 (yp fun ρ=>.ok ([.non,(.int 5),(.tup []),(.lst [(.str "ab")]),(.tup [(.str "ab"),(.str "ab")]),(.tup [(.str "")]),(.tup [(.str "abcdefg")]),(.tup [(.str "Ab")]),(.tup [(.str "a b")]),(.str "ab"),(.tup [(.int 1)]),(.tup [(.str "ab"),.non])],ρ)))
  (kf (qB [.vl,.sl 1,.vl] kT (qd (qu 0) (vA (qd (d2 xX (qu 2) (yp (qd (d1 gN (dC (.str "abcdefg"))) (qd (gy (qd (dC (.str "ab")) (qd (dC (.str "a1")) qO))) (qd (dC (.tup [(.tup [(.str "a")])])) qO))))) qO))))))
noncomputable abbrev kW:List D->Out (D×List D):=kJ wM [.val,.io] (kU)
abbrev vZ P w K mg base cv:=DefOk P w K mg base cv 5 "_law_odd_words" ["_law_script", "_law_town"] [.val,.io] .sh (kW)
theorem xG (Z:Zt K mg cv ca) (T:qY K mg "_law_odd_words" jM ["_law_script", "_law_town"]) (ok_Lpick:vy P w K mg base cv):vZ P w K mg base cv:=
 qL (k:=4) (own':=[1]) (fb:=kU) T sc_Lodd_words fun cdv f A outer s H E hr=>(ql (jj (i:=2) sc_Lodd_words.nd rfl (Or.inl rfl) (xx 21 rfl))
  (qo (qr (qt ok_Lpick hr (by decide) jg rfl (qb (vr 0) (qU (i:=1) rfl (Or.inl rfl) (by decide) (qb (js (vC rfl) (vr 2) (jJ (qb (ki (VF rfl) rfl Z.z_tuple vw ji) (qb (kI (qb ji (qb ji qe))) (qb (UR 9 rfl) qe))))) qe)))))))
abbrev kz:Stmt:=top 52
abbrev uV:List Str:=["_law_script", "_law_town", "_law_some"]
theorem sc_Lodd_look:FnScope uV ["_law_script", "_law_town"] (qc kz):=⟨rfl,rfl,rfl,by decide +kernel,rfl,by decide +kernel,by decide +kernel⟩
noncomputable def vH:Sl->Out (Fl×Sl):=(jr (ub 2 (yp fun ρ=>.ok ([.non,(.int 5),(.tup []),(.tup [(.int 0)]),(.tup [(.int 0),(.int 1),(.int 2)]),(.lst [(.int 0),(.int 1)]),(.tup [(.int 0),(.int 3)]),(.tup [(.int (-4)),(.int 0)]),(.tup [(.bl true),(.int 0)]),(.tup [(.int 0),(.bl false)]),(.tup [(.int 0),.non]),(.str "01"),(.tup [(.str "0"),(.int 1)])],ρ)))
  (kf (qB [.vl,.sl 1,.vl] kT (qd (qu 0) (vA (qd (qu 2) qO))))))
noncomputable abbrev vI:List D->Out (D×List D):=kJ uV [.val,.io] (vH)
abbrev wN P w K mg base cv:=DefOk P w K mg base cv 5 "_law_odd_look" ["_law_script", "_law_town"] [.val,.io] .sh (vI)
theorem zN (Z:Zt K mg cv ca) (T:qY K mg "_law_odd_look" kz ["_law_script", "_law_town"]) (ok_Lpick:vy P w K mg base cv):wN P w K mg base cv:=
 qL (k:=4) (own':=[1]) (fb:=vH) T sc_Lodd_look fun cdv f A outer s H E hr=>(ql (jj (i:=2) sc_Lodd_look.nd rfl (Or.inl rfl) (xx 22 rfl))
  (qo (qr (qt ok_Lpick hr (by decide) jg rfl (qb (vr 0) (qU (i:=1) rfl (Or.inl rfl) (by decide) (qb (vr 2) qe)))))))
abbrev kA:Stmt:=top 22
abbrev uW:List Str:=["thing"]
theorem zO:FnScope uW ["thing"] (qc kA):=⟨rfl,rfl,rfl,by decide +kernel,rfl,by decide +kernel,by decide +kernel⟩
noncomputable def jG:Sl->Out (Fl×Sl):=(kf (yX (d1 (zx "str") (qu 0)) (yX (d2 eqD (d1 uc (qu 0)) (dC (.int 1))) (vO leD leD (dC (.str "a")) (qu 0) (dC (.str "z"))))))
noncomputable abbrev kB:List D->Out (D×List D):=kJ uW [.val] (jG)
abbrev wO P w K mg base cv:=DefOk P w K mg base cv 1 "is_letter" ["thing"] [.val] .sh (kB)
theorem zQ (Z:Zt K mg cv ca) (T:qY K mg "is_letter" kA ["thing"]):wO P w K mg base cv:=
 qL (k:=0) (own':=[]) (fb:=jG) T zO fun cdv f A outer s H E hr=>(qo (qr (yB (uH rfl rfl Z.z_isinstance qm rfl Z.z_str VQ (vr 0)) (yB (wI (yq rfl hr.units) (qH (jK rfl) rfl Z.z_len jF (vr 0)) qw) (zm (Qy zo zo ji (vr 0) ji))))))
abbrev ko:Stmt:=top 24
abbrev uX:List Str:=["thing"]
theorem JJ:FnScope uX ["thing"] (qc ko):=⟨rfl,rfl,rfl,by decide +kernel,rfl,by decide +kernel,by decide +kernel⟩
noncomputable def uY:Sl->Out (Fl×Sl):=(jr (sIf (dOr (JY (JW (d1 (zx "str") (qu 0)))) (JY (kh (vO leD leD (dC (.int 1)) (d1 uc (qu 0)) (dC (.int 6)))))) (kf (dC (.bl false))) kN)
  (kf (d1 YS (jW [] 1 [] (xY (qu 0)) (gNm 0) ftT (qB [.vl] kB (qd (qu 0) qO))))))
noncomputable abbrev wa:List D->Out (D×List D):=kJ uX [.val] (uY)
abbrev yP P w K mg base cv:=DefOk P w K mg base cv 2 "is_word" ["thing"] [.val] .sh (wa)
theorem JK (Z:Zt K mg cv ca) (T:qY K mg "is_word" ko ["thing"]) (ok_is_letter:wO P w K mg base cv):yP P w K mg base cv:=
 qL (k:=1) (own':=[]) (fb:=uY) T JJ fun cdv f A outer s H E hr=>(ql (jC (PW.pt (yA (jU (jT rfl (uH rfl rfl Z.z_isinstance qm rfl Z.z_str VQ (vr 0)) (fun _=>rfl))) (wo (jU (zn zo zo qw (qH (jK rfl) rfl Z.z_len jF (vr 0)) (vo Z.c_MOST_LETTERS rfl)))))) (qo (qr gt)) qV)
  (qo (qr (qH (Ve rfl rfl) rfl Z.z_all VO (jX (N:=["sign"]) (nt:=1) (cap:=[]) rfl (ue (names:=(qc ko).names) rfl (by decide +kernel)) (kK (names:=(qc ko).names) (N:=uX) rfl rfl (by decide +kernel)) (jZ rfl (vr 0)) (fun fp L s1 H1=>(qI (i:=0) (show List.Nodup (["sign"]:List Str) from by decide +kernel) rfl (Or.inl rfl))) (fun fp L s1 H1=>jc) (fun fp L s1 H1=>(qt ok_is_letter hr (by decide) yr rfl (qb (vr 0) qe))))))))
abbrev jx:Stmt:=top 25
abbrev wz:List Str:=["thing"]
theorem gY:FnScope wz ["thing"] (qc jx):=⟨rfl,rfl,rfl,by decide +kernel,rfl,by decide +kernel,by decide +kernel⟩
noncomputable def wA:Sl->Out (Fl×Sl):=(jr (sIf (dOr (JY (JW (d1 (zx "tuple") (qu 0)))) (JY (kh (vO leD leD (dC (.int 1)) (d1 uc (qu 0)) (dC (.int 6)))))) (kf (dC (.bl false))) kN)
  (kf (yX (d1 YS (jW [] 1 [] (xY (qu 0)) (gNm 0) ftT (qB [.vl] wa (qd (qu 0) qO)))) (d2 eqD (d1 xu (qu 0)) (d1 uc (qu 0))))))
noncomputable abbrev wB:List D->Out (D×List D):=kJ wz [.val] (wA)
abbrev uZ P w K mg base cv:=DefOk P w K mg base cv 3 "is_words" ["thing"] [.val] .sh (wB)
theorem gZ (Z:Zt K mg cv ca) (T:qY K mg "is_words" jx ["thing"]) (ok_is_word:yP P w K mg base cv):uZ P w K mg base cv:=
 qL (k:=2) (own':=[]) (fb:=wA) T gY fun cdv f A outer s H E hr=>(ql (jC (PW.pt (yA (jU (jT rfl (uH rfl rfl Z.z_isinstance qm rfl Z.z_tuple vw (vr 0)) (fun _=>rfl))) (wo (jU (zn zo zo qw (qH (jK rfl) rfl Z.z_len jF (vr 0)) (vo Z.c_MOST_WORDS rfl)))))) (qo (qr gt)) qV)
  (qo (qr (yB (qH (Ve rfl rfl) rfl Z.z_all VO (jX (N:=["part"]) (nt:=1) (cap:=[]) rfl (ue (names:=(qc jx).names) rfl (by decide +kernel)) (kK (names:=(qc jx).names) (N:=wz) rfl rfl (by decide +kernel)) (jZ rfl (vr 0)) (fun fp L s1 H1=>(qI (i:=0) (show List.Nodup (["part"]:List Str) from by decide +kernel) rfl (Or.inl rfl))) (fun fp L s1 H1=>jc) (fun fp L s1 H1=>(qt ok_is_word hr (by decide) yr rfl (qb (vr 0) qe))))) (zm (wI (yq rfl hr.units) (Vp rfl rfl rfl Z.z_len jF rfl Z.z_set Gg (vr 0)) (qH (jK rfl) rfl Z.z_len jF (vr 0))))))))
abbrev jt:Stmt:=top 27
abbrev wb:List Str:=["thing"]
theorem yw:FnScope wb ["thing"] (qc jt):=⟨rfl,rfl,rfl,by decide +kernel,rfl,by decide +kernel,by decide +kernel⟩
noncomputable def kC:Sl->Out (Fl×Sl):=(sIf (JY (JW (qB [.vl] wB (qd (qu 0) qO)))) (xi "NoWords" (qd (dC (.str "words are a tuple of 1 to 6 unlike words of 1 to 6 letters from a to z")) qO)) kN)
noncomputable abbrev qR:List D->Out (D×List D):=kJ wb [.val] (kC)
abbrev jn P w K mg base cv:=DefOk P w K mg base cv 4 "check_words" ["thing"] [.val] .sh (qR)
theorem yx (Z:Zt K mg cv ca) (T:qY K mg "check_words" jt ["thing"]) (ok_is_words:uZ P w K mg base cv):jn P w K mg base cv:=
 qL (k:=3) (own':=[]) (fb:=kC) T yw fun cdv f A outer s H E hr=>(qo (jC (jU (jT rfl (qt ok_is_words hr (by decide) jg rfl (qb (vr 0) qe)) (fun _=>rfl))) (qo (uE rfl (Vg rfl) rfl rfl (Z.mref "NoWords" (by decide +kernel)) (Z.xs.val "NoWords" (by decide +kernel)) (Z.xin "NoWords" (by decide +kernel)) (qb ji qe))) qV))
abbrev jN:Stmt:=top 21
abbrev wP:List Str:=["thing", "least", "most"]
theorem xH:FnScope wP ["thing", "least", "most"] (qc jN):=⟨rfl,rfl,rfl,by decide +kernel,rfl,by decide +kernel,by decide +kernel⟩
noncomputable def wQ:Sl->Out (Fl×Sl):=(jr (sIf (dOr (JY (JW (d1 (zx "int") (qu 0)))) (JW (d1 (zx "bool") (qu 0)))) (kf (dC (.bl false))) kN)
  (kf (vO leD leD (qu 1) (qu 0) (qu 2))))
noncomputable abbrev wR:List D->Out (D×List D):=kJ wP [.val,.val,.val] (wQ)
abbrev wc P w K mg base cv:=DefOk P w K mg base cv 1 "is_between" ["thing", "least", "most"] [.val,.val,.val] .sh (wR)
theorem xI (Z:Zt K mg cv ca) (T:qY K mg "is_between" jN ["thing", "least", "most"]):wc P w K mg base cv:=
 qL (k:=0) (own':=[]) (fb:=wQ) T xH fun cdv f A outer s H E hr=>(ql (jC (PW.pt (yA (jU (jT rfl (uH rfl rfl Z.z_isinstance qm rfl Z.z_int Ge (vr 0)) (fun _=>rfl))) (wo (jT rfl (uH rfl rfl Z.z_isinstance qm rfl Z.z_bool Xn (vr 0)) (fun _=>rfl))))) (qo (qr gt)) qV)
  (qo (qr (Qy zo zo (vr 1) (vr 0) (vr 2)))))
abbrev kq:Stmt:=top 26
abbrev ya:List Str:=["thing"]
theorem JL:FnScope ya ["thing"] (qc kq):=⟨rfl,rfl,rfl,by decide +kernel,rfl,by decide +kernel,by decide +kernel⟩
noncomputable def zR:Sl->Out (Fl×Sl):=(jr (sIf (dOr (JY (JW (d1 (zx "tuple") (qu 0)))) (kh (d2 neD (d1 uc (qu 0)) (dC (.int 2))))) (kf (dC (.bl false))) kN)
  (kf (d1 YS (jW [] 1 [] (xY (qu 0)) (gNm 0) ftT (qB [.vl,.vl,.vl] wR (qd (qu 0) (qd (dC (.int (-3))) (qd (dC (.int 2)) qO))))))))
noncomputable abbrev zS:List D->Out (D×List D):=kJ ya [.val] (zR)
abbrev yQ P w K mg base cv:=DefOk P w K mg base cv 2 "is_look" ["thing"] [.val] .sh (zS)
theorem JM (Z:Zt K mg cv ca) (T:qY K mg "is_look" kq ["thing"]) (ok_is_between:wc P w K mg base cv):yQ P w K mg base cv:=
 qL (k:=1) (own':=[]) (fb:=zR) T JL fun cdv f A outer s H E hr=>(ql (jC (PW.pt (yA (jU (jT rfl (uH rfl rfl Z.z_isinstance qm rfl Z.z_tuple vw (vr 0)) (fun _=>rfl))) (wo (jB (KC rfl hr.units) (qH (jK rfl) rfl Z.z_len jF (vr 0)) qw)))) (qo (qr gt)) qV)
  (qo (qr (qH (Ve rfl rfl) rfl Z.z_all VO (jX (N:=["place"]) (nt:=1) (cap:=[]) rfl (ue (names:=(qc kq).names) rfl (by decide +kernel)) (kK (names:=(qc kq).names) (N:=ya) rfl rfl (by decide +kernel)) (jZ rfl (vr 0)) (fun fp L s1 H1=>(qI (i:=0) (show List.Nodup (["place"]:List Str) from by decide +kernel) rfl (Or.inl rfl))) (fun fp L s1 H1=>jc) (fun fp L s1 H1=>(qt ok_is_between hr (by decide) yr rfl (qb (vr 0) (qb (vo Z.c_LEAST_PLACE rfl) (qb (vo Z.c_MOST_PLACE rfl) qe))))))))))
abbrev jO:Stmt:=top 29
abbrev wS:List Str:=["thing"]
theorem xJ:FnScope wS ["thing"] (qc jO):=⟨rfl,rfl,rfl,by decide +kernel,rfl,by decide +kernel,by decide +kernel⟩
noncomputable def wT:Sl->Out (Fl×Sl):=(sIf (JY (JW (qB [.vl] zS (qd (qu 0) qO)))) (xi "NoLook" (qd (dC (.str "a look is a tuple of two places from -3 to 2")) qO)) kN)
noncomputable abbrev jP:List D->Out (D×List D):=kJ wS [.val] (wT)
abbrev kD P w K mg base cv:=DefOk P w K mg base cv 3 "check_look" ["thing"] [.val] .sh (jP)
theorem xK (Z:Zt K mg cv ca) (T:qY K mg "check_look" jO ["thing"]) (ok_is_look:yQ P w K mg base cv):kD P w K mg base cv:=
 qL (k:=2) (own':=[]) (fb:=wT) T xJ fun cdv f A outer s H E hr=>(qo (jC (jU (jT rfl (qt ok_is_look hr (by decide) jg rfl (qb (vr 0) qe)) (fun _=>rfl))) (qo (uE rfl (Vg rfl) rfl rfl (Z.mref "NoLook" (by decide +kernel)) (Z.xs.val "NoLook" (by decide +kernel)) (Z.xin "NoLook" (by decide +kernel)) (qb ji qe))) qV))
abbrev kE:Stmt:=top 32
abbrev yb:List Str:=["word", "place", "at"]
theorem sc_letter_at:FnScope yb ["word", "place"] (qc kE):=⟨rfl,rfl,rfl,by decide +kernel,rfl,by decide +kernel,by decide +kernel⟩
noncomputable def yc:Sl->Out (Fl×Sl):=(jr (ub 2 (dIf (kh (d2 geD (qu 1) (dC (.int 0)))) (qu 1) (d2 xX (d1 uc (qu 0)) (qu 1))))
  (kf (d2 ixD (qu 0) (d2 qa6 (dC (.int 0)) (d2 qa7 (qu 2) (d2 XC (d1 uc (qu 0)) (dC (.int 1))))))))
noncomputable abbrev vJ:List D->Out (D×List D):=kJ yb [.val,.val] (yc)
abbrev wU P w K mg base cv:=DefOk P w K mg base cv 1 "letter_at" ["word", "place"] [.val,.val] .sh (vJ)
theorem zT (Z:Zt K mg cv ca) (T:qY K mg "letter_at" kE ["word", "place"]):wU P w K mg base cv:=
 qL (k:=0) (own':=[]) (fb:=yc) T sc_letter_at fun cdv f A outer s H E hr=>(ql (jj (i:=2) sc_letter_at.nd rfl (Or.inl rfl) (qap (jB qaq (vr 1) qw) (vr 1) (js (vC rfl) (qH (jK rfl) rfl Z.z_len jF (vr 0)) (vr 1))))
  (qo (qr (vQ rfl hr.units (vr 0) (zw (ZI rfl) rfl Z.z_max UT qw (zw (ZJ rfl) rfl Z.z_min Gf (vr 2) (js Qs (qH (jK rfl) rfl Z.z_len jF (vr 0)) qw))) (fun _ _=>rfl)))))
abbrev wC:Stmt:=top 33
abbrev Qa:List Str:=["words", "look"]
theorem Uq:FnScope Qa ["words", "look"] (qc wC):=⟨rfl,rfl,rfl,by decide +kernel,rfl,by decide +kernel,by decide +kernel⟩
noncomputable def xL:Sl->Out (Fl×Sl):=(jr (vz (qB [.vl] qR (qd (qu 0) qO)))
  (jr (vz (qB [.vl] jP (qd (qu 1) qO)))
  (kf (jW [] 1 [1] (xY (qu 0)) (gNm 0) ftT (gy (qd (qB [.vl,.vl] vJ (qd (qu 0) (qd (d2 ixD (qu 1) (dC (.int 0))) qO))) (qd (qB [.vl,.vl] vJ (qd (qu 0) (qd (d2 ixD (qu 1) (dC (.int 1))) qO))) qO)))))))
noncomputable abbrev xM:List D->Out (D×List D):=kJ Qa [.val,.val] (xL)
abbrev Ja P w K mg base cv:=DefOk P w K mg base cv 5 "pairs" ["words", "look"] [.val,.val] .sh (xM)
theorem Ur (Z:Zt K mg cv ca) (T:qY K mg "pairs" wC ["words", "look"]) (ok_check_words:jn P w K mg base cv) (ok_check_look:kD P w K mg base cv) (ok_letter_at:wU P w K mg base cv):Ja P w K mg base cv:=
 qL (k:=4) (own':=[]) (fb:=xL) T Uq fun cdv f A outer s H E hr=>(ql (qQ (qt ok_check_words hr (by decide) jg rfl (qb (vr 0) qe)))
  (ql (qQ (qt ok_check_look hr (by decide) jg rfl (qb (vr 1) qe)))
  (qo (qr (jX (N:=["word", "look"]) (nt:=1) (cap:=[1]) rfl (ue (names:=(qc wC).names) rfl (by decide +kernel)) (kK (names:=(qc wC).names) (N:=Qa) rfl rfl (by decide +kernel)) (jZ rfl (vr 0)) (fun fp L s1 H1=>(qI (i:=0) (show List.Nodup (["word", "look"]:List Str) from by decide +kernel) rfl (Or.inl rfl))) (fun fp L s1 H1=>jc) (fun fp L s1 H1=>(kI (qb (qt ok_letter_at hr (by decide) yr rfl (qb (vr 0) (qb (vQ rfl hr.units (vr 1) qw (fun _ _=>rfl)) qe))) (qb (qt ok_letter_at hr (by decide) yr rfl (qb (vr 0) (qb (vQ rfl hr.units (vr 1) qw (fun _ _=>rfl)) qe))) qe)))))))))
abbrev kF:Stmt:=top 35
abbrev yd:List Str:=["one", "two"]
theorem zU:FnScope yd ["one", "two"] (qc kF):=⟨rfl,rfl,rfl,by decide +kernel,rfl,by decide +kernel,by decide +kernel⟩
noncomputable def ye:Sl->Out (Fl×Sl):=(kf (Gw (d2 eqD (qu 0) (qu 1)) (d2 eqD (qu 0) (gy (qd (d2 ixD (qu 1) (dC (.int 1))) (qd (d2 ixD (qu 1) (dC (.int 0))) qO))))))
noncomputable abbrev yf:List D->Out (D×List D):=kJ yd [.val,.val] (ye)
abbrev wV P w K mg base cv:=DefOk P w K mg base cv 1 "are_alike" ["one", "two"] [.val,.val] .sh (yf)
theorem zV (Z:Zt K mg cv ca) (T:qY K mg "are_alike" kF ["one", "two"]):wV P w K mg base cv:=
 qL (k:=0) (own':=[]) (fb:=ye) T zU fun cdv f A outer s H E hr=>(qo (qr (qao (wI (yq rfl hr.units) (vr 0) (vr 1)) (zm (wI (yq rfl hr.units) (vr 0) (kI (qb (vQ rfl hr.units (vr 1) qw (fun _ _=>rfl)) (qb (vQ rfl hr.units (vr 1) qw (fun _ _=>rfl)) qe))))))))
abbrev wD:Stmt:=top 37
abbrev Qb:List Str:=["words", "look", "seen", "found", "first", "pair", "group"]
theorem sc_alike:FnScope Qb ["words", "look"] (qc wD):=⟨rfl,rfl,rfl,by decide +kernel,rfl,by decide +kernel,by decide +kernel⟩
noncomputable def xN:Sl->Out (Fl×Sl):=(jr (ub 2 (qB [.vl,.vl] xM (qd (qu 0) (qd (qu 1) qO))))
  (jr (ub 3 (yp qO))
  (jr (XF (Xj (qu 2)) (KQ 2 (wJ (gNm 4) (wJ (gNm 5) KP)))
  (jr (ub 6 (jW [3] 2 [5] (Xj (qu 2)) (KQ 2 (wJ (gNm 0) (wJ (gNm 1) KP))) (JW (qB [.vl,.vl] yf (qd (qu 2) (qd (qu 1) qO)))) (qu 0)))
  (sIf (kh (d2 eqD (d2 ixD (qu 6) (dC (.int 0))) (qu 4))) (vz (QD 3 Jz (qu 6))) kN)))
  (kf (qu 3)))))
noncomputable abbrev kG:List D->Out (D×List D):=kJ Qb [.val,.val] (xN)
abbrev xO P w K mg base cv:=DefOk P w K mg base cv 6 "alike" ["words", "look"] [.val,.val] .sh (kG)
theorem Us (Z:Zt K mg cv ca) (T:qY K mg "alike" wD ["words", "look"]) (ok_pairs:Ja P w K mg base cv) (ok_are_alike:wV P w K mg base cv):xO P w K mg base cv:=
 qL (k:=5) (own':=[]) (fb:=xN) T sc_alike fun cdv f A outer s H E hr=>(ql (jj (i:=2) sc_alike.nd rfl (Or.inl rfl) (qt ok_pairs hr (by decide) jg rfl (qb (vr 0) (qb (vr 1) qe))))
  (ql (vP (i:=3) sc_alike.nd rfl (Or.inl rfl) (jJ qe))
  (ql (gE PassesOwn.leaving rfl (QO rfl rfl Z.z_enumerate (vr 2)) (gD rfl rfl (kj (qI (i:=4) sc_alike.nd rfl (Or.inl rfl)) (kj (qI (i:=5) sc_alike.nd rfl (Or.inr rfl)) xb)))
  (ql (WH (N:=["at", "other", "pair"]) (nt:=2) (cap:=[5]) sc_alike.nd (i:=6) rfl (Or.inl rfl) rfl (ue (names:=(qc wD).names) rfl (by decide +kernel)) (kK (names:=(qc wD).names) (N:=Qb) rfl rfl (by decide +kernel)) (QO rfl rfl Z.z_enumerate (vr 2)) (fun fp L s1 H1=>(gD rfl rfl (kj (qI (i:=0) (show List.Nodup (["at", "other", "pair"]:List Str) from by decide +kernel) rfl (Or.inl rfl)) (kj (qI (i:=1) (show List.Nodup (["at", "other", "pair"]:List Str) from by decide +kernel) rfl (Or.inl rfl)) xb)))) (fun fp L s1 H1=>(YJ (jT rfl (qt ok_are_alike hr (by decide) yr rfl (qb (vr 2) (qb (vr 1) qe))) (fun _=>rfl)))) (fun fp L s1 H1=>(vr 0)))
  (uk [6] (qo (jC (jB (yq rfl hr.units) (vQ rfl hr.units (vr 6) qw (fun _ _=>rfl)) (vr 4)) (qo (qQ (vX (i:=3) rfl rfl (Or.inl rfl) (by decide) (vr 6)))) qV)))))
  (uk [3] (qo (qr (vr 3)))))))
abbrev jl:Stmt:=top 31
abbrev vK:List Str:=["places", "found", "first"]
theorem sc_all_looks:FnScope vK [] (qc jl):=⟨rfl,rfl,rfl,by decide +kernel,rfl,by decide +kernel,by decide +kernel⟩
noncomputable def yg:Sl->Out (Fl×Sl):=(jr (ub 0 (d2 uS (dC (.int (-3))) (d2 xX (dC (.int 2)) (dC (.int 1)))))
  (jr (ub 1 (yp qO))
  (jr (XF (xY (qu 0)) (gNm 2)
  (vz (QD 1 YR (jW [1] 1 [2] (xY (qu 0)) (gNm 0) ftT (gy (qd (qu 1) (qd (qu 0) qO)))))))
  (kf (qu 1)))))
noncomputable abbrev jH:List D->Out (D×List D):=kJ vK [] (yg)
abbrev wW P w K mg base cv:=DefOk P w K mg base cv 1 "all_looks" [] [] .sh (jH)
theorem zW (Z:Zt K mg cv ca) (T:qY K mg "all_looks" jl []):wW P w K mg base cv:=
 qL (k:=0) (own':=[]) (fb:=yg) T sc_all_looks fun cdv f A outer s H E hr=>(ql (jj (i:=0) sc_all_looks.nd rfl (Or.inl rfl) (gO rfl rfl Z.z_list gP rfl Z.z_range Ui (vo Z.c_LEAST_PLACE rfl) (js (vC rfl) (vo Z.c_MOST_PLACE rfl) qw)))
  (ql (vP (i:=1) sc_all_looks.nd rfl (Or.inl rfl) (jJ qe))
  (ql (gE PassesOwn.leaving rfl (jZ rfl (vr 0)) (qI (i:=2) sc_all_looks.nd rfl (Or.inr rfl))
  (qo (qQ (uG (i:=1) rfl (Or.inl rfl) (by decide) (jX (N:=["second", "first"]) (nt:=1) (cap:=[2]) rfl (ue (names:=(qc jl).names) rfl (by decide +kernel)) (kK (names:=(qc jl).names) (N:=vK) rfl rfl (by decide +kernel)) (jZ rfl (vr 0)) (fun fp L s1 H1=>(qI (i:=0) (show List.Nodup (["second", "first"]:List Str) from by decide +kernel) rfl (Or.inl rfl))) (fun fp L s1 H1=>jc) (fun fp L s1 H1=>(kI (qb (vr 1) (qb (vr 0) qe)))))))))
  (uk [1] (qo (qr (vr 1)))))))
abbrev qX:Stmt:=top 38
abbrev jQ:List Str:=["words", "most"]
theorem sc_best_looks:FnScope jQ ["words"] (qc qX):=⟨rfl,rfl,rfl,by decide +kernel,rfl,by decide +kernel,by decide +kernel⟩
noncomputable def kX:Sl->Out (Fl×Sl):=(jr (ub 1 (d1 US (zK 1 [0] (xY (qB [] jH qO)) (gNm 0) ftT (d1 uc (qB [.vl,.vl] kG (qd (qu 1) (qd (qu 0) qO)))))))
  (kf qbm))
noncomputable abbrev jq:List D->Out (D×List D):=kJ jQ [.val] (kX)
abbrev we P w K mg base cv:=DefOk P w K mg base cv 7 "best_looks" ["words"] [.val] .sh (jq)
theorem xP (Z:Zt K mg cv ca) (T:qY K mg "best_looks" qX ["words"]) (ok_all_looks:wW P w K mg base cv) (ok_alike:xO P w K mg base cv):we P w K mg base cv:=
 qL (k:=6) (own':=[]) (fb:=kX) T sc_best_looks fun cdv f A outer s H E hr=>(ql (jj (i:=1) sc_best_looks.nd rfl (Or.inr rfl) (qH (m:=.sh) Gd rfl Z.z_max UT (Ug (N:=["look", "words"]) (nt:=1) (cap:=[0]) rfl qaT (ue (names:=(qc qX).names) rfl (by decide +kernel)) (kK (names:=(qc qX).names) (N:=jQ) rfl rfl (by decide +kernel)) (jZ rfl (VN ok_all_looks hr (by decide) jg rfl)) (fun fp L s1 H1=>(qI (i:=0) (show List.Nodup (["look", "words"]:List Str) from by decide +kernel) rfl (Or.inl rfl))) (fun fp L s1 H1=>jc) (fun fp L s1 H1 xe E hx=>(qH (jK rfl) rfl Z.z_len jF (qt ok_alike hr (by decide) hx rfl (qb (vr 1) (qb (vr 0) qe))))))))
  (qo (qr (m:=.sh) ZY)))
abbrev jy:Stmt:=top 39
abbrev wE:List Str:=["words"]
theorem Qc:FnScope wE ["words"] (qc jy):=⟨rfl,rfl,rfl,by decide +kernel,rfl,by decide +kernel,by decide +kernel⟩
noncomputable def wF:Sl->Out (Fl×Sl):=(jr (vz (qB [.vl] qR (qd (qu 0) qO)))
  (kf (d1 yG (jW [] 1 [] (xY (qu 0)) (gNm 0) ftT (zz (qu 0) none none (some (d1 Wh (dC (.int 1)))))))))
noncomputable abbrev kr:List D->Out (D×List D):=kJ wE [.val] (wF)
abbrev yh P w K mg base cv:=DefOk P w K mg base cv 5 "mirrored" ["words"] [.val] .sh (kr)
theorem Qd (Z:Zt K mg cv ca) (T:qY K mg "mirrored" jy ["words"]) (ok_check_words:jn P w K mg base cv):yh P w K mg base cv:=
 qL (k:=4) (own':=[]) (fb:=wF) T Qc fun cdv f A outer s H E hr=>(ql (qQ (qt ok_check_words hr (by decide) jg rfl (qb (vr 0) qe)))
  (qo (qr (ki (xk rfl) rfl Z.z_tuple vw (jX (N:=["word"]) (nt:=1) (cap:=[]) rfl (ue (names:=(qc jy).names) rfl (by decide +kernel)) (kK (names:=(qc jy).names) (N:=wE) rfl rfl (by decide +kernel)) (jZ rfl (vr 0)) (fun fp L s1 H1=>(qI (i:=0) (show List.Nodup (["word"]:List Str) from by decide +kernel) rfl (Or.inl rfl))) (fun fp L s1 H1=>jc) (fun fp L s1 H1=>(xo rfl (vr 0) vp vp (xm (Jp yF qw)))))))))
abbrev uu:Stmt:=top 40
abbrev Jb:List Str:=["look"]
theorem VV:FnScope Jb ["look"] (qc uu):=⟨rfl,rfl,rfl,by decide +kernel,rfl,by decide +kernel,by decide +kernel⟩
noncomputable def xQ:Sl->Out (Fl×Sl):=(jr (vz (qB [.vl] jP (qd (qu 0) qO)))
  (kf (gy (qd (d2 XC (d1 Wh (dC (.int 1))) (d2 ixD (qu 0) (dC (.int 0)))) (qd (d2 XC (d1 Wh (dC (.int 1))) (d2 ixD (qu 0) (dC (.int 1)))) qO)))))
noncomputable abbrev wf:List D->Out (D×List D):=kJ Jb [.val] (xQ)
abbrev zX P w K mg base cv:=DefOk P w K mg base cv 4 "turned" ["look"] [.val] .sh (wf)
theorem VW (Z:Zt K mg cv ca) (T:qY K mg "turned" uu ["look"]) (ok_check_look:kD P w K mg base cv):zX P w K mg base cv:=
 qL (k:=3) (own':=[]) (fb:=xQ) T VV fun cdv f A outer s H E hr=>(ql (qQ (qt ok_check_look hr (by decide) jg rfl (qb (vr 0) qe)))
  (qo (qr (kI (qb (js Qs (Jp yF qw) (vQ rfl hr.units (vr 0) qw (fun _ _=>rfl))) (qb (js Qs (Jp yF qw) (vQ rfl hr.units (vr 0) qw (fun _ _=>rfl))) qe))))))
abbrev jR:Stmt:=top 23
abbrev wX:List Str:=["thing"]
theorem xR:FnScope wX ["thing"] (qc jR):=⟨rfl,rfl,rfl,by decide +kernel,rfl,by decide +kernel,by decide +kernel⟩
noncomputable def wY:Sl->Out (Fl×Sl):=(kf (yX (d1 (zx "str") (qu 0)) (yX (d2 eqD (d1 uc (qu 0)) (d1 uc (dC (.str "abcdefghijklmnopqrstuvwxyz")))) (d2 eqD (d1 QV (qu 0)) (d1 QQ (dC (.str "abcdefghijklmnopqrstuvwxyz")))))))
noncomputable abbrev wZ:List D->Out (D×List D):=kJ wX [.val] (wY)
abbrev wg P w K mg base cv:=DefOk P w K mg base cv 1 "is_letters" ["thing"] [.val] .sh (wZ)
theorem xS (Z:Zt K mg cv ca) (T:qY K mg "is_letters" jR ["thing"]):wg P w K mg base cv:=
 qL (k:=0) (own':=[]) (fb:=wY) T xR fun cdv f A outer s H E hr=>(qo (qr (yB (uH rfl rfl Z.z_isinstance qm rfl Z.z_str VQ (vr 0)) (yB (wI (yq rfl hr.units) (qH (jK rfl) rfl Z.z_len jF (vr 0)) (qH (jK rfl) rfl Z.z_len jF (uR Z.c_LETTERS rfl))) (zm (wI (yq rfl hr.units) (qH (JI rfl) rfl Z.z_sorted VP (vr 0)) (ki (QR rfl) rfl Z.z_list gP (uR Z.c_LETTERS rfl))))))))
abbrev jd:Stmt:=top 28
abbrev kY:List Str:=["thing"]
theorem uf:FnScope kY ["thing"] (qc jd):=⟨rfl,rfl,rfl,by decide +kernel,rfl,by decide +kernel,by decide +kernel⟩
noncomputable def kZ:Sl->Out (Fl×Sl):=(sIf (JY (JW (qB [.vl] wZ (qd (qu 0) qO)))) (xi "NoLetters" (qd (dC (.str "other letters are a text of all letters from a to z, each once")) qO)) kN)
noncomputable abbrev je:List D->Out (D×List D):=kJ kY [.val] (kZ)
abbrev kM P w K mg base cv:=DefOk P w K mg base cv 2 "check_letters" ["thing"] [.val] .sh (je)
theorem ug (Z:Zt K mg cv ca) (T:qY K mg "check_letters" jd ["thing"]) (ok_is_letters:wg P w K mg base cv):kM P w K mg base cv:=
 qL (k:=1) (own':=[]) (fb:=kZ) T uf fun cdv f A outer s H E hr=>(qo (jC (jU (jT rfl (qt ok_is_letters hr (by decide) jg rfl (qb (vr 0) qe)) (fun _=>rfl))) (qo (uE rfl (Vg rfl) rfl rfl (Z.mref "NoLetters" (by decide +kernel)) (Z.xs.val "NoLetters" (by decide +kernel)) (Z.xin "NoLetters" (by decide +kernel)) (qb ji qe))) qV))
abbrev qP:Stmt:=top 41
abbrev jo:List Str:=["word", "letters"]
theorem yi:FnScope jo ["word", "letters"] (qc qP):=⟨rfl,rfl,rfl,by decide +kernel,rfl,by decide +kernel,by decide +kernel⟩
noncomputable def ka:Sl->Out (Fl×Sl):=(kf (d1 (zI "") (jW [] 1 [1] (xY (qu 0)) (gNm 0) ftT (d2 ixD (qu 1) (dM GM uQ (dC (.str "abcdefghijklmnopqrstuvwxyz")) (qu 0))))))
noncomputable abbrev jp:List D->Out (D×List D):=kJ jo [.val,.val] (ka)
abbrev va P w K mg base cv:=DefOk P w K mg base cv 1 "with_letters" ["word", "letters"] [.val,.val] .sh (jp)
theorem yj (Z:Zt K mg cv ca) (T:qY K mg "with_letters" qP ["word", "letters"]):va P w K mg base cv:=
 qL (k:=0) (own':=[]) (fb:=ka) T yi fun cdv f A outer s H E hr=>(qo (qr (Vt rfl (jX (N:=["letter", "letters"]) (nt:=1) (cap:=[1]) rfl (ue (names:=(qc qP).names) rfl (by decide +kernel)) (kK (names:=(qc qP).names) (N:=jo) rfl rfl (by decide +kernel)) (jZ rfl (vr 0)) (fun fp L s1 H1=>(qI (i:=0) (show List.Nodup (["letter", "letters"]:List Str) from by decide +kernel) rfl (Or.inl rfl))) (fun fp L s1 H1=>jc) (fun fp L s1 H1=>(vQ rfl hr.units (vr 1) (Uf PySem.F.slot_str_index PySem.F.type_str_index VL rfl (uR Z.c_LETTERS rfl) (vr 0)) (fun _ _=>rfl)))))))
abbrev kt:Stmt:=top 42
abbrev yk:List Str:=["words", "letters"]
theorem JN:FnScope yk ["words", "letters"] (qc kt):=⟨rfl,rfl,rfl,by decide +kernel,rfl,by decide +kernel,by decide +kernel⟩
noncomputable def vb:Sl->Out (Fl×Sl):=(jr (vz (qB [.vl] qR (qd (qu 0) qO)))
  (jr (vz (qB [.vl] je (qd (qu 1) qO)))
  (kf (d1 yG (jW [] 1 [1] (xY (qu 0)) (gNm 0) ftT (qB [.vl,.vl] jp (qd (qu 0) (qd (qu 1) qO))))))))
noncomputable abbrev jf:List D->Out (D×List D):=kJ yk [.val,.val] (vb)
abbrev yR P w K mg base cv:=DefOk P w K mg base cv 5 "renamed" ["words", "letters"] [.val,.val] .sh (jf)
theorem JO (Z:Zt K mg cv ca) (T:qY K mg "renamed" kt ["words", "letters"]) (ok_check_words:jn P w K mg base cv) (ok_check_letters:kM P w K mg base cv) (ok_with_letters:va P w K mg base cv):yR P w K mg base cv:=
 qL (k:=4) (own':=[]) (fb:=vb) T JN fun cdv f A outer s H E hr=>(ql (qQ (qt ok_check_words hr (by decide) jg rfl (qb (vr 0) qe)))
  (ql (qQ (qt ok_check_letters hr (by decide) jg rfl (qb (vr 1) qe)))
  (qo (qr (ki (xk rfl) rfl Z.z_tuple vw (jX (N:=["word", "letters"]) (nt:=1) (cap:=[1]) rfl (ue (names:=(qc kt).names) rfl (by decide +kernel)) (kK (names:=(qc kt).names) (N:=yk) rfl rfl (by decide +kernel)) (jZ rfl (vr 0)) (fun fp L s1 H1=>(qI (i:=0) (show List.Nodup (["word", "letters"]:List Str) from by decide +kernel) rfl (Or.inl rfl))) (fun fp L s1 H1=>jc) (fun fp L s1 H1=>(qt ok_with_letters hr (by decide) yr rfl (qb (vr 0) (qb (vr 1) qe))))))))))
abbrev uv:Stmt:=top 53
abbrev Jc:List Str:=["_law_e", "_law_own"]
theorem sc_Lwhich:FnScope Jc ["_law_e"] (qc uv):=⟨rfl,rfl,rfl,by decide +kernel,rfl,by decide +kernel,by decide +kernel⟩
noncomputable def wj (ca:Str->Addr):Sl->Out (Fl×Sl):=(jr (ub 1 (yp (qd (d1 (uL (zB ca CS "NoWords")) (qu 0)) (qd (d1 (uL (zB ca CS "NoLook")) (qu 0)) (qd (d1 (uL (zB ca CS "NoNumbers")) (qu 0)) (qd (d1 (uL (zB ca CS "NoRoom")) (qu 0)) qO))))))
  (jr (vz (QD 1 YR (yp (qd (d1 (uL (zB ca CS "NoWord")) (qu 0)) (qd (d1 (uL (zB ca CS "NoWorths")) (qu 0)) (qd (d1 (uL (zB ca CS "Never")) (qu 0)) (qd (d1 (uL (zB ca CS "Full")) (qu 0)) qO)))))))
  (jr (vz (QD 1 YR (yp (qd (d1 (uL (zB ca CS "Known")) (qu 0)) (qd (d1 (uL (zB ca CS "NoPlace")) (qu 0)) (qd (d1 (uL (zB ca CS "NoLetters")) (qu 0)) (qd (d1 (uL (zB ca CS "NoText")) (qu 0)) qO)))))))
  (jr (vz (QD 1 Jz (d1 (uL (zB ca CS "Nothing")) (qu 0))))
  (jr (sIf (dOr (kh (d2 neD (d1 (yI true) (qu 1)) (dC (.int 1)))) (JY (JW (d1 (uL (ZO ca CS)) (qu 0))))) (kf (gy (qd (dC (.str "refused")) (qd (d1 Wh (dC (.int 1))) qO)))) kN)
  (kf (gy (qd (dC (.str "refused")) (qd (d1 (yJ true) (qu 1)) qO)))))))))
noncomputable abbrev kH (ca:Str->Addr):List D->Out (D×List D):=kJ Jc [.val] (wj ca)
abbrev zY (ca:Str->Addr) P w K mg base cv:=qax P w K mg base cv 1 "_law_which" ["_law_e"] [.val] .sh (kH ca)
theorem VX (Z:Zt K mg cv ca) (T:qY K mg "_law_which" uv ["_law_e"]):zY ca P w K mg base cv:=
 qay (k:=0) (own':=[]) (fb:=wj ca) T sc_Lwhich fun cdv f A outer s H E hr=>(ql (vP (i:=1) sc_Lwhich.nd rfl (Or.inl rfl) (jJ (qb (km rfl Z.z_isinstance qm rfl (Z.mref "NoWords" (by decide +kernel)) (Z.xs.ans (by decide +kernel)) (vr 0)) (qb (km rfl Z.z_isinstance qm rfl (Z.mref "NoLook" (by decide +kernel)) (Z.xs.ans (by decide +kernel)) (vr 0)) (qb (km rfl Z.z_isinstance qm rfl (Z.mref "NoNumbers" (by decide +kernel)) (Z.xs.ans (by decide +kernel)) (vr 0)) (qb (km rfl Z.z_isinstance qm rfl (Z.mref "NoRoom" (by decide +kernel)) (Z.xs.ans (by decide +kernel)) (vr 0)) qe))))))
  (ql (qQ (uG (i:=1) rfl (Or.inl rfl) (by decide) (jJ (qb (km rfl Z.z_isinstance qm rfl (Z.mref "NoWord" (by decide +kernel)) (Z.xs.ans (by decide +kernel)) (vr 0)) (qb (km rfl Z.z_isinstance qm rfl (Z.mref "NoWorths" (by decide +kernel)) (Z.xs.ans (by decide +kernel)) (vr 0)) (qb (km rfl Z.z_isinstance qm rfl (Z.mref "Never" (by decide +kernel)) (Z.xs.ans (by decide +kernel)) (vr 0)) (qb (km rfl Z.z_isinstance qm rfl (Z.mref "Full" (by decide +kernel)) (Z.xs.ans (by decide +kernel)) (vr 0)) qe)))))))
  (ql (qQ (uG (i:=1) rfl (Or.inl rfl) (by decide) (jJ (qb (km rfl Z.z_isinstance qm rfl (Z.mref "Known" (by decide +kernel)) (Z.xs.ans (by decide +kernel)) (vr 0)) (qb (km rfl Z.z_isinstance qm rfl (Z.mref "NoPlace" (by decide +kernel)) (Z.xs.ans (by decide +kernel)) (vr 0)) (qb (km rfl Z.z_isinstance qm rfl (Z.mref "NoLetters" (by decide +kernel)) (Z.xs.ans (by decide +kernel)) (vr 0)) (qb (km rfl Z.z_isinstance qm rfl (Z.mref "NoText" (by decide +kernel)) (Z.xs.ans (by decide +kernel)) (vr 0)) qe)))))))
  (ql (qQ (vX (i:=1) rfl rfl (Or.inl rfl) (by decide) (km rfl Z.z_isinstance qm rfl (Z.mref "Nothing" (by decide +kernel)) (Z.xs.ans (by decide +kernel)) (vr 0))))
  (uk [1] (ql (jC (PW.pt (yA (jB (KC rfl hr.units) (WQ rfl (vr 1)) qw) (wo (jU (jT rfl (YW rfl Z.z_isinstance qm rfl Z.z_ValueError xy Z.xs.ansV (vr 0)) (fun _=>rfl)))))) (qo (qr (kI (qb ji (qb (Jp yF qw) qe))))) qV)
  (qo (qr (kI (qb ji (qb (WS rfl (vr 1)) qe)))))))))))
abbrev Jd:Stmt:=top 54
abbrev UU:List Str:=["_law_what", "_law_one", "_law_other", "_law_e"]
theorem sc_Lask:FnScope UU ["_law_what", "_law_one", "_law_other"] (qc Jd):=⟨rfl,rfl,rfl,by decide +kernel,rfl,by decide +kernel,by decide +kernel⟩
noncomputable def zZ (ca:Str->Addr):Sl->Out (Fl×Sl):=(UN 4 (some 3) (ZN ca CS) (jr (sIf (kh (d2 ltD (qu 0) (dC (.int 2)))) (kf (gM [.vl,.vl] (qu 0) [kG,jf] (qd (qu 1) (qd (qu 2) qO)))) kN)
  (kf (gM [.vl] (d2 XC (qu 0) (dC (.int 2))) [jq,kr,wf] (qd (qu 1) qO)))) (kf (qB [.vl] (kH ca) (qd (qu 3) qO))))
noncomputable abbrev vd (ca:Str->Addr):List D->Out (D×List D):=kJ UU [.val,.val,.val] (zZ ca)
abbrev VY (ca:Str->Addr) P w K mg base cv:=DefOk P w K mg base cv 8 "_law_ask" ["_law_what", "_law_one", "_law_other"] [.val,.val,.val] .sh (vd ca)
theorem Xo (Z:Zt K mg cv ca) (T:qY K mg "_law_ask" Jd ["_law_what", "_law_one", "_law_other"]) (ok_alike:xO P w K mg base cv) (ok_best_looks:we P w K mg base cv) (ok_mirrored:yh P w K mg base cv) (ok_turned:zX P w K mg base cv) (ok_renamed:yR P w K mg base cv) (ok_Lwhich:zY ca P w K mg base cv):VY ca P w K mg base cv:=
 qL (k:=7) (own':=[]) (fb:=zZ ca) T sc_Lask fun cdv f A outer s H E hr=>(qo (YO (own2:=[]) (n:=4) (j:=3) rfl rfl rfl rfl Z.m_WordError Z.xs.hit sc_Lask.nd rfl rfl rfl (fun pn xe E hx=>(ql (jC (jB Zs (vr 0) qw) (qo (qr (Vw (j:=6) (ca:=ca) (ns:=["alike", "renamed"]) (gs:=[kG,jf]) ⟨⟨_,ok_alike.mono (by decide)⟩,⟨_,ok_renamed.mono (by decide)⟩,trivial⟩ (fun x hx=>Z.fref x ((show ∀ x∈(["alike", "renamed"]:List Str),x∈FS from by decide +kernel) x hx)) (by decide) hr (by decide) hx (vQ rfl hr.units (jJ (qb (Vv (Z.fref "alike" (by decide +kernel)) rfl) (qb (Vv (Z.fref "renamed" (by decide +kernel)) rfl) qe))) (vr 0) (fun _ _=>rfl)) (qb (vr 1) (qb (vr 2) qe))))) qV)
  (qo (qr (Vw (j:=7) (ca:=ca) (ns:=["best_looks", "mirrored", "turned"]) (gs:=[jq,kr,wf]) ⟨⟨_,ok_best_looks.mono (by decide)⟩,⟨_,ok_mirrored.mono (by decide)⟩,⟨_,ok_turned.mono (by decide)⟩,trivial⟩ (fun x hx=>Z.fref x ((show ∀ x∈(["best_looks", "mirrored", "turned"]:List Str),x∈FS from by decide +kernel) x hx)) (by decide) hr (by decide) hx (vQ rfl hr.units (jJ (qb (Vv (Z.fref "best_looks" (by decide +kernel)) rfl) (qb (Vv (Z.fref "mirrored" (by decide +kernel)) rfl) (qb (Vv (Z.fref "turned" (by decide +kernel)) rfl) qe)))) (js Qs (vr 0) qw) (fun _ _=>rfl)) (qb (vr 1) qe)))))) (fun e=>(qo (qr (Vc ok_Lwhich ((hr.quiet.mono (by decide)).mark _) yr rfl (qb (vr 3) qe)))))))
abbrev Qe:Stmt:=top 55
abbrev Ut:List Str:=["_law_script", "_law_town", "_law_names", "_law_every", "_law_wrong", "_law_bad", "_law_blind"]
theorem sc_law:FnScope Ut ["_law_script"] (qc Qe):=⟨rfl,rfl,rfl,by decide +kernel,rfl,by decide +kernel,by decide +kernel⟩
noncomputable def Xp (ca:Str->Addr):Sl->Out (Fl×Sl):=(jr (ub 1 (yp qO))
  (jr (qar (gy (qd (qB [.vl,.sl 1] kW (qd (qu 0) (vA qO))) (qd (qB [.vl,.sl 1] vI (qd (qu 0) (vA qO))) qO))) (KQ 2 (wJ (gNm 5) (wJ (gNm 6) KP))))
  (jr (ub 2 (qB [.vl,.sl 1,.vl] xF (qd (qu 0) (vA (qd (dC (.int 6)) qO)))))
  (jr (ub 3 (dC (.str "abcdefghijklmnopqrstuvwxyz")))
  (jr (ub 4 (yp (qd (dC .non) (qd (dC (.str "")) (qd (zz (qu 3) (some (dC (.int 1))) none none) (qd (d2 xX (qu 3) (dC (.str "a"))) (qd (d1 QW (qu 3)) (qd (d1 QQ (qu 3)) (qd (d2 xX (zz (qu 3) none (some (d1 Wh (dC (.int 1)))) none) (dC (.str "a"))) (qd (dC (.int 26)) qO))))))))))
  (jr (ub 4 (qB [.vl,.sl 1,.vl] kT (qd (qu 0) (vA (qd (qu 4) qO)))))
  (jr (sIf (kh (d2 neD (jW [1] 1 [5] (jV (dC (.int 4))) (gNm 0) ftT (qB [.vl,.vl,.vl] (vd ca) (qd (qu 0) (qd (qu 1) (qd (dC .non) qO))))) (d2 GJ (yp fun ρ=>.ok ([(.tup [(.str "refused"),(.int 0)])],ρ)) (dC (.int 4))))) (kf (dC (.bl false))) kN)
  (jr (sIf (dOr (kh (d2 neD (qB [.vl,.vl,.vl] (vd ca) (qd (dC (.int 0)) (qd (qu 2) (qd (qu 6) qO)))) (gy (qd (dC (.str "refused")) (qd (dC (.int 1)) qO))))) (kh (d2 neD (qB [.vl,.vl,.vl] (vd ca) (qd (dC (.int 4)) (qd (qu 6) (qd (dC .non) qO)))) (gy (qd (dC (.str "refused")) (qd (dC (.int 1)) qO)))))) (kf (dC (.bl false))) kN)
  (kf (yX (d2 eqD (qB [.vl,.vl,.vl] (vd ca) (qd (dC (.int 1)) (qd (qu 2) (qd (qu 4) qO)))) (gy (qd (dC (.str "refused")) (qd (dC (.int 10)) qO)))) (d2 eqD (qB [.vl,.vl,.vl] (vd ca) (qd (dC (.int 1)) (qd (qu 2) (qd (qu 3) qO)))) (qu 2))))))))))))
noncomputable abbrev Uu (ca:Str->Addr):List D->Out (D×List D):=kJ Ut [.val] (Xp ca)
theorem Gh {f:Addr} {fd:FuncData} (Z:Zt K mg cv ca) (F:Fun K "law" "law" Qe f fd) (ok_Lpick:vy P w K mg base cv) (ok_Lwords:zM P w K mg base cv) (ok_Lodd_words:vZ P w K mg base cv) (ok_Lodd_look:wN P w K mg base cv) (ok_Lask:VY ca P w K mg base cv):FnOk P w K mg base (CXk P w) 9 f fd ["_law_script"] (spD K cv [.val] .sh (Uu ca)):=
 qa4 (k:=8) (own':=[]) (fb:=Xp ca) F sc_law rfl (jI rfl) (.inl rfl) (fun cdv A outer s H E hr=>(ql (vP (i:=1) sc_law.nd rfl (Or.inl rfl) (jJ qe))
  (ql (YH (kI (qb (qt ok_Lodd_words hr (by decide) jg rfl (qb (vr 0) (qU (i:=1) rfl (Or.inl rfl) (by decide) qe))) (qb (qt ok_Lodd_look hr (by decide) jg rfl (qb (vr 0) (qU (i:=1) rfl (Or.inl rfl) (by decide) qe))) qe))) (gD rfl rfl (kj (qI (i:=5) sc_law.nd rfl (Or.inr rfl)) (kj (qI (i:=6) sc_law.nd rfl (Or.inl rfl)) xb))))
  (ql (jj (i:=2) sc_law.nd rfl (Or.inl rfl) (qt ok_Lwords hr (by decide) jg rfl (qb (vr 0) (qU (i:=1) rfl (Or.inl rfl) (by decide) (qb qw qe)))))
  (ql (jj (i:=3) sc_law.nd rfl (Or.inl rfl) ji)
  (ql (jj (i:=4) sc_law.nd rfl (Or.inl rfl) (jJ (qb Qr (qb ji (qb (xo rfl (vr 3) (xm qw) vp vp) (qb (js (vC rfl) (vr 3) ji) (qb (Uh (vr 3)) (qb (ki (QR rfl) rfl Z.z_list gP (vr 3)) (qb (js (vC rfl) (xo rfl (vr 3) vp (xm (Jp yF qw)) vp) ji) (qb qw qe))))))))))
  (ql (jj (i:=4) sc_law.nd rfl (Or.inl rfl) (qt ok_Lpick hr (by decide) jg rfl (qb (vr 0) (qU (i:=1) rfl (Or.inl rfl) (by decide) (qb (vr 4) qe)))))
  (ql (jC (jB (KC rfl hr.units) (jX (N:=["_law_what", "_law_bad"]) (nt:=1) (cap:=[5]) rfl (ue (names:=(qc Qe).names) rfl (by decide +kernel)) (kK (names:=(qc Qe).names) (N:=Ut) rfl rfl (by decide +kernel)) (wq rfl Z.z_range qw) (fun fp L s1 H1=>(qI (i:=0) (show List.Nodup (["_law_what", "_law_bad"]:List Str) from by decide +kernel) rfl (Or.inl rfl))) (fun fp L s1 H1=>jc) (fun fp L s1 H1=>(qt ok_Lask hr (by decide) yr rfl (qb (vr 0) (qb (vr 1) (qb Qr qe)))))) (js (Xh rfl) (xx 10 rfl) qw)) (qo (qr gt)) qV)
  (ql (jC (PW.pt (yA (jB (KC rfl hr.units) (qt ok_Lask hr (by decide) jg rfl (qb qw (qb (vr 2) (qb (vr 6) qe)))) (kI (qb ji (qb qw qe)))) (wo (jB (KC rfl hr.units) (qt ok_Lask hr (by decide) jg rfl (qb qw (qb (vr 6) (qb Qr qe)))) (kI (qb ji (qb qw qe))))))) (qo (qr gt)) qV)
  (qo (qr (yB (wI (yq rfl hr.units) (qt ok_Lask hr (by decide) jg rfl (qb qw (qb (vr 2) (qb (vr 4) qe)))) (kI (qb ji (qb qw qe)))) (zm (wI (yq rfl hr.units) (qt ok_Lask hr (by decide) jg rfl (qb qw (qb (vr 2) (qb (vr 3) qe)))) (vr 2))))))))))))))) fun _=>.inr rfl
end
end Kx
namespace Kx
open PySem PySem.Spec L2 L2.D2
theorem uz {α:Type} (xs:List α) (k:Nat):atI xs (k:Int)=xs[k]?:=by
 unfold atI ixN
 rw [if_pos (by omega)]
 by_cases h:k < xs.length
 ·rw [if_pos (by omega)]
  simp
 ·rw [if_neg (by omega),List.getElem?_eq_none (by omega)]
  rfl
theorem Gi {α:Type} {xs:List α} {i:Int} (h0:0<=i) (h1:i < xs.length):∃ d,atI xs i=some d/\d∈xs:=by
 obtain ⟨k,rfl⟩:=Int.eq_ofNat_of_zero_le h0
 have hk:k < xs.length:=by omega
 exact ⟨xs[k],by rw [uz,List.getElem?_eq_getElem hk],List.getElem_mem hk⟩
theorem big:2000<=sizeLine:=by rw [sizeLine_eq]; decide
abbrev scr (ns:List Int):D:=.lst (ns.map .int)
theorem Xq (ns:List Int) (k:Nat):∃ i,wx [scr ns,.int k]=.ok (.int i,[.non,.non]):=by
 by_cases h:k < ns.length
 ·refine ⟨ns[k],?_⟩
  refine runD_ap.trans ?_
  simp [kn,qy,uc,ltD,ixD,qx,h,uz]
 ·by_cases h0:ns=[]
  ·subst h0
   have hk:¬((k:Int) < 0):=by omega
   exact ⟨0,by refine runD_ap.trans ?_; simp [kn,qy,uc,ltD,ixD,qx,eqD,eqN,kP,hk]⟩
  ·have hp:0 < ns.length:=List.length_pos_iff.mpr h0
   have hm:k % ns.length < ns.length:=Nat.mod_lt _ hp
   have e:atI (ns.map D.int) ((k:Int) % (ns.length:Int))=some (.int ns[k % ns.length]):=by
    rw [show ((k:Int) % (ns.length:Int))=((k % ns.length:Nat):Int) by simp,uz,List.getElem?_map,List.getElem?_eq_getElem hm]
    rfl
   refine ⟨ns[k % ns.length] * 31+k,?_⟩
   refine runD_ap.trans ?_
   simp [kn,qy,uc,ltD,ixD,qx,eqD,eqN,h,h0,UI,XD,xX,JV,hp,e,CMul]
theorem Uv (ns:List Int) (k:Nat) {many:Int} (hm:0 < many):∃ r,0<=r/\r < many/\xA [scr ns,.int k,.int many]=.ok (.int r,[.non,.non,.non]):=by
 obtain ⟨c,hc⟩:=Xq ns k
 have h1:=Int.emod_nonneg (c * 1103515245+7919 * k+12345) (show (2147483647:Int)≠0 by decide)
 have h2:=Int.emod_lt_of_pos (c * 1103515245+7919 * k+12345) (show (0:Int) < 2147483647 by decide)
 generalize hd:(c * 1103515245+7919 * (k:Int)+12345) % 2147483647=d at h1 h2
 have c1:L2.D2.XB d 5:=⟨⟨by omega,by omega⟩,by omega,by omega⟩
 refine ⟨d ^ 5 % 2147483647 % 999983 % many,Int.emod_nonneg _ (by omega),Int.emod_lt_of_pos _ hm,?_⟩
 refine runD_ap.trans ?_
 simp [xz,qy,qx,qE,jm,hc,XD,UI,xX,qaS,JV,hm,hd,c1,show ∀ j,CMul 7919 j from fun j=>.inl ⟨by omega,by omega⟩,show ∀ i,CMul i 1103515245 from fun i=>.inr ⟨by omega,by omega⟩]
theorem Qf (ns:List Int) (town:List D) {many:Int} (hm:0 < many) (ht:town.length < 1000):∃ r,0<=r/\r < many/\uU [scr ns,.lst town,.int many]=.ok (.int r,[.non,.lst (town++[.int 0]),.non]):=by
 obtain ⟨r,h0,h1,h⟩:=Uv ns (town.length+1) hm
 have hl:town.length < sizeLine:=Nat.lt_of_lt_of_le (Nat.lt_trans ht (by decide)) big
 refine ⟨r,h0,h1,?_⟩
 simp at h
 refine runD_ap.trans ?_
 simp [gS,qy,qx,qE,jm,uF,Jz,uc,hl,h]
theorem yl (ns:List Int) (town xs:List D) (hx:xs≠[]) (ht:town.length < 1000):∃ d,d∈xs/\kT [scr ns,.lst town,.lst xs]=.ok (d,[.non,.lst (town++[.int 0]),.non]):=by
 have hp:0 < xs.length:=List.length_pos_iff.mpr hx
 obtain ⟨r,h0,h1,h⟩:=Qf ns town (many:=(xs.length:Int)) (by omega) ht
 obtain ⟨d,e,hd⟩:=Gi (xs:=xs) h0 h1
 refine ⟨d,hd,?_⟩
 refine runD_ap.trans ?_
 simp [gU,qy,qx,qE,jm,uc,h,ixD,e]
def az (c:Nat):Prop:=97<=c/\c<=122
def XI (w:Str):Prop:=1<=w.length/\w.length<=6/\∀ c∈w.cps.toList,az c
theorem VZ (x:Str):x.length=x.cps.size:=rfl
theorem Wa (x y:Str):(x++y).cps=x.cps++y.cps:=rfl
def GN (ls:List Str):Prop:=ls≠[]/\∀ x∈ls,∃ c,az c/\x=⟨#[c]⟩
theorem gb:∀ cs:List Nat,Txt.join (Str.ofString "") (cs.map fun c=>(⟨#[c]⟩:Str))=⟨cs.toArray⟩:=by
 intro cs
 have e:∀ cs:List Nat,Str.join (Str.ofString "") (cs.map fun c=>(⟨#[c]⟩:Str))=⟨cs.toArray⟩:=by
  intro cs
  induction cs with
  | nil=>rfl
  | cons c cs ih=>
   cases cs with
   | nil=>rfl
   | cons d ds=>
    show (⟨#[c]⟩:Str)++Str.ofString ""++Str.join (Str.ofString "") ((d::ds).map fun c=>(⟨#[c]⟩:Str))=_
    rw [ih]
    have:((⟨#[c]⟩:Str)++Str.ofString ""++(⟨(d::ds).toArray⟩:Str)).cps=(c::d::ds).toArray:=by
     rw [Wa,Wa]
     have:(Str.ofString "").cps=#[]:=by decide +kernel
     rw [this]
     simp
    generalize h:(⟨#[c]⟩:Str)++Str.ofString ""++(⟨(d::ds).toArray⟩:Str)=x at this
    obtain ⟨y⟩:=x
    simp only at this
    rw [this]
 unfold Txt.join
 rw [StrLaws.glued_eq_join]
 exact e cs
theorem xT:∀ cs:List Nat,((cs.map fun c=>(⟨#[c]⟩:Str)).map (·.length)).sum=cs.length
 | []=>rfl
 | c::cs=>by
  have ih:=xT cs
  rw [List.map_cons,List.map_cons,List.sum_cons,ih,List.length_cons]
  show 1 + _=_
  omega
theorem wk:∀ ws:List Str,uP (ws.map D.str)=some ws
 | []=>rfl
 | w::ws=>by simp [uP,wk ws]
theorem gc (ns:List Int) {ls:List Str} (hl:GN ls):∀ (ds:List D) (town:List D) (k:Option D),town.length+ds.length < 1000 ->
  ∃ (cs:List Nat) (town':List D) (k':Option D),town'.length=town.length+ds.length/\cs.length=ds.length/\(∀ c∈cs,az c) /\
   jE (gNm 0) ftT (qB [.vl,.sl 2,.vl] kT (qd (qu 1) (vA (qd (qu 3) qO)))) ds [k,some (scr ns),some (.lst town),some (.lst (ls.map D.str))]
    = .ok ((cs.map fun c=>(⟨#[c]⟩:Str)).map D.str,[k',some (scr ns),some (.lst town'),some (.lst (ls.map D.str))])
 | [],town,k,_=>⟨[],town,k,by simp,rfl,by simp,rfl⟩
 | d::ds,town,k,ht=>by
  rw [List.length_cons] at ht
  obtain ⟨e,he,hp⟩:=yl ns town (ls.map D.str) (by simpa using hl.1) (by omega)
  obtain ⟨x,hx,rfl⟩:=List.mem_map.mp he
  obtain ⟨c,hc,rfl⟩:=hl.2 x hx
  obtain ⟨cs,town',k',a1,a2,a3,a4⟩:=gc ns hl ds (town++[.int 0]) (some d) (by rw [List.length_append]; simp; omega)
  refine ⟨c::cs,town',k',?_,by simp [a2],?_,?_⟩
  ·rw [a1,List.length_append,List.length_cons]
   simp
   omega
  ·intro y hy
   rcases List.mem_cons.mp hy with rfl | hy
   ·exact hc
   ·exact a3 y hy
  ·simp [jE,Jt,qE,jm,hp,a4]
theorem Xr (ns:List Int) (town:List D) {ls:List Str} (hl:GN ls) (ht:town.length < 900):∃ w town',XI w/\town'.length<=town.length+8/\xD [scr ns,.lst town,.lst (ls.map D.str),.int 6]=.ok (.str w,[.non,.lst town',.non,.non]):=by
 obtain ⟨r,r0,r1,hr⟩:=Qf ns town (many:=6) (by omega) (by omega)
 have hlen:(gC 0 (1+r).toNat).length=(1+r).toNat:=by simp [gC]
 obtain ⟨cs,town',k',a1,a2,a3,a4⟩:=gc ns hl (gC 0 (1+r).toNat) (town++[.int 0]) none (by rw [hlen,List.length_append]; simp; omega)
 rw [hlen] at a1 a2
 rw [List.length_append] at a1
 simp at a1
 refine ⟨⟨cs.toArray⟩,town',⟨?_,?_,?_⟩,by omega,?_⟩
 ·show 1<=cs.toArray.size
  simp; omega
 ·show cs.toArray.size<=6
  simp; omega
 ·simpa using a3
 ·refine runD_ap.trans ?_
  have c1:-(2 ^ 62:Int)<=1+r/\1+r < 2 ^ 62:=by omega
  have hb:=big
  have hz:(gC 0 (1+r).toNat).length<=sizeLine:=by rw [hlen]; omega
  have e0:Str.length (Str.ofString "")=0:=by decide +kernel
  have hs:=xT cs
  have hj:zI (Str.ofString "") (.lst ((cs.map fun c=>(⟨#[c]⟩:Str)).map D.str))=.ok (.str ⟨cs.toArray⟩):=by
   unfold zI
   simp only [wk,gb,hs]
   rw [if_pos ⟨by simp [e0]; omega,by show cs.toArray.size<=_; simp; omega⟩]
  simp only [gX,qy,Vr,Xd,jW]
  simp [-List.map_map,qE,jm,hr,jV,xX,-Int.reducePow,c1,hz,jb,a4,qW,hj,qx]
theorem ym (w:Str):∀ ws:List Str,Qw 7 (.str w) (ws.map D.str)=some (decide (w∈ws))
 | []=>by simp [Qw]
 | a::ws=>by
  have ih:=ym w ws
  simp only [List.map_cons,Qw,ih]
  simp [eqN,eqS]
  by_cases h:a=w
  ·simp [h]
  ·simp [h,Ne.symm h]
def vL (ws:List Str):Prop:=1<=ws.length/\ws.length<=6/\ws.Nodup/\∀ w∈ws,XI w
abbrev Wb:Sl->Out (Fl×Sl):=(jr (ub 6 (qB [.vl,.sl 1,.vl,.vl] xD (qd (qu 0) (vA (qd (qu 3) (qd (dC (.int 6)) qO))))))
  (sIf (kh (d2 UO (qu 6) (qu 4))) (vz (QD 4 Jz (qu 6))) kN))
theorem wG (ns:List Int) (most:D) {ls:List Str} (hls:GN ls):∀ (ds:List D) (town:List D) (ws:List Str) (k u:Option D),town.length+8 * ds.length < 900->ws.length+ds.length<=100->ws.Nodup->(∀ w∈ws,XI w) ->
  ∃ (town':List D) (ws':List Str) (k' u':Option D),town'.length<=town.length+8 * ds.length/\ws'.length<=ws.length+ds.length/\ws.length<=ws'.length/\(ds≠[]->1<=ws'.length)/\ws'.Nodup/\(∀ w∈ws',XI w) /\
   gh (gNm 5) Wb ds [some (scr ns),some (.lst town),some most,some (.lst (ls.map D.str)),some (.lst (ws.map D.str)),k,u]=.ok (.nx,[some (scr ns),some (.lst town'),some most,some (.lst (ls.map D.str)),some (.lst (ws'.map D.str)),k',u'])
 | [],town,ws,k,u,_,_,hn,hw=>⟨town,ws,k,u,by simp,by simp,by simp,by simp,hn,hw,rfl⟩
 | d::ds,town,ws,k,u,ht,hl,hn,hw=>by
  rw [List.length_cons] at ht hl
  obtain ⟨w,t1,hW,ht1,hg⟩:=Xr ns town hls (by omega)
  have hb:=big
  have hz:ws.length < sizeLine:=by omega
  by_cases hm:w∈ws
  ·obtain ⟨town',ws',k',u',a1,a2,a3,a4,a5,a6,a7⟩:=wG ns most hls ds t1 ws (some d) (some (.str w)) (by omega) (by omega) hn hw
   refine ⟨town',ws',k',u',by rw [List.length_cons]; omega,by rw [List.length_cons]; omega,a3,fun _=>?_,a5,a6,?_⟩
   ·have:0 < ws.length:=List.length_pos_of_mem hm
    omega
   ·rw [<-a7]
    simp [gh,Wb,qE,jm,hg,UO,Jq,inD,ym,hm]
  ·obtain ⟨town',ws',k',u',a1,a2,a3,a4,a5,a6,a7⟩:=wG ns most hls ds t1 (ws++[w]) (some d) (some (.str w)) (by omega) (by rw [List.length_append]; simp; omega) (List.nodup_append.mpr ⟨hn,by simp,fun a ha b hb=>by
    rw [List.mem_singleton.mp hb]
    exact fun z=>hm (z ▸ ha)⟩) (fun x hx=>by
    rcases List.mem_append.mp hx with hx | hx
    ·exact hw x hx
    ·rw [List.mem_singleton.mp hx]
     exact hW)
   rw [List.length_append] at a2 a3
   simp at a2 a3
   refine ⟨town',ws',k',u',by rw [List.length_cons]; omega,by rw [List.length_cons]; omega,by omega,fun _=>by omega,a5,a6,?_⟩
   rw [<-a7]
   simp [gh,Wb,qE,jm,hg,UO,Jq,inD,ym,hm,uF,Jz,hz]
noncomputable def LETS:List (List Str):=[["a", "b"],["a", "b", "c"],["a", "b", "c", "d"],["k", "m", "z", "a", "e"]]
theorem Xu:∀ ls∈LETS,GN ls:=by
 have h1:∀ ls∈LETS,∀ x∈ls,x∈(["a", "b", "c", "d", "k", "m", "z", "e"]:List Str):=by decide +kernel
 have h2:∀ ls∈LETS,ls≠[]:=by decide +kernel
 intro ls h
 refine ⟨h2 ls h,fun x hx=>?_⟩
 have h3:=h1 ls h x hx
 simp only [List.mem_cons,List.not_mem_nil,or_false] at h3
 rcases h3 with rfl | rfl | rfl | rfl | rfl | rfl | rfl | rfl
 ·exact ⟨97,by unfold az; decide,by decide +kernel⟩
 ·exact ⟨98,by unfold az; decide,by decide +kernel⟩
 ·exact ⟨99,by unfold az; decide,by decide +kernel⟩
 ·exact ⟨100,by unfold az; decide,by decide +kernel⟩
 ·exact ⟨107,by unfold az; decide,by decide +kernel⟩
 ·exact ⟨109,by unfold az; decide,by decide +kernel⟩
 ·exact ⟨122,by unfold az; decide,by decide +kernel⟩
 ·exact ⟨101,by unfold az; decide,by decide +kernel⟩
theorem Uw (ns:List Int) (town:List D) (ht:town.length < 700):∃ ws town',vL ws/\town'.length<=town.length+50/\xF [scr ns,.lst town,.int 6]=.ok (.tup (ws.map D.str),[.non,.lst town',.non]):=by
 obtain ⟨d,hd,hp⟩:=yl ns town (LETS.map fun l=>.lst (l.map D.str)) (by simp [LETS]) (by omega)
 obtain ⟨ls,hls,rfl⟩:=List.mem_map.mp hd
 have hl:=Xu ls hls
 obtain ⟨r,r0,r1,hr⟩:=Qf ns (town++[.int 0]) (many:=6) (by omega) (by rw [List.length_append]; simp; omega)
 have hlen:(gC 0 (1+r).toNat).length=(1+r).toNat:=by simp [gC]
 obtain ⟨town',ws',k',u',a1,a2,a3,a4,a5,a6,a7⟩:=wG ns (.int 6) hl (gC 0 (1+r).toNat) (town++[.int 0]++[.int 0]) [] none none (by rw [hlen,List.length_append,List.length_append]; simp; omega) (by rw [hlen]; simp; omega) List.nodup_nil (by simp)
 have hne:gC 0 (1+r).toNat≠[]:=fun z=>by
  rw [z] at hlen
  simp at hlen
  omega
 refine ⟨ws',town',⟨a4 hne,?_,a5,a6⟩,?_,?_⟩
 ·rw [hlen] at a2
  simp at a2
  omega
 ·rw [hlen,List.length_append,List.length_append] at a1
  simp at a1
  omega
 ·refine runD_ap.trans ?_
  have c1:-(2 ^ 62:Int)<=1+r/\1+r < 2 ^ 62:=by omega
  have hb:=big
  have hz:4<=sizeLine:=by omega
  simp only [List.append_assoc,List.cons_append,List.nil_append,List.map_nil] at a7 hr
  simp only [LETS,List.map_cons,List.map_nil] at hp
  simp [xE,qy,qx,qE,jm,hp,hr,jV,xX,-Int.reducePow,c1,hz,a7,yG]
def qaX (p q:Int):Prop:=(-3<=p/\p<=2)/\-3<=q/\q<=2
theorem yS {own:List Nat} (ρc:Sl):∀ (cap:List Nat) (n:Nat) (ρ:Sl),(∀ k∈cap,k∉own)->qW own ρc n cap ρ=ρ
 | [],n,ρ,_=>rfl
 | k::cap,n,ρ,h=>by
  unfold qW
  rw [if_neg (h k (List.mem_cons_self ..))]
  exact yS ρc cap (n+1) ρ fun x hx=>h x (List.mem_cons_of_mem _ hx)
theorem Gj {fe:Sl->Out (D×Sl)} {ft:Sl->Out (Bool×Sl)} {P:D->Bool} {F:D->D} {caps:Sl}:∀ (ds:List D) (x:Option D),(∀ d∈ds,ft (some d::caps)=.ok (P d,some d::caps))->(∀ d∈ds,P d=true->fe (some d::caps)=.ok (F d,some d::caps))->∃ x',jE (gNm 0) ft fe ds (x::caps)=.ok ((ds.filter P).map F,x'::caps)
 | [],x,_,_=>⟨x,rfl⟩
 | d::ds,x,h,h'=>by
  obtain ⟨x',e⟩:=Gj ds (some d) (fun d' hd=>h d' (List.mem_cons_of_mem _ hd)) fun d' hd=>h' d' (List.mem_cons_of_mem _ hd)
  refine ⟨x',?_⟩
  have h1:=h d (List.mem_cons_self ..)
  have h2:=h' d (List.mem_cons_self ..)
  cases q:P d with
  | true=>simp [jE,Jt,h1,q,h2 q,e]
  | false=>simp [jE,Jt,h1,q,e]
theorem Gk {own:List Nat} {cap:List Nat} {fi:Sl->Out (List D×Sl)} {fe:Sl->Out (D×Sl)} {ft:Sl->Out (Bool×Sl)} {ρ ρ1:Sl} {ds:List D} (P:D->Bool) (F:D->D) (ho:∀ k∈cap,k∉own) (h:fi ρ=.ok (ds,ρ1)) (hl:ds.length<=sizeLine)
  (ht:∀ d∈ds,ft (some d::cap.map fun k=>(ρ1[k]?).getD none)=.ok (P d,some d::cap.map fun k=>(ρ1[k]?).getD none)) (he:∀ d∈ds,P d=true->fe (some d::cap.map fun k=>(ρ1[k]?).getD none)=.ok (F d,some d::cap.map fun k=>(ρ1[k]?).getD none)) :
  jW own 1 cap fi (gNm 0) ft fe ρ=.ok (.lst ((ds.filter P).map F),ρ1):=by
 obtain ⟨x',e⟩:=Gj ds none ht he
 unfold jW
 rw [h]
 simp only [Ua]
 rw [if_pos hl,show jb 1 cap ρ1=none::cap.map fun k=>(ρ1[k]?).getD none from rfl,e]
 simp only [Ua,yS _ _ _ _ ho]
theorem Wc {own:List Nat} {cap:List Nat} {fi:Sl->Out (List D×Sl)} {fe:Sl->Out (D×Sl)} {ρ ρ1:Sl} {ds:List D} (F:D->D) (ho:∀ k∈cap,k∉own) (h:fi ρ=.ok (ds,ρ1)) (hl:ds.length<=sizeLine) (ht:∀ d∈ds,fe (some d::cap.map fun k=>(ρ1[k]?).getD none)=.ok (F d,some d::cap.map fun k=>(ρ1[k]?).getD none)) :
  jW own 1 cap fi (gNm 0) ftT fe ρ=.ok (.lst (ds.map F),ρ1):=by
 have e:=Gk (ft:=ftT) (fun _=>true) F ho h hl (fun _ _=>rfl) fun d hd _=>ht d hd
 rw [List.filter_eq_self.mpr fun _ _=>rfl] at e
 exact e
theorem Je {cap:List Nat} {fi:Sl->Out (List D×Sl)} {fe:Sl->Out (D×Sl)} {ρ ρ1:Sl} {ds:List D} (F:D->D) (h:fi ρ=.ok (ds,ρ1)) (hl:ds.length<=sizeLine) (ht:∀ d∈ds,fe (some d::cap.map fun k=>(ρ1[k]?).getD none)=.ok (F d,some d::cap.map fun k=>(ρ1[k]?).getD none)) :
  jW [] 1 cap fi (gNm 0) ftT fe ρ=.ok (.lst (ds.map F),ρ1):=Wc F (fun _ _=>by simp) h hl ht
theorem ju {n:Nat} (h:n<=2000):n<=sizeLine:=Nat.le_trans h big
abbrev Wd (ws:List Str):D:=.tup (ws.map D.str)
def Pl:D->Prop
 | .raw _=>False
 | .xcp _=>False
 | .ins _ _=>False
 | .dct _=>False
 | .at_ _ _=>False
 | _=>True
@[simp] theorem kk1:jk "NoneType" "int"=some false:=by decide +kernel
@[simp] theorem kk2:jk "bool" "int"=some true:=by decide +kernel
@[simp] theorem kk3:jk "int" "int"=some true:=by decide +kernel
@[simp] theorem kk4:jk "str" "int"=some false:=by decide +kernel
@[simp] theorem kk5:jk "tuple" "int"=some false:=by decide +kernel
@[simp] theorem kk6:jk "list" "int"=some false:=by decide +kernel
@[simp] theorem kb1:jk "NoneType" "bool"=some false:=by decide +kernel
@[simp] theorem kb2:jk "bool" "bool"=some true:=by decide +kernel
@[simp] theorem kb3:jk "int" "bool"=some false:=by decide +kernel
@[simp] theorem kb4:jk "str" "bool"=some false:=by decide +kernel
@[simp] theorem kb5:jk "tuple" "bool"=some false:=by decide +kernel
@[simp] theorem kb6:jk "list" "bool"=some false:=by decide +kernel
@[simp] theorem ks1:jk "NoneType" "str"=some false:=by decide +kernel
@[simp] theorem ks2:jk "bool" "str"=some false:=by decide +kernel
@[simp] theorem ks3:jk "int" "str"=some false:=by decide +kernel
@[simp] theorem ks4:jk "str" "str"=some true:=by decide +kernel
@[simp] theorem ks5:jk "tuple" "str"=some false:=by decide +kernel
@[simp] theorem ks6:jk "list" "str"=some false:=by decide +kernel
@[simp] theorem kt1:jk "NoneType" "tuple"=some false:=by decide +kernel
@[simp] theorem kt2:jk "bool" "tuple"=some false:=by decide +kernel
@[simp] theorem kt3:jk "int" "tuple"=some false:=by decide +kernel
@[simp] theorem kt4:jk "str" "tuple"=some false:=by decide +kernel
@[simp] theorem kt5:jk "tuple" "tuple"=some true:=by decide +kernel
@[simp] theorem kt6:jk "list" "tuple"=some false:=by decide +kernel
noncomputable def isInt:D->Bool
 | .int _=>true
 | .bl _=>true
 | _=>false
noncomputable def UV:D->Bool
 | .str x=>decide (x.length=1)&&(!vF x "a"&&!vF "z" x)
 | _=>false
theorem ge {d:D} (h:Pl d):kB [d]=.ok (.bl (UV d),[.non]):=by
 refine runD_ap.trans ?_
 cases d <;> first
  | exact h.elim
  | (simp [jG,qy,qx,zx,tyN,UV]; done)
  | skip
 rename_i x
 by_cases h1:x.length=1
 ·have h1':(x.length:Int)=1:=by omega
  cases h2:vF x "a" <;> simp [jG,qy,zx,tyN,uc,eqD,eqN,eqS,leD,qx,UV,h1,h1',h2]
 ·have h1':¬(x.length:Int)=1:=by omega
  simp [jG,qy,zx,tyN,uc,eqD,eqN,eqS,leD,qx,UV,h1,h1']
theorem Gm {c:Nat} (h:az c):UV (.str ⟨#[c]⟩)=true:=by
 have ha:(Str.ofString "a").cps.toList=[97]:=by decide +kernel
 have hz:(Str.ofString "z").cps.toList=[122]:=by decide +kernel
 obtain ⟨h1,h2⟩:=h
 have l1:¬([c]:List Nat) < [97]:=by
  rw [List.cons_lt_cons_iff]
  simp
  omega
 have l2:¬([122]:List Nat) < [c]:=by
  rw [List.cons_lt_cons_iff]
  simp
  omega
 have e1:vF ⟨#[c]⟩ (Str.ofString "a")=false:=by
  unfold vF
  rw [ha]
  exact decide_eq_false l1
 have e2:vF (Str.ofString "z") ⟨#[c]⟩=false:=by
  unfold vF
  rw [hz]
  exact decide_eq_false l2
 simp [UV,VZ,e1,e2]
theorem yT {α:Type} (f:α->Bool):∀ l:List α,jL (l.map fun x=>.bl (f x))=some (l.map f)
 | []=>rfl
 | a::l=>by
  have ih:=yT f l
  simp [jL,ih]
theorem Jf {α:Type} (f:α->Bool) (l:List α):YS (.lst (l.map fun x=>.bl (f x)))=.ok (.bl (l.all f)):=by
 simp only [YS,yT]
 simp [List.all_map,Function.comp_def]
theorem JP {w:Str} (hw:XI w):wa [.str w]=.ok (.bl true,[.non]):=by
 refine runD_ap.trans ?_
 have e:=Je (cap:=[]) (fi:=xY (qu 0)) (ρ:=[some (.str w)]) (ρ1:=[some (.str w)]) (ds:=kx w) (fe:=qB [.vl] kB (qd (qu 0) qO)) (fun d=>.bl (UV d)) (by simp [uK]) (by
   have:=hw.2.1
   simp [kx,<-VZ]
   exact ju (by omega)) (fun d hd=>by
   obtain ⟨c,hc,rfl⟩:=List.mem_map.mp hd
   have h1:=ge (d:=.str ⟨#[c]⟩) trivial
   simp [qE,jm,h1])
 have ha:(kx w).all UV=true:=by
  rw [List.all_eq_true]
  intro d hd
  obtain ⟨c,hc,rfl⟩:=List.mem_map.mp hd
  exact Gm (hw.2.2 c hc)
 have h1:(1:Int)<=w.length:=by have:=hw.1; omega
 have h6:(w.length:Int)<=6:=by have:=hw.2.1; omega
 simp only [uY,qy,List.map_cons,List.map_nil,List.length_cons,List.length_nil,Nat.reduceAdd,Nat.sub_self,List.replicate_zero,List.append_nil]
 simp [zx,tyN,Jr,uc,leD,h1,h6,e,Jf,ha,qx]
theorem yn:∀ (ws ks:List Str),ws.Nodup->(∀ x∈ws,x∉ks)->ws.foldl wl ks=ks++ws
 | [],ks,_,_=>by simp
 | w::ws,ks,hn,hd=>by
  have h1:=List.nodup_cons.mp hn
  rw [List.foldl_cons,show wl ks w=ks++[w] from if_neg (hd w (List.mem_cons_self ..)),yn ws (ks++[w]) h1.2 ?_]
  ·simp
  ·intro x hx z
   rcases List.mem_append.mp z with z | z
   ·exact hd x (List.mem_cons_of_mem _ hx) z
   ·rw [List.mem_singleton.mp z] at hx
    exact h1.1 hx
theorem Qg {ws:List Str} (hw:vL ws):wB [.tup (ws.map D.str)]=.ok (.bl true,[.non]):=by
 refine runD_ap.trans ?_
 have e:=Je (cap:=[]) (fi:=xY (qu 0)) (ρ:=[some (.tup (ws.map D.str))]) (ρ1:=[some (.tup (ws.map D.str))]) (ds:=ws.map D.str) (fe:=qB [.vl] wa (qd (qu 0) qO)) (fun d=>.bl true) (by simp [uK]) (by
   rw [List.length_map]
   exact ju (by have:=hw.2.1; omega)) (fun d hd=>by
   obtain ⟨w,hm,rfl⟩:=List.mem_map.mp hd
   have h1:=JP (hw.2.2.2 w hm)
   simp [qE,jm,h1])
 have h1:(1:Int)<=ws.length:=by have:=hw.1; omega
 have h6:(ws.length:Int)<=6:=by have:=hw.2.1; omega
 have hf:ws.foldl wl []=ws:=by rw [yn ws [] hw.2.2.1 (by simp)]; simp
 have h4:ws.length < 4000:=by omega
 have ha:=Jf (fun _:D=>true) (ws.map D.str)
 simp only [wA,qy,List.map_cons,List.map_nil,List.length_cons,List.length_nil,Nat.reduceAdd,Nat.sub_self,List.replicate_zero,List.append_nil]
 simp [-List.map_map,zx,tyN,Jr,uc,leD,h1,h6,e,ha,qx,xu,QK,wk,hf,h4,eqD,eqN,eqS]
theorem ke {ws:List Str} (hw:vL ws):qR [.tup (ws.map D.str)]=.ok (.non,[.non]):=by
 refine runD_ap.trans ?_
 have h:=Qg hw
 simp [kC,qy,qx,qE,jm,h,Jr]
def UW (ca:Str->Addr):Prop:=∀ x∈CS,∀ y∈CS,ca x=ca y->x=y
theorem qC {ca:Str->Addr} (h:UW ca) {x y:Str} (hx:x∈CS) (hy:y∈CS) {b:Bool} (e:decide (y=x)=b):zB ca CS x (ca y)=some b:=by
 unfold zB
 rw [if_pos (List.mem_map.mpr ⟨y,hy,rfl⟩),<-e]
 by_cases z:y=x
 ·simp [z]
 ·have:ca y≠ca x:=fun w=>z (h y hy x hx w)
  simp [z,this]
theorem Qh {ca:Str->Addr} {y:Str} (hy:y∈CS):ZO ca CS (ca y)=some true:=by
 unfold ZO
 rw [if_pos (List.mem_map.mpr ⟨y,hy,rfl⟩)]
theorem UX {ca:Str->Addr} {y:Str} (hy:y∈CS):ZN ca CS y=some (ca y):=by
 unfold ZN
 rw [if_pos hy]
theorem Qi {ca:Str->Addr} (h:UW ca):kH ca [.xcp (ca "NoWords")]=.ok (.tup [.str "refused",.int 0],[.non]):=by
 refine runD_ap.trans ?_
 have hy:(Str.ofString "NoWords")∈CS:=by decide +kernel
 have a0:=qC h (x := "NoWords") (y := "NoWords") (b:=true) (by decide +kernel) hy (by decide +kernel)
 have a1:=qC h (x := "NoLook") (y := "NoWords") (b:=false) (by decide +kernel) hy (by decide +kernel)
 have a2:=qC h (x := "NoNumbers") (y := "NoWords") (b:=false) (by decide +kernel) hy (by decide +kernel)
 have a3:=qC h (x := "NoRoom") (y := "NoWords") (b:=false) (by decide +kernel) hy (by decide +kernel)
 have a4:=qC h (x := "NoWord") (y := "NoWords") (b:=false) (by decide +kernel) hy (by decide +kernel)
 have a5:=qC h (x := "NoWorths") (y := "NoWords") (b:=false) (by decide +kernel) hy (by decide +kernel)
 have a6:=qC h (x := "Never") (y := "NoWords") (b:=false) (by decide +kernel) hy (by decide +kernel)
 have a7:=qC h (x := "Full") (y := "NoWords") (b:=false) (by decide +kernel) hy (by decide +kernel)
 have a8:=qC h (x := "Known") (y := "NoWords") (b:=false) (by decide +kernel) hy (by decide +kernel)
 have a9:=qC h (x := "NoPlace") (y := "NoWords") (b:=false) (by decide +kernel) hy (by decide +kernel)
 have a10:=qC h (x := "NoLetters") (y := "NoWords") (b:=false) (by decide +kernel) hy (by decide +kernel)
 have a11:=qC h (x := "NoText") (y := "NoWords") (b:=false) (by decide +kernel) hy (by decide +kernel)
 have a12:=qC h (x := "Nothing") (y := "NoWords") (b:=false) (by decide +kernel) hy (by decide +kernel)
 have aT:=Qh (ca:=ca) hy
 have z4:4<=sizeLine:=ju (by omega)
 have z8:8<=sizeLine:=ju (by omega)
 have z12:12<=sizeLine:=ju (by omega)
 have z12':12 < sizeLine:=Nat.lt_of_lt_of_le (by decide) big
 have z2:2<=sizeLine:=ju (by omega)
 simp [wj,qy,qx,uL,a0,a1,a2,a3,a4,a5,a6,a7,a8,a9,a10,a11,a12,aT,z4,z8,z12,z12',z2,uF,YR,Jz,yI,jL,neD,eqN,eqS,Jr,yJ,Wh,List.countP_cons,List.findIdx?_cons]
theorem yU {ca:Str->Addr} (h:UW ca):kH ca [.xcp (ca "NoLook")]=.ok (.tup [.str "refused",.int 1],[.non]):=by
 refine runD_ap.trans ?_
 have hy:(Str.ofString "NoLook")∈CS:=by decide +kernel
 have a0:=qC h (x := "NoWords") (y := "NoLook") (b:=false) (by decide +kernel) hy (by decide +kernel)
 have a1:=qC h (x := "NoLook") (y := "NoLook") (b:=true) (by decide +kernel) hy (by decide +kernel)
 have a2:=qC h (x := "NoNumbers") (y := "NoLook") (b:=false) (by decide +kernel) hy (by decide +kernel)
 have a3:=qC h (x := "NoRoom") (y := "NoLook") (b:=false) (by decide +kernel) hy (by decide +kernel)
 have a4:=qC h (x := "NoWord") (y := "NoLook") (b:=false) (by decide +kernel) hy (by decide +kernel)
 have a5:=qC h (x := "NoWorths") (y := "NoLook") (b:=false) (by decide +kernel) hy (by decide +kernel)
 have a6:=qC h (x := "Never") (y := "NoLook") (b:=false) (by decide +kernel) hy (by decide +kernel)
 have a7:=qC h (x := "Full") (y := "NoLook") (b:=false) (by decide +kernel) hy (by decide +kernel)
 have a8:=qC h (x := "Known") (y := "NoLook") (b:=false) (by decide +kernel) hy (by decide +kernel)
 have a9:=qC h (x := "NoPlace") (y := "NoLook") (b:=false) (by decide +kernel) hy (by decide +kernel)
 have a10:=qC h (x := "NoLetters") (y := "NoLook") (b:=false) (by decide +kernel) hy (by decide +kernel)
 have a11:=qC h (x := "NoText") (y := "NoLook") (b:=false) (by decide +kernel) hy (by decide +kernel)
 have a12:=qC h (x := "Nothing") (y := "NoLook") (b:=false) (by decide +kernel) hy (by decide +kernel)
 have aT:=Qh (ca:=ca) hy
 have z4:4<=sizeLine:=ju (by omega)
 have z8:8<=sizeLine:=ju (by omega)
 have z12:12<=sizeLine:=ju (by omega)
 have z12':12 < sizeLine:=Nat.lt_of_lt_of_le (by decide) big
 have z2:2<=sizeLine:=ju (by omega)
 simp [wj,qy,qx,uL,a0,a1,a2,a3,a4,a5,a6,a7,a8,a9,a10,a11,a12,aT,z4,z8,z12,z12',z2,uF,YR,Jz,yI,jL,neD,eqN,eqS,Jr,yJ,Wh,List.countP_cons,List.findIdx?_cons]
theorem xU {ca:Str->Addr} (h:UW ca):kH ca [.xcp (ca "NoLetters")]=.ok (.tup [.str "refused",.int 10],[.non]):=by
 refine runD_ap.trans ?_
 have hy:(Str.ofString "NoLetters")∈CS:=by decide +kernel
 have a0:=qC h (x := "NoWords") (y := "NoLetters") (b:=false) (by decide +kernel) hy (by decide +kernel)
 have a1:=qC h (x := "NoLook") (y := "NoLetters") (b:=false) (by decide +kernel) hy (by decide +kernel)
 have a2:=qC h (x := "NoNumbers") (y := "NoLetters") (b:=false) (by decide +kernel) hy (by decide +kernel)
 have a3:=qC h (x := "NoRoom") (y := "NoLetters") (b:=false) (by decide +kernel) hy (by decide +kernel)
 have a4:=qC h (x := "NoWord") (y := "NoLetters") (b:=false) (by decide +kernel) hy (by decide +kernel)
 have a5:=qC h (x := "NoWorths") (y := "NoLetters") (b:=false) (by decide +kernel) hy (by decide +kernel)
 have a6:=qC h (x := "Never") (y := "NoLetters") (b:=false) (by decide +kernel) hy (by decide +kernel)
 have a7:=qC h (x := "Full") (y := "NoLetters") (b:=false) (by decide +kernel) hy (by decide +kernel)
 have a8:=qC h (x := "Known") (y := "NoLetters") (b:=false) (by decide +kernel) hy (by decide +kernel)
 have a9:=qC h (x := "NoPlace") (y := "NoLetters") (b:=false) (by decide +kernel) hy (by decide +kernel)
 have a10:=qC h (x := "NoLetters") (y := "NoLetters") (b:=true) (by decide +kernel) hy (by decide +kernel)
 have a11:=qC h (x := "NoText") (y := "NoLetters") (b:=false) (by decide +kernel) hy (by decide +kernel)
 have a12:=qC h (x := "Nothing") (y := "NoLetters") (b:=false) (by decide +kernel) hy (by decide +kernel)
 have aT:=Qh (ca:=ca) hy
 have z4:4<=sizeLine:=ju (by omega)
 have z8:8<=sizeLine:=ju (by omega)
 have z12:12<=sizeLine:=ju (by omega)
 have z12':12 < sizeLine:=Nat.lt_of_lt_of_le (by decide) big
 have z2:2<=sizeLine:=ju (by omega)
 simp [wj,qy,qx,uL,a0,a1,a2,a3,a4,a5,a6,a7,a8,a9,a10,a11,a12,aT,z4,z8,z12,z12',z2,uF,YR,Jz,yI,jL,neD,eqN,eqS,Jr,yJ,Wh,List.countP_cons,List.findIdx?_cons]
noncomputable def ODW:List D:=[.non,(.int 5),(.tup []),(.lst [(.str "ab")]),(.tup [(.str "ab"),(.str "ab")]),(.tup [(.str "")]),(.tup [(.str "abcdefg")]),(.tup [(.str "Ab")]),(.tup [(.str "a b")]),(.str "ab"),(.tup [(.int 1)]),(.tup [(.str "ab"),.non]),.tup (kx "abcdefg"),.tup [.str "ab",.str "a1"],.tup [.tup [.str "a"]]]
noncomputable def ODL:List D:=[.non,(.int 5),(.tup []),(.tup [(.int 0)]),(.tup [(.int 0),(.int 1),(.int 2)]),(.lst [(.int 0),(.int 1)]),(.tup [(.int 0),(.int 3)]),(.tup [(.int (-4)),(.int 0)]),(.tup [(.bl true),(.int 0)]),(.tup [(.int 0),(.bl false)]),(.tup [(.int 0),.non]),(.str "01"),(.tup [(.str "0"),(.int 1)])]
def We (d:D):Prop:=qR [d]=.exc "NoWords" [some .non]
def Xv (d:D):Prop:=jP [d]=.exc "NoLook" [some .non]
theorem Xw:∀ d∈ODW,We d:=by
 intro d hd
 unfold ODW at hd
 simp only [List.mem_cons,List.not_mem_nil,or_false] at hd
 rcases hd with rfl | rfl | rfl | rfl | rfl | rfl | rfl | rfl | rfl | rfl | rfl | rfl | rfl | rfl | rfl <;> (unfold We; kernel_rfl)
theorem Xx:∀ d∈ODL,Xv d:=by
 intro d hd
 unfold ODL at hd
 simp only [List.mem_cons,List.not_mem_nil,or_false] at hd
 rcases hd with rfl | rfl | rfl | rfl | rfl | rfl | rfl | rfl | rfl | rfl | rfl | rfl | rfl <;> (unfold Xv; kernel_rfl)
theorem gf (ns:List Int) (town:List D) (ht:town.length < 900):∃ d,We d/\kW [scr ns,.lst town]=.ok (d,[.non,.lst (town++[.int 0])]):=by
 obtain ⟨d,hd,g⟩:=yl ns town ODW (by simp [ODW]) (by omega)
 refine ⟨d,Xw d hd,?_⟩
 refine runD_ap.trans ?_
 have z12:12<=sizeLine:=ju (by omega)
 have z2:2<=sizeLine:=ju (by omega)
 have z3:3<=sizeLine:=ju (by omega)
 have z15:15<=sizeLine:=ju (by omega)
 unfold ODW at g
 simp [kU,qy,qx,qE,jm,z12,z2,z3,z15,gN,xX,g]
theorem Qj (ns:List Int) (town:List D) (ht:town.length < 900):∃ d,Xv d/\vI [scr ns,.lst town]=.ok (d,[.non,.lst (town++[.int 0])]):=by
 obtain ⟨d,hd,g⟩:=yl ns town ODL (by simp [ODL]) (by omega)
 refine ⟨d,Xx d hd,?_⟩
 refine runD_ap.trans ?_
 have z13:13<=sizeLine:=ju (by omega)
 unfold ODL at g
 simp [vH,qy,qx,qE,jm,z13,g]
abbrev ref (k:Int):D:=.tup [.str "refused",.int k]
theorem Wf:∃ d ds,jH []=.ok (.lst (d::ds),[])/\(d::ds).length<=sizeLine:=
 ⟨.tup [.int (-3),.int (-3)],[.tup [.int (-3),.int (-2)],.tup [.int (-3),.int (-1)],.tup [.int (-3),.int 0],.tup [.int (-3),.int 1],.tup [.int (-3),.int 2],
  .tup [.int (-2),.int (-3)],.tup [.int (-2),.int (-2)],.tup [.int (-2),.int (-1)],.tup [.int (-2),.int 0],.tup [.int (-2),.int 1],.tup [.int (-2),.int 2],
  .tup [.int (-1),.int (-3)],.tup [.int (-1),.int (-2)],.tup [.int (-1),.int (-1)],.tup [.int (-1),.int 0],.tup [.int (-1),.int 1],.tup [.int (-1),.int 2],
  .tup [.int 0,.int (-3)],.tup [.int 0,.int (-2)],.tup [.int 0,.int (-1)],.tup [.int 0,.int 0],.tup [.int 0,.int 1],.tup [.int 0,.int 2],
  .tup [.int 1,.int (-3)],.tup [.int 1,.int (-2)],.tup [.int 1,.int (-1)],.tup [.int 1,.int 0],.tup [.int 1,.int 1],.tup [.int 1,.int 2],
  .tup [.int 2,.int (-3)],.tup [.int 2,.int (-2)],.tup [.int 2,.int (-1)],.tup [.int 2,.int 0],.tup [.int 2,.int 1],.tup [.int 2,.int 2]],by kernel_rfl,ju (by simp)⟩
theorem yo {d b:D} (h:We d):kG [d,b]=.exc "NoWords" [some .non,some .non]:=by
 have h1:xM [d,b]=.exc "NoWords" [some .non,some .non]:=by
  refine runD_ap.trans ?_
  unfold We at h
  simp [xL,qy,qx,qE,jm,h]
 refine runD_ap.trans ?_
 simp [xN,qy,qx,qE,jm,h1]
theorem JQ {ws:List Str} (hw:vL ws) {b:D} (h:Xv b):kG [Wd ws,b]=.exc "NoLook" [some .non,some .non]:=by
 have h1:xM [Wd ws,b]=.exc "NoLook" [some .non,some .non]:=by
  refine runD_ap.trans ?_
  have h2:=ke hw
  unfold Xv at h
  simp [xL,qy,qx,qE,jm,h,h2]
 refine runD_ap.trans ?_
 simp [xN,qy,qx,qE,jm,h1]
theorem xV {d b:D} (h:We d):jf [d,b]=.exc "NoWords" [some .non,some .non]:=by
 refine runD_ap.trans ?_
 unfold We at h
 simp [vb,qy,qx,qE,jm,h]
theorem yy {d:D} (h:We d):kr [d]=.exc "NoWords" [some .non]:=by
 refine runD_ap.trans ?_
 unfold We at h
 simp [wF,qy,qx,qE,jm,h]
theorem Qk {b:D} (h:Xv b):wf [b]=.exc "NoLook" [some .non]:=by
 refine runD_ap.trans ?_
 unfold Xv at h
 simp [xQ,qy,qx,qE,jm,h]
theorem JR {d:D} (h:We d):jq [d]=.exc "NoWords" [some .non]:=by
 obtain ⟨l,ls,e,hz⟩:=Wf
 have ha:=yo (b:=l) h
 have hi:xY (qB [] jH qO) [some d,none]=.ok (l::ls,[some d,none]):=by
  simp [qE,jm,e,uK]
 have ed:zK 1 [0] (xY (qB [] jH qO)) (gNm 0) ftT (d1 uc (qB [.vl,.vl] kG (qd (qu 1) (qd (qu 0) qO)))) [some d,none]=.exc "NoWords" [some d,none]:=by
  unfold zK
  rw [hi,Ua]
  simp only []
  rw [if_pos hz,show jb 1 [0] ([some d,none]:Sl)=([none,some d]:Sl) from rfl]
  simp [vY,Xm,qE,jm,ha]
 refine runD_ap.trans ?_
 unfold kX
 rw [show qy jQ [d]=[some d,none] from rfl,Vq,Vs,Xd,ed]
 rfl
theorem Jg {ca:Str->Addr} {G:List D->Out (D×List D)} {i:Int} {a b r:D} {e:Str} {o:List D} (hi:i < 2) (hG:atI [kG,jf] i=some G) (h:G [a,b]=.exc e [some .non,some .non]) (he:e∈CS) (hw:kH ca [.xcp (ca e)]=.ok (r,o)):vd ca [.int i,a,b]=.ok (r,[.non,.non,.non]):=by
 refine runD_ap.trans ?_
 have hh:=UX (ca:=ca) he
 simp [zZ,UN,gM,hG,qy,qx,qE,jm,h,hh,hw,ltD,hi]
theorem Ql {ca:Str->Addr} {G:List D->Out (D×List D)} {i:Int} {a b r:D} {e:Str} {o:List D} (hi:¬i < 2) (hG:atI [jq,kr,wf] (i - 2)=some G) (h:G [a]=.exc e [some .non]) (he:e∈CS) (hw:kH ca [.xcp (ca e)]=.ok (r,o)):vd ca [.int i,a,b]=.ok (r,[.non,.non,.non]):=by
 refine runD_ap.trans ?_
 have hh:=UX (ca:=ca) he
 simp [zZ,UN,gM,hG,qy,qx,qE,jm,h,hh,hw,ltD,hi,XC,JV]
theorem Ux {ca:Str->Addr} (hca:UW ca) {d:D} (h:We d) {a b c e f g:Option D} :
  jW [1] 1 [5] (jV (dC (.int 4))) (gNm 0) ftT (qB [.vl,.vl,.vl] (vd ca) (qd (qu 0) (qd (qu 1) (qd (dC .non) qO)))) [a,b,c,e,f,some d,g]=.ok (.lst [ref 0,ref 0,ref 0,ref 0],[a,b,c,e,f,some d,g]):=by
 have hw:=Qi hca
 have a0:=Jg (ca:=ca) (i:=0) (by decide) rfl (yo (b:=.non) h) (by decide +kernel) hw
 have a1:=Jg (ca:=ca) (i:=1) (by decide) rfl (xV (b:=.non) h) (by decide +kernel) hw
 have a2:=Ql (ca:=ca) (i:=2) (b:=.non) (by decide) rfl (JR h) (by decide +kernel) hw
 have a3:=Ql (ca:=ca) (i:=3) (b:=.non) (by decide) rfl (yy h) (by decide +kernel) hw
 have hr:jV (dC (.int 4)) [a,b,c,e,f,some d,g]=.ok ([.int 0,.int 1,.int 2,.int 3],[a,b,c,e,f,some d,g]):=by
  have c1:-(2 ^ 62:Int)<=4/\(4:Int) < 2 ^ 62:=by omega
  simp [jV,-Int.reducePow,c1]
  rfl
 have e:=Wc (own:=[1]) (cap:=[5]) (fi:=jV (dC (.int 4))) (fe:=qB [.vl,.vl,.vl] (vd ca) (qd (qu 0) (qd (qu 1) (qd (dC .non) qO)))) (fun _=>ref 0) (by decide) hr (ju (by simp)) (fun p hp=>by
  simp only [List.mem_cons,List.not_mem_nil,or_false] at hp
  rcases hp with rfl | rfl | rfl | rfl
  ·simp [qE,jm,a0]
  ·simp [qE,jm,a1]
  ·simp [qE,jm,a2]
  ·simp [qE,jm,a3])
 exact e
abbrev AZ:Str:=Str.ofString "abcdefghijklmnopqrstuvwxyz"
abbrev WR:List D:=[.non,.str "",.str "bcdefghijklmnopqrstuvwxyz",.str "abcdefghijklmnopqrstuvwxyza",.str "ABCDEFGHIJKLMNOPQRSTUVWXYZ",.lst (kx AZ),.str "abcdefghijklmnopqrstuvwxya",.int 26]
theorem wr1:slD (some 1) none none (.str AZ)=.ok (.str "bcdefghijklmnopqrstuvwxyz"):=by kernel_rfl
theorem wr2:xX (.str AZ) (.str "a")=.ok (.str "abcdefghijklmnopqrstuvwxyza"):=by kernel_rfl
theorem wr3:QW (.str AZ)=.ok (.str "ABCDEFGHIJKLMNOPQRSTUVWXYZ"):=by kernel_rfl
theorem wr4:slD none (some (-1)) none (.str AZ)=.ok (.str "abcdefghijklmnopqrstuvwxy"):=by kernel_rfl
theorem wr5:xX (.str "abcdefghijklmnopqrstuvwxy") (.str "a")=.ok (.str "abcdefghijklmnopqrstuvwxya"):=by kernel_rfl
theorem Gn:∀ d∈WR,je [d]=.exc "NoLetters" [some .non]:=by
 intro d hd
 simp only [List.mem_cons,List.not_mem_nil,or_false] at hd
 rcases hd with rfl | rfl | rfl | rfl | rfl | rfl | rfl | rfl <;> kernel_rfl
theorem Xy:je [.str AZ]=.ok (.non,[.non]):=by kernel_rfl
theorem xW {ws:List Str} (hw:vL ws) {d:D} (h:d∈WR):jf [Wd ws,d]=.exc "NoLetters" [some .non,some .non]:=by
 have h2:=ke hw
 have h3:=Gn d h
 refine runD_ap.trans ?_
 simp [vb,qy,qx,qE,jm,h2,h3]
theorem Go:∀ k∈List.range 26,Builtin.Str.occurrences AZ ⟨#[97+k]⟩ 0 AZ.length 1=[k]/\AZ.cps.toList[k]?=some (97+k):=by decide +kernel
theorem Gp {c:Nat} (h:az c):uQ (.str AZ) (.str ⟨#[c]⟩)=.ok (.int ((c - 97:Nat):Int))/\ixD (.str AZ) (.int ((c - 97:Nat):Int))=.ok (.str ⟨#[c]⟩):=by
 obtain ⟨a,b⟩:=Go (c - 97) (List.mem_range.mpr (by unfold az at h; omega))
 rw [show 97+(c - 97)=c by unfold az at h; omega] at a b
 constructor
 ·unfold uQ
  dsimp only
  rw [a]
 ·unfold ixD
  simp only []
  rw [uz,b]
theorem Xz {w:Str} (hw:XI w):jp [.str w,.str AZ]=.ok (.str w,[.non,.non]):=by
 obtain ⟨⟨l⟩⟩:=w
 have hl:l.length<=6:=hw.2.1
 have haz:∀ c∈l,az c:=hw.2.2
 have e:=Je (cap:=[1]) (fi:=xY (qu 0)) (fe:=d2 ixD (qu 1) (dM GM uQ (dC (.str "abcdefghijklmnopqrstuvwxyz")) (qu 0))) (ρ:=[some (.str ⟨⟨l⟩⟩),some (.str AZ)]) (ρ1:=[some (.str ⟨⟨l⟩⟩),some (.str AZ)]) (ds:=kx ⟨⟨l⟩⟩) (fun d=>d) (by simp [uK]) (by unfold kx; rw [List.length_map]; exact ju (by show l.length<=2000; omega)) (fun d hd=>by
  obtain ⟨c,hc,rfl⟩:=List.mem_map.mp hd
  obtain ⟨a1,a2⟩:=Gp (haz c hc)
  simp [dM,GM,a1,a2])
 rw [List.map_id'] at e
 have hj:zI (Str.ofString "") (.lst (kx ⟨⟨l⟩⟩))=.ok (.str ⟨⟨l⟩⟩):=by
  have h1:kx ⟨⟨l⟩⟩=(l.map fun c=>(⟨#[c]⟩:Str)).map D.str:=by
   unfold kx
   rw [List.map_map]
   rfl
  have h2:=xT l
  have h3:=gb l
  have h0:Str.length (Str.ofString "")=0:=by decide +kernel
  rw [h1]
  unfold zI
  simp only [wk]
  rw [if_pos ⟨by rw [h2,h0]; omega,by rw [h3]; exact ju (by show l.length<=2000; omega)⟩,h3]
 refine runD_ap.trans ?_
 unfold ka
 rw [show qy jo [.str ⟨⟨l⟩⟩,.str AZ]=[some (.str ⟨⟨l⟩⟩),some (.str AZ)] from rfl,Vr,Xd,e]
 simp only [Ua,hj]
 rfl
theorem JS {ws:List Str} (hw:vL ws):jf [Wd ws,.str AZ]=.ok (Wd ws,[.non,.non]):=by
 have h2:=ke hw
 have h3:=Xy
 have hl:=hw.2.1
 have e:=Je (cap:=[1]) (fi:=xY (qu 0)) (fe:=qB [.vl,.vl] jp (qd (qu 0) (qd (qu 1) qO))) (ρ:=[some (Wd ws),some (.str AZ)]) (ρ1:=[some (Wd ws),some (.str AZ)]) (ds:=ws.map D.str) (fun d=>d) (by simp [uK]) (by rw [List.length_map]; exact ju (by omega)) (fun d hd=>by
  obtain ⟨w,hww,rfl⟩:=List.mem_map.mp hd
  have hi:=Xz (hw.2.2.2 w hww)
  simp [qE,jm,hi])
 rw [List.map_id'] at e
 refine runD_ap.trans ?_
 simp [vb,qy,qx,qE,jm,h2,h3,e,yG]
theorem Gq {ca:Str->Addr} {ws:List Str} (hw:vL ws):vd ca [.int 1,Wd ws,.str AZ]=.ok (Wd ws,[.non,.non,.non]):=by
 have h:=JS hw
 have hG:atI [kG,jf] 1=some jf:=rfl
 refine runD_ap.trans ?_
 simp [zZ,UN,gM,hG,qy,qx,qE,jm,h,ltD]
theorem Jh:∀ ws:List Str,kP (eqN 7) (ws.map D.str) (ws.map D.str)=some true
 | []=>rfl
 | w::ws=>by
  have ih:=Jh ws
  simp only [List.map_cons,kP,ih]
  simp [eqN,eqS]
theorem Uy (ws:List Str):eqD (Wd ws) (Wd ws)=.ok (.bl true):=by
 have:eqN 8 (Wd ws) (Wd ws)=some true:=by
  show (kP (eqN 7) (ws.map D.str) (ws.map D.str)).map (fun b=>b&&(ws.map D.str).length == (ws.map D.str).length)=_
  rw [Jh]
  simp
 unfold eqD
 rw [this]
theorem vf {ms:List PM} {f g:Sl->Out (Fl×Sl)} {ρ ρ1:Sl} (h:f ρ=.ok (.nx,ρ1)):Wi ms (jr f g ρ)=Wi ms (g ρ1):=by
 rw [Vq,h]
 rfl
theorem Gr {ca:Str->Addr} (hca:UW ca) (ns:List Int):Uu ca [scr ns]=.ok (.bl true,[.non]):=by
 refine runD_ap.trans ?_
 have hbg:=big
 have z2:2<=sizeLine:=by omega
 have z8:8<=sizeLine:=by omega
 have z4:4<=sizeLine:=by omega
 have z1:1<=sizeLine:=by omega
 obtain ⟨bw,hbw,g1⟩:=gf ns [] (by simp)
 obtain ⟨bl,hbl,g2⟩:=Qj ns [.int 0] (by simp)
 obtain ⟨ws,t3,hws,ht3,g3⟩:=Uw ns [.int 0,.int 0] (by simp)
 obtain ⟨wr,hwr,g4⟩:=yl ns t3 WR (by simp) (by simp at ht3; omega)
 simp only [List.nil_append,List.cons_append] at g1 g2
 unfold Xp
 have e0:qy Ut [scr ns]=[some (scr ns),none,none,none,none,none,none]:=rfl
 rw [e0]
 refine (vf (ρ1:=[some (scr ns),some (.lst []),none,none,none,none,none]) (by simp)).trans ?_
 refine (vf (ρ1:=[some (scr ns),some (.lst [.int 0,.int 0]),none,none,none,some bw,some bl]) (by simp [qE,jm,g1,g2,z2,KQ,wJ,KP])).trans ?_
 refine (vf (ρ1:=[some (scr ns),some (.lst t3),some (Wd ws),none,none,some bw,some bl]) (by simp [qE,jm,g3])).trans ?_
 refine (vf (ρ1:=[some (scr ns),some (.lst t3),some (Wd ws),some (.str AZ),none,some bw,some bl]) (by simp)).trans ?_
 refine (vf (ρ1:=[some (scr ns),some (.lst t3),some (Wd ws),some (.str AZ),some (.lst WR),some bw,some bl]) (by
  have s1:=wr1
  have s4:=wr4
  simp [zz,xl,wr1,wr2,wr3,wr4,wr5,QQ,z8,Wh])).trans ?_
 refine (vf (ρ1:=[some (scr ns),some (.lst (t3++[.int 0])),some (Wd ws),some (.str AZ),some wr,some bw,some bl]) (by simp only [Vs,Ud]; simp [qE,jm,g4])).trans ?_
 have hab:=Ux hca hbw (a:=some (scr ns)) (b:=some (.lst (t3++[.int 0]))) (c:=some (Wd ws)) (e:=some (.str AZ)) (f:=some wr) (g:=some bl)
 refine (vf (ρ1:=[some (scr ns),some (.lst (t3++[.int 0])),some (Wd ws),some (.str AZ),some wr,some bw,some bl]) (by rw [ZU,Uc,qaF,hab]; simp [z1,z4,GJ,neD,eqN,kP,eqS,List.replicate])).trans ?_
 have b0:=Jg (ca:=ca) (i:=0) (by decide) rfl (JQ hws hbl) (by decide +kernel) (yU hca)
 have b4:=Ql (ca:=ca) (i:=4) (b:=.non) (by decide) rfl (Qk hbl) (by decide +kernel) (yU hca)
 refine (vf (ρ1:=[some (scr ns),some (.lst (t3++[.int 0])),some (Wd ws),some (.str AZ),some wr,some bw,some bl]) (by simp [qE,jm,b0,b4,neD,eqN,kP,eqS,z2])).trans ?_
 have c1:=Jg (ca:=ca) (i:=1) (by decide) rfl (xW hws hwr) (by decide +kernel) (xU hca)
 have c2:=Gq (ca:=ca) hws
 have c3:=Uy ws
 have c4:eqD (ref 10) (ref 10)=.ok (.bl true):=by simp [eqD,eqN,kP,eqS]
 simp [qE,jm,c1,c2,c3,c4,z2,qx]
end Kx
namespace Kx
open PySem PySem.Spec PyProof.Rows L2 L2.D2
theorem qD {K:Frag} {h:Heap} {mg:Str->Option Value} (X:K.In h) (G:h.Ns mainGlobals mg) {x:Str} {st:Stmt} {ps:List Str} {f:Addr} {oc:Value} {od an:Option Addr} {osl:Array (Option Value)} {kV doc pm cdv ct:Value}
  (hb:∀ (kV doc pm:Value) (an:Option Addr) (cdv ct:Value) (us:List Value),us.length=ps.length->bindArgs (PySem.W.fnOf x x (vE st) (jA st) (qc st) .none kV doc pm an cdv ct) ⟨us,[]⟩=pure (ps.zip us))
  (a:nsIn K mainGlobals x=some (some (.ref f))) (l:K.lookup f=some ⟨oc,od,.func (PySem.W.fnOf x x (vE st) (jA st) (qc st) .none kV doc pm an cdv ct),osl⟩) (c:codeIn K cdv x=true) (k:keepIn K (.ref f)=true):qY K mg x st ps:=
 ⟨f,_,Kr l c k,mg_of X G a,(Kr l c k).binds hb⟩
theorem qbo {us:List Value} {P:List Value->Prop} (hl:us.length=0) (h:P []):P us:=List.length_eq_zero_iff.mp hl ▸ h
theorem GO {us:List Value} {n:Nat} (hl:us.length=n+1):∃ a l,us=a::l/\l.length=n:=by
 cases us with
 | nil=>cases hl
 | cons a l=>exact ⟨a,l,rfl,Nat.succ.inj hl⟩
theorem JT {us:List Value} {P:List Value->Prop} (hl:us.length=1) (h:∀ a,P [a]):P us:=by
 obtain ⟨a,l,rfl,e⟩:=GO hl
 exact qbo (P:=fun l=>P (a::l)) e (h a)
theorem Wj {us:List Value} {P:List Value->Prop} (hl:us.length=2) (h:∀ a b,P [a,b]):P us:=by
 obtain ⟨a,l,rfl,e⟩:=GO hl
 exact JT (P:=fun l=>P (a::l)) e (h a)
theorem XA {us:List Value} {P:List Value->Prop} (hl:us.length=3) (h:∀ a b c,P [a,b,c]):P us:=by
 obtain ⟨a,l,rfl,e⟩:=GO hl
 exact Wj (P:=fun l=>P (a::l)) e (h a)
theorem qbN {us:List Value} {P:List Value->Prop} (hl:us.length=4) (h:∀ a b c d,P [a,b,c,d]):P us:=by
 obtain ⟨a,l,rfl,e⟩:=GO hl
 exact XA (P:=fun l=>P (a::l)) e (h a)
theorem Wg {l:List Str} {f:Str->Addr} (nd:(l.map f).Nodup) {x y:Str} (hx:x∈l) (hy:y∈l) (e:f x=f y):x=y:=by
 obtain ⟨i,hi,rfl⟩:=List.mem_iff_getElem.mp hx
 obtain ⟨j,hj,rfl⟩:=List.mem_iff_getElem.mp hy
 have q:=(List.getElem_inj (h₀:=by simpa using hi) (h₁:=by simpa using hj) nd).mp (show (l.map f)[i]'(by simpa using hi)=(l.map f)[j]'(by simpa using hj) by simpa using e)
 subst q
 rfl
noncomputable def caT (T:List (Str×Addr)) (x:Str):Addr:=(T.lookup x).getD 0
noncomputable def Uz (K:Frag) (Cs:List Addr) (W:Addr):Bool:=decide Cs.Nodup&&Cs.all fun c=>xcB K c&&decide (PySem.W.exmOne K (.ref c) (.ref W)=some true)&&decide (PySem.W.kitOne K (.ref c) (.type "ValueError")=some true)&&PySem.W.excIn K c bmV "ValueError.__new__"&&Cs.all fun d=>decide (PySem.W.kitOne K (.ref c) (.ref d)=some (decide (c=d)))
theorem UA {K:Frag} {Cs:List Addr} {W:Addr} (h:Uz K Cs W=true):Cs.Nodup/\∀ c∈Cs,xcB K c=true/\PySem.W.exmOne K (.ref c) (.ref W)=some true/\PySem.W.kitOne K (.ref c) (.type "ValueError")=some true/\PySem.W.excIn K c bmV "ValueError.__new__"=true/\∀ d∈Cs,PySem.W.kitOne K (.ref c) (.ref d)=some (decide (c=d)):=by
 unfold Uz at h
 rw [Bool.and_eq_true,List.all_eq_true] at h
 refine ⟨of_decide_eq_true h.1,fun c hc=>?_⟩
 have q:=h.2 c hc
 simp only [Bool.and_eq_true,decide_eq_true_eq,List.all_eq_true] at q
 exact ⟨q.1.1.1.1,q.1.1.1.2,q.1.1.2,q.1.2,q.2⟩
theorem Gs {c:Str} (h:c∈FS):c = "alike"\/c = "best_looks"\/c = "mirrored"\/c = "renamed"\/c = "turned":=by simpa [FS] using h
theorem Gt {c:Str} (h:c∈CS):c = "NoWords"\/c = "NoLook"\/c = "NoNumbers"\/c = "NoRoom"\/c = "NoWord"\/c = "NoWorths"\/c = "Never"\/c = "Full"\/c = "Known"\/c = "NoPlace"\/c = "NoLetters"\/c = "NoText"\/c = "Nothing":=by simpa [CS] using h
theorem qaV {K:Frag} {h:Heap} {mg:Str->Option Value} (X:K.In h) (G:h.Ns mainGlobals mg) {CW C0 C1 C2 C3 C4 C5 C6 C7 C8 C9 C10 C11 C12:Addr} {F0 F1 F2 F3 F4:Addr} {t_LEAST_PLACE t_LETTERS t_MOST_LETTERS t_MOST_PLACE t_MOST_WORDS:Tok}
  (aW:nsIn K mainGlobals "WordError"=some (some (.ref CW)))
  (a0:nsIn K mainGlobals "NoWords"=some (some (.ref C0)))
  (a1:nsIn K mainGlobals "NoLook"=some (some (.ref C1)))
  (a2:nsIn K mainGlobals "NoNumbers"=some (some (.ref C2)))
  (a3:nsIn K mainGlobals "NoRoom"=some (some (.ref C3)))
  (a4:nsIn K mainGlobals "NoWord"=some (some (.ref C4)))
  (a5:nsIn K mainGlobals "NoWorths"=some (some (.ref C5)))
  (a6:nsIn K mainGlobals "Never"=some (some (.ref C6)))
  (a7:nsIn K mainGlobals "Full"=some (some (.ref C7)))
  (a8:nsIn K mainGlobals "Known"=some (some (.ref C8)))
  (a9:nsIn K mainGlobals "NoPlace"=some (some (.ref C9)))
  (a10:nsIn K mainGlobals "NoLetters"=some (some (.ref C10)))
  (a11:nsIn K mainGlobals "NoText"=some (some (.ref C11)))
  (a12:nsIn K mainGlobals "Nothing"=some (some (.ref C12)))
  (z_ValueError:nsIn K mainGlobals "ValueError"=some none)
  (z_all:nsIn K mainGlobals "all"=some none)
  (z_bool:nsIn K mainGlobals "bool"=some none)
  (z_enumerate:nsIn K mainGlobals "enumerate"=some none)
  (z_int:nsIn K mainGlobals "int"=some none)
  (z_isinstance:nsIn K mainGlobals "isinstance"=some none)
  (z_len:nsIn K mainGlobals "len"=some none)
  (z_list:nsIn K mainGlobals "list"=some none)
  (z_max:nsIn K mainGlobals "max"=some none)
  (z_min:nsIn K mainGlobals "min"=some none)
  (z_range:nsIn K mainGlobals "range"=some none)
  (z_set:nsIn K mainGlobals "set"=some none)
  (z_sorted:nsIn K mainGlobals "sorted"=some none)
  (z_str:nsIn K mainGlobals "str"=some none)
  (z_tuple:nsIn K mainGlobals "tuple"=some none)
  (c_LEAST_PLACE:nsIn K mainGlobals "LEAST_PLACE"=some (some (.int (-3) t_LEAST_PLACE)))
  (c_LETTERS:nsIn K mainGlobals "LETTERS"=some (some (.str "abcdefghijklmnopqrstuvwxyz" t_LETTERS)))
  (c_MOST_LETTERS:nsIn K mainGlobals "MOST_LETTERS"=some (some (.int 6 t_MOST_LETTERS)))
  (c_MOST_PLACE:nsIn K mainGlobals "MOST_PLACE"=some (some (.int 2 t_MOST_PLACE)))
  (c_MOST_WORDS:nsIn K mainGlobals "MOST_WORDS"=some (some (.int 6 t_MOST_WORDS)))
  (ex:Uz K [C0,C1,C2,C3,C4,C5,C6,C7,C8,C9,C10,C11,C12] CW=true)
  (r0:nsIn K mainGlobals "alike"=some (some (.ref F0))) (r1:nsIn K mainGlobals "best_looks"=some (some (.ref F1))) (r2:nsIn K mainGlobals "mirrored"=some (some (.ref F2))) (r3:nsIn K mainGlobals "renamed"=some (some (.ref F3))) (r4:nsIn K mainGlobals "turned"=some (some (.ref F4))) :
  Zt K mg (fun x=>.ref (caT [("WordError",CW),("NoWords",C0),("NoLook",C1),("NoNumbers",C2),("NoRoom",C3),("NoWord",C4),("NoWorths",C5),("Never",C6),("Full",C7),("Known",C8),("NoPlace",C9),("NoLetters",C10),("NoText",C11),("Nothing",C12),("alike",F0),("best_looks",F1),("mirrored",F2),("renamed",F3),("turned",F4)] x)) (caT [("WordError",CW),("NoWords",C0),("NoLook",C1),("NoNumbers",C2),("NoRoom",C3),("NoWord",C4),("NoWorths",C5),("Never",C6),("Full",C7),("Known",C8),("NoPlace",C9),("NoLetters",C10),("NoText",C11),("Nothing",C12),("alike",F0),("best_looks",F1),("mirrored",F2),("renamed",F3),("turned",F4)])/\UW (caT [("WordError",CW),("NoWords",C0),("NoLook",C1),("NoNumbers",C2),("NoRoom",C3),("NoWord",C4),("NoWorths",C5),("Never",C6),("Full",C7),("Known",C8),("NoPlace",C9),("NoLetters",C10),("NoText",C11),("Nothing",C12),("alike",F0),("best_looks",F1),("mirrored",F2),("renamed",F3),("turned",F4)]):=by
 obtain ⟨nd,al⟩:=UA ex
 generalize hT:([("WordError",CW),("NoWords",C0),("NoLook",C1),("NoNumbers",C2),("NoRoom",C3),("NoWord",C4),("NoWorths",C5),("Never",C6),("Full",C7),("Known",C8),("NoPlace",C9),("NoLetters",C10),("NoText",C11),("Nothing",C12),("alike",F0),("best_looks",F1),("mirrored",F2),("renamed",F3),("turned",F4)]:List (Str×Addr))=T
 have eW:caT T "WordError"=CW:=by subst hT; kernel_rfl
 have e0:caT T "NoWords"=C0:=by subst hT; kernel_rfl
 have e1:caT T "NoLook"=C1:=by subst hT; kernel_rfl
 have e2:caT T "NoNumbers"=C2:=by subst hT; kernel_rfl
 have e3:caT T "NoRoom"=C3:=by subst hT; kernel_rfl
 have e4:caT T "NoWord"=C4:=by subst hT; kernel_rfl
 have e5:caT T "NoWorths"=C5:=by subst hT; kernel_rfl
 have e6:caT T "Never"=C6:=by subst hT; kernel_rfl
 have e7:caT T "Full"=C7:=by subst hT; kernel_rfl
 have e8:caT T "Known"=C8:=by subst hT; kernel_rfl
 have e9:caT T "NoPlace"=C9:=by subst hT; kernel_rfl
 have e10:caT T "NoLetters"=C10:=by subst hT; kernel_rfl
 have e11:caT T "NoText"=C11:=by subst hT; kernel_rfl
 have e12:caT T "Nothing"=C12:=by subst hT; kernel_rfl
 have eF0:caT T "alike"=F0:=by subst hT; kernel_rfl
 have eF1:caT T "best_looks"=F1:=by subst hT; kernel_rfl
 have eF2:caT T "mirrored"=F2:=by subst hT; kernel_rfl
 have eF3:caT T "renamed"=F3:=by subst hT; kernel_rfl
 have eF4:caT T "turned"=F4:=by subst hT; kernel_rfl
 have hm:CS.map (caT T)=[C0,C1,C2,C3,C4,C5,C6,C7,C8,C9,C10,C11,C12]:=by
  unfold CS
  simp only [List.map_cons,List.map_nil,e0,e1,e2,e3,e4,e5,e6,e7,e8,e9,e10,e11,e12]
 have hin:∀ c∈CS,caT T c∈[C0,C1,C2,C3,C4,C5,C6,C7,C8,C9,C10,C11,C12]:=fun c hc=>hm ▸ List.mem_map.mpr ⟨c,hc,rfl⟩
 refine ⟨⟨⟨fun c hc=>rfl,fun c hc=>?_,fun c hc=>(al _ (hin c hc)).1,fun c hc d hd=>(al _ (hin c hc)).2.2.2.2 _ (hin d hd),fun c hc=>(al _ (hin c hc)).2.2.1⟩,fun c hc=>?_,fun c hc=>(al _ (hin c hc)).2.2.2.1,fun x hx=>?fr,?_,mg_none_of X G z_ValueError,mg_none_of X G z_all,mg_none_of X G z_bool,mg_none_of X G z_enumerate,mg_none_of X G z_int,mg_none_of X G z_isinstance,mg_none_of X G z_len,mg_none_of X G z_list,mg_none_of X G z_max,mg_none_of X G z_min,mg_none_of X G z_range,mg_none_of X G z_set,mg_none_of X G z_sorted,mg_none_of X G z_str,mg_none_of X G z_tuple,⟨_,mg_of X G c_LEAST_PLACE⟩,⟨_,mg_of X G c_LETTERS⟩,⟨_,mg_of X G c_MOST_LETTERS⟩,⟨_,mg_of X G c_MOST_PLACE⟩,⟨_,mg_of X G c_MOST_WORDS⟩⟩,fun x hx y hy e=>?_⟩
 case fr=>
  rcases Gs hx with rfl | rfl | rfl | rfl | rfl
  ·rw [eF0]; exact mg_of X G r0
  ·rw [eF1]; exact mg_of X G r1
  ·rw [eF2]; exact mg_of X G r2
  ·rw [eF3]; exact mg_of X G r3
  ·rw [eF4]; exact mg_of X G r4
 ·show PySem.W.exmOne K (.ref (caT T c)) (.ref (caT T "WordError"))=some true
  rw [eW]
  exact (al _ (hin c hc)).2.1
 ·rcases Gt hc with rfl | rfl | rfl | rfl | rfl | rfl | rfl | rfl | rfl | rfl | rfl | rfl | rfl
  ·rw [e0]; exact mg_of X G a0
  ·rw [e1]; exact mg_of X G a1
  ·rw [e2]; exact mg_of X G a2
  ·rw [e3]; exact mg_of X G a3
  ·rw [e4]; exact mg_of X G a4
  ·rw [e5]; exact mg_of X G a5
  ·rw [e6]; exact mg_of X G a6
  ·rw [e7]; exact mg_of X G a7
  ·rw [e8]; exact mg_of X G a8
  ·rw [e9]; exact mg_of X G a9
  ·rw [e10]; exact mg_of X G a10
  ·rw [e11]; exact mg_of X G a11
  ·rw [e12]; exact mg_of X G a12
 ·show mg "WordError"=some (.ref (caT T "WordError"))
  rw [eW]
  exact mg_of X G aW
 ·
  rw [<-hm] at nd
  exact Wg nd hx hy e
structure Tx (K:Frag) (mg:Str->Option Value) (ca:Str->Addr):Prop where
 x_Lcell_at:qY K mg "_law_cell_at" vx ["_law_script", "_law_k"]
 x_Lmixed:qY K mg "_law_mixed" uq ["_law_script", "_law_k", "_law_many"]
 x_Ldraw:qY K mg "_law_draw" xB ["_law_script", "_law_town", "_law_many"]
 x_Lpick:qY K mg "_law_pick" xC ["_law_script", "_law_town", "_law_some"]
 x_Lword:qY K mg "_law_word" wy ["_law_script", "_law_town", "_law_letters", "_law_most"]
 x_Lwords:qY K mg "_law_words" ut ["_law_script", "_law_town", "_law_most"]
 x_Lodd_words:qY K mg "_law_odd_words" jM ["_law_script", "_law_town"]
 x_Lodd_look:qY K mg "_law_odd_look" kz ["_law_script", "_law_town"]
 x_is_letter:qY K mg "is_letter" kA ["thing"]
 x_is_word:qY K mg "is_word" ko ["thing"]
 x_is_words:qY K mg "is_words" jx ["thing"]
 x_check_words:qY K mg "check_words" jt ["thing"]
 x_is_between:qY K mg "is_between" jN ["thing", "least", "most"]
 x_is_look:qY K mg "is_look" kq ["thing"]
 x_check_look:qY K mg "check_look" jO ["thing"]
 x_letter_at:qY K mg "letter_at" kE ["word", "place"]
 x_pairs:qY K mg "pairs" wC ["words", "look"]
 x_are_alike:qY K mg "are_alike" kF ["one", "two"]
 x_alike:qY K mg "alike" wD ["words", "look"]
 x_all_looks:qY K mg "all_looks" jl []
 x_best_looks:qY K mg "best_looks" qX ["words"]
 x_mirrored:qY K mg "mirrored" jy ["words"]
 x_turned:qY K mg "turned" uu ["look"]
 x_is_letters:qY K mg "is_letters" jR ["thing"]
 x_check_letters:qY K mg "check_letters" jd ["thing"]
 x_with_letters:qY K mg "with_letters" qP ["word", "letters"]
 x_renamed:qY K mg "renamed" kt ["words", "letters"]
 x_Lwhich:qY K mg "_law_which" uv ["_law_e"]
 x_Lask:qY K mg "_law_ask" Jd ["_law_what", "_law_one", "_law_other"]
theorem Gu {P:Program} {w:World} {K:Frag} {mg:Str->Option Value} {base:Heap} {cv:Str->Value} {ca:Str->Addr} {f:Addr} {fd:FuncData} (Z:Zt K mg cv ca) (T:Tx K mg ca) (F:Fun K "law" "law" Qe f fd):FnOk P w K mg base (CXk P w) 9 f fd ["_law_script"] (spD K cv [.val] .sh (Uu ca)):=by
 have o_Lcell_at:=gR (P:=P) (w:=w) (base:=base) Z T.x_Lcell_at 
 have o_Lmixed:=VR (P:=P) (w:=w) (base:=base) Z T.x_Lmixed o_Lcell_at
 have o_Ldraw:=Uk (P:=P) (w:=w) (base:=base) Z T.x_Ldraw o_Lmixed
 have o_Lpick:=Um (P:=P) (w:=w) (base:=base) Z T.x_Lpick o_Ldraw
 have o_Lword:=Up (P:=P) (w:=w) (base:=base) Z T.x_Lword o_Ldraw o_Lpick
 have o_Lwords:=VU (P:=P) (w:=w) (base:=base) Z T.x_Lwords o_Ldraw o_Lpick o_Lword
 have o_Lodd_words:=xG (P:=P) (w:=w) (base:=base) Z T.x_Lodd_words o_Lpick
 have o_Lodd_look:=zN (P:=P) (w:=w) (base:=base) Z T.x_Lodd_look o_Lpick
 have o_is_letter:=zQ (P:=P) (w:=w) (base:=base) Z T.x_is_letter 
 have o_is_word:=JK (P:=P) (w:=w) (base:=base) Z T.x_is_word o_is_letter
 have o_is_words:=gZ (P:=P) (w:=w) (base:=base) Z T.x_is_words o_is_word
 have o_check_words:=yx (P:=P) (w:=w) (base:=base) Z T.x_check_words o_is_words
 have o_is_between:=xI (P:=P) (w:=w) (base:=base) Z T.x_is_between 
 have o_is_look:=JM (P:=P) (w:=w) (base:=base) Z T.x_is_look o_is_between
 have o_check_look:=xK (P:=P) (w:=w) (base:=base) Z T.x_check_look o_is_look
 have o_letter_at:=zT (P:=P) (w:=w) (base:=base) Z T.x_letter_at 
 have o_pairs:=Ur (P:=P) (w:=w) (base:=base) Z T.x_pairs o_check_words o_check_look o_letter_at
 have o_are_alike:=zV (P:=P) (w:=w) (base:=base) Z T.x_are_alike 
 have o_alike:=Us (P:=P) (w:=w) (base:=base) Z T.x_alike o_pairs o_are_alike
 have o_all_looks:=zW (P:=P) (w:=w) (base:=base) Z T.x_all_looks 
 have o_best_looks:=xP (P:=P) (w:=w) (base:=base) Z T.x_best_looks o_all_looks o_alike
 have o_mirrored:=Qd (P:=P) (w:=w) (base:=base) Z T.x_mirrored o_check_words
 have o_turned:=VW (P:=P) (w:=w) (base:=base) Z T.x_turned o_check_look
 have o_is_letters:=xS (P:=P) (w:=w) (base:=base) Z T.x_is_letters 
 have o_check_letters:=ug (P:=P) (w:=w) (base:=base) Z T.x_check_letters o_is_letters
 have o_with_letters:=yj (P:=P) (w:=w) (base:=base) Z T.x_with_letters 
 have o_renamed:=JO (P:=P) (w:=w) (base:=base) Z T.x_renamed o_check_words o_check_letters o_with_letters
 have o_Lwhich:=VX (P:=P) (w:=w) (base:=base) Z T.x_Lwhich 
 have o_Lask:=Xo (P:=P) (w:=w) (base:=base) Z T.x_Lask o_alike o_best_looks o_mirrored o_turned o_renamed o_Lwhich
 exact Gh Z F o_Lpick o_Lwords o_Lodd_words o_Lodd_look o_Lask
def UB (K:Frag):Sp:=fun vs H Q _=>∃ (a:Addr) (ns:List Int),vs=[.ref a]/\SqL K H a (ns.map V.int)/\∀ H',Q (.bl true) H'
theorem Ji {K:Frag} {F:Hp}:∀ ns:List Int,IsL K F (ns.map V.int) (ns.map D.int)
 | []=>.nil
 | n::ns=>.cons (.int n) (Ji ns)
theorem qaW {K:Frag} {cv:Str->Value} {ca:Str->Addr} (h:UW ca) (vs:List V) (H:Hp) (Q:VK) (E:XK) (q:UB K vs H Q E):spD K cv [.val] .sh (Uu ca) vs H Q E:=by
 obtain ⟨a,ns,rfl,hs,hq⟩:=q
 refine ⟨H,[scr ns],Same.refl _,⟨.lst hs (Ji ns),trivial⟩,List.nodup_nil,?_⟩
 rw [Gr h ns]
 intro v F' H' a1 a2 a3 a4
 have a4:Is K F' v (.bl true):=a4
 cases a4
 exact hq H'
abbrev NsX (K:Frag) (x:Str) (f:Addr):Prop:=nsIn K mainGlobals x=some (some (.ref f))
abbrev LkX (K:Frag) (x:Str) (st:Stmt) (f:Addr) (oc:Value) (od an:Option Addr) (sl:Array (Option Value)) (kV dc pm cd ct:Value):Prop:=K.lookup f=some ⟨oc,od,.func (PySem.W.fnOf x x (vE st) (jA st) (qc st) .none kV dc pm an cd ct),sl⟩
theorem Gv {l:PySem.W.OpenLaw} {w:World} {K:Frag} {h:Heap} {mg:Str->Option Value} {fa:Addr} (X:K.In h) (G:h.Ns mainGlobals mg) (hfa:mg "law"=some (.ref fa)) {CW C0 C1 C2 C3 C4 C5 C6 C7 C8 C9 C10 C11 C12:Addr} {t_LEAST_PLACE t_LETTERS t_MOST_LETTERS t_MOST_PLACE t_MOST_WORDS:Tok} {f0:Addr} {v0:Value} {o0 p0:Option Addr} {s0:Array (Option Value)} {g0 h0 i0 j0 m0:Value} {f1:Addr} {v1:Value} {o1 p1:Option Addr} {s1:Array (Option Value)} {g1 h1 i1 j1 m1:Value} {f2:Addr} {v2:Value} {o2 p2:Option Addr} {s2:Array (Option Value)} {g2 h2 i2 j2 m2:Value} {f3:Addr} {v3:Value} {o3 p3:Option Addr} {s3:Array (Option Value)} {g3 h3 i3 j3 m3:Value} {f4:Addr} {v4:Value} {o4 p4:Option Addr} {s4:Array (Option Value)} {g4 h4 i4 j4 m4:Value} {f5:Addr} {v5:Value} {o5 p5:Option Addr} {s5:Array (Option Value)} {g5 h5 i5 j5 m5:Value} {f6:Addr} {v6:Value} {o6 p6:Option Addr} {s6:Array (Option Value)} {g6 h6 i6 j6 m6:Value} {f7:Addr} {v7:Value} {o7 p7:Option Addr} {s7:Array (Option Value)} {g7 h7 i7 j7 m7:Value} {f8:Addr} {v8:Value} {o8 p8:Option Addr} {s8:Array (Option Value)} {g8 h8 i8 j8 m8:Value} {f9:Addr} {v9:Value} {o9 p9:Option Addr} {s9:Array (Option Value)} {g9 h9 i9 j9 m9:Value} {f10:Addr} {v10:Value} {o10 p10:Option Addr} {s10:Array (Option Value)} {g10 h10 i10 j10 m10:Value} {f11:Addr} {v11:Value} {o11 p11:Option Addr} {s11:Array (Option Value)} {g11 h11 i11 j11 m11:Value} {f12:Addr} {v12:Value} {o12 p12:Option Addr} {s12:Array (Option Value)} {g12 h12 i12 j12 m12:Value} {f13:Addr} {v13:Value} {o13 p13:Option Addr} {s13:Array (Option Value)} {g13 h13 i13 j13 m13:Value} {f14:Addr} {v14:Value} {o14 p14:Option Addr} {s14:Array (Option Value)} {g14 h14 i14 j14 m14:Value} {f15:Addr} {v15:Value} {o15 p15:Option Addr} {s15:Array (Option Value)} {g15 h15 i15 j15 m15:Value} {f16:Addr} {v16:Value} {o16 p16:Option Addr} {s16:Array (Option Value)} {g16 h16 i16 j16 m16:Value} {f17:Addr} {v17:Value} {o17 p17:Option Addr} {s17:Array (Option Value)} {g17 h17 i17 j17 m17:Value} {f18:Addr} {v18:Value} {o18 p18:Option Addr} {s18:Array (Option Value)} {g18 h18 i18 j18 m18:Value} {f19:Addr} {v19:Value} {o19 p19:Option Addr} {s19:Array (Option Value)} {g19 h19 i19 j19 m19:Value} {f20:Addr} {v20:Value} {o20 p20:Option Addr} {s20:Array (Option Value)} {g20 h20 i20 j20 m20:Value} {f21:Addr} {v21:Value} {o21 p21:Option Addr} {s21:Array (Option Value)} {g21 h21 i21 j21 m21:Value} {f22:Addr} {v22:Value} {o22 p22:Option Addr} {s22:Array (Option Value)} {g22 h22 i22 j22 m22:Value} {f23:Addr} {v23:Value} {o23 p23:Option Addr} {s23:Array (Option Value)} {g23 h23 i23 j23 m23:Value} {f24:Addr} {v24:Value} {o24 p24:Option Addr} {s24:Array (Option Value)} {g24 h24 i24 j24 m24:Value} {f25:Addr} {v25:Value} {o25 p25:Option Addr} {s25:Array (Option Value)} {g25 h25 i25 j25 m25:Value} {f26:Addr} {v26:Value} {o26 p26:Option Addr} {s26:Array (Option Value)} {g26 h26 i26 j26 m26:Value} {f27:Addr} {v27:Value} {o27 p27:Option Addr} {s27:Array (Option Value)} {g27 h27 i27 j27 m27:Value} {f28:Addr} {v28:Value} {o28 p28:Option Addr} {s28:Array (Option Value)} {g28 h28 i28 j28 m28:Value} {f29:Addr} {v29:Value} {o29 p29:Option Addr} {s29:Array (Option Value)} {g29 h29 i29 j29 m29:Value}
  (aW:nsIn K mainGlobals "WordError"=some (some (.ref CW)))
  (a0:nsIn K mainGlobals "NoWords"=some (some (.ref C0)))
  (a1:nsIn K mainGlobals "NoLook"=some (some (.ref C1)))
  (a2:nsIn K mainGlobals "NoNumbers"=some (some (.ref C2)))
  (a3:nsIn K mainGlobals "NoRoom"=some (some (.ref C3)))
  (a4:nsIn K mainGlobals "NoWord"=some (some (.ref C4)))
  (a5:nsIn K mainGlobals "NoWorths"=some (some (.ref C5)))
  (a6:nsIn K mainGlobals "Never"=some (some (.ref C6)))
  (a7:nsIn K mainGlobals "Full"=some (some (.ref C7)))
  (a8:nsIn K mainGlobals "Known"=some (some (.ref C8)))
  (a9:nsIn K mainGlobals "NoPlace"=some (some (.ref C9)))
  (a10:nsIn K mainGlobals "NoLetters"=some (some (.ref C10)))
  (a11:nsIn K mainGlobals "NoText"=some (some (.ref C11)))
  (a12:nsIn K mainGlobals "Nothing"=some (some (.ref C12)))
  (z_ValueError:nsIn K mainGlobals "ValueError"=some none)
  (z_all:nsIn K mainGlobals "all"=some none)
  (z_bool:nsIn K mainGlobals "bool"=some none)
  (z_enumerate:nsIn K mainGlobals "enumerate"=some none)
  (z_int:nsIn K mainGlobals "int"=some none)
  (z_isinstance:nsIn K mainGlobals "isinstance"=some none)
  (z_len:nsIn K mainGlobals "len"=some none)
  (z_list:nsIn K mainGlobals "list"=some none)
  (z_max:nsIn K mainGlobals "max"=some none)
  (z_min:nsIn K mainGlobals "min"=some none)
  (z_range:nsIn K mainGlobals "range"=some none)
  (z_set:nsIn K mainGlobals "set"=some none)
  (z_sorted:nsIn K mainGlobals "sorted"=some none)
  (z_str:nsIn K mainGlobals "str"=some none)
  (z_tuple:nsIn K mainGlobals "tuple"=some none)
  (c_LEAST_PLACE:nsIn K mainGlobals "LEAST_PLACE"=some (some (.int (-3) t_LEAST_PLACE)))
  (c_LETTERS:nsIn K mainGlobals "LETTERS"=some (some (.str "abcdefghijklmnopqrstuvwxyz" t_LETTERS)))
  (c_MOST_LETTERS:nsIn K mainGlobals "MOST_LETTERS"=some (some (.int 6 t_MOST_LETTERS)))
  (c_MOST_PLACE:nsIn K mainGlobals "MOST_PLACE"=some (some (.int 2 t_MOST_PLACE)))
  (c_MOST_WORDS:nsIn K mainGlobals "MOST_WORDS"=some (some (.int 6 t_MOST_WORDS)))
  (ex:Uz K [C0,C1,C2,C3,C4,C5,C6,C7,C8,C9,C10,C11,C12] CW=true)
  (b_0:NsX K "_law_cell_at" f0) (l_0:LkX K "_law_cell_at" vx f0 v0 o0 p0 s0 g0 h0 i0 j0 m0) (d_0:codeIn K j0 "_law_cell_at"=true) (k_0:keepIn K (.ref f0)=true)
  (b_1:NsX K "_law_mixed" f1) (l_1:LkX K "_law_mixed" uq f1 v1 o1 p1 s1 g1 h1 i1 j1 m1) (d_1:codeIn K j1 "_law_mixed"=true) (k_1:keepIn K (.ref f1)=true)
  (b_2:NsX K "_law_draw" f2) (l_2:LkX K "_law_draw" xB f2 v2 o2 p2 s2 g2 h2 i2 j2 m2) (d_2:codeIn K j2 "_law_draw"=true) (k_2:keepIn K (.ref f2)=true)
  (b_3:NsX K "_law_pick" f3) (l_3:LkX K "_law_pick" xC f3 v3 o3 p3 s3 g3 h3 i3 j3 m3) (d_3:codeIn K j3 "_law_pick"=true) (k_3:keepIn K (.ref f3)=true)
  (b_4:NsX K "_law_word" f4) (l_4:LkX K "_law_word" wy f4 v4 o4 p4 s4 g4 h4 i4 j4 m4) (d_4:codeIn K j4 "_law_word"=true) (k_4:keepIn K (.ref f4)=true)
  (b_5:NsX K "_law_words" f5) (l_5:LkX K "_law_words" ut f5 v5 o5 p5 s5 g5 h5 i5 j5 m5) (d_5:codeIn K j5 "_law_words"=true) (k_5:keepIn K (.ref f5)=true)
  (b_6:NsX K "_law_odd_words" f6) (l_6:LkX K "_law_odd_words" jM f6 v6 o6 p6 s6 g6 h6 i6 j6 m6) (d_6:codeIn K j6 "_law_odd_words"=true) (k_6:keepIn K (.ref f6)=true)
  (b_7:NsX K "_law_odd_look" f7) (l_7:LkX K "_law_odd_look" kz f7 v7 o7 p7 s7 g7 h7 i7 j7 m7) (d_7:codeIn K j7 "_law_odd_look"=true) (k_7:keepIn K (.ref f7)=true)
  (b_8:NsX K "is_letter" f8) (l_8:LkX K "is_letter" kA f8 v8 o8 p8 s8 g8 h8 i8 j8 m8) (d_8:codeIn K j8 "is_letter"=true) (k_8:keepIn K (.ref f8)=true)
  (b_9:NsX K "is_word" f9) (l_9:LkX K "is_word" ko f9 v9 o9 p9 s9 g9 h9 i9 j9 m9) (d_9:codeIn K j9 "is_word"=true) (k_9:keepIn K (.ref f9)=true)
  (b_10:NsX K "is_words" f10) (l_10:LkX K "is_words" jx f10 v10 o10 p10 s10 g10 h10 i10 j10 m10) (d_10:codeIn K j10 "is_words"=true) (k_10:keepIn K (.ref f10)=true)
  (b_11:NsX K "check_words" f11) (l_11:LkX K "check_words" jt f11 v11 o11 p11 s11 g11 h11 i11 j11 m11) (d_11:codeIn K j11 "check_words"=true) (k_11:keepIn K (.ref f11)=true)
  (b_12:NsX K "is_between" f12) (l_12:LkX K "is_between" jN f12 v12 o12 p12 s12 g12 h12 i12 j12 m12) (d_12:codeIn K j12 "is_between"=true) (k_12:keepIn K (.ref f12)=true)
  (b_13:NsX K "is_look" f13) (l_13:LkX K "is_look" kq f13 v13 o13 p13 s13 g13 h13 i13 j13 m13) (d_13:codeIn K j13 "is_look"=true) (k_13:keepIn K (.ref f13)=true)
  (b_14:NsX K "check_look" f14) (l_14:LkX K "check_look" jO f14 v14 o14 p14 s14 g14 h14 i14 j14 m14) (d_14:codeIn K j14 "check_look"=true) (k_14:keepIn K (.ref f14)=true)
  (b_15:NsX K "letter_at" f15) (l_15:LkX K "letter_at" kE f15 v15 o15 p15 s15 g15 h15 i15 j15 m15) (d_15:codeIn K j15 "letter_at"=true) (k_15:keepIn K (.ref f15)=true)
  (b_16:NsX K "pairs" f16) (l_16:LkX K "pairs" wC f16 v16 o16 p16 s16 g16 h16 i16 j16 m16) (d_16:codeIn K j16 "pairs"=true) (k_16:keepIn K (.ref f16)=true)
  (b_17:NsX K "are_alike" f17) (l_17:LkX K "are_alike" kF f17 v17 o17 p17 s17 g17 h17 i17 j17 m17) (d_17:codeIn K j17 "are_alike"=true) (k_17:keepIn K (.ref f17)=true)
  (b_18:NsX K "alike" f18) (l_18:LkX K "alike" wD f18 v18 o18 p18 s18 g18 h18 i18 j18 m18) (d_18:codeIn K j18 "alike"=true) (k_18:keepIn K (.ref f18)=true)
  (b_19:NsX K "all_looks" f19) (l_19:LkX K "all_looks" jl f19 v19 o19 p19 s19 g19 h19 i19 j19 m19) (d_19:codeIn K j19 "all_looks"=true) (k_19:keepIn K (.ref f19)=true)
  (b_20:NsX K "best_looks" f20) (l_20:LkX K "best_looks" qX f20 v20 o20 p20 s20 g20 h20 i20 j20 m20) (d_20:codeIn K j20 "best_looks"=true) (k_20:keepIn K (.ref f20)=true)
  (b_21:NsX K "mirrored" f21) (l_21:LkX K "mirrored" jy f21 v21 o21 p21 s21 g21 h21 i21 j21 m21) (d_21:codeIn K j21 "mirrored"=true) (k_21:keepIn K (.ref f21)=true)
  (b_22:NsX K "turned" f22) (l_22:LkX K "turned" uu f22 v22 o22 p22 s22 g22 h22 i22 j22 m22) (d_22:codeIn K j22 "turned"=true) (k_22:keepIn K (.ref f22)=true)
  (b_23:NsX K "is_letters" f23) (l_23:LkX K "is_letters" jR f23 v23 o23 p23 s23 g23 h23 i23 j23 m23) (d_23:codeIn K j23 "is_letters"=true) (k_23:keepIn K (.ref f23)=true)
  (b_24:NsX K "check_letters" f24) (l_24:LkX K "check_letters" jd f24 v24 o24 p24 s24 g24 h24 i24 j24 m24) (d_24:codeIn K j24 "check_letters"=true) (k_24:keepIn K (.ref f24)=true)
  (b_25:NsX K "with_letters" f25) (l_25:LkX K "with_letters" qP f25 v25 o25 p25 s25 g25 h25 i25 j25 m25) (d_25:codeIn K j25 "with_letters"=true) (k_25:keepIn K (.ref f25)=true)
  (b_26:NsX K "renamed" f26) (l_26:LkX K "renamed" kt f26 v26 o26 p26 s26 g26 h26 i26 j26 m26) (d_26:codeIn K j26 "renamed"=true) (k_26:keepIn K (.ref f26)=true)
  (b_27:NsX K "_law_which" f27) (l_27:LkX K "_law_which" uv f27 v27 o27 p27 s27 g27 h27 i27 j27 m27) (d_27:codeIn K j27 "_law_which"=true) (k_27:keepIn K (.ref f27)=true)
  (b_28:NsX K "_law_ask" f28) (l_28:LkX K "_law_ask" Jd f28 v28 o28 p28 s28 g28 h28 i28 j28 m28) (d_28:codeIn K j28 "_law_ask"=true) (k_28:keepIn K (.ref f28)=true)
  (b_29:NsX K "law" f29) (l_29:LkX K "law" Qe f29 v29 o29 p29 s29 g29 h29 i29 j29 m29) (d_29:codeIn K j29 "law"=true) (k_29:keepIn K (.ref f29)=true) :
  ∃ fd:FuncData,(∀ (s:Shared) (v:Value),BindsTo s fd ⟨[v],[]⟩ [("_law_script",v)])/\∀ base:Heap,K.In base->base.Ns mainGlobals mg->FnOk l.prog w K mg base (CXk l.prog w) 9 fa fd ["_law_script"] (UB K):=by
 have e:=hfa.symm.trans (mg_of X G b_29)
 cases e
 obtain ⟨Z,cok⟩:=qaV X G aW a0 a1 a2 a3 a4 a5 a6 a7 a8 a9 a10 a11 a12 z_ValueError z_all z_bool z_enumerate z_int z_isinstance z_len z_list z_max z_min z_range z_set z_sorted z_str z_tuple c_LEAST_PLACE c_LETTERS c_MOST_LETTERS c_MOST_PLACE c_MOST_WORDS ex b_18 b_20 b_21 b_26 b_22
 have T:Tx K mg (caT [("WordError",CW),("NoWords",C0),("NoLook",C1),("NoNumbers",C2),("NoRoom",C3),("NoWord",C4),("NoWorths",C5),("Never",C6),("Full",C7),("Known",C8),("NoPlace",C9),("NoLetters",C10),("NoText",C11),("Nothing",C12),("alike",f18),("best_looks",f20),("mirrored",f21),("renamed",f26),("turned",f22)]):=⟨qD X G (fun _ _ _ _ _ _ us hl=>by revert hl; refine fun hl=>Wj (P:=fun us=>bindArgs _ ⟨us,[]⟩=pure (List.zip _ us)) hl ?_; intros; rfl) b_0 l_0 d_0 k_0,qD X G (fun _ _ _ _ _ _ us hl=>by revert hl; refine fun hl=>XA (P:=fun us=>bindArgs _ ⟨us,[]⟩=pure (List.zip _ us)) hl ?_; intros; rfl) b_1 l_1 d_1 k_1,qD X G (fun _ _ _ _ _ _ us hl=>by revert hl; refine fun hl=>XA (P:=fun us=>bindArgs _ ⟨us,[]⟩=pure (List.zip _ us)) hl ?_; intros; rfl) b_2 l_2 d_2 k_2,qD X G (fun _ _ _ _ _ _ us hl=>by revert hl; refine fun hl=>XA (P:=fun us=>bindArgs _ ⟨us,[]⟩=pure (List.zip _ us)) hl ?_; intros; rfl) b_3 l_3 d_3 k_3,qD X G (fun _ _ _ _ _ _ us hl=>by revert hl; refine fun hl=>qbN (P:=fun us=>bindArgs _ ⟨us,[]⟩=pure (List.zip _ us)) hl ?_; intros; rfl) b_4 l_4 d_4 k_4,qD X G (fun _ _ _ _ _ _ us hl=>by revert hl; refine fun hl=>XA (P:=fun us=>bindArgs _ ⟨us,[]⟩=pure (List.zip _ us)) hl ?_; intros; rfl) b_5 l_5 d_5 k_5,qD X G (fun _ _ _ _ _ _ us hl=>by revert hl; refine fun hl=>Wj (P:=fun us=>bindArgs _ ⟨us,[]⟩=pure (List.zip _ us)) hl ?_; intros; rfl) b_6 l_6 d_6 k_6,qD X G (fun _ _ _ _ _ _ us hl=>by revert hl; refine fun hl=>Wj (P:=fun us=>bindArgs _ ⟨us,[]⟩=pure (List.zip _ us)) hl ?_; intros; rfl) b_7 l_7 d_7 k_7,qD X G (fun _ _ _ _ _ _ us hl=>by revert hl; refine fun hl=>JT (P:=fun us=>bindArgs _ ⟨us,[]⟩=pure (List.zip _ us)) hl ?_; intros; rfl) b_8 l_8 d_8 k_8,qD X G (fun _ _ _ _ _ _ us hl=>by revert hl; refine fun hl=>JT (P:=fun us=>bindArgs _ ⟨us,[]⟩=pure (List.zip _ us)) hl ?_; intros; rfl) b_9 l_9 d_9 k_9,qD X G (fun _ _ _ _ _ _ us hl=>by revert hl; refine fun hl=>JT (P:=fun us=>bindArgs _ ⟨us,[]⟩=pure (List.zip _ us)) hl ?_; intros; rfl) b_10 l_10 d_10 k_10,qD X G (fun _ _ _ _ _ _ us hl=>by revert hl; refine fun hl=>JT (P:=fun us=>bindArgs _ ⟨us,[]⟩=pure (List.zip _ us)) hl ?_; intros; rfl) b_11 l_11 d_11 k_11,qD X G (fun _ _ _ _ _ _ us hl=>by revert hl; refine fun hl=>XA (P:=fun us=>bindArgs _ ⟨us,[]⟩=pure (List.zip _ us)) hl ?_; intros; rfl) b_12 l_12 d_12 k_12,qD X G (fun _ _ _ _ _ _ us hl=>by revert hl; refine fun hl=>JT (P:=fun us=>bindArgs _ ⟨us,[]⟩=pure (List.zip _ us)) hl ?_; intros; rfl) b_13 l_13 d_13 k_13,qD X G (fun _ _ _ _ _ _ us hl=>by revert hl; refine fun hl=>JT (P:=fun us=>bindArgs _ ⟨us,[]⟩=pure (List.zip _ us)) hl ?_; intros; rfl) b_14 l_14 d_14 k_14,qD X G (fun _ _ _ _ _ _ us hl=>by revert hl; refine fun hl=>Wj (P:=fun us=>bindArgs _ ⟨us,[]⟩=pure (List.zip _ us)) hl ?_; intros; rfl) b_15 l_15 d_15 k_15,qD X G (fun _ _ _ _ _ _ us hl=>by revert hl; refine fun hl=>Wj (P:=fun us=>bindArgs _ ⟨us,[]⟩=pure (List.zip _ us)) hl ?_; intros; rfl) b_16 l_16 d_16 k_16,qD X G (fun _ _ _ _ _ _ us hl=>by revert hl; refine fun hl=>Wj (P:=fun us=>bindArgs _ ⟨us,[]⟩=pure (List.zip _ us)) hl ?_; intros; rfl) b_17 l_17 d_17 k_17,qD X G (fun _ _ _ _ _ _ us hl=>by revert hl; refine fun hl=>Wj (P:=fun us=>bindArgs _ ⟨us,[]⟩=pure (List.zip _ us)) hl ?_; intros; rfl) b_18 l_18 d_18 k_18,qD X G (fun _ _ _ _ _ _ us hl=>by revert hl; refine fun hl=>qbo (P:=fun us=>bindArgs _ ⟨us,[]⟩=pure (List.zip _ us)) hl ?_; intros; rfl) b_19 l_19 d_19 k_19,qD X G (fun _ _ _ _ _ _ us hl=>by revert hl; refine fun hl=>JT (P:=fun us=>bindArgs _ ⟨us,[]⟩=pure (List.zip _ us)) hl ?_; intros; rfl) b_20 l_20 d_20 k_20,qD X G (fun _ _ _ _ _ _ us hl=>by revert hl; refine fun hl=>JT (P:=fun us=>bindArgs _ ⟨us,[]⟩=pure (List.zip _ us)) hl ?_; intros; rfl) b_21 l_21 d_21 k_21,qD X G (fun _ _ _ _ _ _ us hl=>by revert hl; refine fun hl=>JT (P:=fun us=>bindArgs _ ⟨us,[]⟩=pure (List.zip _ us)) hl ?_; intros; rfl) b_22 l_22 d_22 k_22,qD X G (fun _ _ _ _ _ _ us hl=>by revert hl; refine fun hl=>JT (P:=fun us=>bindArgs _ ⟨us,[]⟩=pure (List.zip _ us)) hl ?_; intros; rfl) b_23 l_23 d_23 k_23,qD X G (fun _ _ _ _ _ _ us hl=>by revert hl; refine fun hl=>JT (P:=fun us=>bindArgs _ ⟨us,[]⟩=pure (List.zip _ us)) hl ?_; intros; rfl) b_24 l_24 d_24 k_24,qD X G (fun _ _ _ _ _ _ us hl=>by revert hl; refine fun hl=>Wj (P:=fun us=>bindArgs _ ⟨us,[]⟩=pure (List.zip _ us)) hl ?_; intros; rfl) b_25 l_25 d_25 k_25,qD X G (fun _ _ _ _ _ _ us hl=>by revert hl; refine fun hl=>Wj (P:=fun us=>bindArgs _ ⟨us,[]⟩=pure (List.zip _ us)) hl ?_; intros; rfl) b_26 l_26 d_26 k_26,qD X G (fun _ _ _ _ _ _ us hl=>by revert hl; refine fun hl=>JT (P:=fun us=>bindArgs _ ⟨us,[]⟩=pure (List.zip _ us)) hl ?_; intros; rfl) b_27 l_27 d_27 k_27,qD X G (fun _ _ _ _ _ _ us hl=>by revert hl; refine fun hl=>XA (P:=fun us=>bindArgs _ ⟨us,[]⟩=pure (List.zip _ us)) hl ?_; intros; rfl) b_28 l_28 d_28 k_28⟩
 have F:=Kr (st:=Qe) l_29 d_29 k_29
 exact ⟨_,fun s v=>.of_eq rfl,fun base _ _=>(Gu (P:=l.prog) (w:=w) (base:=base) Z T F).imp fun vs H Q E q=>qaW cok vs H Q E q⟩
theorem qbO {l:PySem.W.OpenLaw} {q:Program} {loose:List Str} {XP:(Str->Option Value)->Heap->Prop} {YP:World->Heap->Prop} {d:DefRec} {K:Params->Frag} (hn:l.most=some 63) (hdf:d.params.defaults=[])
  (hY:∀ (w:World) (h:Heap),YP w h->(K w.params).In h)
  (F:∀ (w:World) (mg:Str->Option Value) (fa:Addr) (h:Heap),(K w.params).In h->h.Ns mainGlobals mg->mg d.name=some (.ref fa) ->
   ∃ fd:FuncData,(∀ (s:Shared) (u:Value),BindsTo s fd ⟨[u],[]⟩ [("_law_script",u)])/\∀ base:Heap,(K w.params).In base->base.Ns mainGlobals mg->FnOk l.prog w (K w.params) mg base (CXk l.prog w) 9 fa fd ["_law_script"] (UB (K w.params))) :
  PySem.W.WalkO q loose XP YP l.row.toRowW d [] (fun f vs=>PySem.call f vs):=
 L2.Yt (n:=63) (k:=9) (x := "_law_script") (CX:=fun w=>CXk l.prog w) (sp:=fun w=>UB (K w.params)) hn (by decide) hdf ⟨rfl,by decide,by decide⟩ hY F (fun _ _ a ns hl _ hS=>⟨a,ns,rfl,hS,fun _=>rfl⟩) fun w H s e s' z=>by
  obtain ⟨ex,T,C,H',_,_,_,_,_,_,_,_,_,_,q⟩:=z
  exact q.elim
end Kx
open PySem PySem.W PyProof.Rows
set_option maxRecDepth 100000 in
set_option maxHeartbeats 0 in
theorem PySem.Challenge.cw_lookwords_k21_seen_refused_holds : PySem.Challenge.rw_lookwords_k21_seen_refused.Holds := by
  refine Kx.hd ?_
  k_fill
  refine Kx.qbO (l := PySem.Challenge.rw_lookwords_k21_seen_refused) rfl rfl (fun w h Y => PySem.W.kIn_of Y) ?F
  case F =>
    intro w mg fa h KX G hmg
    refine' Kx.Gv KX G hmg ?_ ?_ ?_ ?_ ?_ ?_ ?_ ?_ ?_ ?_ ?_ ?_ ?_ ?_ ?_ ?_ ?_ ?_ ?_ ?_ ?_ ?_ ?_ ?_ ?_ ?_ ?_ ?_ ?_ ?_ ?_ ?_ ?_ ?_ ?_ ?_ ?_ ?_ ?_ ?_ ?_ ?_ ?_ ?_ ?_ ?_ ?_ ?_ ?_ ?_ ?_ ?_ ?_ ?_ ?_ ?_ ?_ ?_ ?_ ?_ ?_ ?_ ?_ ?_ ?_ ?_ ?_ ?_ ?_ ?_ ?_ ?_ ?_ ?_ ?_ ?_ ?_ ?_ ?_ ?_ ?_ ?_ ?_ ?_ ?_ ?_ ?_ ?_ ?_ ?_ ?_ ?_ ?_ ?_ ?_ ?_ ?_ ?_ ?_ ?_ ?_ ?_ ?_ ?_ ?_ ?_ ?_ ?_ ?_ ?_ ?_ ?_ ?_ ?_ ?_ ?_ ?_ ?_ ?_ ?_ ?_ ?_ ?_ ?_ ?_ ?_ ?_ ?_ ?_ ?_ ?_ ?_ ?_ ?_ ?_ ?_ ?_ ?_ ?_ ?_ ?_ ?_ ?_ ?_ ?_ ?_ ?_ ?_ ?_ ?_ ?_ ?_ ?_ ?_ ?_
    all_goals try first | k_is | (unfold Kx.NsX; k_is) | (unfold Kx.LkX; k_is) | kernel_rfl
