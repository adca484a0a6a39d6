import PyProof.Rows.All
import KE.KTryMore
import KE.KDictOf
import KE.KItem
import PySem.Challenge.RW_lookwords_k22_whole_books
noncomputable section
open PySem.W (Frag nsIn keepIn codeIn mg_of mg_none_of)
set_option Elab.async false
set_option linter.all false
set_option maxRecDepth 100000
namespace Kx
noncomputable section
open PySem PySem.W PySem.Calls PyProof.Rows
noncomputable def zP:Pos:=⟨0,0,0,0⟩
noncomputable def anV:Option Value:=some (.ref 6)
noncomputable def hA (P:Params):List Obj:=(boot_heap P).objs.toList++[⟨.type "tuple",none,.seq #[] 0,#[]⟩,⟨.none,none,.fields #[],#[]⟩,
 ⟨.type "code",none,.fields #[.str "<module>" 182,.str "<module>" 183,.str "/claim/cut.py" 184,.int 1 0,.int 0 0,.int 0 0,.int 0 0,.int 0 0,.ref 11,.bool false,.int 181 0,.ref 12,.none,.none,.none,.none,.int 185 0,.int 1 0,.str "/claim/cut.py" 186],#[]⟩,
 ⟨.type "frame",none,.plain,#[some (.ref 13),some (.ref 3),some (.ref 3),none,some (.str "__main__" 164),none,some (.ref 0)]⟩]
noncomputable def enP (p:Program):Env:={ scope:=p.main.scope,locals:=mainNs,globals:=mainNs,cells:=[],code:=.ref 13,frame:=some 14 }
noncomputable def cdP (p:Program):Code:=.body (behindTheImports p) (enP p)
noncomputable def trA:List Obj->Nat->BT->BT
 | [],_,t=>t
 | o::l,i,t=>trA l (i+1) (t.ins i o)
noncomputable def SA (w:World) (os:OsState):SharedT:=⟨trA (hA w.params) 0 .nil,15,(boot_heap w.params).life,Array.mk [],boot_drawn,187,os⟩
noncomputable def qdA (p:Program) (w:World) (M:Nat) (os:OsState):Option (Flow×Code×Shared):=
 (segRunT treeTable p w 11 anV 1 M (SA w os) (piecesOf (behindTheImports p) (enP p) (cdP p) zP [topFrame zP])).bind fun r=>
  (topRun treeTable p w 11 anV 5 r.2.1.abs (restOf [] (enP p) (cdP p) r.2.2.2 [topFrame zP])).map fun s=>(r.1,r.2.2.1,s)
abbrev qar (p q:Program) (loose:List Str) (Xt:Shared->Bool) (w:World) (x:Flow×Code×Shared):=
 (x.1,x.2.1,(staticsOk (importedModules p.main.body) (boot_heap w.params) x.2.2.heap&&namesBound p x.2.2.heap&&gensDone x.2.2&&laidKept (boot_heap w.params) x.2.2.heap),openSeen q loose (importedModules p.main.body) Xt true x.2.2)
theorem left_T {p q:Program} {loose:List Str} {Xt:Shared->Bool} {α:Type} {Yf:Shared->α} {Ya:World->α} {N M:Nat}
  (e:opening p=plainProg p.main.scope.names) (hN:Nat.ble 600 N=true) (f:∀ s,fenceModules? p s=some s)
  (size:∀ w:World,((boot_heap w.params).isNs mainGlobals&&(Array.mk []:Array GenState).size == 0,(boot_heap w.params).objs.size,(boot_heap w.params).nsMap mainGlobals "__annotations__")=(true,11,anV))
  (pre:∀ (w:World) (os:OsState),topGo treeTable p w 11 anV 12 ⟨boot_heap w.params,Array.mk [],boot_drawn,boot_toks,os⟩ (topStub p)=some ((SA w os).abs,⟨denote treeTable (cdP p),cdP p,zP,[topFrame zP]⟩))
  (blk:∀ (w:World) (os:OsState),segRun treeTable p w 11 anV 1 1 (SA w os).abs (blockOf (behindTheImports p) (enP p) (cdP p) zP [topFrame zP])=some (.next,(SA w os).abs,cdP p,zP))
  (le:Nat.ble (12+(1+(M+5))) N=true)
  (m1:∀ (w:World) (os:OsState),(qdA p w M os).map (qar p q loose Xt w)=some (.next,cdP p,true,openGood q loose))
  (m2:∀ (w:World) (os:OsState),(qdA p w M os).map (fun x=>Yf x.2.2)=some (Ya w)):LeftO p q loose Xt Yf Ya N:=fun w=>by
 obtain ⟨⟨h,gs,d,k,os⟩,a,a'⟩:=Option.map_eq_some_iff.mp (boot_open e hN f w)
 obtain ⟨rfl,rfl,rfl,rfl⟩:h=boot_heap w.params/\gs=Array.mk []/\d=boot_drawn/\k=boot_toks:=by simpa using a'
 obtain ⟨x,hx,hl⟩:=Option.map_eq_some_iff.mp (m1 w os)
 obtain ⟨y,hy,hY⟩:=Option.map_eq_some_iff.mp (m2 w os)
 obtain rfl:y=x:=Option.some.inj (hy.symm.trans hx)
 obtain ⟨r,hr,hz⟩:=Option.bind_eq_some_iff.mp hx
 obtain ⟨s,hs,rfl⟩:=Option.map_eq_some_iff.mp hz
 obtain ⟨fl,st,co,po⟩:=r
 unfold qar at hl
 simp only [Prod.mk.injEq] at hl
 obtain ⟨rfl,rfl,l1,l2⟩:=hl
 have t1:=piece_app (rest:=[]) (segRun_of hr) hs
 rw [List.append_nil] at t1
 have t2:=piece_block (blk w os) t1
 have t3:=topRun_mono (N - (12+(1+(M+5)))) _ _ _ _ (go_top (pre w os) t2)
 rw [show 12+(1+(M+5))+(N - (12+(1+(M+5))))=N by have:=Nat.le_of_ble_eq_true le; omega] at t3
 obtain ⟨z1,z2,z3⟩:_/\_/\_:=by simpa only [Prod.mk.injEq] using size w
 have t:topFrom treeTable p w N ⟨boot_heap w.params,Array.mk [],boot_drawn,boot_toks,os⟩=some s:=by
  unfold topFrom
  dsimp only
  rw [z1,z2,z3,t3]
  show (match staticsOk (importedModules p.main.body) (boot_heap w.params) s.heap&&namesBound p s.heap&&gensDone s&&laidKept (boot_heap w.params) s.heap with | true=>_ | false=>_)=_
  rw [l1]
 unfold openEnds
 rw [a]
 show (topFrom treeTable p w N _).map _=_
 rw [t]
 exact congrArg some (Prod.ext l2 hY)
end
end Kx
noncomputable section
open PySem PySem.W PyProof.Rows
noncomputable def Kx.vq:Program:=view PySem.Challenge.pw_lookwords_k22_whole_books [0,2,3,4,5,6,7,8,10,11,12,13,14,15,16,17,18,19,20,21,22,23,24,25,26,28,29,30,31,32,34,36,37,38,39,40,41,42,43,44,45,46,47,48,49,50]
noncomputable def Kx.xt (s:Shared):Bool:=xlAt Kx.vq [] s&&recOk (RowW.records (OpenRow.toRowW (OpenLaw.row PySem.Challenge.rw_lookwords_k22_whole_books))) s
theorem Kx.m1:∀ (w:World) (os:OsState),(Kx.qdA PySem.Challenge.pw_lookwords_k22_whole_books w 15000 os).map (Kx.qar PySem.Challenge.pw_lookwords_k22_whole_books Kx.vq [] Kx.xt w)=some (.next,Kx.cdP PySem.Challenge.pw_lookwords_k22_whole_books,true,openGood Kx.vq []):=by intro w os; kernel_rfl
local macro_rules | `(tactic| o_head $H) => `(tactic| (refine holds_open (q := Kx.vq) (loose := []) (Xt := Kx.xt) (XP := XL Kx.vq []) (Yf := Hook.obs $H) (Ya := Hook.val $H) (YP := Hook.says $H) (N := 20000) ?hl (Hook.of $H) (Hook.keeps $H) (fun s e => xl_of s (Bool.and_eq_true_iff.mp e).1) XL.keeps (by rfl) (by rfl) (by rfl) (fun s e => recFacts_of (Bool.and_eq_true_iff.mp e).2) (by rfl) (by first | assumption | decide +kernel) (by decide +kernel) ⟨rfl, rfl, rfl, rfl, rfl, by decide +kernel⟩ ?hw ?hc; (case hl => refine Kx.left_T (p := PySem.Challenge.pw_lookwords_k22_whole_books) (M := 15000) ?e rfl ?f ?s ?p ?b rfl Kx.m1 ?m; (case e => kernel_rfl); (case f => intro s; kernel_rfl); (case s => intro w; kernel_rfl); (case p => intro w os; kernel_rfl); (case b => intro w os; kernel_rfl); (case m => intro w os; kernel_rfl))))
set_option maxHeartbeats 0 in
open_top Kx.hd for PySem.Challenge.rw_lookwords_k22_whole_books
end
namespace L2
open PySem PySem.Spec PyProof.Rows
abbrev Key:=Sum Int Str
noncomputable def zn:Key->Value->Bool
 | .inl k,v=>Value.isInt k v
 | .inr x,v=>Value.isStrOf x v
noncomputable def qeR (w:World):Key->Int
 | .inl k=>hashInt k
 | .inr x=>hashStr w x
theorem ja:∀ {k:Key} {v:Value},zn k v=true->(∃ i t,k=Sum.inl i/\v=Value.int i t)\/(∃ x t,k=Sum.inr x/\v=Value.str x t)
 | .inl i,v,h=>by
  obtain ⟨t,e⟩:=Value.isInt_shape (k:=i) (v:=v) h
  exact .inl ⟨i,t,rfl,e⟩
 | .inr x,v,h=>by
  obtain ⟨t,e⟩:=Value.isStrOf_shape (x:=x) (v:=v) h
  exact .inr ⟨x,t,rfl,e⟩
theorem Ql (i:Int) (t:Tok):zn (.inl i) (.int i t)=true:=by simp [zn,Value.isInt]
theorem Qm (x:Str) (t:Tok):zn (.inr x) (.str x t)=true:=by simp [zn,Value.isStrOf]
theorem qbN (a b:Int):decide ((Sum.inl a:Key)=Sum.inl b)=(a == b):=by
 by_cases e:a=b
 ·subst e; simp
 ·have h:¬(Sum.inl a:Key)=Sum.inl b:=fun q=>e (Sum.inl.inj q)
  rw [decide_eq_false h]
  exact (beq_eq_false_iff_ne.mpr e).symm
theorem qbO (a b:Str):decide ((Sum.inr a:Key)=Sum.inr b)=decide (a=b):=by
 by_cases e:a=b
 ·subst e; simp
 ·have h:¬(Sum.inr a:Key)=Sum.inr b:=fun q=>e (Sum.inr.inj q)
  rw [decide_eq_false h,decide_eq_false e]
theorem qbP (a:Int) (b:Str):decide ((Sum.inl a:Key)=Sum.inr b)=false:=decide_eq_false (fun q=>nomatch q)
theorem qbQ (a:Str) (b:Int):decide ((Sum.inr a:Key)=Sum.inl b)=false:=decide_eq_false (fun q=>nomatch q)
noncomputable def jb (prog:Program) (w:World):PySem.KeyKind prog w Key where
 is:=zn
 hash:=qeR w
 inj:=fun v a b ha hb=>by
  rcases ja ha with ⟨i,t,rfl,rfl⟩ | ⟨x,t,rfl,rfl⟩
  ·rcases ja hb with ⟨j,u,rfl,e⟩ | ⟨y,u,rfl,e⟩
   ·injection e with e1 _; rw [e1]
   ·exact nomatch e
  ·rcases ja hb with ⟨j,u,rfl,e⟩ | ⟨y,u,rfl,e⟩
   ·exact nomatch e
   ·injection e with e1 _; rw [e1]
 byValue:=fun k v h=>by
  rcases ja h with ⟨i,t,rfl,rfl⟩ | ⟨x,t,rfl,rfl⟩ <;> rfl
 pyHash:=fun hv h=>by
  rcases ja hv with ⟨i,t,rfl,rfl⟩ | ⟨x,t,rfl,rfl⟩
  ·exact wpAny_pyHash_int h
  ·exact wpAny_pyHash_str h
 eqBool:=fun hu hv h=>by
  rcases ja hu with ⟨i,t,rfl,rfl⟩ | ⟨x,t,rfl,rfl⟩
  ·rcases ja hv with ⟨j,u,rfl,rfl⟩ | ⟨y,u,rfl,rfl⟩
   ·rw [qbN] at h; exact wpAny_eqBool_int h
   ·rw [qbP] at h; exact SeqAt.EqAt.int_str i t y u _ _ _ _ h
  ·rcases ja hv with ⟨j,u,rfl,rfl⟩ | ⟨y,u,rfl,rfl⟩
   ·rw [qbQ] at h; exact SeqAt.EqAt.str_int x t j u _ _ _ _ h
   ·rw [qbO] at h; exact wpAny_eqBool_str h
 «strs»:=fun k x t v h=>by
  rcases ja h with ⟨i,u,rfl,e⟩ | ⟨y,u,rfl,e⟩
  ·exact nomatch e
  ·injection e with e1 _
   subst e1
   cases v <;> rfl
theorem JG (prog:Program) (w:World) (i:Int) (t:Tok):(jb prog w).is (.inl i) (.int i t)=true:=Ql i t
theorem JH (prog:Program) (w:World) (x:Str) (t:Tok):(jb prog w).is (.inr x) (.str x t)=true:=Qm x t
inductive V where
 | non | bl (b:Bool) | int (i:Int) | str (x:Str) | byt (b:Array UInt8) | flt (b:UInt64) | ref (a:Addr) | ty (n:String)
 deriving DecidableEq
def RelV:V->Value->Prop
 | .non,u=>u=Value.none
 | .bl b,u=>u=Value.bool b
 | .int i,u=>∃ t,u=Value.int i t
 | .str x,u=>∃ t,u=Value.str x t
 | .byt b,u=>∃ t,u=Value.bytes b t
 | .flt b,u=>∃ t,u=Value.float b t
 | .ref a,u=>u=Value.ref a
 | .ty n,u=>u=Value.type n
abbrev Vals:List V->List Value->Prop:=Paired RelV
theorem Vals.length {xs:List V} {us:List Value} (r:Vals xs us):xs.length=us.length:=Paired.length r
theorem Vals.get:∀ {xs:List V} {us:List Value} {i:Nat} {x:V},Vals xs us->xs[i]?=some x->∃ u,us[i]?=some u/\RelV x u
 | _,_,_,_,.nil,e=>by simp at e
 | _,_,0,_,.cons r _,e=>by simp at e; subst e; exact ⟨_,rfl,r⟩
 | _,_,i+1,x,.cons _ t,e=>by
  obtain ⟨u,h1,h2⟩:=Vals.get (i:=i) (x:=x) t (by simpa using e)
  exact ⟨u,by simpa using h1,h2⟩
theorem Vals.set {x:V} {u:Value} (r:RelV x u):∀ {xs:List V} {us:List Value} (i:Nat),Vals xs us->Vals (xs.set i x) (us.set i u)
 | _,_,_,.nil=>.nil
 | _,_,0,.cons _ t=>.cons r t
 | _,_,i+1,.cons q t=>.cons q (Vals.set r i t)
theorem Vals.append:∀ {xs ys:List V} {us ws:List Value},Vals xs us->Vals ys ws->Vals (xs++ys) (us++ws)
 | _,_,_,_,.nil,s=>s
 | _,_,_,_,.cons r t,s=>.cons r (Vals.append t s)
theorem Vals.take:∀ {xs:List V} {us:List Value} (n:Nat),Vals xs us->Vals (xs.take n) (us.take n)
 | _,_,0,_=>.nil
 | _,_,_+1,.nil=>.nil
 | _,_,n+1,.cons r t=>.cons r (Vals.take n t)
def RelO:Option V->Option Value->Prop
 | some v,some u=>RelV v u
 | none,none=>True
 | _,_=>False
def KV {κ:Type}:List (κ×V)->List (κ×Value)->Prop:=Paired fun (p:κ×V) (q:κ×Value)=>p.1=q.1/\RelV p.2 q.2
noncomputable def kV:Key->V
 | .inl i=>.int i
 | .inr x=>.str x
inductive HO where
 /-- a list -/
 | lst (xs:List V)
 /-- a tuple (never changes) -/
 | tup (xs:List V)
 /-- a dict whose keys are ints and texts; one whose keys are tuples of ints and texts (the empty one is both) -/
 | dK (kvs:List (Key×V)) | dT (kvs:List (List Key×V))
 /-- a set of ints: its members,its size -/
 | set (S:Int->Bool) (n:Nat)
 /-- an instance of the class at C,its dict at dx,its attributes -/
 | ins (C dx:Addr) (fs:List (Str×V))
 /-- the dict of the instance at x -/
 | own (x:Addr)
 /-- the dict of an exception -/
 | xd (fs:List (Str×V))
 /-- a bound method,f of x -/
 | met (f x:Addr)
 /-- a range object lo,lo+1,.. below hi -/
 | rng (lo hi:Int)
 /-- a thing that is known to the object (the script; a dict while a loop walks it): read,never written while it is so -/
 | frz (o:Obj) (u:HO)
 /-- a code object's table -/
 | tbl (ps:Array Value)
 /-- any other thing,by what is true of its one object (a def of one's own: SetO a S n:=HO.ext fun h=>..) -/
 | ext (φ:Heap->Prop)
abbrev Hp:=Addr->Option HO
noncomputable def upd (H:Hp) (a:Addr) (o:HO):Hp:=fun b=>if b=a then some o else H b
theorem qm {H:Hp} {a:Addr} {o:HO}:upd H a o a=some o:=by unfold upd; rw [if_pos rfl]
theorem qo {H:Hp} {a b:Addr} {o:HO} (h:b≠a):upd H a o b=H b:=by unfold upd; rw [if_neg h]
theorem qx {H:Hp} {a b:Addr} {o:HO} (h:H a=some o) (h':H b=none):a≠b:=by
 intro e; subst e; rw [h] at h'; cases h'
section
variable (P:Program) (w:World)
def ObjOk (H:Hp) (h:Heap) (a:Addr):HO->Prop
 | .lst xs=>xs.length<=sizeLine/\∃ (its:List Value) (n:Nat),Vals xs its/\h.get? a=some { cls:=.type "list",data:=.seq its.toArray n }
 | .tup xs=>(xs.length<=sizeLine/\∃ o,h.get? a=some o/\o.dict=none)/\∃ its:List Value,Vals xs its/\IsTup h a its.toArray
 | .dK kvs=>kvs.length<=sizeLine/\(a == sysModules)=false/\∃ vs,KV kvs vs/\h.DictOf (jb P w) a vs
 | .dT kvs=>kvs.length<=sizeLine/\(a == sysModules)=false/\∃ xs:List (List Key×Addr×Value),
   Paired (fun (p:List Key×V) (q:List Key×Addr×Value)=>p.1=q.1/\H q.2.1=some (.tup (p.1.map kV))/\RelV p.2 q.2.2) kvs xs /\
   ∃ o es ep,h.get? a=some o/\o.ExactDict/\o.data=.dict es ep/\es.toList=xs.map (entryOfKey (tupleKind (jb P w)))/\(xs.map (·.1)).Nodup
 | .set S n=>h.SetOf (intKind P w) a S n
 | .ins C dx fs=>H dx=some (.own a)/\fs.length<=1000/\dx≠a/\h.get? a=some (PySem.W.instObj C dx) /\
   ∃ mA,h.Ns1 dx mA/\(∀ f,RelO (fs.lookup f) (mA f))/\PySem.Within mA (fs.map (·.1))
 | .own _=>∃ o,h.get? a=some o
 | .xd fs=>∃ mA,h.Ns1 a mA/\∀ f,RelO (fs.lookup f) (mA f)
 | .rng lo hi=>∃ t u v,h.get? a=some { cls:=.type "range",data:=.fields #[.int lo t,.int hi u,.int 1 v] }
 | .frz o u=>h.get? a=some o/\ObjOk H h a u
 | .tbl ps=>h.get? a=some { cls:=.none,data:=.fields ps }
 | .met f x=>h.get? a=some (PySem.W.methodObj (.ref f) (.ref x))
 | .ext φ=>φ h/\(∃ o,h.get? a=some o)/\∀ h1 h2:Heap,φ h1->(∀ o,h1.get? a=some o->h2.get? a=some o)->φ h2
def HOk (H:Hp) (h:Heap):Prop:=∀ a o,H a=some o->ObjOk P w H h a o
end
section
variable {P:Program} {w:World} {H H':Hp} {h h':Heap} {a:Addr} {o:HO}
theorem ObjOk.lt (x:ObjOk P w H h a o):a < h.objs.size:=by
 cases o with
 | lst xs=>obtain ⟨_,_,_,_,e⟩:=x; exact Heap.lt_size e
 | tup xs=>obtain ⟨_,_,_,p⟩:=x; exact p.lt
 | dK kvs=>obtain ⟨_,_,_,_,o,_,_,e,_⟩:=x; exact Heap.lt_size e
 | dT kvs=>obtain ⟨_,_,_,_,o,_,_,e,_⟩:=x; exact Heap.lt_size e
 | set S n=>obtain ⟨o,_,_,_,e,_⟩:=x; exact Heap.lt_size e
 | ins C dx fs=>obtain ⟨_,_,_,e,_⟩:=x; exact Heap.lt_size e
 | own y=>obtain ⟨_,e⟩:=x; exact Heap.lt_size e
 | xd fs=>obtain ⟨_,⟨_,_,_,e,_⟩,_⟩:=x; exact Heap.lt_size e
 | rng lo hi=>obtain ⟨_,_,_,e⟩:=x; exact Heap.lt_size e
 | frz ob u=>obtain ⟨e,_⟩:=x; exact Heap.lt_size e
 | tbl ps=>exact Heap.lt_size (show h.get? a=some _ from x)
 | met f y=>exact Heap.lt_size (show h.get? a=some _ from x)
 | ext φ=>obtain ⟨_,⟨_,e⟩,_⟩:=x; exact Heap.lt_size e
theorem Paired.mapP {α β:Type} {F G:α->β->Prop}:∀ {l₁:List α} {l₂:List β},Paired F l₁ l₂->(∀ a b,F a b->G a b)->Paired G l₁ l₂
 | _,_,.nil,_=>.nil
 | _,_,.cons r t,f=>.cons (f _ _ r) (Paired.mapP t f)
theorem ObjOk.stay (x:ObjOk P w H h a o) (k:∀ b u,(b=a\/H b=some (.own a))->h.get? b=some u->h'.get? b=some u)
  (ho:∀ b,H b=some (.own a)->H' b=some (.own a)) (ht:∀ b xs,H b=some (.tup xs)->H' b=some (.tup xs)):ObjOk P w H' h' a o:=by
 induction o with
 | lst xs=>obtain ⟨z,its,n,r,e⟩:=x; exact ⟨z,its,n,r,k _ _ (.inl rfl) e⟩
 | tup xs=>obtain ⟨⟨z,o2,e2,d2⟩,its,r,ob,e,c⟩:=x; exact ⟨⟨z,o2,k _ _ (.inl rfl) e2,d2⟩,its,r,ob,k _ _ (.inl rfl) e,c⟩
 | dK kvs=>obtain ⟨z,y,vs,r,ob,es,ep,e,c⟩:=x; exact ⟨z,y,vs,r,ob,es,ep,k _ _ (.inl rfl) e,c⟩
 | dT kvs=>
  obtain ⟨z,y,xs,r,ob,es,ep,e,c⟩:=x
  exact ⟨z,y,xs,Paired.mapP r fun p q z=>⟨z.1,ht _ _ z.2.1,z.2.2⟩,ob,es,ep,k _ _ (.inl rfl) e,c⟩
 | set S n=>obtain ⟨ob,es,ep,t,e,c⟩:=x; exact ⟨ob,es,ep,t,k _ _ (.inl rfl) e,c⟩
 | ins C dx fs=>
  obtain ⟨d,z,ne,e,mA,⟨od,es,ep,e2,c⟩,r⟩:=x
  exact ⟨ho _ d,z,ne,k _ _ (.inl rfl) e,mA,⟨od,es,ep,k _ _ (.inr d) e2,c⟩,r⟩
 | own y=>obtain ⟨ob,e⟩:=x; exact ⟨ob,k _ _ (.inl rfl) e⟩
 | xd fs=>obtain ⟨mA,⟨od,es,ep,e,c⟩,r⟩:=x; exact ⟨mA,⟨od,es,ep,k _ _ (.inl rfl) e,c⟩,r⟩
 | rng lo hi=>obtain ⟨t,u,v,e⟩:=x; exact ⟨t,u,v,k _ _ (.inl rfl) e⟩
 | frz ob u ih=>obtain ⟨e,q⟩:=x; exact ⟨k _ _ (.inl rfl) e,ih q⟩
 | tbl ps=>
  have e:h.get? a=some { cls:=.none,data:=.fields ps }:=x
  show h'.get? a=some { cls:=.none,data:=.fields ps }
  exact k a _ (.inl rfl) e
 | met f y=>
  have e:h.get? a=some (PySem.W.methodObj (.ref f) (.ref y)):=x
  show h'.get? a=some (PySem.W.methodObj (.ref f) (.ref y))
  exact k a _ (.inl rfl) e
 | ext φ=>obtain ⟨p,⟨o,e⟩,st⟩:=x; exact ⟨st _ _ p fun o q=>k _ _ (.inl rfl) q,⟨o,k _ _ (.inl rfl) e⟩,st⟩
theorem HOk.lt (x:HOk P w H h) (e:H a=some o):a < h.objs.size:=(x a o e).lt
theorem HOk.fresh (x:HOk P w H h) (e:h.objs.size<=a):H a=none:=by
 cases q:H a with
 | none=>rfl
 | some u=>exact absurd (Nat.lt_of_lt_of_le (x.lt q) e) (Nat.lt_irrefl _)
theorem HOk.kept (x:HOk P w H h) (k:∀ b u,h.get? b=some u->h'.get? b=some u):HOk P w H h':=fun a o e=>
 (x a o e).stay (fun b u _ q=>k b u q) (fun _ q=>q) fun _ _ q=>q
theorem HOk.laid (x:HOk P w H h) (k:∀ b u,h.get? b=some u->h'.get? b=some u) (hp:h.objs.size<=a) (new:ObjOk P w (upd H a o) h' a o):HOk P w (upd H a o) h':=fun b u e=>by
 have hn:=x.fresh hp
 by_cases hb:b=a
 ·subst hb; rw [qm] at e; cases e; exact new
 ·rw [qo hb] at e
  exact (x b u e).stay (fun c v _ q=>k c v q) (fun c q=>by rw [qo (qx q hn)]; exact q) fun c xs q=>by rw [qo (qx q hn)]; exact q
end
def Rd (H:Hp) (a:Addr) (u:HO):Prop:=H a=some u\/∃ o,H a=some (.frz o u)
theorem Rd.ok {P:Program} {w:World} {H:Hp} {h:Heap} {a:Addr} {u:HO} (r:Rd H a u) (x:HOk P w H h):ObjOk P w H h a u:=by
 rcases r with r | ⟨o,r⟩
 ·exact x a u r
 ·obtain ⟨_,q⟩:=x a _ r
  exact q
def Mut:Option HO->Prop
 | some (.lst _)=>True
 | some (.dK _)=>True
 | some (.dT _)=>True
 | some (.set _ _)=>True
 | some (.ins _ _ _)=>True
 | some (.ext _)=>True
 | _=>False
section
variable {P:Program} {w:World} {H:Hp} {h h':Heap} {x e:Addr} {o':HO}
theorem HOk.write (ok:HOk P w H h) (mu:Mut (H x)) (he:e=x\/H e=some (.own x)) (k:∀ b u,b≠e->h.get? b=some u->h'.get? b=some u) (heo:∃ u,h'.get? e=some u)
  (new:ObjOk P w (upd H x o') h' x o'):HOk P w (upd H x o') h':=fun b u q=>by
 have nown:∀ c y,H c=some (.own y)->c≠x:=fun c y r z=>by subst z; rw [r] at mu; exact mu
 have ntup:∀ c xs,H c=some (.tup xs)->c≠x:=fun c xs r z=>by subst z; rw [r] at mu; exact mu
 by_cases hb:b=x
 ·subst hb; rw [qm] at q; cases q; exact new
 ·rw [qo hb] at q
  by_cases hbe:b=e
  ·have q':H b=some (.own x):=by
    rcases he with z | z
    ·exact absurd (hbe.trans z) hb
    ·rw [hbe]; exact z
   rw [q] at q'; cases q'
   obtain ⟨v,hv⟩:=heo
   exact ⟨v,by rw [hbe]; exact hv⟩
  ·refine (ok b u q).stay (fun c v hc r=>k c v ?_ r) (fun c r=>by rw [qo (nown c b r)]; exact r) fun c xs r=>by rw [qo (ntup c xs r)]; exact r
   rcases hc with rfl | hc
   ·exact hbe
   ·rintro rfl
    rcases he with z | z
    ·exact nown c b hc z
    ·rw [hc] at z; cases z; exact hb rfl
end
structure Un (fs ex:List Addr) (H H':Hp) (h h':Heap):Prop where
 keep:∀ b o,h.get? b=some o->H b=none->b∉fs->b∉ex->h'.get? b=some o
 slot:∀ b o,h.get? b=some o->H b=none->b∈fs->b∉ex->∃ sl,h'.get? b=some { o with slots:=sl }
 free:∀ b o,h.get? b=some o->H b=none->b∉ex->H' b=none
 there:∀ b o,h.get? b=some o->b∉ex->∃ o',h'.get? b=some o'
 tups:∀ b xs,H b=some (.tup xs)->H' b=some (.tup xs)
 frzs:∀ b o u,H b=some (.frz o u)->H' b=some (.frz o u)
 tbls:∀ b ps,H b=some (.tbl ps)->∃ more,H' b=some (.tbl (ps++more))
section
variable {fs fs' ex ex':List Addr} {H H1 H2:Hp} {h h1 h2 h':Heap} {a x e:Addr} {o:HO}
theorem Un.any (u:Un fs ex H H1 h h1) {b:Addr} {ob:Obj} (q:h.get? b=some ob) (n:H b=none) (hx:b∉ex):∃ sl,h1.get? b=some { ob with slots:=sl }:=by
 by_cases hb:b∈fs
 ·exact u.slot b ob q n hb hx
 ·exact ⟨ob.slots,u.keep b ob q n hb hx⟩
theorem Un.kept (k:∀ b u,h.get? b=some u->h'.get? b=some u):Un fs ex H H h h':=
 ⟨fun b ob q _ _ _=>k b ob q,fun b ob q _ _ _=>⟨ob.slots,k b ob q⟩,fun _ _ _ n _=>n,fun b ob q _=>⟨ob,k b ob q⟩,fun _ _ q=>q,fun _ _ _ q=>q,fun _ ps q=>⟨#[],by rw [q]; simp⟩⟩
theorem Un.refl:Un fs ex H H h h:=Un.kept fun _ _ q=>q
theorem Un.laid (k:∀ b u,h.get? b=some u->h'.get? b=some u) (hp:h.objs.size<=a) (hn:H a=none):Un fs ex H (upd H a o) h h' where
 keep:=fun b u q _ _ _=>k b u q
 slot:=fun b u q _ _ _=>⟨u.slots,k b u q⟩
 free:=fun b u q n _=>by rw [qo (Nat.ne_of_lt (Nat.lt_of_lt_of_le (Heap.lt_size q) hp))]; exact n
 there:=fun b u q _=>⟨u,k b u q⟩
 tups:=fun b xs q=>by rw [qo (qx q hn)]; exact q
 frzs:=fun b u xs q=>by rw [qo (qx q hn)]; exact q
 tbls:=fun b ps q=>⟨#[],by rw [qo (qx q hn),q]; simp⟩
theorem Un.write (mu:Mut (H x)) (he:e=x\/H e=some (.own x)) (k:∀ b u,b≠e->h.get? b=some u->h'.get? b=some u) (heo:∃ u,h'.get? e=some u):Un fs ex H (upd H x o) h h':=by
 have hx:∀ b,H b=none->b≠x:=fun b n z=>by subst z; rw [n] at mu; exact mu
 have hb:∀ b,H b=none->b≠e:=fun b n z=>by
  subst z
  rcases he with r | r
  ·exact hx b n r
  ·rw [n] at r; cases r
 have hm:∀ b u,H b=some u->¬Mut (some u)->b≠x:=fun b u q nm z=>by subst z; rw [q] at mu; exact nm mu
 refine ⟨fun b u q n _ _=>k b u (hb b n) q,fun b u q n _ _=>⟨u.slots,k b u (hb b n) q⟩,fun b u q n _=>by rw [qo (hx b n)]; exact n,fun b u q _=>?_,
  fun b xs q=>by rw [qo (hm b _ q fun z=>z)]; exact q,fun b u xs q=>by rw [qo (hm b _ q fun z=>z)]; exact q,fun b ps q=>⟨#[],by rw [qo (hm b _ q fun z=>z),q]; simp⟩⟩
 by_cases hbe:b=e
 ·subst hbe; exact heo
 ·exact ⟨u,k b u hbe q⟩
end
noncomputable def trk (h:Heap) (H:Hp):List Addr:=(List.range h.objs.size).filter fun a=>(H a).isSome
noncomputable def XQ (h:Heap) (H:Hp):Heap:=PySem.W.hideAll h (trk h H)
theorem WY (h:Heap) (H:Hp):(XQ h H).objs.size=h.objs.size:=PySem.W.hideAll_size _ _
theorem XR {h:Heap} {H:Hp} {b:Addr} {o:Obj} (e:h.get? b=some o) (n:H b=none):(XQ h H).get? b=some o:=
 PySem.W.hideAll_get _ e fun hm=>by
  have q:(H b).isSome=true:=(List.mem_filter.mp hm).2
  rw [n] at q; simp at q
theorem qas {h:Heap} {H:Hp} {b:Addr} {o:Obj} (e:(XQ h H).get? b=some o):h.get? b=some o/\H b=none:=by
 have e':h.get? b=some o:=PySem.W.of_hideAll (trk h H) e
 refine ⟨e',?_⟩
 cases q:H b with
 | none=>rfl
 | some x=>
  have hm:b∈trk h H:=List.mem_filter.mpr ⟨List.mem_range.mpr (Heap.lt_size e'),by simp [q]⟩
  have z:(XQ h H).get? b=none:=PySem.W.hideAll_none (trk h H) hm
  rw [z] at e; cases e
noncomputable def qat (g h:Heap) (L:Addr):List (Addr×Obj):=(List.range h.objs.size).filterMap fun a=>if a=L\/(g.get? a).isSome=true then none else (h.get? a).map fun o=>(a,o)
noncomputable def rest (g h:Heap) (L d:Addr):List (Addr×Obj):=(qat g h L).filter fun p=>decide (p.1≠d)
structure Mod (K:Frag) (mg:Str->Option Value) (base:Heap):Prop where
 kin:K.In base
 glob:base.Ns mainGlobals mg
 blt:∃ mb,base.Ns builtinsNs mb/\∀ x:Str,x ≠ "__name__"->mb x=bootBuiltins x
 nolimit:base.NoLimit
structure Cx where
 prog:Program
 w:World
 K:Frag
 mg:Str->Option Value
 base:Heap
 A:Around
 N:List Str
 s₀:Shared
 H₀:Hp
 env:Env
 outer:List Env
 stack:List Env
 ex:List Addr
 fn:Str->Bool
 calm:Bool
 pn:List (Addr×Obj)
 xe:Value->Shared->Prop
noncomputable def frs (l:List Env):List Addr:=l.filterMap (·.frame)
abbrev Cx.fs (X:Cx):List Addr:=frs X.outer
def Vis (sc:Scope) (x:Str):Prop:=sc.names.lookup x=some .local\/sc.names.lookup x=some .cell\/sc.names.lookup x=some .free
def Loc (sc:Scope) (x:Str):Prop:=sc.names.lookup x=some .local\/sc.names.lookup x=some .cell
def Wn (env:Env) (h:Heap) (m:Str->Option Value) (x:Str) (u:Value):Prop:=
 (env.kindOf x=some .local/\m x=some u)\/((env.kindOf x=some .cell\/env.kindOf x=some .free)/\∃ c,env.cells.lookup x=some c/\h.IsCell c (some u))
structure Cx.Ok (X:Cx):Prop where
 mod:Mod X.K X.mg X.base
 kind:X.env.scope.kind=.function
 glob:X.env.globals=mainGlobals
 blt:X.env.builtins=builtinsNs
 above:X.s₀.heap.objs.size<=X.env.locals
 inj:∀ x y c,X.env.cells.lookup x=some c->X.env.cells.lookup y=some c->x=y
 has:∀ x,(X.env.kindOf x=some .cell\/X.env.kindOf x=some .free)->∃ c,X.env.cells.lookup x=some c
 cab:∀ x c,X.fn x=true->X.env.cells.lookup x=some c->X.s₀.heap.objs.size<=c
 hd:X.calm=true->X.A.handled=none
 frames:X.A.frames=some X.stack
 stk:X.stack=X.outer\/(X.stack=X.env::X.outer/\X.env.frame=some X.env.locals)
 exf:∀ b∈X.ex,b≠X.env.locals/\∀ x c,X.env.cells.lookup x=some c->c≠b
 bs:∀ b o,X.base.get? b=some o->X.s₀.heap.get? b=some o/\X.H₀ b=none
 bsz:X.base.objs.size<=X.s₀.heap.objs.size
 noex:∀ b o,X.base.get? b=some o->b∉X.ex
 exfs:∀ b∈X.ex,b∉X.fs
 funs:X.s₀.heap.FunFrames X.base X.outer
 frf:∀ b∈X.fs,X.H₀ b=none
structure Inv (X:Cx) (pins:List (Addr×Obj)) (σ:List (Option V)) (H:Hp) (s:Shared):Prop where
 ok:X.Ok
 os:s.os=X.s₀.os
 bare:AllBare s.gens
 base:Un X.fs X.ex X.H₀ H X.s₀.heap s.heap
 loc:∃ m,s.heap.Ns X.env.locals m/\∀ (i:Nat) (x:Str) (v:V),X.N[i]?=some x->σ[i]?=some (some v)->Vis X.env.scope x->∃ u,RelV v u/\Wn X.env s.heap m x u
 cell:∀ x c,X.env.cells.lookup x=some c->∃ v,s.heap.IsCell c v
 free:H X.env.locals=none
 freeC:∀ x c,X.env.cells.lookup x=some c->H c=none
 pin:∀ p∈X.pn++pins,s.heap.get? p.1=some p.2/\H p.1=none/\p.1≠X.env.locals/\p.1∉X.fs/\∀ v,p.2.data≠.cell v
 hok:HOk X.prog X.w H s.heap
 len:σ.length=X.N.length
section
variable {X:Cx} {pins:List (Addr×Obj)} {σ:List (Option V)} {H H':Hp} {s:Shared} {h':Heap}
theorem Cx.Ok.nofr (ok:X.Ok) {b:Addr} {o:Obj} (e:X.base.get? b=some o):b∉X.fs:=fun hb=>by
 have:=(ok.funs.mem hb).1
 rw [e] at this; cases this
theorem Inv.bs (I:Inv X pins σ H s):∀ b o,X.base.get? b=some o->s.heap.get? b=some o/\H b=none:=fun b o e=>
 ⟨I.base.keep b o (I.ok.bs b o e).1 (I.ok.bs b o e).2 (I.ok.nofr e) (I.ok.noex b o e),I.base.free b o (I.ok.bs b o e).1 (I.ok.bs b o e).2 (I.ok.noex b o e)⟩
theorem Inv.bk (I:Inv X pins σ H s):∀ b o,X.base.get? b=some o->s.heap.get? b=some o:=fun b o e=>(I.bs b o e).1
theorem Inv.mod (I:Inv X pins σ H s):Mod X.K X.mg X.base:=I.ok.mod
theorem Inv.kIn (I:Inv X pins σ H s):X.K.In s.heap:=I.ok.mod.kin.keeps I.bk
theorem Inv.nolimit (I:Inv X pins σ H s):s.heap.NoLimit:=I.ok.mod.nolimit.keeps I.bk
theorem Inv.fr (I:Inv X pins σ H s):∃ m,Fr X.base X.env.locals s.heap m:=
 let ⟨m,hn,_⟩:=I.loc
 ⟨m,hn,I.bk,Nat.le_trans I.ok.bsz I.ok.above⟩
theorem Inv.lt (I:Inv X pins σ H s):X.env.locals < s.heap.objs.size:=let ⟨_,hn,_⟩:=I.loc; hn.lt
theorem Inv.sz (I:Inv X pins σ H s):X.s₀.heap.objs.size<=s.heap.objs.size:=Nat.le_trans I.ok.above (Nat.le_of_lt I.lt)
theorem Inv.nofs (I:Inv X pins σ H s) {a:Addr} (h:s.heap.objs.size<=a):a∉X.fs:=fun hb=>by
 obtain ⟨_,o,ho,_⟩:=I.ok.funs.mem hb
 exact absurd (Nat.lt_of_lt_of_le (Heap.lt_size ho) (Nat.le_trans I.sz h)) (Nat.lt_irrefl _)
theorem Inv.cne (I:Inv X pins σ H s):∀ x c,X.env.cells.lookup x=some c->c≠X.env.locals:=fun x c e z=>by
 obtain ⟨v,o,ho,hd⟩:=I.cell x c e
 obtain ⟨m,⟨o',es,ep,ho',hd',_⟩,_⟩:=I.loc
 rw [z,ho'] at ho; cases ho; rw [hd'] at hd; cases hd
theorem Inv.funs (I:Inv X pins σ H s):s.heap.FunFrames X.base X.outer:=by
 have all:∀ (l:List Env),(∀ b∈frs l,b∈X.fs)->X.s₀.heap.FunFrames X.base l->s.heap.FunFrames X.base l:=by
  intro l
  induction l with
  | nil=>intro _ _; trivial
  | cons env r ih=>
   intro hs hl
   obtain ⟨hk,⟨L,o,hf,hn,ho,hd⟩,hr⟩:=hl
   have hL:L∈X.fs:=hs L (by unfold frs; rw [List.filterMap_cons,hf]; exact List.mem_cons_self)
   obtain ⟨sl,e⟩:=I.base.slot L o ho (I.ok.frf L hL) hL fun z=>I.ok.exfs L z hL
   exact ⟨hk,⟨L,_,hf,hn,e,hd⟩,ih (fun b hb=>hs b (by unfold frs; rw [List.filterMap_cons,hf]; exact List.mem_cons_of_mem _ hb)) hr⟩
 exact all X.outer (fun _ hb=>hb) I.ok.funs
theorem Inv.stack (I:Inv X pins σ H s):s.heap.FunFrames X.base X.stack:=by
 rcases I.ok.stk with e | ⟨e,hf⟩
 ·rw [e]; exact I.funs
 ·rw [e]
  obtain ⟨m,hn,_⟩:=I.loc
  refine .cons (by rw [I.ok.kind]; decide) hf hn ?_ I.funs
  exact Heap.get?_none_of_le (Nat.le_trans I.ok.bsz I.ok.above)
theorem Inv.stkSub (I:Inv X pins σ H s):∀ b∈frs X.stack,b∈X.env.locals::X.fs:=fun b hb=>by
 rcases I.ok.stk with e | ⟨e,hf⟩
 ·rw [e] at hb; exact List.mem_cons_of_mem _ hb
 ·rw [e] at hb
  unfold frs at hb
  rw [List.filterMap_cons,hf] at hb
  exact hb
theorem Inv.stkFree (I:Inv X pins σ H s):∀ b∈frs X.stack,H b=none:=fun b hb=>by
 rcases List.mem_cons.mp (I.stkSub b hb) with e | hb
 ·rw [e]; exact I.free
 ·obtain ⟨_,o,ho,_⟩:=I.ok.funs.mem hb
  exact I.base.free b o ho (I.ok.frf b hb) fun z=>I.ok.exfs b z hb
theorem Inv.step {g':Array GenState} {t':Nat} {d':Drawn} {ch:List Addr} (I:Inv X pins σ H s)
  (hch:∀ b∈ch,(b∈X.ex\/X.s₀.heap.objs.size<=b)/\b≠X.env.locals/\(∀ x c,X.env.cells.lookup x=some c->c≠b)/\∀ p∈X.pn++pins,p.1≠b)
  (keep:∀ b o,b≠X.env.locals->b∉X.fs->b∉ch->s.heap.get? b=some o->H b=none->h'.get? b=some o)
  (slot:∀ b o,b≠X.env.locals->b∈X.fs->b∉ch->s.heap.get? b=some o->H b=none->∃ sl,h'.get? b=some { o with slots:=sl }) (free:∀ b o,b∉ch->s.heap.get? b=some o->H b=none->H' b=none)
  (there:∀ b o,b∉ch->s.heap.get? b=some o->∃ o',h'.get? b=some o')
  (tups:∀ b xs,H b=some (.tup xs)->H' b=some (.tup xs)) (frzs:∀ b o u,H b=some (.frz o u)->H' b=some (.frz o u)) (tbls:∀ b ps,H b=some (.tbl ps)->∃ more,H' b=some (.tbl (ps++more)))
  (ns:∀ m,s.heap.Ns X.env.locals m->h'.Ns X.env.locals m) (hok:HOk X.prog X.w H' h') (hg:AllBare g') :
  Inv X pins σ H' { s with heap:=h',gens:=g',drawn:=d',toks:=t' }:=by
 have neL:∀ b o,X.s₀.heap.get? b=some o->b≠X.env.locals:=fun b o e=>Nat.ne_of_lt (Nat.lt_of_lt_of_le (Heap.lt_size e) I.ok.above)
 have neC:∀ b o,X.s₀.heap.get? b=some o->b∉X.ex->b∉ch:=fun b o e hx hb=>by
  rcases (hch b hb).1 with z | z
  ·exact hx z
  ·exact absurd (Nat.lt_of_lt_of_le (Heap.lt_size e) z) (Nat.lt_irrefl _)
 have cellK:∀ x c,X.env.cells.lookup x=some c->∀ v,s.heap.IsCell c v->h'.IsCell c v:=fun x c e v ⟨o,ho,hd⟩=>by
  have nch:c∉ch:=fun z=>(hch c z).2.2.1 x c e rfl
  by_cases hc:c∈X.fs
  ·obtain ⟨sl,q⟩:=slot c o (I.cne x c e) hc nch ho (I.freeC x c e)
   exact ⟨_,q,hd⟩
  ·exact ⟨o,keep c o (I.cne x c e) hc nch ho (I.freeC x c e),hd⟩
 refine ⟨I.ok,I.os,hg,⟨fun b o e n hb hx=>?_,fun b o e n hb hx=>?_,fun b o e n hx=>?_,fun b o e hx=>?_,fun b xs e=>tups b xs (I.base.tups b xs e),fun b o xs e=>frzs b o xs (I.base.frzs b o xs e),fun b ps e=>?_⟩,?_,fun x c e=>?_,?_,fun x c e=>?_,fun p hp=>?_,hok,I.len⟩
 ·exact keep b o (neL b o e) hb (neC b o e hx) (I.base.keep b o e n hb hx) (I.base.free b o e n hx)
 ·obtain ⟨sl,e1⟩:=I.base.slot b o e n hb hx
  obtain ⟨sl',e2⟩:=slot b _ (neL b o e) hb (neC b o e hx) e1 (I.base.free b o e n hx)
  exact ⟨sl',e2⟩
 ·obtain ⟨o',e1⟩:=I.base.there b o e hx
  exact free b o' (neC b o e hx) e1 (I.base.free b o e n hx)
 ·obtain ⟨o',e1⟩:=I.base.there b o e hx
  exact there b o' (neC b o e hx) e1
 ·obtain ⟨m1,e1⟩:=I.base.tbls b ps e
  obtain ⟨m2,e2⟩:=tbls b _ e1
  exact ⟨m1++m2,by rw [e2,Array.append_assoc]⟩
 ·obtain ⟨m,hn,hl⟩:=I.loc
  refine ⟨m,ns m hn,fun i x v e1 e2 e3=>?_⟩
  obtain ⟨u,r,l⟩:=hl i x v e1 e2 e3
  refine ⟨u,r,?_⟩
  rcases l with l | ⟨k,c,e,z⟩
  ·exact .inl l
  ·exact .inr ⟨k,c,e,cellK x c e _ z⟩
 ·obtain ⟨v,z⟩:=I.cell x c e
  exact ⟨v,cellK x c e v z⟩
 ·obtain ⟨m,⟨o,_,_,ho,_⟩,_⟩:=I.loc
  exact free _ o (fun z=>(hch _ z).2.1 rfl) ho I.free
 ·obtain ⟨v,o,ho,hd⟩:=I.cell x c e
  exact free c o (fun z=>(hch c z).2.2.1 x c e rfl) ho (I.freeC x c e)
 ·obtain ⟨e,n,ne,nf,d⟩:=I.pin p hp
  have nch:p.1∉ch:=fun z=>(hch p.1 z).2.2.2 p hp rfl
  exact ⟨keep p.1 p.2 ne nf nch e n,free p.1 p.2 nch e n,ne,nf,d⟩
theorem Inv.un {t':Nat} (I:Inv X pins σ H s) (u:Un X.fs [] H H' s.heap h') (hok:HOk X.prog X.w H' h'):Inv X pins σ H' { s with heap:=h',toks:=t' }:=by
 obtain ⟨m,⟨o,es,ep,ho,r⟩,_⟩:=id I.loc
 obtain ⟨sl,hL⟩:=u.any ho I.free (by simp)
 exact I.step (g':=s.gens) (d':=s.drawn) (ch:=[]) (fun _ z=>nomatch z) (fun b o _ hb _ e n=>u.keep b o e n hb (by simp)) (fun b o _ hb _ e n=>u.slot b o e n hb (by simp)) (fun b o _ e n=>u.free b o e n (by simp)) (fun b o _ e=>u.there b o e (by simp)) u.tups u.frzs u.tbls (fun m' hm=>by
  obtain ⟨o',es',ep',ho',r'⟩:=hm
  rw [ho] at ho'; cases ho'
  exact ⟨_,es',ep',hL,r'⟩) hok I.bare
theorem Inv.call {g':Array GenState} {t':Nat} {d':Drawn} {ch:List Addr} (I:Inv X pins σ H s) (u:Un (frs X.stack) ch H H' s.heap h') (hok:HOk X.prog X.w H' h') (hg:AllBare g')
  (hch:∀ b∈ch,(b∈X.ex\/X.s₀.heap.objs.size<=b)/\b≠X.env.locals/\(∀ x c,X.env.cells.lookup x=some c->c≠b)/\∀ p∈X.pn++pins,p.1≠b) :
  Inv X pins σ H' { s with heap:=h',gens:=g',drawn:=d',toks:=t' }:=by
 obtain ⟨m,⟨o,es,ep,ho,r⟩,_⟩:=id I.loc
 obtain ⟨sl,hL⟩:=u.any ho I.free fun z=>(hch _ z).2.1 rfl
 exact I.step (ch:=ch) hch (fun b o hL hb hc e n=>u.keep b o e n (fun z=>(List.mem_cons.mp (I.stkSub b z)).elim hL hb) hc) (fun b o _ _ hc e n=>u.any e n hc) (fun b o hc e n=>u.free b o e n hc) (fun b o hc e=>u.there b o e hc) u.tups u.frzs u.tbls (fun m' hm=>by
  obtain ⟨o',es',ep',ho',r'⟩:=hm
  rw [ho] at ho'; cases ho'
  exact ⟨_,es',ep',hL,r'⟩) hok hg
theorem Inv.turned {t':Nat} {it:Addr} (I:Inv X pins σ H s) (k:∀ b o,b≠it->s.heap.get? b=some o->h'.get? b=some o) (hn:H it=none) (hL:it≠X.env.locals)
  (h1:it∈X.ex\/X.s₀.heap.objs.size<=it) (h2:∀ x c,X.env.cells.lookup x=some c->c≠it) (h3:∀ p∈X.pn++pins,p.1≠it):Inv X pins σ H { s with heap:=h',toks:=t' }:=by
 have nit:∀ b u,H b=some u->b≠it:=fun b u e z=>by rw [z,hn] at e; cases e
 refine I.step (g':=s.gens) (d':=s.drawn) (ch:=[it]) (fun b hb=>?_) (fun b o _ _ hc e _=>k b o (fun z=>hc (by simp [z])) e) (fun b o _ _ hc e _=>⟨o.slots,k b o (fun z=>hc (by simp [z])) e⟩) (fun _ _ _ _ n=>n)
  (fun b o hc e=>⟨o,k b o (fun z=>hc (by simp [z])) e⟩) (fun _ _ e=>e) (fun _ _ _ e=>e) (fun b ps e=>⟨#[],by rw [e]; simp⟩) (fun m hm=>?_) (fun b u e=>?_) I.bare
 ·have e:b=it:=by simpa using hb
  subst e
  exact ⟨h1,hL,h2,h3⟩
 ·obtain ⟨o,es,ep,ho,r⟩:=hm
  exact ⟨o,es,ep,k _ o (Ne.symm hL) ho,r⟩
 ·refine (I.hok b u e).stay (fun c v hc q=>k c v ?_ q) (fun _ q=>q) fun _ _ q=>q
  rcases hc with z | z
  ·rw [z]; exact nit b u e
  ·exact nit c _ z
theorem Inv.tok (I:Inv X pins σ H s) (t:Nat):Inv X pins σ H { s with toks:=t }:=I.un (h':=s.heap) (t':=t) Un.refl I.hok
theorem Inv.kept {t':Nat} (I:Inv X pins σ H s) (k:∀ b u,s.heap.get? b=some u->h'.get? b=some u):Inv X pins σ H { s with heap:=h',toks:=t' }:=I.un (Un.kept k) (I.hok.kept k)
theorem Inv.laid {a:Addr} {o:HO} {t':Nat} (I:Inv X pins σ H s) (k:∀ b u,s.heap.get? b=some u->h'.get? b=some u) (hp:s.heap.objs.size<=a) (new:ObjOk X.prog X.w (upd H a o) h' a o) :
  Inv X pins σ (upd H a o) { s with heap:=h',toks:=t' }:=I.un (Un.laid k hp (I.hok.fresh hp)) (I.hok.laid k hp new)
theorem Inv.write {x e:Addr} {o:HO} {t':Nat} (I:Inv X pins σ H s) (mu:Mut (H x)) (he:e=x\/H e=some (.own x)) (k:∀ b u,b≠e->s.heap.get? b=some u->h'.get? b=some u) (heo:∃ u,h'.get? e=some u)
  (new:ObjOk X.prog X.w (upd H x o) h' x o):Inv X pins σ (upd H x o) { s with heap:=h',toks:=t' }:=I.un (Un.write mu he k heo) (I.hok.write mu he k heo new)
theorem Inv.weak {σ':List (Option V)} (I:Inv X pins σ H s) (hl:σ'.length=σ.length) (w:∀ (i:Nat) v,σ'[i]?=some (some v)->σ[i]?=some (some v)):Inv X pins σ' H s:=
 ⟨I.ok,I.os,I.bare,I.base,let ⟨m,hn,hl'⟩:=I.loc; ⟨m,hn,fun i x v e1 e2 e3=>hl' i x v e1 (w i v e2) e3⟩,I.cell,I.free,I.freeC,I.pin,I.hok,hl.trans I.len⟩
theorem Inv.pins_of {pins':List (Addr×Obj)} (I:Inv X pins σ H s) (h:∀ p∈pins',s.heap.get? p.1=some p.2/\H p.1=none/\p.1≠X.env.locals/\p.1∉X.fs/\∀ v,p.2.data≠.cell v):Inv X pins' σ H s:=
 ⟨I.ok,I.os,I.bare,I.base,I.loc,I.cell,I.free,I.freeC,fun p hp=>(List.mem_append.mp hp).elim (fun z=>I.pin p (List.mem_append_left _ z)) (h p),I.hok,I.len⟩
theorem Vc {N:List Str} (hN:N.Nodup) {i j:Nat} {x:Str} (a:N[i]?=some x) (b:N[j]?=some x):i=j:=by
 obtain ⟨h1,e1⟩:=List.getElem?_eq_some_iff.mp a
 obtain ⟨h2,e2⟩:=List.getElem?_eq_some_iff.mp b
 exact (List.getElem_inj hN).mp (e1.trans e2.symm)
theorem Qn {M:Model} {A:Around} {E:Value->Shared->Prop} {i:Nat} {x:Str} {v:V} {u:Value} {Q:Unit->Shared->Prop} (I:Inv X pins σ H s) (hN:X.N.Nodup) (hi:X.N[i]?=some x) (hx:Loc X.env.scope x) (r:RelV v u)
  (h:∀ s',Inv X pins (σ.set i (some v)) H s'->(∃ a,Heap.SameBut a s.heap s'.heap/\(a=X.env.locals\/X.env.cells.lookup x=some a))->Q () s') (hf:X.fn x=true\/X.env.scope.names.lookup x=some .local:=by first | exact .inl rfl | exact .inr rfl | assumption):wpAny M A (storeName X.env x u) Q E s:=by
 obtain ⟨m,hn,hl⟩:=id I.loc
 have hcls:(X.env.scope.kind == .class||(X.env.scope.kind == .module&&X.env.locals != X.env.globals))=false:=by rw [I.ok.kind]; rfl
 have hiσ:i < σ.length:=by rw [I.len]; exact (List.getElem?_eq_some_iff.mp hi).1
 have cne:=I.cne
 have tracked:∀ {a:Addr} {h':Heap},(∃ o,s.heap.get? a=some o/\H a=none)->Heap.SameBut a s.heap h'->HOk X.prog X.w H h':=fun {a h'} ha hs b ob e=>by
  obtain ⟨_,_,hfree⟩:=ha
  refine (I.hok b ob e).stay (fun c w' hc q=>(hs.2 c ?_).trans q) (fun _ q=>q) fun _ _ q=>q
  rintro rfl
  rcases hc with rfl | hc
  ·rw [hfree] at e; cases e
  ·rw [hfree] at hc; cases hc
 rcases hx with hk | hk
 ·refine wpAny_storeName_local hk hn (fun h' hn' hs=>?_) hcls
  obtain ⟨oL,_,_,hoL,_⟩:=id hn
  refine h _ ⟨I.ok,I.os,I.bare,⟨fun b o e n hb hx=>?_,fun b o e n hb hx=>?_,I.base.free,fun b o e hx=>?_,I.base.tups,I.base.frzs,I.base.tbls⟩,⟨_,hn',fun j y v' e1 e2 e3=>?_⟩,fun y c e=>?_,I.free,I.freeC,fun p hp=>?_,tracked ⟨oL,hoL,I.free⟩ hs,by simpa using I.len⟩ ⟨_,hs,.inl rfl⟩
  ·exact (hs.2 b (Nat.ne_of_lt (Nat.lt_of_lt_of_le (Heap.lt_size e) I.ok.above))).trans (I.base.keep b o e n hb hx)
  ·obtain ⟨sl,e1⟩:=I.base.slot b o e n hb hx
   exact ⟨sl,(hs.2 b (Nat.ne_of_lt (Nat.lt_of_lt_of_le (Heap.lt_size e) I.ok.above))).trans e1⟩
  ·obtain ⟨o',e1⟩:=I.base.there b o e hx
   exact ⟨o',(hs.2 b (Nat.ne_of_lt (Nat.lt_of_lt_of_le (Heap.lt_size e) I.ok.above))).trans e1⟩
  ·by_cases hj:j=i
   ·subst hj
    rw [hi] at e1; cases e1
    rw [List.getElem?_set_self hiσ] at e2
    cases e2
    exact ⟨u,r,.inl ⟨hk,by simp⟩⟩
   ·rw [List.getElem?_set_ne (Ne.symm hj)] at e2
    obtain ⟨u',r',q⟩:=hl j y v' e1 e2 e3
    refine ⟨u',r',?_⟩
    rcases q with ⟨k,e⟩ | ⟨k,c,e,z⟩
    ·refine .inl ⟨k,?_⟩
     have:y≠x:=fun e=>hj (Vc hN e1 (e ▸ hi))
     simp [this,e]
    ·exact .inr ⟨k,c,e,z.sameBut hs (cne y c e)⟩
  ·obtain ⟨w',z⟩:=I.cell y c e
   exact ⟨w',z.sameBut hs (cne y c e)⟩
  ·obtain ⟨e,n,ne,nf,d⟩:=I.pin p hp
   exact ⟨(hs.2 p.1 ne).trans e,n,ne,nf,d⟩
 ·have hfn:X.fn x=true:=by
   rcases hf with z | z
   ·exact z
   ·rw [z] at hk; cases hk
  obtain ⟨c,hc⟩:=I.ok.has x (.inl hk)
  obtain ⟨w',z⟩:=I.cell x c hc
  refine wpAny_storeName_cell I.ok.kind hk hc z (fun h' hc' hs=>?_)
  obtain ⟨oc,hoc,hocd⟩:=id z
  refine h { s with heap:=h' } ⟨I.ok,I.os,I.bare,⟨fun b o e n hb hx=>?_,fun b o e n hb hx=>?_,I.base.free,fun b o e hx=>?_,I.base.tups,I.base.frzs,I.base.tbls⟩,⟨m,hn.sameBut hs (Ne.symm (cne x c hc)),fun j y v' e1 e2 e3=>?_⟩,fun y c' e=>?_,I.free,I.freeC,fun p hp=>?_,tracked ⟨oc,hoc,I.freeC x c hc⟩ hs,by simpa using I.len⟩ ⟨c,hs,.inr hc⟩
  ·exact (hs.2 b (Nat.ne_of_lt (Nat.lt_of_lt_of_le (Heap.lt_size e) (I.ok.cab x c hfn hc)))).trans (I.base.keep b o e n hb hx)
  ·obtain ⟨sl,e1⟩:=I.base.slot b o e n hb hx
   exact ⟨sl,(hs.2 b (Nat.ne_of_lt (Nat.lt_of_lt_of_le (Heap.lt_size e) (I.ok.cab x c hfn hc)))).trans e1⟩
  ·obtain ⟨o',e1⟩:=I.base.there b o e hx
   exact ⟨o',(hs.2 b (Nat.ne_of_lt (Nat.lt_of_lt_of_le (Heap.lt_size e) (I.ok.cab x c hfn hc)))).trans e1⟩
  ·by_cases hj:j=i
   ·subst hj
    rw [hi] at e1; cases e1
    rw [List.getElem?_set_self hiσ] at e2
    cases e2
    exact ⟨u,r,.inr ⟨.inl hk,c,hc,hc'⟩⟩
   ·rw [List.getElem?_set_ne (Ne.symm hj)] at e2
    obtain ⟨u',r',q⟩:=hl j y v' e1 e2 e3
    refine ⟨u',r',?_⟩
    rcases q with q | ⟨k,c',e,z'⟩
    ·exact .inl q
    ·refine .inr ⟨k,c',e,z'.sameBut hs ?_⟩
     rintro rfl
     exact hj (Vc hN e1 (I.ok.inj _ _ _ e hc ▸ hi))
  ·by_cases hcc:c'=c
   ·subst hcc; exact ⟨_,hc'⟩
   ·obtain ⟨w2,z2⟩:=I.cell y c' e
    exact ⟨w2,z2.sameBut hs hcc⟩
  ·obtain ⟨e,n,ne,nf,d⟩:=I.pin p hp
   refine ⟨(hs.2 p.1 ?_).trans e,n,ne,nf,d⟩
   intro q
   rw [q,hoc] at e
   have q':oc=p.2:=Option.some.inj e
   exact d w' (by rw [<-q']; exact hocd)
theorem Vd {M:Model} {A:Around} {E:Value->Shared->Prop} {i:Nat} {x:Str} {v:V} {u:Value} {Q:Unit->Shared->Prop} (I:Inv X pins σ H s) (hN:X.N.Nodup) (hi:X.N[i]?=some x) (hx:Loc X.env.scope x) (r:RelV v u)
  (h:∀ s',Inv X pins (σ.set i (some v)) H s'->Q () s') (hf:X.fn x=true\/X.env.scope.names.lookup x=some .local:=by first | exact .inl rfl | exact .inr rfl | assumption):wpAny M A (storeName X.env x u) Q E s:=
 Qn I hN hi hx r (fun s' I' _=>h s' I') hf
theorem Inv.call' {s':Shared} {ch:List Addr} (I:Inv X pins σ H s) (ho:s'.os=s.os) (u:Un (frs X.stack) ch H H' s.heap s'.heap) (hok:HOk X.prog X.w H' s'.heap) (hg:AllBare s'.gens)
  (hch:∀ b∈ch,(b∈X.ex\/X.s₀.heap.objs.size<=b)/\b≠X.env.locals/\(∀ x c,X.env.cells.lookup x=some c->c≠b)/\∀ p∈X.pn++pins,p.1≠b):Inv X pins σ H' s':=by
 obtain ⟨h',g',d',t',o'⟩:=s'
 have e:o'=s.os:=ho
 subst e
 exact I.call (g':=g') (t':=t') (d':=d') u hok hg hch
end
abbrev XK:=Value->Option Addr->Hp->Prop
abbrev St:=List (Option V)
abbrev VK:=V->Hp->Prop
abbrev TE:=St->Hp->VK->Prop
abbrev TT:=St->Hp->(Bool->Hp->Prop)->Prop
abbrev TA:=St->Hp->(List V->Hp->Prop)->Prop
structure Ends where
 nx:St->Hp->Prop
 rt:VK
 bk:St->Hp->Prop:=fun _ _=>False
 ct:St->Hp->Prop:=fun _ _=>False
abbrev TS:=Ends->St->Hp->Prop
def EP (X:Cx) (pins:List (Addr×Obj)) (σ:St) (Q:VK) (u:Value) (s':Shared):Prop:=∃ v H',Inv X pins σ H' s'/\RelV v u/\Q v H'
def TP (X:Cx) (pins:List (Addr×Obj)) (σ:St) (Q:Bool->Hp->Prop) (b:Bool) (s':Shared):Prop:=∃ H',Inv X pins σ H' s'/\Q b H'
def AP (X:Cx) (pins:List (Addr×Obj)) (σ:St) (Q:List V->Hp->Prop) (us:List Value) (s':Shared):Prop:=∃ vs H',Inv X pins σ H' s'/\Vals vs us/\Q vs H'
def SP (X:Cx) (pins:List (Addr×Obj)) (D:Ends) (f:Flow) (s':Shared):Prop:=
 match f with
 | .next=>∃ σ' H',Inv X pins σ' H' s'/\D.nx σ' H'
 | .brk=>∃ σ' H',Inv X pins σ' H' s'/\D.bk σ' H'
 | .cont=>∃ σ' H',Inv X pins σ' H' s'/\D.ct σ' H'
 | .ret u=>∃ v σ' H',Inv X pins σ' H' s'/\RelV v u/\D.rt v H'
structure PE (X:Cx) (e:Expr) (t:TE):Prop where
 run:∀ (pins:List (Addr×Obj)) (s:Shared) (σ:St) (H:Hp) (Q:VK),Inv X pins σ H s->t σ H Q->wpAny (model X.prog X.w) X.A (eval e X.env) (EP X pins σ Q) X.xe s
instance {X:Cx} {e:Expr} {t:TE}:CoeFun (PE X e t) (fun _=>∀ (pins:List (Addr×Obj)) (s:Shared) (σ:St) (H:Hp) (Q:VK),Inv X pins σ H s->t σ H Q->wpAny (model X.prog X.w) X.A (eval e X.env) (EP X pins σ Q) X.xe s):=⟨fun h=>h.run⟩
structure PT (X:Cx) (e:Expr) (t:TT):Prop where
 run:∀ (pins:List (Addr×Obj)) (s:Shared) (σ:St) (H:Hp) (Q:Bool->Hp->Prop),Inv X pins σ H s->t σ H Q->wpAny (model X.prog X.w) X.A (isTrue e X.env (eval e X.env)) (TP X pins σ Q) X.xe s
instance {X:Cx} {e:Expr} {t:TT}:CoeFun (PT X e t) (fun _=>∀ (pins:List (Addr×Obj)) (s:Shared) (σ:St) (H:Hp) (Q:Bool->Hp->Prop),Inv X pins σ H s->t σ H Q->wpAny (model X.prog X.w) X.A (isTrue e X.env (eval e X.env)) (TP X pins σ Q) X.xe s):=⟨fun h=>h.run⟩
structure PW (X:Cx) (e:Expr) (t:TT):Prop where
 run:∀ (whole:Sem Value) (pins:List (Addr×Obj)) (s:Shared) (σ:St) (H:Hp) (Q:Bool->Hp->Prop),Inv X pins σ H s->t σ H Q->wpAny (model X.prog X.w) X.A (isTrue e X.env whole) (TP X pins σ Q) X.xe s
instance {X:Cx} {e:Expr} {t:TT}:CoeFun (PW X e t) (fun _=>∀ (whole:Sem Value) (pins:List (Addr×Obj)) (s:Shared) (σ:St) (H:Hp) (Q:Bool->Hp->Prop),Inv X pins σ H s->t σ H Q->wpAny (model X.prog X.w) X.A (isTrue e X.env whole) (TP X pins σ Q) X.xe s):=⟨fun h=>h.run⟩
theorem PW.pt {X:Cx} {e:Expr} {t:TT} (h:PW X e t):PT X e t:=⟨h.run _⟩
structure PA (X:Cx) (es:List Expr) (t:TA):Prop where
 run:∀ (pos:Pos) (pins:List (Addr×Obj)) (s:Shared) (σ:St) (H:Hp) (Q:List V->Hp->Prop),Inv X pins σ H s->t σ H Q->wpAny (model X.prog X.w) X.A (spliced (backTo pos (starEach es X.env))) (AP X pins σ Q) X.xe s
instance {X:Cx} {es:List Expr} {t:TA}:CoeFun (PA X es t) (fun _=>∀ (pos:Pos) (pins:List (Addr×Obj)) (s:Shared) (σ:St) (H:Hp) (Q:List V->Hp->Prop),Inv X pins σ H s->t σ H Q->wpAny (model X.prog X.w) X.A (spliced (backTo pos (starEach es X.env))) (AP X pins σ Q) X.xe s):=⟨fun h=>h.run⟩
structure PS (X:Cx) (st:Stmt) (t:TS):Prop where
 run:∀ (pins:List (Addr×Obj)) (s:Shared) (σ:St) (H:Hp) (D:Ends),Inv X pins σ H s->t D σ H->wpAny (model X.prog X.w) X.A (exec st X.env) (SP X pins D) X.xe s
instance {X:Cx} {st:Stmt} {t:TS}:CoeFun (PS X st t) (fun _=>∀ (pins:List (Addr×Obj)) (s:Shared) (σ:St) (H:Hp) (D:Ends),Inv X pins σ H s->t D σ H->wpAny (model X.prog X.w) X.A (exec st X.env) (SP X pins D) X.xe s):=⟨fun h=>h.run⟩
structure PSs (X:Cx) (st:List Stmt) (t:TS):Prop where
 run:∀ (pins:List (Addr×Obj)) (s:Shared) (σ:St) (H:Hp) (D:Ends),Inv X pins σ H s->t D σ H->wpAny (model X.prog X.w) X.A (execs st X.env) (SP X pins D) X.xe s
instance {X:Cx} {st:List Stmt} {t:TS}:CoeFun (PSs X st t) (fun _=>∀ (pins:List (Addr×Obj)) (s:Shared) (σ:St) (H:Hp) (D:Ends),Inv X pins σ H s->t D σ H->wpAny (model X.prog X.w) X.A (execs st X.env) (SP X pins D) X.xe s):=⟨fun h=>h.run⟩
theorem thn {α:Type} {t:Sem α} {Q Q':α->Shared->Prop} {M:Model} {A:Around} {E:Value->Shared->Prop} {s:Shared} (h:wpAny M A t Q E s) (hQ:∀ a s,Q a s->Q' a s):wpAny M A t Q' E s:=wpAny_mono h hQ fun _ _ x=>x
section
variable {X:Cx}
def qdk (i:Nat):TE:=fun σ H Q=>∃ v,σ[i]?=some (some v)/\Q v H
def tC (v:V):TE:=fun _ H Q=>Q v H
theorem vZ {i:Nat} {x:Str} {pos:Pos} (hN:X.N[i]?=some x) (hv:Vis X.env.scope x) (hd:(x == ("__debug__":Str))=false:=by decide) (hcd:(x == ("__classdict__":Str))=false:=by decide):PE X (.Name x pos) (qdk i):=by
 refine ⟨?_⟩
 intro pins s σ H Q I h
 obtain ⟨v,e,h⟩:=h
 obtain ⟨m,hn,hl⟩:=I.loc
 obtain ⟨u,r,l⟩:=hl i x v hN e hv
 have fin:EP X pins σ Q u s:=⟨v,H,I,r,h⟩
 rcases l with ⟨hk,hm⟩ | ⟨hk,c,hc,hcell⟩
 ·exact wpAny_Name (wpAny_loadName_local I.ok.kind hk hn hm fin) hd
 ·rcases hk with hk | hk
  ·exact wpAny_Name (wpAny_loadName_cell I.ok.kind hk hc hcell fin) hd
  ·exact wpAny_Name (wpAny_loadName_free I.ok.kind hk hc hcell fin hcd) hd
theorem qbR {i j pos}:PE X (.Constant (.int i) j pos) (tC (.int i)):=⟨fun _ _ _ H _ I h=>wpAny_Constant_int ⟨.int i,H,I.tok _,⟨_,rfl⟩,h⟩⟩
theorem qdB {b j pos}:PE X (.Constant (.bool b) j pos) (tC (.bl b)):=⟨fun _ _ _ H _ I h=>Constant_bool ⟨.bl b,H,I,rfl,h⟩⟩
theorem qbS {j pos}:PE X (.Constant .none j pos) (tC .non):=⟨fun _ _ _ H _ I h=>Constant_none ⟨.non,H,I,rfl,h⟩⟩
theorem GK {x j pos}:PE X (.Constant (.str x) j pos) (tC (.str x)):=⟨fun _ _ _ H _ I h=>Calls.Constant_str ⟨.str x,H,I.tok _,⟨_,rfl⟩,h⟩⟩
def Gl (X:Cx) (x:Str):Prop:=X.env.kindOf x=some .globalImplicit
theorem xf {E:Value->Shared->Prop} {pins:List (Addr×Obj)} {s:Shared} {σ:St} {H:Hp} {x:Str} {u:Value} {pos:Pos} {Q:Value->Shared->Prop} (I:Inv X pins σ H s) (hg:Gl X x) (hm:X.mg x=some u) (h:Q u s)
  (hd:(x == ("__debug__":Str))=false:=by decide):wpAny (model X.prog X.w) X.A (eval (.Name x pos) X.env) Q E s:=
 Calls.Name_function_global I.ok.kind hg (Calls.loadGlobal_global (by rw [I.ok.glob]; exact I.mod.glob.keeps I.bk) hm h) hd
theorem Qo {E:Value->Shared->Prop} {pins:List (Addr×Obj)} {s:Shared} {σ:St} {H:Hp} {x:Str} {u:Value} {pos:Pos} {Q:Value->Shared->Prop} (I:Inv X pins σ H s) (hg:Gl X x) (hm:X.mg x=none) (hv:bootBuiltins x=some u) (h:Q u s)
  (hn:x ≠ "__name__":=by decide) (hd:(x == ("__debug__":Str))=false:=by decide):wpAny (model X.prog X.w) X.A (eval (.Name x pos) X.env) Q E s:=by
 obtain ⟨mb,h1,h2⟩:=I.mod.blt
 exact Calls.Name_function_global I.ok.kind hg (Calls.loadGlobal_builtin (by rw [I.ok.glob]; exact I.mod.glob.keeps I.bk) hm (by rw [I.ok.blt]; exact h1.keeps I.bk) ((h2 x hn).trans hv) h) hd
theorem qau {x:Str} {v:V} {u:Value} {pos:Pos} (hg:Gl X x) (hm:X.mg x=some u) (r:RelV v u) (hd:(x == ("__debug__":Str))=false:=by decide):PE X (.Name x pos) (tC v):=⟨fun _ _ _ H _ I h=>xf I hg hm ⟨v,H,I,r,h⟩ hd⟩
theorem qav {x:Str} {v:V} {u:Value} {pos:Pos} (hg:Gl X x) (hm:X.mg x=none) (hv:bootBuiltins x=some u) (r:RelV v u) (hn:x ≠ "__name__":=by decide) (hd:(x == ("__debug__":Str))=false:=by decide):PE X (.Name x pos) (tC v):=⟨fun _ _ _ H _ I h=>Qo I hg hm hv ⟨v,H,I,r,h⟩ hn hd⟩
variable {a b:Expr} {ta tb:TE} {pos:Pos}
variable {tA tB':TT} {rest:List Expr}
def tOr (t u:TT):TT:=fun σ H Q=>t σ H fun c H1=>if c=true then Q true H1 else u σ H1 Q
def qeS (t:TT):TT:=fun σ H Q=>t σ H fun c H1=>Q (!c) H1
theorem qaw (ha:PT X a tA):PW X (.BoolOp .And [a] pos) tA:=by
 refine ⟨?_⟩
 intro wh pins s σ H Q I h
 refine isTrue_and (thn (ha pins s σ H Q I h) fun c s1 e=>?_)
 cases c with
 | true=>exact isTrue_and_nil e
 | false=>exact e
theorem qbT (ha:PT X a tA):PW X (.BoolOp .Or [a] pos) tA:=by
 refine ⟨?_⟩
 intro wh pins s σ H Q I h
 refine isTrue_or (thn (ha pins s σ H Q I h) fun c s1 e=>?_)
 cases c with
 | false=>exact isTrue_or_nil e
 | true=>exact e
theorem qdC (ha:PT X a tA) (hb:PW X (.BoolOp .Or (b::rest) pos) tB'):PW X (.BoolOp .Or (a::b::rest) pos) (tOr tA tB'):=by
 refine ⟨?_⟩
 intro wh pins s σ H Q I h
 refine isTrue_or (thn (ha pins s σ H _ I h) fun c s1 ⟨H1,I1,q1⟩=>?_)
 cases c with
 | true=>exact ⟨H1,I1,q1⟩
 | false=>exact hb wh pins s1 σ H1 Q I1 q1
theorem qbU (ha:PT X a tA):PT X (.UnaryOp .Not a pos) (qeS tA):=by
 refine ⟨?_⟩
 intro pins s σ H Q I h
 exact isTrue_not (ha pins s σ H (fun c H1=>Q (!c) H1) I h)
def qdD (ta tb:TE):TE:=fun σ H Q=>ta σ H fun x H1=>∃ c,x=.bl c/\if c=true then tb σ H1 Q else Q (.bl false) H1
theorem qbV {op} {t:TE} (h:PE X a t):PE X (.BoolOp op [a] pos) t:=⟨fun pins s σ H Q I hw=>BoolOp_one (h pins s σ H Q I hw)⟩
theorem qbW (ha:PE X a ta) (hb:PE X (.BoolOp .And (b::rest) pos) tb):PE X (.BoolOp .And (a::b::rest) pos) (qdD ta tb):=by
 refine ⟨?_⟩
 intro pins s σ H Q I h
 refine BoolOp_and (thn (ha pins s σ H _ I h) fun v s1 ⟨x,H1,I1,r1,q1⟩=>?_)
 obtain ⟨c,rfl,q1⟩:=q1
 cases r1
 refine wpAny_truthy_bool ?_
 cases c with
 | true=>exact hb pins s1 σ H1 Q I1 q1
 | false=>exact ⟨.bl false,H1,I1,rfl,q1⟩
def tIf (t:TT) (ta tb:TE):TE:=fun σ H Q=>t σ H fun c H1=>if c=true then ta σ H1 Q else tb σ H1 Q
theorem XS {c:Expr} (hc:PT X c tA) (ha:PE X a ta) (hb:PE X b tb):PE X (.IfExp c a b pos) (tIf tA ta tb):=by
 refine ⟨?_⟩
 intro pins s σ H Q I h
 refine wpAny_IfExp (thn (hc pins s σ H _ I h) fun d s1 ⟨H1,I1,q1⟩=>?_)
 cases d with
 | true=>exact ha pins s1 σ H1 Q I1 q1
 | false=>exact hb pins s1 σ H1 Q I1 q1
end
def SqL (K:Frag) (H:Hp) (a:Addr) (xs:List V):Prop:=
 Rd H a (.lst xs) \/
  ∃ (o:Obj) (its:Array Value) (n:Nat),K.lookup a=some o/\o.cls=.type "list"/\o.dict=none/\o.data=.seq its n/\its.size<=sizeLine/\Vals xs its.toList
def SqT (K:Frag) (H:Hp) (a:Addr) (xs:List V):Prop:=
 Rd H a (.tup xs) \/
  ∃ (o:Obj) (its:Array Value) (n:Nat),K.lookup a=some o/\(o.cls=.type "tuple"/\o.dict=none)/\o.data=.seq its n/\its.size<=sizeLine/\Vals xs its.toList
noncomputable def qeT:Value->Option V
 | .none=>some .non
 | .bool b=>some (.bl b)
 | .int i _=>some (.int i)
 | .str x _=>some (.str x)
 | .bytes b _=>some (.byt b)
 | .float b _=>some (.flt b)
 | .ref a=>some (.ref a)
 | .type n=>some (.ty n)
 | _=>none
theorem RelV.abs {x:V} {u:Value} (r:RelV x u):qeT u=some x:=by
 cases x with
 | non=>cases r; rfl
 | bl _=>cases r; rfl
 | int _=>obtain ⟨t,rfl⟩:=r; rfl
 | str _=>obtain ⟨t,rfl⟩:=r; rfl
 | byt _=>obtain ⟨t,rfl⟩:=r; rfl
 | flt _=>obtain ⟨t,rfl⟩:=r; rfl
 | ref _=>cases r; rfl
 | ty _=>cases r; rfl
theorem RelV.inj {x y:V} {u:Value} (r:RelV x u) (q:RelV y u):x=y:=Option.some.inj (r.abs.symm.trans q.abs)
theorem Vals.inj:∀ {xs ys:List V} {us:List Value},Vals xs us->Vals ys us->xs=ys
 | _,_,_,.nil,.nil=>rfl
 | _,_,_,.cons r t,.cons r' t'=>by rw [r.inj r',Vals.inj t t']
section
variable {X:Cx} {pins:List (Addr×Obj)} {σ:St} {H:Hp} {s:Shared} {a:Addr} {xs ys:List V}
theorem SqT.of {K:Frag} (h:H a=some (.tup xs)):SqT K H a xs:=.inl (.inl h)
theorem Inv.list (I:Inv X pins σ H s) (h:SqL X.K H a xs):∃ its:List Value,Vals xs its/\PlainL s.heap a its.toArray/\xs.length<=sizeLine:=by
 rcases h with h | ⟨o,its,n,hk,hc,hd,hs,hz,r⟩
 ·obtain ⟨z,its,n,r,e⟩:=h.ok I.hok
  exact ⟨its,r,⟨_,n,e,rfl,rfl,rfl⟩,z⟩
 ·refine ⟨its.toList,r,⟨o,n,I.kIn a o hk,hc,hd,by simpa using hs⟩,?_⟩
  have e:=r.length
  simp only [Array.length_toList] at e
  omega
theorem Inv.tuple (I:Inv X pins σ H s) (h:SqT X.K H a xs):∃ its:List Value,Vals xs its/\IsTup s.heap a its.toArray/\xs.length<=sizeLine:=by
 rcases h with h | ⟨o,its,n,hk,hc,hs,hz,r⟩
 ·obtain ⟨⟨z,_⟩,its,r,p⟩:=h.ok I.hok
  exact ⟨its,r,p,z⟩
 ·refine ⟨its.toList,r,⟨o,I.kIn a o hk,hc.1,n,by simpa using hs⟩,?_⟩
  have e:=r.length
  simp only [Array.length_toList] at e
  omega
theorem Inv.tupleN (I:Inv X pins σ H s) (h:SqT X.K H a xs):∃ o,s.heap.get? a=some o/\o.dict=none:=by
 rcases h with h | ⟨o,its,n,hk,hc,hs,hz,r⟩
 ·obtain ⟨⟨z,w⟩,its,r,p⟩:=h.ok I.hok
  exact w
 ·exact ⟨o,I.kIn a o hk,hc.2⟩
theorem Inv.list_inj (I:Inv X pins σ H s) (h:SqL X.K H a xs) (h':SqL X.K H a ys):xs=ys:=by
 obtain ⟨its,r,⟨o,n,e,_,_,d⟩,_⟩:=I.list h
 obtain ⟨its',r',⟨o',n',e',_,_,d'⟩,_⟩:=I.list h'
 rw [e] at e'; cases e'
 rw [d] at d'
 injection d' with d1 _
 have:its=its':=by simpa using congrArg Array.toList d1
 subst this
 exact r.inj r'
theorem Inv.tuple_inj (I:Inv X pins σ H s) (h:SqT X.K H a xs) (h':SqT X.K H a ys):xs=ys:=by
 obtain ⟨its,r,⟨o,e,_,n,d⟩,_⟩:=I.tuple h
 obtain ⟨its',r',⟨o',e',_,n',d'⟩,_⟩:=I.tuple h'
 rw [e] at e'; cases e'
 rw [d] at d'
 injection d' with d1 _
 have:its=its':=by simpa using congrArg Array.toList d1
 subst this
 exact r.inj r'
end
section
variable {X:Cx} {st:Stmt} {rest:List Stmt} {t u:TS} {e:Expr} {te:TE} {pos:Pos}
def qdE:TS:=fun D σ H=>D.nx σ H
def XT (t u:TS):TS:=fun D σ H=>t { D with nx:=u D } σ H
theorem WZ:PSs X [] qdE:=⟨fun _ _ σ H _ I h=>wpAny_execs_nil ⟨σ,H,I,h⟩⟩
theorem wC (h1:PS X st t) (h2:PSs X rest u):PSs X (st::rest) (XT t u):=by
 refine ⟨?_⟩
 intro pins s σ H D I h
 refine wpAny_execs_cons (thn (h1 pins s σ H { D with nx:=u D } I h) fun f s1 q=>?_)
 cases f with
 | next=>
  obtain ⟨σ',H',I',q⟩:=q
  exact h2 pins s1 σ' H' D I' q
 | ret v=>exact q
 | brk=>exact q
 | cont=>exact q
theorem JI (h1:PS X st t):PSs X [st] t:=by
 refine ⟨?_⟩
 intro pins s σ H D I h
 refine wpAny_execs_cons (thn (h1 pins s σ H D I h) fun f s1 q=>?_)
 cases f with
 | next=>exact wpAny_execs_nil q
 | ret v=>exact q
 | brk=>exact q
 | cont=>exact q
theorem Inv.quiet {pins:List (Addr×Obj)} {σ:St} {H:Hp} {s:Shared} (I:Inv X pins σ H s):interactive X.env=false:=by simp [interactive,I.ok.kind]
def qdF (te:TE):TS:=fun D σ H=>te σ H fun _ H1=>D.nx σ H1
theorem qax (he:PE X e te) (hs:swapsWith e none pos.line X.env=pure false:=by rfl):PS X (.Expr e pos) (qdF te):=by
 refine ⟨?_⟩
 intro pins s σ H D I h
 exact wpAny_Expr_any (thn (he pins s σ H _ I h) fun v s1 ⟨x,H1,I1,r1,q1⟩=>⟨σ,H1,I1,q1⟩) I.quiet hs
def qeU (te:TE):TS:=fun D σ H=>te σ H D.rt
theorem qbX (he:PE X e te):PS X (.Return (some e) pos) (qeU te):=by
 refine ⟨?_⟩
 intro pins s σ H D I h
 exact wpAny_Return_some (thn (he pins s σ H _ I h) fun v s1 ⟨x,H1,I1,r1,q1⟩=>⟨x,σ,H1,I1,r1,q1⟩)
def qeV (c:TT) (t u:TS):TS:=fun D σ H=>c σ H fun b H1=>if b=true then t D σ H1 else u D σ H1
theorem qdG {c:Expr} {a b:List Stmt} {tc:TT} (hc:PT X c tc) (ha:PSs X a t) (hb:PSs X b u):PS X (.If c a b pos) (qeV tc t u):=by
 refine ⟨?_⟩
 intro pins s σ H D I h
 refine wpAny_If (thn (hc pins s σ H _ I h) fun d s1 ⟨H1,I1,q1⟩=>?_)
 cases d with
 | true=>exact ha pins s1 σ H1 D I1 q1
 | false=>exact hb pins s1 σ H1 D I1 q1
end
abbrev TG:=V->St->Hp->(St->Hp->Prop)->Prop
abbrev TGs:=List V->St->Hp->(St->Hp->Prop)->Prop
structure PG (X:Cx) (target:Expr) (t:TG):Prop where
 run:∀ (pins:List (Addr×Obj)) (s:Shared) (σ:St) (H:Hp) (v:V) (u:Value) (Q:St->Hp->Prop),Inv X pins σ H s->RelV v u->t v σ H Q ->
  wpAny (model X.prog X.w) X.A (assign target X.env u) (fun _ s'=>∃ σ' H',Inv X pins σ' H' s'/\Q σ' H') X.xe s
instance {X:Cx} {target:Expr} {t:TG}:CoeFun (PG X target t) (fun _=>∀ (pins:List (Addr×Obj)) (s:Shared) (σ:St) (H:Hp) (v:V) (u:Value) (Q:St->Hp->Prop),Inv X pins σ H s->RelV v u->t v σ H Q ->
  wpAny (model X.prog X.w) X.A (assign target X.env u) (fun _ s'=>∃ σ' H',Inv X pins σ' H' s'/\Q σ' H') X.xe s):=⟨fun h=>h.run⟩
structure PGs (X:Cx) (ts:List Expr) (t:TGs):Prop where
 run:∀ (pins:List (Addr×Obj)) (s:Shared) (σ:St) (H:Hp) (vs:List V) (us:List Value) (Q:St->Hp->Prop),Inv X pins σ H s->Vals vs us->t vs σ H Q ->
  wpAny (model X.prog X.w) X.A (assignInOrder ((assignEach ts X.env).map (·.2)) us) (fun _ s'=>∃ σ' H',Inv X pins σ' H' s'/\Q σ' H') X.xe s
instance {X:Cx} {ts:List Expr} {t:TGs}:CoeFun (PGs X ts t) (fun _=>∀ (pins:List (Addr×Obj)) (s:Shared) (σ:St) (H:Hp) (vs:List V) (us:List Value) (Q:St->Hp->Prop),Inv X pins σ H s->Vals vs us->t vs σ H Q ->
  wpAny (model X.prog X.w) X.A (assignInOrder ((assignEach ts X.env).map (·.2)) us) (fun _ s'=>∃ σ' H',Inv X pins σ' H' s'/\Q σ' H') X.xe s):=⟨fun h=>h.run⟩
abbrev qdH:=V->V->V->Hp->(Hp->Prop)->Prop
def qet (X:Cx) (t:qdH):Prop:=
 ∀ (pins:List (Addr×Obj)) (s:Shared) (σ:St) (H:Hp) (o i v:V) (ov iv u:Value) (Q:Hp->Prop),Inv X pins σ H s->RelV o ov->RelV i iv->RelV v u->t o i v H Q ->
  wpAny (model X.prog X.w) X.A (setItem ov iv u) (fun _ s'=>∃ H',Inv X pins σ H' s'/\Q H') X.xe s
section
variable {X:Cx} {pos:Pos}
def qbY (i:Nat):TG:=fun v σ H Q=>Q (σ.set i (some v)) H
theorem qay {i:Nat} {x:Str} (hN:X.N.Nodup) (hi:X.N[i]?=some x) (hx:Loc X.env.scope x) (hf:X.fn x=true\/X.env.scope.names.lookup x=some .local:=by first | exact .inl rfl | exact .inr rfl | assumption):PG X (.Name x pos) (qbY i):=by
 refine ⟨?_⟩
 intro pins s σ H v u Q I r h
 exact wpAny_assign_Name (Vd I hN hi hx r (fun s' I'=>⟨_,H,I',h⟩) hf)
def qeW:TGs:=fun vs σ H Q=>vs=[]/\Q σ H
def qdI (t:TG) (u:TGs):TGs:=fun vs σ H Q=>∃ v r,vs=v::r/\t v σ H fun σ' H'=>u r σ' H' Q
theorem qaz:PGs X [] qeW:=by
 refine ⟨?_⟩
 intro pins s σ H vs us Q I r h
 obtain ⟨e,h⟩:=h
 subst e
 cases r
 exact assignInOrder_nil ⟨σ,H,I,h⟩
theorem XU {e:Expr} {es:List Expr} {t:TG} {u:TGs} (h1:PG X e t) (h2:PGs X es u)
  (hs:(assignEach (e::es) X.env).map (·.2)=assign e X.env::(assignEach es X.env).map (·.2):=by rfl):PGs X (e::es) (qdI t u):=by
 refine ⟨?_⟩
 intro pins s σ H vs us Q I r h
 obtain ⟨v,vr,e1,h⟩:=h
 subst e1
 cases r with
 | cons r rr=>
  rw [hs]
  refine assignInOrder_cons (thn (h1 pins s σ H _ _ _ I r h) fun _ s1 ⟨σ1,H1,I1,q1⟩=>?_)
  exact h2 pins s1 σ1 H1 _ _ Q I1 rr q1
def qeX (K:Frag) (n:Nat) (t:TGs):TG:=fun v σ H Q=>∃ a xs,v=.ref a/\SqT K H a xs/\xs.length=n/\t xs σ H Q
theorem qbZ {es:List Expr} {k:Nat} {t:TGs} {n:Nat} (hc:X.calm=true) (h:PGs X es t)
  (hn:(assignEach es X.env).length=n:=by rfl) (hst:(assignEach es X.env).findIdx? (·.1)=none:=by rfl):PG X (.Tuple es k pos) (qeX X.K n t):=by
 refine ⟨?_⟩
 intro pins s σ H v u Q I r hw
 obtain ⟨a,xs,e1,hq,hl,hw⟩:=hw
 subst e1
 cases r
 obtain ⟨its,rv,ht,hz⟩:=I.tuple hq
 refine assign_Tuple_tuple (I.ok.hd hc) ht (by simp [hn,<-hl,rv.length]) hst fun h' hx=>?_
 have I1:Inv X pins σ H { s with heap:=h' }:=I.kept (t':=s.toks) fun b o e=>hx b o (Nat.ne_of_lt (Heap.lt_size e)) e
 exact h pins _ σ H xs _ Q I1 (by simpa using rv) hw
def qeY (to ti:TE) (t:qdH):TG:=fun v σ H Q=>to σ H fun o H1=>ti σ H1 fun i H2=>t o i v H2 fun H3=>Q σ H3
theorem GL {o i:Expr} {to ti:TE} {t:qdH} (ho:PE X o to) (hi:PE X i ti) (hs:qet X t)
  (ha:∀ v,assign (.Subscript o i pos) X.env v=(do
   let ov <-holding [v] (eval o X.env)
   let iv <-holding [v,ov] (eval i X.env)
   standAt pos
   holding [v,ov,iv] (setItem ov iv v)
   release [v,ov,iv] []):=by intro _; rfl):PG X (.Subscript o i pos) (qeY to ti t):=by
 refine ⟨?_⟩
 intro pins s σ H v u Q I r h
 rw [ha]
 refine wpAny_bind (wpAny_holding (thn (ho pins s σ H _ I h) fun ov s1 ⟨x,H1,I1,r1,q1⟩=>?_))
 refine wpAny_bind (wpAny_holding (thn (hi pins s1 σ H1 _ I1 q1) fun iv s2 ⟨y,H2,I2,r2,q2⟩=>?_))
 refine wpAny_bind (wpAny_standAt (wpAny_bind (wpAny_holding (thn (hs pins s2 σ H2 x y v ov iv u _ I2 r1 r2 r q2) fun _ s3 ⟨H3,I3,q3⟩=>?_))))
 exact wpAny_release ⟨σ,H3,I3,q3⟩
def qeu (te:TE) (g:TG):TS:=fun D σ H=>te σ H fun x H1=>g x σ H1 D.nx
theorem Ua {tg e:Expr} {te:TE} {g:TG} (he:PE X e te) (hg:PG X tg g) (hs:swapsWithSole [tg] e pos.line X.env=pure false:=by rfl) (hw:swappedStores [tg] e X.env=pure none:=by rfl)
  (h1:(assignEach [tg] X.env).map (·.2)=[assign tg X.env]:=by rfl):PS X (.Assign [tg] e pos) (qeu te g):=by
 refine ⟨?_⟩
 intro pins s σ H D I h
 refine wpAny_Assign_stores (thn (he pins s σ H _ I h) fun v s1 ⟨x,H1,I1,r1,q1⟩=>?_) hs hw
 rw [h1]
 exact thn (hg pins s1 σ H1 x v _ I1 r1 q1) fun _ s2 q=>q
theorem Ub {i:Nat} {x:Str} {e:Expr} {te:TE} {pos':Pos} (hN:X.N.Nodup) (hi:X.N[i]?=some x) (hx:Loc X.env.scope x) (he:PE X e te) (hs:swapsWith e (some (.Name x pos')) pos.line X.env=pure false:=by rfl) (hf:X.fn x=true\/X.env.scope.names.lookup x=some .local:=by first | exact .inl rfl | exact .inr rfl | assumption) :
  PS X (.Assign [.Name x pos'] e pos) (qeu te (qbY i)):=by
 refine ⟨?_⟩
 intro pins s σ H D I h
 refine wpAny_Assign_Name (thn (he pins s σ H _ I h) fun v s1 ⟨y,H1,I1,r1,q1⟩=>?_) hs
 exact Vd I1 hN hi hx r1 (fun s2 I2=>⟨_,H1,I2,q1⟩) hf
end
structure It where
 go:Nat->Hp->Prop
 yld:Nat->Hp->V->Hp->Prop
 stop:Nat->Hp->Prop
def JA (X:Cx) (pins:List (Addr×Obj)) (H:Hp) (b:Addr):Prop:=
 H b=none/\b≠X.env.locals/\b∉X.fs/\(b∈X.ex\/X.s₀.heap.objs.size<=b)/\(∀ x c,X.env.cells.lookup x=some c->c≠b)/\∀ p∈X.pn++pins,p.1≠b
theorem Inv.fpOk {X:Cx} {pins:List (Addr×Obj)} {σ:St} {H H':Hp} {s:Shared} {b:Addr} (I:Inv X pins σ H s) (hb:s.heap.objs.size<=b) (hn:H' b=none):JA X pins H' b:=by
 refine ⟨hn,Nat.ne_of_gt (Nat.lt_of_lt_of_le I.lt hb),I.nofs hb,.inr (Nat.le_trans I.sz hb),fun x c e z=>?_,fun p hp z=>?_⟩
 ·obtain ⟨v,q⟩:=I.cell x c e
  exact absurd (Nat.lt_of_lt_of_le q.lt (by rw [z]; exact hb)) (Nat.lt_irrefl _)
 ·exact absurd (Nat.lt_of_lt_of_le (Heap.lt_size (I.pin p hp).1) (by rw [z]; exact hb)) (Nat.lt_irrefl _)
structure Turn (P:Program) (w:World) (K:Frag) (tg:Expr) (J:It) (fp:List Addr) (it:Addr) (tn:Nat->Heap->Prop):Prop where
 mem:it∈fp
 obj:∀ i h,tn i h->∀ b∈fp,∃ o,h.get? b=some o/\∀ v,o.data≠.cell v
 keep:∀ i h h',tn i h->(∀ b∈fp,∀ o,h.get? b=some o->h'.get? b=some o)->tn i h'
 item:∀ (X:Cx),X.prog=P->X.w=w->X.K=K->X.calm=true->∀ (i:Nat) (pins:List (Addr×Obj)) (s:Shared) (σ:St) (H:Hp) (E:Value->Shared->Prop),Inv X pins σ H s->(∀ b∈fp,JA X pins H b)->tn i s.heap->J.go i H ->
  wpAny (model P w) X.A (pyNext (.ref it)) (fun r s1=>∃ u,r=some u /\
   wpAny (model P w) X.A (letOwnedTupleGo tg (.ref it) u) (fun _ s2=>∃ x H',Inv X pins σ H' s2/\RelV x u/\J.yld i H x H'/\tn (i+1) s2.heap/\∀ b∈fp,H' b=none) E s1) E s
 done:∀ (X:Cx),X.prog=P->X.w=w->X.K=K->X.calm=true->∀ (i:Nat) (pins:List (Addr×Obj)) (s:Shared) (σ:St) (H:Hp) (E:Value->Shared->Prop),Inv X pins σ H s->(∀ b∈fp,JA X pins H b)->tn i s.heap->J.stop i H ->
  wpAny (model P w) X.A (pyNext (.ref it)) (fun r s1=>r=none/\Inv X pins σ H s1) E s
 self:∀ (A:Around) (i:Nat) (s:Shared) (Q:Value->Shared->Prop) (E:Value->Shared->Prop),tn i s.heap->Q (.ref it) s->wpAny (model P w) A (pyIter (.ref it)) Q E s
abbrev TI:=St->Hp->(It->Hp->Prop)->Prop
def PIE (X:Cx) (pins:List (Addr×Obj)) (σ:St) (tg:Expr) (R:It->Hp->Prop) (itv:Value) (s2:Shared):Prop:=
 ∃ (it:Addr) (fp:List Addr) (tn:Nat->Heap->Prop) (J:It) (H':Hp),itv=.ref it/\Inv X pins σ H' s2/\Turn X.prog X.w X.K tg J fp it tn/\tn 0 s2.heap/\(∀ b∈fp,JA X pins H' b)/\R J H'
structure PI (X:Cx) (tg iter:Expr) (wi:TI):Prop where
 run:∀ (pins:List (Addr×Obj)) (s:Shared) (σ:St) (H:Hp) (R:It->Hp->Prop),Inv X pins σ H s->wi σ H R ->
  wpAny (model X.prog X.w) X.A (eval iter X.env) (fun v s1=>wpAny (model X.prog X.w) X.A (pyIter v) (PIE X pins σ tg R) X.xe s1) X.xe s
instance {X:Cx} {tg iter:Expr} {wi:TI}:CoeFun (PI X tg iter wi) (fun _=>∀ (pins:List (Addr×Obj)) (s:Shared) (σ:St) (H:Hp) (R:It->Hp->Prop),Inv X pins σ H s->wi σ H R ->
  wpAny (model X.prog X.w) X.A (eval iter X.env) (fun v s1=>wpAny (model X.prog X.w) X.A (pyIter v) (PIE X pins σ tg R) X.xe s1) X.xe s):=⟨fun h=>h.run⟩
theorem XV {M:Model} {A:Around} {E:Value->Shared->Prop} {s:Shared} {tg:Expr} {it:Addr} {u:Value} {o:Obj} {n:String} {vs:Array Value} {Q:Unit->Shared->Prop} (ho:s.heap.get? it=some o) (hc:o.cls=.type n) (hd:o.data=.fields vs)
    (hn:["enumerate", "zip", "dict_itemiterator", "dict_reverseitemiterator", "odict_iterator", "itertools.zip_longest", "itertools.pairwise"].contains n=false) (hQ:Q () s):wpAny M A (letOwnedTupleGo tg (.ref it) u) Q E s:=by
  unfold letOwnedTupleGo
  cases tg <;> first
    | exact wpAny_pure hQ
    | (cases u <;> first
        | exact wpAny_pure hQ
        | (refine wpAny_bind (wpAny_load ho ?_)
           rw [hc,hd]
           show wpAny M A (if (["enumerate", "zip", "dict_itemiterator", "dict_reverseitemiterator", "odict_iterator", "itertools.zip_longest", "itertools.pairwise"].contains n&&vs[0]? == some (rawInt _))=true then _ else _) Q E s
           rw [if_neg (by intro h; rw [hn,Bool.false_and] at h; cases h)]
           exact wpAny_pure hQ))
noncomputable def Itl (K:Frag) (a:Addr):It:=
 ⟨fun i H=>∃ xs x,SqL K H a xs/\xs[i]?=some x,fun i H x H'=>H'=H/\∀ xs,SqL K H a xs->xs[i]?=some x,fun i H=>∃ xs,SqL K H a xs/\xs.length<=i⟩
noncomputable def Itt (K:Frag) (a:Addr):It:=
 ⟨fun i H=>∃ xs x,SqT K H a xs/\xs[i]?=some x,fun i H x H'=>H'=H/\∀ xs,SqT K H a xs->xs[i]?=some x,fun i H=>∃ xs,SqT K H a xs/\xs.length<=i⟩
noncomputable def Itr (lo:Int) (n:Nat):It:=⟨fun i _=>i < n,fun i H x H'=>H'=H/\x=.int (lo+i),fun i _=>n<=i⟩
theorem Uc {P:Program} {w:World} {K:Frag} {tg:Expr} (a it:Addr):Turn P w K tg (Itl K a) [it] it (fun i h=>h.IsListIter it a i) where
 mem:=by simp
 obj:=fun i h st b hb=>by
  have e:b=it:=by simpa using hb
  subst e
  obtain ⟨o,e,c,d⟩:=st
  exact ⟨o,e,fun v z=>by rw [d] at z; cases z⟩
 keep:=fun i h h' st k=>st.at fun o e=>k it (by simp) o e
 item:=by
  intro X hP hw hK hc i pins s σ H E I hf st hg
  subst hP hw hK
  obtain ⟨xs,x,hq,hx⟩:=hg
  obtain ⟨its,rv,p,hz⟩:=I.list hq
  obtain ⟨u,hu,ru⟩:=rv.get hx
  obtain ⟨f0,f1,f2,f3,f4,f5⟩:=hf it (by simp)
  refine wpAny_pyNext_list_item st p.isList (x:=u) (by simpa using hu) fun h' st' sb=>?_
  have I1:Inv X pins σ H { s with heap:=h' }:=I.turned (t':=s.toks) (fun b o hb e=>(sb.2 b hb).trans e) f0 f1 f3 f4 f5
  obtain ⟨o,e,c,d⟩:=id st'
  exact ⟨u,rfl,XV (s:={ s with heap:=h' }) e c d (by decide) ⟨x,H,I1,ru,⟨rfl,fun ys hy=>by rw [I.list_inj hy hq]; exact hx⟩,st',fun b hb=>(hf b hb).1⟩⟩
 done:=by
  intro X hP hw hK hc i pins s σ H E I hf st hg
  subst hP hw hK
  obtain ⟨xs,hq,hx⟩:=hg
  obtain ⟨its,rv,p,hz⟩:=I.list hq
  obtain ⟨f0,f1,f2,f3,f4,f5⟩:=hf it (by simp)
  have hl:=rv.length
  exact wpAny_pyNext_list_end (I.ok.hd hc) st p.isList (by simp; omega) fun h' eb=>⟨rfl,I.turned (t':=s.toks) (fun b o hb e=>eb b o hb e) f0 f1 f3 f4 f5⟩
 self:=fun _ _ _ _ _ st h=>wpAny_pyIter_listiter st h
theorem Wo {P:Program} {w:World} {K:Frag} {tg:Expr} (a it:Addr):Turn P w K tg (Itt K a) [it] it (fun i h=>h.IsTupleIter it a i) where
 mem:=by simp
 obj:=fun i h st b hb=>by
  have e:b=it:=by simpa using hb
  subst e
  obtain ⟨o,e,c,d⟩:=st
  exact ⟨o,e,fun v z=>by rw [d] at z; cases z⟩
 keep:=fun i h h' st k=>st.at fun o e=>k it (by simp) o e
 item:=by
  intro X hP hw hK hc i pins s σ H E I hf st hg
  subst hP hw hK
  obtain ⟨xs,x,hq,hx⟩:=hg
  obtain ⟨its,rv,p,hz⟩:=I.tuple hq
  obtain ⟨u,hu,ru⟩:=rv.get hx
  obtain ⟨f0,f1,f2,f3,f4,f5⟩:=hf it (by simp)
  refine wpAny_pyNext_tuple_item st (show s.heap.IsTuple a its.toArray from p) (x:=u) (by simpa using hu) fun h' st' sb=>?_
  have I1:Inv X pins σ H { s with heap:=h' }:=I.turned (t':=s.toks) (fun b o hb e=>(sb.2 b hb).trans e) f0 f1 f3 f4 f5
  obtain ⟨o,e,c,d⟩:=id st'
  exact ⟨u,rfl,XV (s:={ s with heap:=h' }) e c d (by decide) ⟨x,H,I1,ru,⟨rfl,fun ys hy=>by rw [I.tuple_inj hy hq]; exact hx⟩,st',fun b hb=>(hf b hb).1⟩⟩
 done:=by
  intro X hP hw hK hc i pins s σ H E I hf st hg
  subst hP hw hK
  obtain ⟨xs,hq,hx⟩:=hg
  obtain ⟨its,rv,p,hz⟩:=I.tuple hq
  obtain ⟨f0,f1,f2,f3,f4,f5⟩:=hf it (by simp)
  have hl:=rv.length
  exact wpAny_pyNext_tuple_end (I.ok.hd hc) st (show s.heap.IsTuple a its.toArray from p) (by simp; omega) fun h' eb=>⟨rfl,I.turned (t':=s.toks) (fun b o hb e=>eb b o hb e) f0 f1 f3 f4 f5⟩
 self:=fun _ _ _ _ _ st h=>wpAny_pyIter_tupleiter st h
theorem Wp {P:Program} {w:World} {K:Frag} {tg:Expr} (it:Addr) (lo:Int) (n:Nat):Turn P w K tg (Itr lo n) [it] it (fun i h=>IsRangeIter h it (lo+(i:Nat) * 1) ((n:Int) - (i:Nat)) 1) where
 mem:=by simp
 obj:=fun i h st b hb=>by
  have e:b=it:=by simpa using hb
  subst e
  exact ⟨_,st,fun v z=>by
   have z':Data.fields _=Data.cell v:=z
   cases z'⟩
 keep:=fun i h h' st k=>k it (by simp) _ st
 item:=by
  intro X hP hw hK hc i pins s σ H E I hf st hg
  subst hP hw hK
  obtain ⟨f0,f1,f2,f3,f4,f5⟩:=hf it (by simp)
  have W:=Walks.range (prog:=X.prog) (w:=X.w) (I.ok.hd hc) it lo 1 n
  refine W.item i s _ _ hg st fun v h' tk hv st' kk=>?_
  obtain ⟨t,rfl⟩:=hv
  have I1:Inv X pins σ H { s with heap:=h',toks:=tk }:=I.turned (fun b o hb e=>kk b o (by simpa using hb) e) f0 f1 f3 f4 f5
  refine ⟨_,rfl,XV (s:={ s with heap:=h',toks:=tk }) (n := "range_iterator") st' rfl rfl (by decide) ⟨.int (lo+i),H,I1,⟨t,?_⟩,⟨rfl,rfl⟩,st',fun b hb=>(hf b hb).1⟩⟩
  rw [Int.mul_one]
 done:=by
  intro X hP hw hK hc i pins s σ H E I hf st hg
  subst hP hw hK
  obtain ⟨f0,f1,f2,f3,f4,f5⟩:=hf it (by simp)
  exact wpAny_pyNext_range_end (I.ok.hd hc) st (by have:n<=i:=hg; omega) fun h' eb=>⟨rfl,I.turned (t':=s.toks) (fun b o hb e=>eb b o hb e) f0 f1 f3 f4 f5⟩
 self:=fun _ _ _ _ _ st h=>wpAny_pyIter_rangeiter st h
section
variable {X:Cx} {tg:Expr}
theorem XW {pins:List (Addr×Obj)} {σ:St} {H:Hp} {s:Shared} {R:It->Hp->Prop} {E:Value->Shared->Prop} {lo hi:Int} {t u v:Tok} {tk:Nat} (I:Inv X pins σ H s) (h1:-(2 ^ 62)<=lo) (h2:lo < 2 ^ 62) (h3:-(2 ^ 62)<=hi) (h4:hi < 2 ^ 62)
  (q:R (Itr lo (hi - lo).toNat) H):wpAny (model X.prog X.w) X.A (pyIter (.ref s.heap.objs.size)) (PIE X pins σ tg R) E { s with heap:=s.heap.push { cls:=.type "range",data:=.fields #[.int lo t,.int hi u,.int 1 v] },toks:=tk }:=by
 refine wpAny_pyIter_range (IsRange.new ..) (small_one h1 h2 h3 h4) ?_
 have I1:Inv X pins σ H { s with heap:=s.heap.push { cls:=.type "range",data:=.fields #[.int lo t,.int hi u,.int 1 v] },toks:=tk }:=I.kept fun b o e=>Heap.get?_push_of_some _ e
 refine ⟨(s.heap.push { cls:=.type "range",data:=.fields #[.int lo t,.int hi u,.int 1 v] }).objs.size,[(s.heap.push { cls:=.type "range",data:=.fields #[.int lo t,.int hi u,.int 1 v] }).objs.size],_,_,H,rfl,
  I1.kept (t':=tk) fun b o e=>Heap.get?_push_of_some _ e,Wp _ lo (hi - lo).toNat,?_,fun b hb=>?_,q⟩
 ·have e1:lo+((0:Nat):Int) * 1=lo:=by simp
  have e2:(((hi - lo).toNat:Nat):Int) - ((0:Nat):Int)=Builtin.Range.rangeSize lo hi 1:=by rw [rangeSize_one]; split <;> omega
  show IsRangeIter _ _ (lo+((0:Nat):Int) * 1) ((((hi - lo).toNat:Nat):Int) - ((0:Nat):Int)) 1
  rw [e1,e2]
  exact Heap.get?_push_size _ rfl
 ·have e:b=(s.heap.push { cls:=.type "range",data:=.fields #[.int lo t,.int hi u,.int 1 v] }).objs.size:=by simpa using hb
  subst e
  exact I1.fpOk (Nat.le_refl _) (I1.hok.fresh (Nat.le_refl _))
def qdJ (ta:TA):TI:=fun σ H R=>ta σ H fun vs H1=>∃ j:Int,vs=[.int j]/\-(2 ^ 62)<=j/\j < 2 ^ 62/\R (Itr 0 j.toNat) H1
theorem Ud {a:Expr} {ta:TA} {p pos:Pos} (hg:Gl X "range") (hm:X.mg "range"=none) (ha:PA X [a] ta) (hs:starEach [a] X.env=[(false,eval a X.env)]:=by rfl):PI X tg (.Call (.Name "range" p) [a] [] pos) (qdJ ta):=by
 refine ⟨?_⟩
 intro pins s σ H R I h
 refine Call_ (Qo I hg hm boot_range (PyProof.Rows.callWith_type1 (thn (ha pos pins s σ H _ I h) fun us s1 ⟨vs,H1,I1,r1,q1⟩=>?_) hs rfl))
 obtain ⟨j,e,q1,q2,q⟩:=q1
 subst e
 cases r1 with
 | cons r rr=>
  cases rr
  obtain ⟨t,rfl⟩:=r
  exact call_range_1 (XW I1 (by omega) (by omega) q1 q2 (by simpa using q))
def qeZ (wi:TI) (g:TG) (tb:TS):TS:=fun D σ H=>wi σ H fun J H1=>∃ W:Nat->Nat->St->Hp->Prop,(∃ m,W 0 m σ H1)/\∀ i m σ H,W i m σ H ->
 (J.stop i H/\D.nx σ H)\/(J.go i H/\∃ N:St->Hp->Prop,(∀ σ' H',N σ' H'->∃ m',m' < m/\W (i+1) m' σ' H')/\∀ x H',J.yld i H x H'->g x σ H' fun σ2 H2=>tb { D with nx:=N,ct:=N,bk:=D.nx } σ2 H2)
noncomputable def Qp (fp:List Addr) (h:Heap):List (Addr×Obj):=fp.filterMap fun b=>(h.get? b).map fun o=>(b,o)
theorem wD {fp:List Addr} {h:Heap} {b:Addr} {o:Obj} (hb:b∈fp) (e:h.get? b=some o):(b,o)∈Qp fp h:=List.mem_filterMap.mpr ⟨b,hb,by rw [e]; rfl⟩
theorem Ue {fp:List Addr} {h:Heap} {p:Addr×Obj} (hp:p∈Qp fp h):p.1∈fp/\h.get? p.1=some p.2:=by
 obtain ⟨b,hb,e⟩:=List.mem_filterMap.mp hp
 cases q:h.get? b with
 | none=>rw [q] at e; cases e
 | some o=>
  rw [q] at e
  have e':(b,o)=p:=Option.some.inj e
  subst e'
  exact ⟨hb,q⟩
theorem Inv.pinned {pins:List (Addr×Obj)} {σ:St} {H:Hp} {s:Shared} {fp:List Addr} (I:Inv X pins σ H s) (hf:∀ b∈fp,JA X pins H b) (ho:∀ b∈fp,∃ o,s.heap.get? b=some o/\∀ v,o.data≠.cell v):Inv X (pins++Qp fp s.heap) σ H s:=
 I.pins_of fun p hp=>(List.mem_append.mp hp).elim (fun z=>I.pin p (List.mem_append_right _ z)) fun z=>by
  obtain ⟨hb,e⟩:=Ue z
  obtain ⟨f0,f1,f2,_⟩:=hf p.1 hb
  obtain ⟨o,e',d⟩:=ho p.1 hb
  rw [e] at e'; cases e'
  exact ⟨e,f0,f1,f2,d⟩
theorem Inv.unpinned {pins pl:List (Addr×Obj)} {σ:St} {H:Hp} {s:Shared} (I:Inv X (pins++pl) σ H s):Inv X pins σ H s:=I.pins_of fun p hp=>I.pin p (List.mem_append_right _ (List.mem_append_left _ hp))
theorem GM {iter:Expr} {body:List Stmt} {wi:TI} {g:TG} {tb:TS} {pos:Pos} (hp:PassesOwn (model X.prog X.w) X.A X.env X.xe) (hc:X.calm=true) (hi:PI X tg iter wi) (hg:PG X tg g) (hb:PSs X body tb)
  (hs:∀ x,foldedSetIterable iter X.env x=pure x:=by intro _; rfl):PS X (.For tg iter body [] pos) (qeZ wi g tb):=by
 refine ⟨?_⟩
 intro pins s σ H D I h
 refine wpAny_For (thn (hi pins s σ H _ I h) fun v s1 h1=>thn h1 fun itv s2 h2=>?_) hs
 obtain ⟨it,fp,tn,J,H2,e,I2,T,st2,f2,W,⟨m0,w0⟩,turn⟩:=h2
 subst e
 have stat:∀ {H':Hp},(∀ b∈fp,H' b=none)->∀ b∈fp,JA X pins H' b:=fun hn b hb=>⟨hn b hb,(f2 b hb).2⟩
 refine codeAny_forLoop_any (fun n s'=>∃ i σ' H',Inv X pins σ' H' s'/\tn i s'.heap/\(∀ b∈fp,H' b=none)/\W i n σ' H') ?_ m0 ⟨0,σ,H2,I2,st2,fun b hb=>(f2 b hb).1,w0⟩
 rintro n s3 ⟨i,σ3,H3,I3,st3,fr3,w3⟩
 rcases turn i n σ3 H3 w3 with ⟨stop,qn⟩ | ⟨go,N,hN,step⟩
 ·refine wpAny_passesOwn hp (thn (T.done X rfl rfl rfl hc i pins s3 σ3 H3 X.xe I3 (stat fr3) st3 stop) fun r s4 ⟨hr,I4⟩=>?_)
  subst hr
  exact wpAny_execs_nil ⟨σ3,H3,I4,qn⟩
 ·refine wpAny_passesOwn hp (thn (T.item X rfl rfl rfl hc i pins s3 σ3 H3 X.xe I3 (stat fr3) st3 go) fun r s4 ⟨u,hr,h4⟩=>?_)
  subst hr
  refine wpAny_passesOwn hp (thn h4 fun _ s5 ⟨x,H5,I5,r5,y5,st5,fr5⟩=>?_)
  have I5':=I5.pinned (stat fr5) (T.obj _ _ st5)
  refine wpAny_passesOwn hp (thn (hg _ s5 σ3 H5 x u _ I5' r5 (step x H5 y5)) fun _ s6 ⟨σ6,H6,I6,q6⟩=>?_)
  refine wpAny_passesOwn hp (thn (hb _ s6 σ6 H6 _ I6 q6) fun f s7 q7=>?_)
  have again:∀ {σ7:St} {H7:Hp},Inv X (pins++Qp fp s5.heap) σ7 H7 s7->N σ7 H7->∃ m,m < n/\∃ i σ' H',Inv X pins σ' H' s7/\tn i s7.heap/\(∀ b∈fp,H' b=none)/\W i m σ' H':=fun {σ7 H7} I7 n7=>by
   obtain ⟨m',hm,w7⟩:=hN σ7 H7 n7
   refine ⟨m',hm,i+1,σ7,H7,I7.unpinned,T.keep _ _ _ st5 fun b hb o e=>(I7.pin (b,o) (List.mem_append_right _ (List.mem_append_right _ (wD hb e)))).1,fun b hb=>?_,w7⟩
   obtain ⟨o,e,d⟩:=T.obj _ _ st5 b hb
   exact (I7.pin (b,o) (List.mem_append_right _ (List.mem_append_right _ (wD hb e)))).2.1
  cases f with
  | next=>obtain ⟨σ7,H7,I7,n7⟩:=q7; exact again I7 n7
  | cont=>obtain ⟨σ7,H7,I7,n7⟩:=q7; exact again I7 n7
  | brk=>obtain ⟨σ7,H7,I7,q7⟩:=q7; exact ⟨σ7,H7,I7.unpinned,q7⟩
  | ret v=>obtain ⟨x7,σ7,H7,I7,r7,q7⟩:=q7; exact ⟨x7,σ7,H7,I7.unpinned,r7,q7⟩
end
abbrev R2:=V->V->Hp->VK->Prop
def OpR (X:Cx) (f:Value->Value->Sem Value) (r:R2):Prop:=
 ∀ (pins:List (Addr×Obj)) (s:Shared) (σ:St) (H:Hp) (x y:V) (v u:Value) (Q:VK),Inv X pins σ H s->RelV x v->RelV y u->r x y H Q ->
  wpAny (model X.prog X.w) X.A (f v u) (EP X pins σ Q) X.xe s
def UnR (X:Cx) (f:Value->Sem Value) (r:V->Hp->VK->Prop):Prop:=
 ∀ (pins:List (Addr×Obj)) (s:Shared) (σ:St) (H:Hp) (x:V) (v:Value) (Q:VK),Inv X pins σ H s->RelV x v->r x H Q ->
  wpAny (model X.prog X.w) X.A (f v) (EP X pins σ Q) X.xe s
def wV (X:Cx) (f:Value) (r:List V->Hp->VK->Prop):Prop:=
 ∀ (pins:List (Addr×Obj)) (s:Shared) (σ:St) (H:Hp) (xs:List V) (us:List Value) (Q:VK),Inv X pins σ H s->Vals xs us->r xs H Q ->
  wpAny (model X.prog X.w) X.A (call f us) (EP X pins σ Q) X.xe s
def qe0 (X:Cx) (r:V->Hp->(Bool->Hp->Prop)->Prop):Prop:=
 ∀ (pins:List (Addr×Obj)) (s:Shared) (σ:St) (H:Hp) (x:V) (v:Value) (Q:Bool->Hp->Prop),Inv X pins σ H s->RelV x v->r x H Q ->
  wpAny (model X.prog X.w) X.A (truthy v) (TP X pins σ Q) X.xe s
def tOp (r:R2) (ta tb:TE):TE:=fun σ H Q=>ta σ H fun x H1=>tb σ H1 fun y H2=>r x y H2 Q
def tUn (r:V->Hp->VK->Prop) (ta:TE):TE:=fun σ H Q=>ta σ H fun x H1=>r x H1 Q
def rI (C:Int->Int->Prop) (g:Int->Int->V):R2:=fun x y H Q=>∃ i j,x=.int i/\y=.int j/\C i j/\Q (g i j) H
def rI0 (g:Int->Int->V):R2:=fun x y H Q=>∃ i j,x=.int i/\y=.int j/\Q (g i j) H
def rU (g:Int->V):V->Hp->VK->Prop:=fun x H Q=>∃ i,x=.int i/\Q (g i) H
section
variable {X:Cx} {a b c:Expr} {ta tb tc:TE} {pos:Pos}
theorem qdK (ha:PE X a ta) (hb:PE X b tb) {pins:List (Addr×Obj)} {s:Shared} {σ:St} {H:Hp} {R:V->V->Hp->Prop} (I:Inv X pins σ H s)
  (h:ta σ H fun x H1=>tb σ H1 fun y H2=>R x y H2) {Q:Value->Shared->Prop} {f:Value->Value->Sem Value}
  (hf:∀ v u s2 x y H2,Inv X pins σ H2 s2->RelV x v->RelV y u->R x y H2->wpAny (model X.prog X.w) X.A (f v u) Q X.xe s2) :
  wpAny (model X.prog X.w) X.A (eval a X.env) (fun v s₁=>wpAny (model X.prog X.w) X.A (eval b X.env) (fun u s₂=>wpAny (model X.prog X.w) X.A (f v u) Q X.xe s₂) X.xe s₁) X.xe s:=by
 refine thn (ha pins s σ H _ I h) fun v s1 ⟨x,H1,I1,r1,q1⟩=>?_
 refine thn (hb pins s1 σ H1 _ I1 q1) fun u s2 ⟨y,H2,I2,r2,q2⟩=>?_
 exact hf v u s2 x y H2 I2 r1 r2 q2
theorem qdL {op:Operator} {r:R2} (ho:OpR X (binaryOp op) r) (ha:PE X a ta) (hb:PE X b tb):PE X (.BinOp a op b pos) (tOp r ta tb):=by
 refine ⟨?_⟩
 intro pins s σ H Q I h
 exact wpAny_BinOp (qdK ha hb I h fun v u s2 x y H2 I2 rx ry q=>ho pins s2 σ H2 x y v u Q I2 rx ry q)
theorem qdM {op:UnaryOp} {r:V->Hp->VK->Prop} (ho:UnR X (unaryOp op) r) (ha:PE X a ta):PE X (.UnaryOp op a pos) (tUn r ta):=by
 refine ⟨?_⟩
 intro pins s σ H Q I h
 exact UnaryOp_ (thn (ha pins s σ H _ I h) fun v s1 ⟨x,H1,I1,r1,q1⟩=>ho pins s1 σ H1 x v Q I1 r1 q1)
theorem opI {f:Value->Value->Sem Value} {C:Int->Int->Prop} {g:Int->Int->Int}
  (rule:∀ (i j:Int) (t u:Tok) (s:Shared) (Q:Value->Shared->Prop) (E:Value->Shared->Prop),C i j->Q (.int (g i j) s.toks) { s with toks:=s.toks+1 }->wpAny (model X.prog X.w) X.A (f (.int i t) (.int j u)) Q E s) :
  OpR X f (rI C fun i j=>.int (g i j)):=by
 intro pins s σ H x y v u Q I rx ry h
 obtain ⟨i,j,rfl,rfl,hc,q⟩:=h
 obtain ⟨t,rfl⟩:=rx
 obtain ⟨t',rfl⟩:=ry
 exact rule i j t t' s _ _ hc ⟨.int (g i j),H,I.tok _,⟨_,rfl⟩,q⟩
theorem qev {f:Value->Value->Sem Value} {g:Int->Int->Int}
  (rule:∀ (i j:Int) (t u:Tok) (s:Shared) (Q:Value->Shared->Prop) (E:Value->Shared->Prop),Q (.int (g i j) s.toks) { s with toks:=s.toks+1 }->wpAny (model X.prog X.w) X.A (f (.int i t) (.int j u)) Q E s) :
  OpR X f (rI0 fun i j=>.int (g i j)):=by
 intro pins s σ H x y v u Q I rx ry h
 obtain ⟨i,j,rfl,rfl,q⟩:=h
 obtain ⟨t,rfl⟩:=rx
 obtain ⟨t',rfl⟩:=ry
 exact rule i j t t' s _ _ ⟨.int (g i j),H,I.tok _,⟨_,rfl⟩,q⟩
theorem qdN {f:Value->Value->Sem Value} {g:Int->Int->Bool}
  (rule:∀ (i j:Int) (t u:Tok) (s:Shared) (Q:Value->Shared->Prop) (E:Value->Shared->Prop),Q (.bool (g i j)) s->wpAny (model X.prog X.w) X.A (f (.int i t) (.int j u)) Q E s) :
  OpR X f (rI0 fun i j=>.bl (g i j)):=by
 intro pins s σ H x y v u Q I rx ry h
 obtain ⟨i,j,rfl,rfl,q⟩:=h
 obtain ⟨t,rfl⟩:=rx
 obtain ⟨t',rfl⟩:=ry
 exact rule i j t t' s _ _ ⟨.bl (g i j),H,I,rfl,q⟩
def qe1 (i j:Int):Prop:=0 < j/\j < 1073741824
def qbC (i j:Int):Prop:=0<=j/\j<=1000000/\i.natAbs < 2 ^ 64
def CMul (i j:Int):Prop:=(-(2 ^ 64) < i/\i < 2 ^ 64)\/(-(2 ^ 64) < j/\j < 2 ^ 64)
theorem CMul.ok {i j:Int} (h:CMul i j):IntMulOk i j:=by
 rcases h with ⟨h1,h2⟩ | ⟨h1,h2⟩
 ·exact .of_left (intBits_le_64 h1 h2)
 ·exact .of_right (intBits_le_64 h1 h2)
theorem qb0:OpR X (binaryOp .Add) (rI0 fun i j=>.int (i+j)):=qev fun _ _ _ _ _ _ _ q=>add_int q
theorem qb1:OpR X (binaryOp .Sub) (rI0 fun i j=>.int (i - j)):=qev fun _ _ _ _ _ _ _ q=>sub_int q
theorem qb2:OpR X (binaryOp .Mult) (rI CMul fun i j=>.int (i * j)):=opI fun _ _ _ _ _ _ _ hc q=>mul_int q hc.ok
theorem qb3:OpR X (binaryOp .Mod) (rI (fun _ j=>0 < j) fun i j=>.int (i % j)):=opI fun i j _ _ _ _ _ hc q=>by
 have h1:(0:Int) < j:=hc
 exact mod_int' (by omega) (by rw [Int.fmod_eq_emod_of_nonneg i (by omega)]; exact q)
theorem GN:OpR X (binaryOp .Pow) (rI qbC fun i j=>.int (i ^ j.toNat)):=opI fun _ _ _ _ _ _ _ hc q=>pow_int_small hc.1 hc.2.1 hc.2.2 q
theorem unI {f:Value->Sem Value} {g:Int->Int}
  (rule:∀ (i:Int) (t:Tok) (s:Shared) (Q:Value->Shared->Prop) (E:Value->Shared->Prop),Q (.int (g i) s.toks) { s with toks:=s.toks+1 }->wpAny (model X.prog X.w) X.A (f (.int i t)) Q E s) :
  UnR X f (rU fun i=>.int (g i)):=by
 intro pins s σ H x v Q I rx h
 obtain ⟨i,rfl,q⟩:=h
 obtain ⟨t,rfl⟩:=rx
 exact rule i t s _ _ ⟨.int (g i),H,I.tok _,⟨_,rfl⟩,q⟩
theorem qb4:UnR X (unaryOp .USub) (rU fun i=>.int (-i)):=unI fun _ _ _ _ _ q=>neg_int q
end
section
variable {X:Cx} {a b c:Expr} {ta tb tc:TE} {pos:Pos}
theorem Uf {pins:List (Addr×Obj)} {σ:St} {H:Hp} {s:Shared} {Q:VK} {k k':Bool} (I:Inv X pins σ H s) (q:Q (.bl k) H) (e:k=k'):EP X pins σ Q (.bool k') s:=by
 subst e
 exact ⟨.bl k,H,I,rfl,q⟩
theorem qdO:OpR X (compareOp .Lt) (rI0 fun i j=>.bl (decide (i < j))):=qdN fun _ _ _ _ _ _ _ q=>lt_int q
theorem qdP:OpR X (compareOp .LtE) (rI0 fun i j=>.bl (decide (i<=j))):=qdN fun _ _ _ _ _ _ _ q=>le_int q
theorem qdQ:OpR X (compareOp .GtE) (rI0 fun i j=>.bl (decide (j<=i))):=qdN fun _ _ _ _ _ _ _ q=>ge_int q
theorem Ug:OpR X (compareOp .Lt) (fun x y H Q=>∃ i j,x=.str i/\y=.str j/\Q (.bl (decide (i.cps.toList < j.cps.toList))) H):=by
 intro pins s σ H x y v u Q I rx ry h
 obtain ⟨i,j,rfl,rfl,q⟩:=h
 obtain ⟨t,rfl⟩:=rx
 obtain ⟨t',rfl⟩:=ry
 exact lt_str (Uf I q rfl)
theorem qb5:OpR X (compareOp .Is) (fun x y H Q=>y=.non/\Q (.bl (decide (x=.non))) H):=by
 intro pins s σ H x y v u Q I rx ry h
 obtain ⟨rfl,q⟩:=h
 cases ry
 refine is_none_gen (Uf I q ?_)
 cases x <;> first
  | (cases rx; rfl)
  | (obtain ⟨t,rfl⟩:=rx; rfl)
theorem GO (b:Expr) {op:CmpOp} (h:op≠.In:=by decide) (h2:op≠.NotIn:=by decide):behindInMarks op b=false:=by
 have e1:(op == CmpOp.In)=false:=by cases op <;> first | rfl | exact absurd rfl h
 have e2:(op == CmpOp.NotIn)=false:=by cases op <;> first | rfl | exact absurd rfl h2
 cases b <;> simp [behindInMarks,e1,e2]
theorem qaA {op:CmpOp} {r:R2} (ho:OpR X (compareOp op) r) (ha:PE X a ta) (hb:PE X b tb) (hm:behindInMarks op b=false):PE X (.Compare a [op] [b] pos) (tOp r ta tb):=by
 refine ⟨?_⟩
 intro pins s σ H Q I h
 exact wpAny_Compare1 (qdK ha hb I h fun v u s2 x y H2 I2 rx ry q=>ho pins s2 σ H2 x y v u Q I2 rx ry q) hm
def qb6 (t:TE):TT:=fun σ H Q=>t σ H fun x H'=>∃ k,x=.bl k/\Q k H'
theorem qaB {op:CmpOp} {r:R2} (ho:OpR X (compareOp op) r) (ha:PE X a ta) (hb:PE X b tb) (hm:behindInMarks op b=false):PT X (.Compare a [op] [b] pos) (qb6 (tOp r ta tb)):=by
 refine ⟨?_⟩
 intro pins s σ H Q I h
 refine wpAny_isTrue_Compare1 (thn (ha pins s σ H _ I h) fun v s1 ⟨x,H1,I1,r1,q1⟩=>thn (hb pins s1 σ H1 _ I1 q1) fun u s2 ⟨y,H2,I2,r2,q2⟩=>
  thn (ho pins s2 σ H2 x y v u _ I2 r1 r2 q2) fun c s3 ⟨z,H3,I3,r3,k,e,q3⟩=>?_) hm
 subst e
 cases r3
 exact wpAny_truthy_bool ⟨H3,I3,q3⟩
def Uh (r r':R2) (ta tb tc:TE):TE:=fun σ H Q=>ta σ H fun x H1=>tb σ H1 fun y H2=>r x y H2 fun z H3=>∃ k,z=.bl k /\
 (if k=true then tc σ H3 fun w' H4=>r' y w' H4 Q else Q (.bl false) H3)
theorem XX {op op':CmpOp} {r r':R2} (ho:OpR X (compareOp op) r) (ho':OpR X (compareOp op') r') (ha:PE X a ta) (hb:PE X b tb) (hc:PE X c tc)
  (hm:lastMarks [op,op'] [b,c]=false:=by with_unfolding_all rfl):PE X (.Compare a [op,op'] [b,c] pos) (Uh r r' ta tb tc):=by
 refine ⟨?_⟩
 intro pins s σ H Q I h
 refine Compare_chain (thn (ha pins s σ H _ I h) fun v s1 ⟨x,H1,I1,r1,q1⟩=>chain_link (thn (hb pins s1 σ H1 _ I1 q1) fun u s2 ⟨y,H2,I2,r2,q2⟩=>
  thn (ho pins s2 σ H2 x y v u _ I2 r1 r2 q2) fun d s3 ⟨z,H3,I3,r3,k,e,q3⟩=>?_)) hm
 subst e
 cases r3
 refine wpAny_truthy_bool ?_
 cases k with
 | false=>exact ite_ff ⟨.bl false,H3,I3,rfl,q3⟩
 | true=>exact ite_tt (chain_last (thn (hc pins s3 σ H3 _ I3 q3) fun w' s4 ⟨z',H4,I4,r4,q4⟩=>ho' pins s4 σ H4 y z' u w' Q I4 r2 r4 q4))
theorem XY {op op':CmpOp} {r r':R2} (ho:OpR X (compareOp op) r) (ho':OpR X (compareOp op') r') (ha:PE X a ta) (hb:PE X b tb) (hc:PE X c tc)
  (hm:lastMarks [op,op'] [b,c]=false:=by with_unfolding_all rfl):PT X (.Compare a [op,op'] [b,c] pos) (qb6 (Uh r r' ta tb tc)):=by
 refine ⟨?_⟩
 intro pins s σ H Q I h
 refine isTrue_chain (thn (ha pins s σ H _ I h) fun v s1 ⟨x,H1,I1,r1,q1⟩=>test_link (thn (hb pins s1 σ H1 _ I1 q1) fun u s2 ⟨y,H2,I2,r2,q2⟩=>
  thn (ho pins s2 σ H2 x y v u _ I2 r1 r2 q2) fun d s3 ⟨z,H3,I3,r3,k,e,q3⟩=>?_)) hm
 subst e
 cases r3
 refine wpAny_truthy_bool ?_
 cases k with
 | false=>
  obtain ⟨k',e',q'⟩:=q3
  cases e'
  exact ite_ff ⟨H3,I3,q'⟩
 | true=>
  refine ite_tt (test_last (thn (hc pins s3 σ H3 _ I3 q3) fun w' s4 ⟨z',H4,I4,r4,q4⟩=>thn (ho' pins s4 σ H4 y z' u w' _ I4 r2 r4 q4) fun d' s5 ⟨z2,H5,I5,r5,k2,e2,q5⟩=>?_))
  subst e2
  cases r5
  exact wpAny_truthy_bool ⟨H5,I5,q5⟩
def qdR (K:Frag) (x:V) (H:Hp) (k:Bool):Prop:=
 match x with
 | .non=>k=false
 | .bl b=>k=b
 | .int i=>k=(i != 0)
 | .str y=>y.length<=sizeLine/\k=((y.length:Int) != 0)
 | .byt y=>y.size<=sizeLine/\k=((y.size:Int) != 0)
 | .ref p=>(∃ xs,SqL K H p xs/\k=!xs.isEmpty)\/(∃ xs,SqT K H p xs/\k=!xs.isEmpty)\/∃ kvs,H p=some (.dK kvs)/\k=!kvs.isEmpty
 | _=>False
theorem Wq {κ:Type} {kvs:List (κ×V)} {vs:List (κ×Value)} (r:KV kvs vs):(!vs.isEmpty)=!kvs.isEmpty:=by
 cases r <;> rfl
theorem zD {xs:List V} {its:List Value} (r:Vals xs its):(!its.toArray.isEmpty)=!xs.isEmpty:=by
 cases r <;> simp
theorem zE:(sizeLine:Nat) < 2 ^ 63:=by rw [sizeLine_eq]; decide
theorem qb7:qe0 X (fun x H Q=>∃ k,qdR X.K x H k/\Q k H):=by
 intro pins s σ H x v Q I rx h
 obtain ⟨k,e,q⟩:=h
 have hl:=zE
 have hs:sizeLine=16777216:=sizeLine_eq
 cases x with
 | non=>
  cases rx
  have e':k=false:=e
  subst e'
  exact truthy_none ⟨H,I,q⟩
 | bl b=>
  cases rx
  have e':k=b:=e
  subst e'
  exact wpAny_truthy_bool ⟨H,I,q⟩
 | int i=>
  obtain ⟨t,rfl⟩:=rx
  have e':k=(i != 0):=e
  subst e'
  exact PySem.P.truthy_int ⟨H,I,q⟩
 | str y=>
  obtain ⟨t,rfl⟩:=rx
  obtain ⟨hy,e'⟩:y.length<=sizeLine/\k=((y.length:Int) != 0):=e
  subst e'
  exact PySem.P.truthy_str (by omega) ⟨H,I.tok _,q⟩
 | byt y=>
  obtain ⟨t,rfl⟩:=rx
  obtain ⟨hy,e'⟩:y.size<=sizeLine/\k=((y.size:Int) != 0):=e
  subst e'
  exact PySem.W.truthy_bytes (by omega) ⟨H,I.tok _,q⟩
 | ref p=>
  cases rx
  have e':(∃ xs,SqL X.K H p xs/\k=!xs.isEmpty)\/(∃ xs,SqT X.K H p xs/\k=!xs.isEmpty)\/∃ kvs,H p=some (.dK kvs)/\k=!kvs.isEmpty:=e
  rcases e' with ⟨xs,hx,e'⟩ | ⟨xs,hx,e'⟩ | ⟨kvs,hx,e'⟩
  ·subst e'
   obtain ⟨its,r,pl,hz⟩:=I.list hx
   have hlen:=r.length
   exact wpAny_truthy_list pl.isList (by simp only [List.size_toArray]; omega) ⟨H,I.tok _,by rw [zD r]; exact q⟩
  ·subst e'
   obtain ⟨its,r,pl,hz⟩:=I.tuple hx
   have hlen:=r.length
   exact truthy_tuple pl (by simp only [List.size_toArray]; omega) ⟨H,I.tok _,by rw [zD r]; exact q⟩
  ·subst e'
   obtain ⟨hz,hS,vs,r,m⟩:kvs.length<=sizeLine/\(p == sysModules)=false/\∃ vs,KV kvs vs/\s.heap.DictOf (jb X.prog X.w) p vs:=I.hok p _ hx
   have hlen:kvs.length=vs.length:=Paired.length r
   exact wpAny_truthy_dict hS m (by omega) ⟨H,I.tok _,by rw [Wq r]; exact q⟩
 | _=>exact (show False from e).elim
theorem XZ (ha:PE X a ta) (he:∀ whole,isTrue a X.env whole=(do let v <-whole; standAt a.pos; holding [v] (truthy v))) :
  PT X a (fun σ H Q=>ta σ H fun x H'=>∃ k,qdR X.K x H' k/\Q k H'):=by
 refine ⟨?_⟩
 intro pins s σ H Q I h
 exact isTrue_plain (thn (ha pins s σ H _ I h) fun v s1 ⟨x,H1,I1,r1,q1⟩=>qb7 pins s1 σ H1 x v Q I1 r1 q1) (he _)
theorem Wr:OpR X (binaryOp .Add) (fun x y H Q=>∃ i j,x=.str i/\y=.str j/\i.length+j.length<=sizeLine/\Q (.str (i++j)) H):=by
 intro pins s σ H x y v u Q I rx ry h
 obtain ⟨i,j,rfl,rfl,hz,q⟩:=h
 obtain ⟨t,rfl⟩:=rx
 obtain ⟨t',rfl⟩:=ry
 exact add_str (fun t' tk=>⟨.str (i++j),H,I.tok _,⟨_,rfl⟩,q⟩) hz
theorem xg {x:V} {us:List Value} (r:Vals [x] us):∃ u,us=[u]/\RelV x u:=by
 cases r with
 | cons r1 r2=>cases r2; exact ⟨_,rfl,r1⟩
theorem Za {x y:V} {us:List Value} (r:Vals [x,y] us):∃ u w',us=[u,w']/\RelV x u/\RelV y w':=by
 cases r with
 | cons r1 r2=>
  cases r2 with
  | cons r3 r4=>cases r4; exact ⟨_,_,rfl,r1,r3⟩
theorem Ui (hc:X.calm=true):wV X (.builtin "max") (fun xs H Q=>∃ i j,xs=[.int i,.int j]/\Q (.int (if j > i then j else i)) H):=by
 intro pins s σ H xs us Q I r h
 obtain ⟨i,j,rfl,q⟩:=h
 obtain ⟨u,w',rfl,⟨t,rfl⟩,⟨t',rfl⟩⟩:=Za r
 refine max_two_ints (I.ok.hd hc) fun h' tk k=>⟨_,H,I.kept k,?_,q⟩
 by_cases hj:j > i
 ·rw [if_pos hj,if_pos hj]; exact ⟨_,rfl⟩
 ·rw [if_neg hj,if_neg hj]; exact ⟨_,rfl⟩
theorem Uj (hc:X.calm=true):wV X (.builtin "min") (fun xs H Q=>∃ i j,xs=[.int i,.int j]/\Q (.int (if j < i then j else i)) H):=by
 intro pins s σ H xs us Q I r h
 obtain ⟨i,j,rfl,q⟩:=h
 obtain ⟨u,w',rfl,⟨t,rfl⟩,⟨t',rfl⟩⟩:=Za r
 refine min_two_ints (I.ok.hd hc) fun h' tk k=>⟨_,H,I.kept k,?_,q⟩
 by_cases hj:j < i
 ·rw [if_pos hj,if_pos hj]; exact ⟨_,rfl⟩
 ·rw [if_neg hj,if_neg hj]; exact ⟨_,rfl⟩
def qe2 (K:Frag) (x:V) (H:Hp) (n:Nat):Prop:=
 match x with
 | .str y=>y.length<=sizeLine/\n=y.length
 | .byt y=>y.size<=sizeLine/\n=y.size
 | .ref p=>(∃ xs,SqL K H p xs/\n=xs.length)\/∃ xs,SqT K H p xs/\n=xs.length
 | _=>False
theorem gh:wV X (.builtin "len") (fun xs H Q=>∃ x n,xs=[x]/\qe2 X.K x H n/\Q (.int n) H):=by
 intro pins s σ H xs us Q I r h
 obtain ⟨x,n,rfl,e,q⟩:=h
 obtain ⟨u,rfl,rx⟩:=xg r
 have hl:=zE
 have hs:sizeLine=16777216:=sizeLine_eq
 cases x with
 | str y=>
  obtain ⟨t,rfl⟩:=rx
  obtain ⟨hy,e'⟩:y.length<=sizeLine/\n=y.length:=e
  subst e'
  exact len_str (by omega) ⟨.int _,H,I.tok _,⟨_,rfl⟩,q⟩
 | byt y=>
  obtain ⟨t,rfl⟩:=rx
  obtain ⟨hy,e'⟩:y.size<=sizeLine/\n=y.size:=e
  subst e'
  exact PySem.W.len_bytes (by omega) ⟨.int _,H,I.tok _,⟨_,rfl⟩,q⟩
 | ref p=>
  cases rx
  have e':(∃ xs,SqL X.K H p xs/\n=xs.length)\/∃ xs,SqT X.K H p xs/\n=xs.length:=e
  rcases e' with ⟨xs,hx,e'⟩ | ⟨xs,hx,e'⟩
  ·subst e'
   obtain ⟨its,r',pl,hz⟩:=I.list hx
   have hlen:=r'.length
   exact Calls.call_len_list pl.isList (by simp only [List.size_toArray]; omega) ⟨.int xs.length,H,I.tok _,⟨_,by simp only [List.size_toArray]; rw [hlen]⟩,q⟩
  ·subst e'
   obtain ⟨its,r',pl,hz⟩:=I.tuple hx
   have hlen:=r'.length
   exact len_tuple pl (by simp only [List.size_toArray]; omega) ⟨.int xs.length,H,I.tok _,⟨_,by simp only [List.size_toArray]; rw [hlen]⟩,q⟩
 | _=>exact (show False from e).elim
end
structure ObjM (h:Heap) (x dx C:Addr) (mA:Str->Option Value):Prop where
 obj:h.get? x=some (PySem.W.instObj C dx)
 ns:h.Ns1 dx mA
 ne:dx≠x
theorem Uk {h:Heap} {dx:Addr} {mA:Str->Option Value} (n:h.Ns1 dx mA):∃ od,h.get? dx=some od/\∀ name,PySem.W.lookIn name od=some (mA name):=by
 obtain ⟨o,es,ep,ho,hd,hk,_,hm⟩:=n
 refine ⟨o,ho,fun name=>?_⟩
 have e:=hm name
 unfold nsFind findBy at e
 rw [<-Array.find?_toList] at e
 unfold PySem.W.lookIn
 rw [hd]
 dsimp only
 split
 ·rename_i y q
  rw [q] at e
  exact congrArg some e
 ·rename_i q
  rw [q] at e
  have a:es.toList.any (·.refKey)=false:=by
   rw [List.any_eq_false]
   intro y hy
   obtain ⟨z,t,hkey⟩:=hk y (Array.mem_toList_iff.mp hy)
   simp [DictEntry.refKey,hkey]
  have a':¬es.toList.any (·.refKey)=true:=by rw [a]; exact Bool.false_ne_true
  rw [if_neg a']
  exact congrArg some e
theorem ObjM.look {h:Heap} {x dx C:Addr} {mA:Str->Option Value} (I:ObjM h x dx C mA):∃ od,PySem.W.InstAt h x (PySem.W.instObj C dx) C (some od)/\∀ name,PySem.W.lookIn name od=some (mA name):=
 let ⟨od,ho,hl⟩:=Uk I.ns
 ⟨od,⟨I.obj,rfl,rfl,ho⟩,hl⟩
section
variable {prog:Program} {w:World} {A:Around} {E:Value->Shared->Prop} {s:Shared} {K:Frag} {x dx C f:Addr} {mA:Str->Option Value} {name:Str} {v:Value}
theorem qaC {expr:Bool} {Q:Value->Shared->Prop} (X:K.In s.heap) (I:ObjM s.heap x dx C mA) (hg:PySem.W.plainGet K C name=true) (hh:PySem.W.hasDictIn K C=true)
  (ha:PySem.W.findIn K (.ref C) name=some none) (hv:mA name=some v) (hv':PySem.W.handedIn v=true) (h:Q v { s with toks:=s.toks+1 }) :
  wpAny (model prog w) A (getAttr (.ref x) name expr) Q E s:=by
 obtain ⟨od,J,hl⟩:=I.look
 exact PySem.W.get_value X J (PySem.W.plainGet_of hg).1 (PySem.W.findObj_own hh ha rfl (by rw [hl,hv])) hv' h
theorem Zb {pl:Sem Bool} {Q:Value×List Value->Shared->Prop} (X:K.In s.heap) (I:ObjM s.heap x dx C mA) (hg:PySem.W.plainGet K C name=true)
  (hf:PySem.W.findIn K (.ref C) name=some (some (.ref f))) (ht:PySem.W.isFn K (.ref f)=true) (hv:mA name=none) (h:Q (.ref f,[.ref x]) s) :
  wpAny (model prog w) A (getMethod (.ref x) name pl) Q E s:=by
 obtain ⟨od,J,hl⟩:=I.look
 exact PySem.W.method_fn X J (PySem.W.plainGet_of hg).1 (PySem.W.plainGet_of hg).2 hf (beq_iff_eq.mp ht) (by show (PySem.W.lookIn name od).map (·.isSome)=some false; rw [hl,hv]; rfl) h
theorem qaD {ns:List Str} {Q:Unit->Shared->Prop} (X:K.In s.heap) (I:ObjM s.heap x dx C mA)
  (hs:PySem.W.findIn K (.ref C) "__setattr__"=some (some (.builtin "object.__setattr__"))) (hp:PySem.W.plainOver K C=true) (ht:PySem.W.takerIn K C name=some none) (hh:PySem.W.hasDictIn K C=true)
  (hw:PySem.Within mA ns) (hsz:ns.length<=sizeLine)
  (h:∀ h',ObjM h' x dx C (fun y=>if y=name then some v else mA y)->Heap.SameBut dx s.heap h'->Q () { s with heap:=h',toks:=s.toks+2 }) :
  wpAny (model prog w) A (setAttr (.ref x) name v) Q E s:=by
 obtain ⟨od,J,hl⟩:=I.look
 refine PySem.W.set_plain X J hs (PySem.W.osa_open (s:={ s with toks:=s.toks+1 }) (r:=none) X J hp ht fun b=>?_)
 obtain ⟨cd,hc,hd'⟩:=PySem.W.any_some hh
 have hx:s.heap.get? x=some ⟨.ref C,some dx,.plain,#[]⟩:=I.obj
 refine wpAny_bind (wpAny_pure (wpAny_bind (wpAny_bind (wpAny_loadPart hx (wpAny_bind (PySem.W.Looks.here (s:={ s with toks:=s.toks+1 }) (PySem.W.looks_clsIn X hc) ?_))))))
 rw [hd']
 refine wpAny_pure (a:=some dx) (wpAny_bind (wpAny_pure (wpAny_bind ?_)))
 refine wpAny_nsSet1 (s:={ s with toks:=s.toks+1 }) I.ns fun h' hn2 hs2=>?_
 obtain ⟨oD,esD,epD,hoD,hdD,hcD⟩:=hn2.count (PySem.Within.cons name v hw)
 refine wpAny_bind (wpAny_lookBehind hoD (by rw [hdD]; exact pastItsLine_dict (Nat.le_trans hcD (by rw [List.length_cons]; omega))) ?_)
 exact wpAny_pure (h _ ⟨(hs2.2 _ (Ne.symm I.ne)).trans I.obj,hn2,I.ne⟩ hs2)
theorem Zc {R:Result->Shared->Prop} {vs:List Value} {kw:List (Str×Value)} (X:K.In s.heap) (hm:PySem.W.makesIn K C=true)
  (hi:PySem.W.findIn K (.ref C) "__init__"=some (some (.ref f))) (hf:PySem.W.typeIn K (.ref f)=some (.type "function"))
  (h:codeAny (model prog w) (A.under (.builtin "type.__call__" ⟨.ref C::vs,kw⟩)) (.call (.ref f) ⟨.ref (s.heap.objs.size+1)::vs,kw⟩) (PySem.W.InitBack (s.heap.objs.size+1) R)
   { s with heap:=(s.heap.push PySem.W.emptyDict).push (PySem.W.instObj C s.heap.objs.size) }) :
  codeAny (model prog w) A (.call (.ref C) ⟨vs,kw⟩) R s:=by
 obtain ⟨hh,g,d,t,os⟩:=s
 exact PySem.W.make_core (PySem.W.makes_of X hm) (PySem.W.looks_findIn X hi) (fun self=>PySem.W.bind_fn X self hf) (.inl rfl) h
end
noncomputable def yJ (f:Str) (v:V):List (Str×V)->List (Str×V)
 | []=>[(f,v)]
 | (g,x)::r=>if g=f then (g,v)::r else (g,x)::yJ f v r
theorem uh (f g:Str) (v:V):∀ fs:List (Str×V),(yJ f v fs).lookup g=if g=f then some v else fs.lookup g
 | []=>by
  show List.lookup g [(f,v)]=_
  by_cases h:g=f
  ·have hb:(g == f)=true:=beq_iff_eq.mpr h
   simp only [List.lookup,hb,if_pos h]
  ·have hb:(g == f)=false:=beq_eq_false_iff_ne.mpr h
   simp only [List.lookup,hb,if_neg h]
 | (k,x)::r=>by
  have ih:=uh f g v r
  rw [show yJ f v ((k,x)::r)=(if k=f then (k,v)::r else (k,x)::yJ f v r) from rfl]
  by_cases hk:k=f
  ·rw [if_pos hk]
   by_cases h:g=k
   ·have hb:(g == k)=true:=beq_iff_eq.mpr h
    simp only [List.lookup,hb,if_pos (h.trans hk)]
   ·have hb:(g == k)=false:=beq_eq_false_iff_ne.mpr h
    simp only [List.lookup,hb,if_neg (fun e:g=f=>h (e.trans hk.symm))]
  ·rw [if_neg hk]
   by_cases h:g=k
   ·have hb:(g == k)=true:=beq_iff_eq.mpr h
    simp only [List.lookup,hb,if_neg (fun e:g=f=>hk (h.symm.trans e))]
   ·have hb:(g == k)=false:=beq_eq_false_iff_ne.mpr h
    simp only [List.lookup,hb]
    exact ih
theorem xh (f:Str) (v:V):∀ fs:List (Str×V),f∈(yJ f v fs).map (·.1)/\∀ g,g∈fs.map (·.1)->g∈(yJ f v fs).map (·.1)
 | []=>⟨by simp [yJ],fun g h=>by simp at h⟩
 | (k,x)::r=>by
  obtain ⟨i1,i2⟩:=xh f v r
  rw [show yJ f v ((k,x)::r)=(if k=f then (k,v)::r else (k,x)::yJ f v r) from rfl]
  by_cases hk:k=f
  ·rw [if_pos hk]
   subst hk
   exact ⟨by simp,fun g h=>by simpa using h⟩
  ·rw [if_neg hk]
   refine ⟨?_,fun g h=>?_⟩
   ·rw [List.map_cons]
    exact List.mem_cons_of_mem _ i1
   ·rw [List.map_cons] at h ⊢
    rcases List.mem_cons.mp h with e | e
    ·exact List.mem_cons.mpr (.inl e)
    ·exact List.mem_cons_of_mem _ (i2 g e)
theorem xi (f:Str) (v:V):∀ fs:List (Str×V),(yJ f v fs).length<=fs.length+1
 | []=>by simp [yJ]
 | (k,x)::r=>by
  have ih:=xi f v r
  rw [show yJ f v ((k,x)::r)=(if k=f then (k,v)::r else (k,x)::yJ f v r) from rfl]
  by_cases hk:k=f
  ·rw [if_pos hk,List.length_cons,List.length_cons]; omega
  ·rw [if_neg hk,List.length_cons,List.length_cons]; omega
theorem RelO.some_of {v:V} {o:Option Value} (r:RelO (some v) o):∃ u,o=some u/\RelV v u:=by
 cases o with
 | none=>exact (show False from r).elim
 | some u=>exact ⟨u,rfl,r⟩
theorem RelO.none_of {o:Option Value} (r:RelO none o):o=none:=by
 cases o with
 | none=>rfl
 | some u=>exact (show False from r).elim
theorem Ul {v:V} {u:Value} (r:RelV v u):PySem.W.handedIn u=true:=by
 cases v with
 | non=>cases (show u=Value.none from r); rfl
 | bl b=>cases (show u=Value.bool b from r); rfl
 | int i=>obtain ⟨t,e⟩:=(show ∃ t,u=Value.int i t from r); cases e; rfl
 | str x=>obtain ⟨t,e⟩:=(show ∃ t,u=Value.str x t from r); cases e; rfl
 | byt b=>obtain ⟨t,e⟩:=(show ∃ t,u=Value.bytes b t from r); cases e; rfl
 | flt b=>obtain ⟨t,e⟩:=(show ∃ t,u=Value.float b t from r); cases e; rfl
 | ref a=>cases (show u=Value.ref a from r); rfl
 | ty n=>cases (show u=Value.type n from r); rfl
section
variable {P:Program} {w:World} {H H':Hp} {h h':Heap} {a C dx:Addr} {fs fs':List (Str×V)}
theorem JJ (hok:HOk P w H h) (e:H a=some (.ins C dx fs)):∃ mA,ObjM h a dx C mA/\(∀ f,RelO (fs.lookup f) (mA f))/\PySem.Within mA (fs.map (·.1))/\fs.length<=1000/\H dx=some (.own a):=by
 obtain ⟨d,z,ne,ob,mA,n,r,q⟩:=(show ObjOk P w H h a (.ins C dx fs) from hok a _ e)
 exact ⟨mA,⟨ob,n,ne⟩,r,q,z,d⟩
end
structure Cls (K:Frag) (C:Addr):Prop where
 pg:PySem.W.plainGet K C Str.empty=true
 hd:PySem.W.hasDictIn K C=true
 po:PySem.W.plainOver K C=true
 sa:PySem.W.findIn K (.ref C) "__setattr__"=some (some (.builtin "object.__setattr__"))
theorem Cls.get {K:Frag} {C:Addr} (c:Cls K C) (f:Str):PySem.W.plainGet K C f=true:=c.pg
def NoAttr (K:Frag) (C:Addr) (f:Str):Prop:=PySem.W.findIn K (.ref C) f=some none
theorem NoAttr.taker {K:Frag} {C:Addr} {f:Str} (n:NoAttr K C f):PySem.W.takerIn K C f=some none:=by
 unfold PySem.W.takerIn
 rw [show PySem.W.findIn K (.ref C) f=some none from n]
 rfl
structure Meth (K:Frag) (C:Addr) (m:Str) (f:Addr):Prop where
 at_:PySem.W.findIn K (.ref C) m=some (some (.ref f))
 fn:PySem.W.isFn K (.ref f)=true
 kp:keepIn K (.ref f)=true
section
variable {X:Cx} {pins:List (Addr×Obj)} {σ:St} {H:Hp} {s:Shared} {a C dx:Addr} {fs:List (Str×V)} {f:Str} {v:V} {A:Around} {E:Value->Shared->Prop}
theorem Ws {b:Bool} {Q:Value->Shared->Prop} (I:Inv X pins σ H s) (e:H a=some (.ins C dx fs)) (c:Cls X.K C) (n:NoAttr X.K C f) (l:fs.lookup f=some v)
  (h:∀ u s',Inv X pins σ H s'->RelV v u->Q u s'):wpAny (model X.prog X.w) A (getAttr (.ref a) f b) Q E s:=by
 obtain ⟨mA,O,r,_,_,_⟩:=JJ I.hok e
 obtain ⟨u,hu,ru⟩:=RelO.some_of (v:=v) (o:=mA f) (by rw [<-l]; exact r f)
 exact qaC I.kIn O (c.get f) c.hd n hu (Ul ru) (h u _ (I.tok _) ru)
theorem zF {m:Str} {g:Addr} {pl:Sem Bool} {Q:Value×List Value->Shared->Prop} (I:Inv X pins σ H s) (e:H a=some (.ins C dx fs)) (c:Cls X.K C) (k:Meth X.K C m g) (l:fs.lookup m=none)
  (h:Q (.ref g,[.ref a]) s):wpAny (model X.prog X.w) A (getMethod (.ref a) m pl) Q E s:=by
 obtain ⟨mA,O,r,_,_,_⟩:=JJ I.hok e
 have hn:mA m=none:=RelO.none_of (by rw [<-l]; exact r m)
 exact Zb I.kIn O (c.get m) k.at_ k.fn hn h
theorem Wt {y:V} {u:Value} {Q:Unit->Shared->Prop} (I:Inv X pins σ H s) (e:H a=some (.ins C dx fs)) (c:Cls X.K C) (n:NoAttr X.K C f) (hl:fs.length < 1000) (ry:RelV y u)
  (h:∀ s',Inv X pins σ (upd H a (.ins C dx (yJ f y fs))) s'->Q () s'):wpAny (model X.prog X.w) A (setAttr (.ref a) f u) Q E s:=by
 obtain ⟨mA,O,r,wi,_,ho⟩:=JJ I.hok e
 have hz:(fs.map (·.1)).length<=sizeLine:=by rw [List.length_map,sizeLine_eq]; omega
 refine qaD I.kIn O c.sa c.po n.taker c.hd wi hz fun h' O' sb=>h _ ?_
 have hd:∃ o,h'.get? dx=some o:=let ⟨o,_,_,e',_⟩:=O'.ns; ⟨o,e'⟩
 refine I.write (x:=a) (e:=dx) (by rw [e]; exact True.intro) (.inr ho) (fun b q hb z=>(sb.2 b hb).trans z) hd ?_
 refine ⟨by rw [qo O.ne]; exact ho,?_,O.ne,O'.obj,_,O'.ns,fun g=>?_,fun g hg=>?_⟩
 ·have:=xi f y fs; omega
 ·show RelO ((yJ f y fs).lookup g) (if g=f then some u else mA g)
  rw [uh]
  by_cases q:g=f
  ·rw [if_pos q,if_pos q]; exact ry
  ·rw [if_neg q,if_neg q]; exact r g
 ·by_cases q:g=f
  ·rw [q]; exact (xh f y fs).1
  ·refine (xh f y fs).2 g (wi g fun z=>hg ?_)
   show (if g=f then some u else mA g)=none
   rw [if_neg q]; exact z
theorem Inv.made (I:Inv X pins σ H s):Inv X pins σ (upd (upd H s.heap.objs.size (.own (s.heap.objs.size+1))) (s.heap.objs.size+1) (.ins C s.heap.objs.size []))
  { s with heap:=(s.heap.push PySem.W.emptyDict).push (PySem.W.instObj C s.heap.objs.size) }:=by
 have e1:(s.heap.push PySem.W.emptyDict).get? s.heap.objs.size=some PySem.W.emptyDict:=Heap.get?_push_size s.heap rfl
 have e2:((s.heap.push PySem.W.emptyDict).push (PySem.W.instObj C s.heap.objs.size)).get? (s.heap.objs.size+1)=some (PySem.W.instObj C s.heap.objs.size):=by
  have:=Heap.get?_push_size (s.heap.push PySem.W.emptyDict) (o:=PySem.W.instObj C s.heap.objs.size) rfl
  rwa [Heap.size_push] at this
 have e3:(s.heap.push PySem.W.emptyDict).Ns s.heap.objs.size (fun _=>none):=⟨PySem.W.emptyDict,#[],_,e1,rfl,(fun e he=>absurd he (by simp)),fun _=>rfl⟩
 have I1:=I.laid (a:=s.heap.objs.size) (o:=.own (s.heap.objs.size+1)) (h':=s.heap.push PySem.W.emptyDict) (t':=s.toks) (fun b u q=>Heap.get?_push_of_some _ q) (Nat.le_refl _) ⟨_,e1⟩
 refine I1.laid (a:=s.heap.objs.size+1) (o:=.ins C s.heap.objs.size []) (t':=s.toks) (fun b u q=>Heap.get?_push_of_some _ q) (Nat.le_of_eq (Heap.size_push _ _)) ?_
 have ne:s.heap.objs.size≠s.heap.objs.size+1:=Nat.ne_of_lt (Nat.lt_succ_self _)
 refine ⟨by rw [qo ne,qm],Nat.zero_le _,ne,e2,fun _=>none,(Heap.Ns1.of_empty e3).at fun o q=>Heap.get?_push_of_some _ q,fun _=>True.intro,fun y hy=>absurd rfl hy⟩
theorem qaE {prog:Program} {w:World} {env:Env} {e:Expr} {f:Str} {pos:Pos} {s:Shared} {Q:Value->Shared->Prop} (hb:attributeBase e f env (eval e env)=eval e env)
  (h:wpAny (model prog w) A (eval e env) (fun o s₁=>wpAny (model prog w) A (getAttr o f true) Q E s₁) E s):wpAny (model prog w) A (eval (.Attribute e f pos) env) Q E s:=
 Attribute_any_ h (by rw [arm_eval_Attribute,hb])
end
def qe3 (K:Frag) (ta:TE) (f:Str):TE:=fun σ H Q=>ta σ H fun x H1=>∃ a C dx fs v,x=.ref a/\H1 a=some (.ins C dx fs)/\Cls K C/\NoAttr K C f/\fs.lookup f=some v/\Q v H1
def qdS (K:Frag) (ta tv:TE) (f:Str):TS:=fun D σ H=>tv σ H fun y H1=>ta σ H1 fun x H2=>∃ a C dx fs,x=.ref a/\H2 a=some (.ins C dx fs)/\Cls K C/\NoAttr K C f/\fs.length < 1000 /\
 D.nx σ (upd H2 a (.ins C dx (yJ f y fs)))
section
variable {X:Cx} {o e value:Expr} {f:Str} {pos pos' tpos:Pos} {ta tv:TE}
theorem GP (he:PE X e ta) (hb:attributeBase e f X.env (eval e X.env)=eval e X.env):PE X (.Attribute e f pos) (qe3 X.K ta f):=by
 refine ⟨?_⟩
 intro pins s σ H Q I h
 refine qaE hb (thn (he pins s σ H _ I h) fun u s1 ⟨x,H1,I1,rx,a,C,dx,fs,v,ex,ea,c,n,l,q⟩=>?_)
 subst ex
 obtain rfl:u=Value.ref a:=rx
 exact Ws I1 ea c n l fun u' s2 I2 ru=>⟨v,H1,I2,ru,q⟩
theorem Um (ha:PE X o ta) (hv:PE X value tv) (hs:swapsWith value (some (.Attribute o f pos')) pos.line X.env=pure false):PS X (.Assign [.Attribute o f pos'] value pos) (qdS X.K ta tv f):=by
 refine ⟨?_⟩
 intro pins s σ H D I h
 refine plainObj_wpAny_Assign_Attribute (thn (hv pins s σ H _ I h) fun u s1 ⟨y,H1,I1,ry,q⟩=>thn (ha pins s1 σ H1 _ I1 q) fun ov s2 ⟨x,H2,I2,rx,a,C,dx,fs,ex,ea,c,n,l,q2⟩=>?_) hs
 subst ex
 obtain rfl:ov=Value.ref a:=rx
 exact Wt I2 ea c n l ry fun s3 I3=>⟨σ,_,I3,q2⟩
end
structure Room (k:Nat) (A:Around):Prop where
 hd:A.handled=none
 dp:A.depth+3 * k+5 < recursionLimit
 un:A.units+16 * k+200 < cLine
theorem Room.mono {j k:Nat} {A:Around} (r:Room k A) (h:j<=k):Room j A:=⟨r.hd,by have:=r.dp; omega,by have:=r.un; omega⟩
theorem Room.deeper {k:Nat} {A:Around} (r:Room (k+1) A) (env:Env):Room k (A.deeper env):=
 ⟨r.hd,by have:=r.dp; show A.depth+1+3 * k+5 < _; omega,by have:=r.un; show A.units+3+16 * k+200 < _; omega⟩
theorem Room.in1 {k:Nat} {A:Around} (r:Room (k+1) A):Room k A.in1:=
 ⟨r.hd,by have:=r.dp; show A.depth+3 * k+5 < _; omega,by have:=r.un; show A.units+1+16 * k+200 < _; omega⟩
theorem Wu {A:Around} {C:Addr} {us:List Value} {kw:List (Str×Value)}:(A.under (.builtin "type.__call__" ⟨.ref C::us,kw⟩)).depth=A.depth+1:=by
 first | rfl | simp [Around.under,Code.weight,Code.isCreation,Code.isGuard,Code.isCaller,Code.frames,Code.isFrame,guardIds]
theorem Wv {A:Around} {C:Addr} {us:List Value} {kw:List (Str×Value)}:(A.under (.builtin "type.__call__" ⟨.ref C::us,kw⟩)).units=A.units+1:=by
 first | rfl | simp [Around.under,Code.cUnits,Code.frames,Code.isFrame]
theorem Room.make {k:Nat} {A:Around} (r:Room (k+1) A) (C:Addr) (us:List Value) (kw:List (Str×Value)):Room k (A.under (.builtin "type.__call__" ⟨.ref C::us,kw⟩)):=
 ⟨r.hd,by have:=r.dp; rw [Wu]; omega,by have:=r.un; rw [Wv]; omega⟩
theorem Room.depth {k:Nat} {A:Around} (r:Room k A):A.depth < recursionLimit:=by have:=r.dp; omega
theorem Room.units {k:Nat} {A:Around} (r:Room k A):A.units+64 < cLine:=by have:=r.un; omega
def qdl:TA:=fun _ H Q=>Q [] H
def Zd (ta:TE) (tr:TA):TA:=fun σ H Q=>ta σ H fun x H1=>tr σ H1 fun xs H2=>Q (x::xs) H2
section
variable {X:Cx} {e:Expr} {es:List Expr} {te:TE} {t:TA} {pos:Pos}
theorem jR:PA X [] qdl:=⟨fun _ _ _ _ H Q I h=>Calls.spliced_nil ⟨[],H,I,.nil,h⟩⟩
theorem qS (ha:PE X e te) (hr:PA X es t) (hs:starEach (e::es) X.env=(false,eval e X.env)::starEach es X.env:=by rfl):PA X (e::es) (Zd te t):=by
 refine ⟨?_⟩
 intro pos pins s σ H Q I h
 rw [hs]
 show wpAny _ _ (spliced ((false,eval e X.env)::backTo pos (starEach es X.env))) _ _ s
 refine Calls.spliced_cons (thn (ha pins s σ H _ I h) fun u s1 ⟨x,H1,I1,r1,q1⟩=>?_)
 exact thn (hr pos pins s1 σ H1 _ I1 q1) fun us s2 ⟨xs,H2,I2,r2,q2⟩=>⟨x::xs,H2,I2,.cons r1 r2,q2⟩
def qe4 (t:TA):TE:=fun σ H Q=>t σ H fun xs H1=>xs.length<=sizeLine/\∀ p,H1 p=none->Q (.ref p) (upd H1 p (.tup xs))
def qe5 (t:TA):TE:=fun σ H Q=>t σ H fun xs H1=>xs.length<=sizeLine/\∀ p,H1 p=none->Q (.ref p) (upd H1 p (.lst xs))
theorem qb8 {x1} (h:PA X es t):PE X (.Tuple es x1 pos) (qe4 t):=by
 refine ⟨?_⟩
 intro pins s σ H Q I hq
 refine wpAny_Tuple_spliced (thn (h pos pins s σ H _ I hq) fun us s1 ⟨xs,H1,I1,r,z,q⟩=>⟨by rw [<-r.length]; exact z,?_⟩)
 have hf:H1 s1.heap.objs.size=none:=I1.hok.fresh (Nat.le_refl _)
 refine ⟨.ref s1.heap.objs.size,upd H1 s1.heap.objs.size (.tup xs),I1.laid (t':=s1.toks) (fun b u e=>Heap.get?_push_of_some _ e) (Nat.le_refl _) ?_,rfl,q _ hf⟩
 exact ⟨⟨z,_,Heap.get?_push_size _ rfl,rfl⟩,us,r,⟨_,Heap.get?_push_size _ rfl,rfl,_,rfl⟩⟩
theorem qb9 (h:PA X es t):PE X (.List es pos) (qe5 t):=by
 refine ⟨?_⟩
 intro pins s σ H Q I hq
 refine wpAny_List_spliced (thn (h pos pins s σ H _ I hq) fun us s1 ⟨xs,H1,I1,r,z,q⟩=>⟨by rw [<-r.length]; exact z,?_⟩)
 have hf:H1 s1.heap.objs.size=none:=I1.hok.fresh (Nat.le_refl _)
 refine ⟨.ref s1.heap.objs.size,upd H1 s1.heap.objs.size (.lst xs),I1.laid (t':=s1.toks) (fun b u e=>Heap.get?_push_of_some _ e) (Nat.le_refl _) ?_,rfl,q _ hf⟩
 exact ⟨z,us,0,r,Heap.get?_push_size _ rfl⟩
end
abbrev Sp:=List V->Hp->VK->XK->Prop
abbrev CXT:=List Env->Hp->Shared->XK->Value->Shared->Prop
structure Env0 (P:Program) (w:World) (K:Frag) (mg:Str->Option Value) (base:Heap) (A:Around) (outer:List Env) (s:Shared) (H:Hp):Prop where
 frames:A.frames=some outer
 mod:Mod K mg base
 bs:∀ b o,base.get? b=some o->s.heap.get? b=some o/\H b=none
 bsz:base.objs.size<=s.heap.objs.size
 funs:s.heap.FunFrames base outer
 frf:∀ b∈frs outer,H b=none
 hok:HOk P w H s.heap
 bare:AllBare s.gens
def CE (outer:List Env) (P:Program) (w:World) (H:Hp) (s:Shared) (Q:VK) (u:Value) (s':Shared):Prop:=
 ∃ v H',s'.os=s.os/\AllBare s'.gens/\Un (frs outer) [] H H' s.heap s'.heap/\HOk P w H' s'.heap/\RelV v u/\Q v H'
def CR (CX:CXT) (outer:List Env) (P:Program) (w:World) (H:Hp) (s:Shared) (Q:VK) (E:XK) (r:Result) (s':Shared):Prop:=
 match r with
 | .ok (.ret u)=>CE outer P w H s Q u s'
 | .ok _=>False
 | .error e=>CX outer H s E e s'
structure FnOk (P:Program) (w:World) (K:Frag) (mg:Str->Option Value) (base:Heap) (CX:CXT) (k:Nat) (f:Addr) (fd:FuncData) (ps:List Str) (sp:Sp):Prop where
 len:∀ vs H Q E,sp vs H Q E->vs.length=ps.length
 run:∀ (A:Around) (outer:List Env) (s:Shared) (H:Hp) (args:Args) (us:List Value) (vs:List V) (Q:VK) (E:XK),Room k A->Env0 P w K mg base A outer s H->BindsTo s fd args (ps.zip us)->Vals vs us->sp vs H Q E ->
  codeAny (model P w) A (.call (.ref f) args) (CR CX outer P w H s Q E) s
theorem FnOk.imp {P:Program} {w:World} {K:Frag} {mg:Str->Option Value} {base:Heap} {CX:CXT} {k:Nat} {f:Addr} {fd:FuncData} {ps:List Str} {sp sp':Sp} (F:FnOk P w K mg base CX k f fd ps sp)
  (h:∀ vs H Q E,sp' vs H Q E->sp vs H Q E):FnOk P w K mg base CX k f fd ps sp':=
 ⟨fun vs H Q E q=>F.len vs H Q E (h _ _ _ _ q),fun A outer s H args us vs Q E hr he hb hv hs=>F.run A outer s H args us vs Q E hr he hb hv (h _ _ _ _ hs)⟩
theorem Env0.make {P:Program} {w:World} {K:Frag} {mg:Str->Option Value} {base:Heap} {A:Around} {outer:List Env} {s:Shared} {H:Hp} (e:Env0 P w K mg base A outer s H) (C:Addr) (us:List Value) (kw:List (Str×Value)) :
  Env0 P w K mg base (A.under (.builtin "type.__call__" ⟨.ref C::us,kw⟩)) outer s H:=⟨by first | exact e.frames | (simpa [Around.under,Code.envs,Code.isFrame,pushEnvs] using e.frames),e.mod,e.bs,e.bsz,e.funs,e.frf,e.hok,e.bare⟩
theorem Env0.in1 {P:Program} {w:World} {K:Frag} {mg:Str->Option Value} {base:Heap} {A:Around} {outer:List Env} {s:Shared} {H:Hp} (e:Env0 P w K mg base A outer s H) :
  Env0 P w K mg base A.in1 outer s H:=⟨e.frames,e.mod,e.bs,e.bsz,e.funs,e.frf,e.hok,e.bare⟩
section
variable {X:Cx} {pins:List (Addr×Obj)} {σ:St} {H:Hp} {s s':Shared}
theorem Inv.env0 (I:Inv X pins σ H s):Env0 X.prog X.w X.K X.mg X.base X.A X.stack s H:=
 ⟨I.ok.frames,I.ok.mod,I.bs,Nat.le_trans I.ok.bsz I.sz,I.stack,I.stkFree,I.hok,I.bare⟩
theorem Inv.after {Q:VK} {u:Value} (I:Inv X pins σ H s) (h:CE X.stack X.prog X.w H s Q u s'):EP X pins σ Q u s':=by
 obtain ⟨v,H',os,bare,un,hok,r,q⟩:=h
 obtain ⟨hh,g,d,t,os'⟩:=s'
 obtain rfl:os'=s.os:=os
 exact ⟨v,H',I.call (h':=hh) (g':=g) (d':=d) (t':=t) (ch:=[]) un hok bare (fun b z=>absurd z (by simp)),r,q⟩
end
def qdT (sp:Sp) (dvs:List V) (E:XK) (t:TA):TE:=fun σ H Q=>t σ H fun vs H1=>sp (vs++dvs) H1 Q E
def qca (C:Addr) (m:Str) (sp:Sp) (dvs:List V) (E:XK) (ta:TE) (t:TA):TE:=fun σ H Q=>ta σ H fun x H1=>∃ a dx fs,x=.ref a/\H1 a=some (.ins C dx fs)/\fs.lookup m=none /\
 t σ H1 fun vs H2=>sp (x::(vs++dvs)) H2 Q E
def qdU (C:Addr) (sp:Sp) (dvs:List V) (E:XK) (t:TA):TE:=fun σ H Q=>t σ H fun vs H1=>∀ x dx,H1 x=none->H1 dx=none->dx≠x ->
 sp (.ref x::(vs++dvs)) (upd (upd H1 dx (.own x)) x (.ins C dx [])) (fun v H2=>v=.non/\Q (.ref x) H2) E
def Binds (K:Frag) (fd:FuncData) (ps:List Str) (ds:List Value):Prop:=
 ∀ (s:Shared) (us:List Value),K.In s.heap->(us++ds).length=ps.length->BindsTo s fd ⟨us,[]⟩ (ps.zip (us++ds))
theorem Binds.all {K:Frag} {fd:FuncData} {ps:List Str} (h:∀ us:List Value,us.length=ps.length->bindArgs fd ⟨us,[]⟩=pure (ps.zip us)):Binds K fd ps []:=fun s us _ hl=>by
 rw [List.append_nil] at hl ⊢
 exact .of_eq (h us hl)
def kb (CX:CXT) (X:Cx) (E:XK):Prop:=∀ (pins:List (Addr×Obj)) (σ:St) (H:Hp) (s:Shared) (e:Value) (s':Shared),Inv X pins σ H s->CX X.stack H s E e s'->X.xe e s'
section
variable {X:Cx} {CX:CXT} {k:Nat} {f C:Addr} {fd:FuncData} {ps:List Str} {sp:Sp} {dvs:List V} {ds:List Value} {E:XK} {x m:Str} {p pos apos:Pos} {e o:Expr} {es:List Expr} {ta:TE} {t:TA}
theorem Uo {pins:List (Addr×Obj)} {σ:St} {H:Hp} {s:Shared} {Q:VK} {us:List Value} {vs:List V} (F:FnOk X.prog X.w X.K X.mg X.base CX k f fd ps sp) (hr:Room k X.A) (hb:Binds X.K fd ps ds) (hd:Vals dvs ds) (hx:kb CX X E)
  (I:Inv X pins σ H s) (r:Vals vs us) (h:sp (vs++dvs) H Q E):wpAny (model X.prog X.w) X.A (call (.ref f) us) (EP X pins σ Q) X.xe s:=by
 have r2:Vals (vs++dvs) (us++ds):=r.append hd
 have hl:(us++ds).length=ps.length:=by rw [<-r2.length]; exact F.len _ _ _ _ h
 refine wpAny_call (codeAny_mono (F.run X.A X.stack s H ⟨us,[]⟩ (us++ds) (vs++dvs) Q E hr I.env0 (hb s us I.kIn hl) r2 h) fun r s' hq=>?_)
 cases r with
 | error e=>exact hx pins σ H s e s' I hq
 | ok fl=>
  cases fl with
  | ret u=>exact I.after hq
  | next=>exact False.elim hq
  | brk=>exact False.elim hq
  | cont=>exact False.elim hq
theorem qaF (F:FnOk X.prog X.w X.K X.mg X.base CX k f fd ps sp) (hr:Room k X.A) (hg:Gl X x) (hm:X.mg x=some (.ref f)) (hk:keepIn X.K (.ref f)=true) (hb:Binds X.K fd ps ds) (hd:Vals dvs ds) (hx:kb CX X E)
  (ha:PA X (e::es) t) (hdb:(x == ("__debug__":Str))=false:=by decide) (he:starEach (e::es) X.env=(false,eval e X.env)::starEach es X.env:=by rfl) (hpl:(backTo pos (starEach es X.env)).any (·.1)=false:=by rfl) :
  PE X (.Call (.Name x p) (e::es) [] pos) (qdT sp dvs E t):=by
 refine ⟨?_⟩
 intro pins s σ H Q I h
 refine wpAny_Call_Name_kw (xf I hg hm ?_ hdb)
 refine PySem.W.callWith_K (h₀:=X.base) I.ok.mod.kin hk (thn (ha pos pins s σ H _ I h) fun us s1 ⟨vs,H1,I1,r,q⟩=>⟨I1.kIn,?_⟩) he hpl
 exact Uo F hr hb hd hx I1 r q
theorem Up {pl:Sem Bool} (he:PE X o ta) (c:Cls X.K C) (hm:Meth X.K C m f) (F:FnOk X.prog X.w X.K X.mg X.base CX k f fd ps sp) (hr:Room k X.A) (hb:Binds X.K fd ps ds) (hd:Vals dvs ds) (hx:kb CX X E) (ha:PA X (e::es) t)
  (hst:starEach (e::es) X.env=(false,eval e X.env)::starEach es X.env:=by rfl) (hpl:(backTo pos (starEach es X.env)).any (·.1)=false:=by rfl)
  (ht:eval (.Call (.Attribute o m apos) (e::es) [] pos) X.env=(do
   let ov <-eval o X.env
   standAt apos.atName
   let (f,first) <-holding [ov] (getMethod ov m pl)
   callWith pos f first (backTo pos (starEach (e::es) X.env)) (backToKw pos (keywordEach [] X.env))):=by rfl) :
  PE X (.Call (.Attribute o m apos) (e::es) [] pos) (qca C m sp dvs E ta t):=by
 refine ⟨?_⟩
 intro pins s σ H Q I h
 refine PySem.W.methodCall_KW (pl:=pl) (thn (he pins s σ H _ I h) fun u s1 ⟨x,H1,I1,rx,a,dx,fs,ex,ea,l,q⟩=>?_) ht
 subst ex
 obtain rfl:u=Value.ref a:=rx
 refine zF I1 ea c hm l ?_
 refine PySem.W.callWith_K (first:=[.ref a]) (h₀:=X.base) I.ok.mod.kin hm.kp (thn (ha pos pins s1 σ H1 _ I1 q) fun us s2 ⟨vs,H2,I2,r,q2⟩=>⟨I2.kIn,?_⟩) hst hpl
 exact Uo (us:=.ref a::us) (vs:=.ref a::vs) F hr hb hd hx I2 (.cons rfl r) q2
theorem Ve {pl:Sem Bool} (he:PE X o ta) (c:Cls X.K C) (hm:Meth X.K C m f) (F:FnOk X.prog X.w X.K X.mg X.base CX k f fd ps sp) (hr:Room k X.A) (hb:Binds X.K fd ps ds) (hd:Vals dvs ds) (hx:kb CX X E)
  (ht:eval (.Call (.Attribute o m apos) [] [] pos) X.env=(do
   let ov <-eval o X.env
   standAt apos.atName
   let (f,first) <-holding [ov] (getMethod ov m pl)
   callWith pos f first (backTo pos (starEach [] X.env)) (backToKw pos (keywordEach [] X.env))):=by rfl) :
  PE X (.Call (.Attribute o m apos) [] [] pos) (qca C m sp dvs E ta qdl):=by
 refine ⟨?_⟩
 intro pins s σ H Q I h
 refine PySem.W.methodCall_KW (pl:=pl) (thn (he pins s σ H _ I h) fun u s1 ⟨x,H1,I1,rx,a,dx,fs,ex,ea,l,q⟩=>?_) ht
 subst ex
 obtain rfl:u=Value.ref a:=rx
 refine zF I1 ea c hm l ?_
 exact PySem.W.callWith_K0 (first:=[.ref a]) I1.kIn hm.kp (Uo (us:=[.ref a]) (vs:=[.ref a]) F hr hb hd hx I1 (.cons rfl .nil) q)
structure Mk (K:Frag) (C f:Addr):Prop where
 makes:PySem.W.makesIn K C=true
 init:PySem.W.findIn K (.ref C) "__init__"=some (some (.ref f))
 fn:PySem.W.isFn K (.ref f)=true
 kp:keepIn K (.ref C)=true
theorem Ze {pins:List (Addr×Obj)} {σ:St} {H:Hp} {s:Shared} {Q:VK} {us:List Value} {vs:List V} (M:Mk X.K C f) (F:FnOk X.prog X.w X.K X.mg X.base CX k f fd ps sp) (hr:Room (k+1) X.A) (hb:Binds X.K fd ps ds) (hd:Vals dvs ds)
  (hx:kb CX X E) (I:Inv X pins σ H s) (r:Vals vs us)
  (h:∀ x dx,H x=none->H dx=none->dx≠x->sp (.ref x::(vs++dvs)) (upd (upd H dx (.own x)) x (.ins C dx [])) (fun v H2=>v=.non/\Q (.ref x) H2) E) :
  wpAny (model X.prog X.w) X.A (call (.ref C) us) (EP X pins σ Q) X.xe s:=by
 have hq:=h (s.heap.objs.size+1) s.heap.objs.size (I.hok.fresh (Nat.le_succ _)) (I.hok.fresh (Nat.le_refl _)) (Nat.ne_of_lt (Nat.lt_succ_self _))
 have I2:=Inv.made (C:=C) I
 have r2:Vals (V.ref (s.heap.objs.size+1)::(vs++dvs)) (Value.ref (s.heap.objs.size+1)::(us++ds)):=.cons rfl (r.append hd)
 have hl:(Value.ref (s.heap.objs.size+1)::us++ds).length=ps.length:=by
  have e:=r2.length
  rw [F.len _ _ _ _ hq] at e
  exact e.symm
 refine wpAny_call (Zc (f:=f) I.kIn M.makes M.init (beq_iff_eq.mp M.fn) (codeAny_mono (F.run _ X.stack _ _ ⟨Value.ref (s.heap.objs.size+1)::us,[]⟩ (Value.ref (s.heap.objs.size+1)::(us++ds)) _ _ E (hr.make C us [])
  (I2.env0.make C us []) (hb _ (Value.ref (s.heap.objs.size+1)::us) I2.kIn hl) r2 hq) fun r s' hq'=>?_))
 cases r with
 | error e=>exact hx pins σ _ _ e s' I2 hq'
 | ok fl=>
  cases fl with
  | ret u=>
   obtain ⟨v,H',I3,rv,ev,q3⟩:=I2.after hq'
   subst ev
   exact ⟨rv,⟨V.ref (s.heap.objs.size+1),H',I3,rfl,q3⟩⟩
  | next=>exact False.elim hq'
  | brk=>exact False.elim hq'
  | cont=>exact False.elim hq'
theorem qaG (M:Mk X.K C f) (F:FnOk X.prog X.w X.K X.mg X.base CX k f fd ps sp) (hr:Room (k+1) X.A) (hg:Gl X x) (hm:X.mg x=some (.ref C)) (hb:Binds X.K fd ps ds) (hd:Vals dvs ds) (hx:kb CX X E)
  (ha:PA X (e::es) t) (hdb:(x == ("__debug__":Str))=false:=by decide) (he:starEach (e::es) X.env=(false,eval e X.env)::starEach es X.env:=by rfl) (hpl:(backTo pos (starEach es X.env)).any (·.1)=false:=by rfl) :
  PE X (.Call (.Name x p) (e::es) [] pos) (qdU C sp dvs E t):=by
 refine ⟨?_⟩
 intro pins s σ H Q I h
 refine wpAny_Call_Name_kw (xf I hg hm ?_ hdb)
 refine PySem.W.callWith_K (h₀:=X.base) I.ok.mod.kin M.kp (thn (ha pos pins s σ H _ I h) fun us s1 ⟨vs,H1,I1,r,q⟩=>⟨I1.kIn,?_⟩) he hpl
 exact Ze M F hr hb hd hx I1 r q
end
section
variable {X:Cx} {CX:CXT} {k:Nat} {f C:Addr} {fd:FuncData} {ps ks:List Str} {sp:Sp} {E:XK} {x m:Str} {p pos apos kpos:Pos} {e o:Expr} {es:List Expr} {kws:List Keyword} {te ta:TE} {t tk:TA} {nm:Option Str}
variable {g:List Value->List Value->List Value} {gV:List V->List V->List V}
end
structure FnScope (N P:List Str) (sc:Scope):Prop where
 kind:sc.kind=.function
 co:sc.isCoroutine=false
 gen:sc.isGenerator=false
 nd:N.Nodup
 pre:N.take P.length=P
 par:∀ x∈P,sc.names.lookup x=some .local\/sc.names.lookup x=some .cell
 nofree:∀ y∈sc.names,y.2≠.free
theorem Qq {kindOf:Str->Option NameKind} {x:Str}:∀ {binds:List (Str×Value)} {m:Str->Option Value},(∀ v,(x,v)∉binds)->bindL kindOf binds m x=m x
 | [],_,_=>rfl
 | (n,v)::r,m,h=>by
  unfold bindL
  rw [Qq fun w hw=>h w (List.mem_cons_of_mem _ hw)]
  split
  ·have:x≠n:=by rintro rfl; exact h v List.mem_cons_self
   simp [this]
  ·rfl
theorem Qr {kindOf:Str->Option NameKind} {x:Str}:∀ {binds:List (Str×Value)} {m:Str->Option Value},(∀ v,(x,v)∉binds)->bindC kindOf binds m x=m x
 | [],_,_=>rfl
 | (n,v)::r,m,h=>by
  unfold bindC
  rw [Qr fun w hw=>h w (List.mem_cons_of_mem _ hw)]
  split
  ·rfl
  ·have:x≠n:=by rintro rfl; exact h v List.mem_cons_self
   simp [this]
theorem Qs {kindOf:Str->Option NameKind} {x:Str} {v:Value}:∀ {P:List Str} {vs:List Value} {i:Nat} {m:Str->Option Value},P.Nodup->P[i]?=some x->vs[i]?=some v->kindOf x=some .local ->
  bindL kindOf (P.zip vs) m x=some v
 | [],_,_,_,_,h,_,_=>by simp at h
 | _::_,[],_,_,_,_,h,_=>by simp at h
 | p::P,w::vs,0,m,nd,h1,h2,hk=>by
  simp at h1 h2; subst h1; subst h2
  show bindL kindOf ((p,w)::P.zip vs) m p=_
  unfold bindL
  rw [Qq fun v hv=>(List.nodup_cons.mp nd).1 (List.of_mem_zip hv).1,if_pos hk]
  simp
 | p::P,w::vs,i+1,m,nd,h1,h2,hk=>by
  show bindL kindOf ((p,w)::P.zip vs) m x=_
  unfold bindL
  exact Qs (i:=i) (List.nodup_cons.mp nd).2 (by simpa using h1) (by simpa using h2) hk
theorem Qt {kindOf:Str->Option NameKind} {x:Str} {v:Value}:∀ {P:List Str} {vs:List Value} {i:Nat} {m:Str->Option Value},P.Nodup->P[i]?=some x->vs[i]?=some v->kindOf x≠some .local ->
  bindC kindOf (P.zip vs) m x=some v
 | [],_,_,_,_,h,_,_=>by simp at h
 | _::_,[],_,_,_,_,h,_=>by simp at h
 | p::P,w::vs,0,m,nd,h1,h2,hk=>by
  simp at h1 h2; subst h1; subst h2
  show bindC kindOf ((p,w)::P.zip vs) m p=_
  unfold bindC
  rw [Qr fun v hv=>(List.nodup_cons.mp nd).1 (List.of_mem_zip hv).1,if_neg hk]
  simp
 | p::P,w::vs,i+1,m,nd,h1,h2,hk=>by
  show bindC kindOf ((p,w)::P.zip vs) m x=_
  unfold bindC
  exact Qt (i:=i) (List.nodup_cons.mp nd).2 (by simpa using h1) (by simpa using h2) hk
noncomputable def kQ (N:List Str) (vs:List V):St:=vs.map some++List.replicate (N.length - vs.length) none
def XH (CX:CXT) (P:Program) (w:World) (K:Frag) (mg:Str->Option Value) (base:Heap) (N:List Str) (qual:Str) (scope:Scope) (f:Addr) (cd:Value) (A:Around) (outer:List Env) (s:Shared) (H:Hp) (E:XK):Cx where
 prog:=P
 w:=w
 K:=K
 mg:=mg
 base:=base
 A:=A.deeper (envOfC qual scope s.heap.objs.size f cd)
 N:=N
 s₀:=s
 H₀:=H
 env:=envOfC qual scope s.heap.objs.size f cd
 outer:=outer
 stack:=envOfC qual scope s.heap.objs.size f cd::outer
 ex:=[]
 calm:=true
 fn:=fun _=>true
 pn:=[]
 xe:=fun e s'=>wpAny (model P w) (A.deeper (envOfC qual scope s.heap.objs.size f cd)) (leaving (envOfC qual scope s.heap.objs.size f cd) e) (fun _ s''=>CX outer H s E e s'') (fun e' s''=>CX outer H s E e' s'') s'
theorem Vf {sc:Scope} {n:Nat} {x:Str} (h:sc.names.lookup x=some .cell):∃ c,(cellsFrom n sc.names []).lookup x=some c:=by
 have q:=PySem.W.cellsFrom_some sc.names n [] (.inl h)
 exact Option.isSome_iff_exists.mp q
theorem Uq {CX:CXT} {P:Program} {w:World} {K:Frag} {mg:Str->Option Value} {base:Heap} {N ps:List Str} {qual:Str} {scope:Scope} {f:Addr} {cd:Value} {A:Around} {outer:List Env} {s s1:Shared} {H:Hp} {E:XK} {us:List Value} {vs:List V}
  (S:FnScope N ps scope) (hd:A.handled=none) (e0:Env0 P w K mg base A outer s H) (hl:vs.length=ps.length) (r:Vals vs us)
  (x:InCallC s s.heap.objs.size (bindL (envOfC qual scope s.heap.objs.size f cd).kindOf (ps.zip us) fun _=>none) (cellsFrom (s.heap.objs.size+1) scope.names []) (bindC (envOfC qual scope s.heap.objs.size f cd).kindOf (ps.zip us) fun _=>none) s1) :
  Inv (XH CX P w K mg base N qual scope f cd A outer s H E) [] (kQ N vs) H s1:=by
 have hpl:ps.length<=N.length:=by have:=congrArg List.length S.pre; rw [List.length_take] at this; omega
 obtain ⟨h1,tk,rfl,hk⟩:=x.done
 have noA:∀ b:Addr,b∉(XH CX P w K mg base N qual scope f cd A outer s H E).ex:=fun b z=>absurd (show b∈([]:List Addr) from z) (by simp)
 refine ⟨⟨e0.mod,S.kind,rfl,rfl,Nat.le_refl _,fun y z c h1 h2=>?_,fun y hy=>?_,fun y c _ h=>?_,fun _=>hd,Around.frames_deeper e0.frames,.inr ⟨rfl,rfl⟩,fun b z=>absurd z (noA b),e0.bs,e0.bsz,fun b _ _=>noA b,fun b z=>absurd z (noA b),e0.funs,e0.frf⟩,
  rfl,e0.bare,Un.kept hk,⟨_,x.toInCall.ns,fun i y v h1 h2 h3=>?_⟩,fun y c h=>⟨_,x.cell y c h⟩,e0.hok.fresh (Nat.le_refl _),fun y c h=>?_,fun p hp=>absurd (show p∈([]:List (Addr×Obj)) from hp) (by simp),e0.hok.kept hk,?_⟩
 ·exact name_of_addr x.apart (PySem.mem_of_lookup h1) (PySem.mem_of_lookup h2)
 ·have hy:scope.names.lookup y=some .cell\/scope.names.lookup y=some .free:=hy
  rcases hy with hy | hy
  ·exact Vf hy
  ·exact absurd rfl (S.nofree _ (PySem.mem_of_lookup hy))
 ·exact Nat.le_of_lt (x.above y c (PySem.mem_of_lookup h))
 ·have hi:i < vs.length:=by
   unfold kQ at h2
   by_cases hi:i < vs.length
   ·exact hi
   ·rw [List.getElem?_append_right (by simpa using hi)] at h2
    rw [List.getElem?_replicate] at h2
    split at h2 <;> cases h2
  have ha:vs[i]?=some v:=by
   unfold kQ at h2
   rw [List.getElem?_append_left (by simpa using hi),List.getElem?_map] at h2
   cases e:vs[i]? with
   | none=>rw [e] at h2; cases h2
   | some a=>rw [e] at h2; cases h2; rfl
  obtain ⟨u,hu,rv⟩:=r.get ha
  have hp:ps[i]?=some y:=by
   rw [<-S.pre,List.getElem?_take_of_lt (by omega)]; exact h1
  have ndP:ps.Nodup:=by rw [<-S.pre]; exact S.nd.sublist (List.take_sublist _ _)
  refine ⟨u,rv,?_⟩
  rcases S.par y (List.mem_of_getElem? hp) with k | k
  ·exact .inl ⟨k,Qs ndP hp hu k⟩
  ·obtain ⟨c,e⟩:=Vf (n:=s.heap.objs.size+1) k
   refine .inr ⟨.inl k,c,e,?_⟩
   have q:=x.cell y c e
   rw [Qt ndP hp hu (by show scope.names.lookup y≠_; rw [k]; decide)] at q
   exact q
 ·exact e0.hok.fresh (Nat.le_of_lt (x.above y c (PySem.mem_of_lookup h)))
 ·unfold kQ
  show _=N.length
  rw [List.length_append,List.length_map,List.length_replicate]
  omega
theorem Zf {CX:CXT} {P:Program} {w:World} {K:Frag} {mg:Str->Option Value} {base:Heap} {k:Nat} {f:Addr} {name qual:Str} {params:Arguments} {body:List Stmt} {scope:Scope} {dV kV doc pm cdv ct oc:Value} {an od:Option Addr}
  {osl:Array (Option Value)} {N ps:List Str} {sp:Sp} (lk:K.lookup f=some ⟨oc,od,.func (PySem.W.fnOf name qual params body scope dV kV doc pm an cdv ct),osl⟩) (hcd:codeIn K cdv qual=true) (S:FnScope N ps scope)
  (len:∀ vs H Q E,sp vs H Q E->vs.length=ps.length)
  (hbody:∀ (A:Around) (outer:List Env) (s:Shared) (H:Hp) (vs:List V) (Q:VK) (E:XK),Room k (A.deeper (envOfC qual scope s.heap.objs.size f cdv))->sp vs H Q E ->
   ∃ t,PSs (XH CX P w K mg base N qual scope f cdv A outer s H E) body t/\t { nx:=fun _ H'=>Q .non H',rt:=Q } (kQ N vs) H) :
  FnOk P w K mg base CX (k+1) f (PySem.W.fnOf name qual params body scope dV kV doc pm an cdv ct) ps sp:=by
 refine ⟨len,fun A outer s H args us vs Q E hr e0 hb r hsp=>?_⟩
 have hl:=len _ _ _ _ hsp
 have KX:K.In s.heap:=e0.mod.kin.keeps fun b o e=>(e0.bs b o e).1
 have lim:s.heap.NoLimit:=e0.mod.nolimit.keeps fun b o e=>(e0.bs b o e).1
 have hkind:∀ y∈ps.zip us,scope.names.lookup y.1=some .local\/(scope.names.lookup y.1=some .cell/\((cellsFrom (s.heap.objs.size+1) scope.names []).lookup y.1).isSome=true):=fun ⟨n,v⟩ hy=>by
  rcases S.par n (List.of_mem_zip hy).1 with q | q
  ·exact .inl q
  ·exact .inr ⟨q,PySem.W.cellsFrom_some _ _ _ (.inl q)⟩
 refine codeAny_call_function hr.depth (KX _ _ lk) rfl S.co S.gen rfl (PySem.W.codeRec_of KX hcd) (hb _ _ _ _ ?_)
 refine wpAny_newFunctionEnv_cells S.kind hkind fun env he s1 x=>?_
 subst he
 refine ⟨lim.keeps x.toInCall.keep,codeAny_func ?_⟩
 obtain ⟨t,ht,hq⟩:=hbody A outer s H vs Q E (hr.deeper _) hsp
 have I:Inv (XH CX P w K mg base N qual scope f cdv A outer s H E) [] (kQ N vs) H s1:=Uq S hr.hd e0 hl r x
 refine wpAny_mono (ht [] s1 (kQ N vs) H _ I hq) (fun fl s' hs=>?_) fun e s' hs=>hs
 have fin:∀ {σ':St} {H':Hp} {v:V} {u:Value},Inv (XH CX P w K mg base N qual scope f cdv A outer s H E) [] σ' H' s'->RelV v u->Q v H'->CE outer P w H s Q u s':=
  fun {σ' H' v u} J rv q=>⟨v,H',J.os,J.bare,J.base,J.hok,rv,q⟩
 cases fl with
 | ret u=>
  obtain ⟨v,σ',H',J,rv,q⟩:=hs
  exact fin J rv q
 | next=>
  obtain ⟨σ',H',J,q⟩:=hs
  exact fin (v:=V.non) (u:=Value.none) J rfl q
 | brk=>
  obtain ⟨_,_,_,q⟩:=hs
  exact False.elim q
 | cont=>
  obtain ⟨_,_,_,q⟩:=hs
  exact False.elim q
section
variable {X:Cx} {x:Str} {p pos:Pos} {e:Expr} {es:List Expr} {t:TA} {id T:String} {r:List V->Hp->VK->Prop}
def tCB (r:List V->Hp->VK->Prop) (t:TA):TE:=fun σ H Q=>t σ H fun vs H1=>r vs H1 Q
theorem wE (hc:wV X (.builtin id) r) (hg:Gl X x) (hm:X.mg x=none) (hv:bootBuiltins x=some (.builtin id)) (ha:PA X (e::es) t) (hn:x ≠ "__name__":=by decide) (hdb:(x == ("__debug__":Str))=false:=by decide)
  (he:starEach (e::es) X.env=(false,eval e X.env)::starEach es X.env:=by rfl) (hpl:(backTo pos (starEach es X.env)).any (·.1)=false:=by rfl):PE X (.Call (.Name x p) (e::es) [] pos) (tCB r t):=by
 refine ⟨?_⟩
 intro pins s σ H Q I h
 refine wpAny_Call_Name_kw (Qo I hg hm hv ?_ hn hdb)
 exact PyProof.Rows.callWith_builtin1 (thn (ha pos pins s σ H _ I h) fun us s1 ⟨vs,H1,I1,r1,q1⟩=>hc pins s1 σ H1 vs us Q I1 r1 q1) he hpl
theorem uy (hc:wV X (.type T) r) (hg:Gl X x) (hm:X.mg x=none) (hv:bootBuiltins x=some (.type T)) (ha:PA X (e::es) t) (hn:x ≠ "__name__":=by decide) (hdb:(x == ("__debug__":Str))=false:=by decide)
  (he:starEach (e::es) X.env=(false,eval e X.env)::starEach es X.env:=by rfl) (hpl:(backTo pos (starEach es X.env)).any (·.1)=false:=by rfl):PE X (.Call (.Name x p) (e::es) [] pos) (tCB r t):=by
 refine ⟨?_⟩
 intro pins s σ H Q I h
 refine wpAny_Call_Name_kw (Qo I hg hm hv ?_ hn hdb)
 exact PyProof.Rows.callWith_type1 (thn (ha pos pins s σ H _ I h) fun us s1 ⟨vs,H1,I1,r1,q1⟩=>hc pins s1 σ H1 vs us Q I1 r1 q1) he hpl
end
end L2
namespace HT
open PySem PyProof.Rows
section
open PySem.SeqAt
open PySem.AutoSeq1 (wpAny_loadPart')
open PySem.MeetsSeq PySem.MeetsSeq2 PySem.MeetsSeq3
end
section
variable {prog:Program} {w:World} {A:Around} {E:Value->Shared->Prop} {s:Shared}
theorem cat_tup {t b:Addr} {vs ws:List Value} {Q:Value->Shared->Prop} (ht:IsTup s.heap t vs.toArray) (hb:IsTup s.heap b ws.toArray) (hv:vs≠[])
  (h1:ws=[]->Q (.ref t) s) (h2:ws≠[]->Q (.ref s.heap.objs.size) { s with heap:=s.heap.push { cls:=.type "tuple",data:=.seq (vs++ws).toArray } })
  (hsz:vs.length+ws.length<=sizeLine):wpAny (model prog w) A (binaryOp .Add (.ref t) (.ref b)) Q E s:=by
 obtain ⟨⟨cls,dd,data,sl⟩,ho,hc,n,hd⟩:=id ht
 obtain ⟨⟨cls2,dd2,data2,sl2⟩,ho2,hc2,n2,hd2⟩:=id hb
 simp only at hc hd hc2 hd2
 subst hc hd hc2 hd2
 have e:vs.toArray++ws.toArray=(vs++ws).toArray:=by simp
 by_cases hw:ws=[]
 ·exact concat_meets ⟨_,ho,rfl⟩ ⟨_,ho2,rfl⟩ noFill_tuple_add seq_tuple_add PySem.F.slot_tuple_add PySem.F.entry_tuple_add (PySem.F.args_tuple_add_2 _ _)
   (tuple_addW1 t b vs.toArray ws.toArray n n2 dd dd2 sl sl2 (by simpa using hv) (by simp [hw])) ⟨ho,ho2,h1 hw⟩
 ·refine concat_meets ⟨_,ho,rfl⟩ ⟨_,ho2,rfl⟩ noFill_tuple_add seq_tuple_add PySem.F.slot_tuple_add PySem.F.entry_tuple_add (PySem.F.args_tuple_add_2 _ _)
   (tuple_addW2 t b vs.toArray ws.toArray n n2 dd dd2 sl sl2 (by simpa using hv) (by simpa using hw) (by rw [List.size_toArray,List.size_toArray]; exact hsz)) ⟨ho,ho2,?_⟩
  rw [e]
  exact h2 hw
end
end HT
namespace L2
open PySem PySem.Spec PyProof.Rows
abbrev TO:=St->Hp->(Option Int->Hp->Prop)->Prop
section
variable {X:Cx} {e:Expr} {te:TE} {lo hi:Option Expr} {tl th:TO} {pos p2:Pos}
def qdV (K:Frag):R2:=fun x y H Q=>∃ a b xs ys,x=.ref a/\y=.ref b/\SqT K H a xs/\SqT K H b ys/\xs≠[]/\xs.length+ys.length<=sizeLine /\
 (ys=[]->Q (.ref a) H)/\(ys≠[]->∀ p,H p=none->Q (.ref p) (upd H p (.tup (xs++ys))))
theorem Vals.nil_iff {xs:List V} {us:List Value} (r:Vals xs us):us=[]↔xs=[]:=by
 cases r with
 | nil=>simp
 | cons _ _=>simp
theorem qaH:OpR X (binaryOp .Add) (qdV X.K):=by
 intro pins s σ H x y v u Q I rx ry h
 obtain ⟨a,b,xs,ys,rfl,rfl,ha,hb,hx,hz,q1,q2⟩:=h
 cases rx
 cases ry
 obtain ⟨its,r1,p1,_⟩:=I.tuple ha
 obtain ⟨its2,r2,p2,_⟩:=I.tuple hb
 refine HT.cat_tup p1 p2 (fun z=>hx (r1.nil_iff.mp z)) (fun z=>⟨.ref a,H,I,rfl,q1 (r2.nil_iff.mp z)⟩) (fun z=>?_) (by rw [<-r1.length,<-r2.length]; exact hz)
 refine ⟨.ref s.heap.objs.size,_,I.laid (t':=s.toks) (o:=.tup (xs++ys)) (fun b ob q=>Heap.get?_push_of_some _ q) (Nat.le_refl _) ?_,rfl,q2 (fun w=>z (r2.nil_iff.mpr w)) _ (I.hok.fresh (Nat.le_refl _))⟩
 exact ⟨⟨by rw [List.length_append]; exact hz,_,Heap.get?_push_size _ rfl,rfl⟩,_,r1.append r2,IsTup.new _ _⟩
end
noncomputable def ixN (n:Nat) (i:Int):Option Nat:=if 0<=i then (if i < n then some i.toNat else none) else if -(n:Int)<=i then some (i+n).toNat else none
noncomputable def atI {α:Type} (xs:List α) (i:Int):Option α:=(ixN xs.length i).bind fun j=>xs[j]?
theorem Ur {n:Nat} {i:Int} {j:Nat} (h:ixN n i=some j):seqIndex? i n=some j/\j < n/\-(n:Int)<=i/\i < n:=by
 unfold ixN at h
 by_cases h0:0<=i
 ·rw [if_pos h0] at h
  by_cases h1:i < n
  ·rw [if_pos h1] at h
   have e:i.toNat=j:=Option.some.inj h
   exact ⟨by rw [seqIndex_of h0 h1,e],by omega,by omega,h1⟩
  ·rw [if_neg h1] at h; cases h
 ·rw [if_neg h0] at h
  by_cases h1:-(n:Int)<=i
  ·rw [if_pos h1] at h
   have e:(i+n).toNat=j:=Option.some.inj h
   exact ⟨by rw [seqIndex_neg (by omega) h1,e],by omega,h1,by omega⟩
  ·rw [if_neg h1] at h; cases h
theorem JK {α:Type} {xs:List α} {i:Int} {v:α} (h:atI xs i=some v):∃ j,seqIndex? i xs.length=some j/\xs[j]?=some v/\j < xs.length/\-(xs.length:Int)<=i/\i < xs.length:=by
 unfold atI at h
 cases e:ixN xs.length i with
 | none=>rw [e] at h; cases h
 | some j=>
  rw [e] at h
  obtain ⟨h1,h2,h3,h4⟩:=Ur e
  exact ⟨j,h1,h,h2,h3,h4⟩
theorem ui {α:Type} {xs:List α} {j:Nat} {v:α} (h:xs[j]?=some v):atI xs (j:Int)=some v:=by
 have hj:j < xs.length:=(List.getElem?_eq_some_iff.mp h).1
 have e:ixN xs.length (j:Int)=some j:=by
  unfold ixN
  rw [if_pos (by omega),if_pos (by omega)]; simp
 unfold atI; rw [e]; exact h
def Us (b:Expr):Prop:=∀ o i,subscripted b false o i=operate [o,i] (getItem o i)
def IxR (X:Cx) (r:R2):Prop:=
 ∀ (value slice:Expr) (pins:List (Addr×Obj)) (s:Shared) (σ:St) (H:Hp) (x y:V) (v u:Value) (Q:VK),Inv X pins σ H s->RelV x v->RelV y u->r x y H Q ->
  subscripted slice false v u=operate [v,u] (getItem v u)->wpAny (model X.prog X.w) X.A (subscriptTail value slice v u) (EP X pins σ Q) X.xe s
def MtR (X:Cx) (id:String) (r:V->List V->Hp->VK->Prop):Prop:=
 ∀ (pins:List (Addr×Obj)) (s:Shared) (σ:St) (H:Hp) (x:V) (xs:List V) (v:Value) (us:List Value) (Q:VK),Inv X pins σ H s->RelV x v->Vals xs us->r x xs H Q ->
  wpAny (model X.prog X.w) X.A (call (.builtin id) (v::us)) (EP X pins σ Q) X.xe s
section
variable {X:Cx} {a b:Expr} {ta tb:TE} {pos:Pos}
theorem IxR.or {r r':R2} (h:IxR X r) (h':IxR X r'):IxR X (fun x y H Q=>r x y H Q\/r' x y H Q):=by
 intro value slice pins s σ H x y v u Q I rx ry q hs
 rcases q with q | q
 ·exact h value slice pins s σ H x y v u Q I rx ry q hs
 ·exact h' value slice pins s σ H x y v u Q I rx ry q hs
theorem qdW {r:R2} (hr:IxR X r) (ha:PE X a ta) (hb:PE X b tb) (hs:Us b):PE X (.Subscript a b pos) (tOp r ta tb):=by
 refine ⟨?_⟩
 intro pins s σ H Q I h
 exact Subscript_ (qdK ha hb I h fun v u s2 x y H2 I2 rx ry q=>hr a b pins s2 σ H2 x y v u Q I2 rx ry q (hs _ _))
def qew (K:Frag):R2:=fun x y H Q=>∃ p xs i v,x=.ref p/\y=.int i/\SqL K H p xs/\atI xs i=some v/\Q v H
def qex (K:Frag):R2:=fun x y H Q=>∃ p xs i v,x=.ref p/\y=.int i/\SqT K H p xs/\atI xs i=some v/\Q v H
def qey:R2:=fun x y H Q=>∃ z i c,x=.str z/\y=.int i/\z.length<=sizeLine/\atI z.cps.toList i=some c/\Q (.str ⟨#[c]⟩) H
theorem ix_list:IxR X (qew X.K):=by
 intro value slice pins s σ H x y v u Q I rx ry h hs
 obtain ⟨p,xs,i,z,rfl,rfl,hq,he,q⟩:=h
 cases rx
 obtain ⟨t,rfl⟩:=ry
 obtain ⟨its,r,pl,hz⟩:=I.list hq
 obtain ⟨j,h1,h2,h3,h4,h5⟩:=JK he
 obtain ⟨w,ew,rw'⟩:=r.get h2
 have hl:=r.length
 have hn:=zE
 have fin:EP X pins σ Q w s:=⟨z,H,I,rw',q⟩
 by_cases h0:0<=i
 ·have hj:i.toNat=j:=by
   rw [seqIndex_of h0 h5] at h1
   exact Option.some.inj h1
  exact item_listR pl.isList h0 (by omega) (by rw [hj]; simpa using ew) fin hs
 ·have hj:(i+(its.toArray.size:Int)).toNat=j:=by
   rw [seqIndex_neg (by omega) h4] at h1
   rw [List.size_toArray,<-hl]
   exact Option.some.inj h1
  exact subscriptTail_builtinR (x:=w) pl.isList.typeIs slot_list_getitem.lookup
   (wpAny_getItem_list_neg (Q:=fun r s'=>r=w/\EP X pins σ Q r s') pl.isList (by omega) (by rw [List.size_toArray] <;> omega) (by omega) (by rw [hj]; simpa using ew) ⟨rfl,fin⟩) hs
theorem ix_tup:IxR X (qex X.K):=by
 intro value slice pins s σ H x y v u Q I rx ry h hs
 obtain ⟨p,xs,i,z,rfl,rfl,hq,he,q⟩:=h
 cases rx
 obtain ⟨t,rfl⟩:=ry
 obtain ⟨its,r,pl,hz⟩:=I.tuple hq
 obtain ⟨j,h1,h2,h3,h4,h5⟩:=JK he
 obtain ⟨w,ew,rw'⟩:=r.get h2
 have hl:=r.length
 have hn:=zE
 have fin:EP X pins σ Q w s:=⟨z,H,I,rw',q⟩
 exact subscriptTail_builtinR (x:=w) pl.typeIs slot_tuple_getitem.lookup
  (getItem_tuple (j:=j) (Q:=fun r s'=>r=w/\EP X pins σ Q r s') pl (by omega) (by omega) (by rw [List.size_toArray,<-hl]; exact h1) (by simpa using ew) ⟨rfl,fin⟩) hs
theorem qcb:IxR X qey:=by
 intro value slice pins s σ H x y v u Q I rx ry h hs
 obtain ⟨z,i,c,rfl,rfl,hz,he,q⟩:=h
 obtain ⟨t,rfl⟩:=rx
 obtain ⟨t',rfl⟩:=ry
 obtain ⟨j,h1,h2,h3,h4,h5⟩:=JK he
 have hl:z.cps.toList.length=z.length:=by simp [Str.length]
 rw [hl] at h1 h4 h5
 have hn:=zE
 exact tail_any (typeIs_str s z t) slot_str_getitem.lookup (getItem_str (c:=c) (by
  have e1:decide (i < -(2 ^ 63:Int))=false:=decide_eq_false (by omega)
  have e2:decide (i ≥ 2 ^ 63)=false:=decide_eq_false (by omega)
  rw [e1,e2,Bool.or_false]) (by rw [h1]; simpa using h2) ⟨.str ⟨#[c]⟩,H,I.tok _,⟨_,rfl⟩,q⟩) hs
def rIx (K:Frag):R2:=fun x y H Q=>qew K x y H Q\/qex K x y H Q\/qey x y H Q
theorem qcc:IxR X (rIx X.K):=ix_list.or (ix_tup.or qcb)
theorem Ww (its:List Value) (n j:Nat) (u:Value):Obj.mapSeq (·.setIfInBounds j u) { cls:=.type "list",data:=.seq its.toArray n }={ cls:=.type "list",data:=.seq (its.set j u).toArray n }:=by
 simp [Obj.mapSeq]
theorem Inv.lst {pins:List (Addr×Obj)} {σ:St} {H:Hp} {s:Shared} {p:Addr} {xs:List V} (I:Inv X pins σ H s) (h:H p=some (.lst xs)) :
  ∃ (its:List Value) (n:Nat),Vals xs its/\s.heap.get? p=some { cls:=.type "list",data:=.seq its.toArray n }/\xs.length<=sizeLine:=by
 obtain ⟨z,its,n,r,e⟩:=I.hok p _ h
 exact ⟨its,n,r,e,z⟩
theorem Inv.lstUpd {pins:List (Addr×Obj)} {σ:St} {H:Hp} {s:Shared} {p:Addr} {xs ys:List V} {its its':List Value} {n n':Nat} {f:Obj->Obj} (I:Inv X pins σ H s) (h:H p=some (.lst xs))
  (ho:s.heap.get? p=some { cls:=.type "list",data:=.seq its.toArray n }) (hf:f { cls:=.type "list",data:=.seq its.toArray n }={ cls:=.type "list",data:=.seq its'.toArray n' }) (r:Vals ys its') (hz:ys.length<=sizeLine) (t:Nat) :
  Inv X pins σ (upd H p (.lst ys)) { s with heap:=s.heap.update p f,toks:=t }:=by
 have e:(s.heap.update p f).get? p=some { cls:=.type "list",data:=.seq its'.toArray n' }:=by
  rw [Heap.get?_update_self f ho (by rw [hf] <;> rfl),hf]
 refine I.write (x:=p) (e:=p) (by rw [h]; trivial) (.inl rfl) (fun b u hb q=>(Heap.get?_update_other _ _ (Ne.symm hb)).trans q) ⟨_,e⟩ ?_
 exact ⟨hz,its',n',r,e⟩
def qdX:V->V->V->Hp->(Hp->Prop)->Prop:=fun o i v H Q=>∃ p xs k j,o=.ref p/\i=.int k/\H p=some (.lst xs)/\ixN xs.length k=some j/\Q (upd H p (.lst (xs.set j v)))
theorem Vg:qet X qdX:=by
 intro pins s σ H o i v ov iv u Q I ro ri rv h
 obtain ⟨p,xs,k,j,rfl,rfl,hp,hj,q⟩:=h
 cases ro
 obtain ⟨t,rfl⟩:=ri
 obtain ⟨its,n,r,ho,hz⟩:=I.lst hp
 obtain ⟨h1,h2,h3,h4⟩:=Ur hj
 have hl:=r.length
 have hn:=zE
 have I':Inv X pins σ (upd H p (.lst (xs.set j v))) { s with heap:=s.heap.update p (Obj.mapSeq (·.setIfInBounds j u)) }:=
  I.lstUpd hp ho (Ww its n j u) (r.set rv j) (by rw [List.length_set]; exact hz) s.toks
 by_cases h0:0<=k
 ·have hk:k.toNat=j:=by
   rw [seqIndex_of h0 h4] at h1
   exact Option.some.inj h1
  exact PySem.W.ki_setAt ho h0 (by omega) (by rw [List.size_toArray,<-hl]; exact h4) (by rw [hk]; exact ⟨_,I',q⟩)
 ·have hk:(k+(its.toArray.size:Int)).toNat=j:=by
   rw [seqIndex_neg (by omega) h3] at h1
   rw [List.size_toArray,<-hl]
   exact Option.some.inj h1
  exact PySem.W.ki_setBack ho (by omega) (by rw [List.size_toArray,<-hl]; exact h3) (by omega) (by rw [hk]; exact ⟨_,I',q⟩)
theorem yr:wV X (.type "list") (fun xs H Q=>∃ p ys,xs=[.ref p]/\(SqL X.K H p ys\/SqT X.K H p ys)/\∀ l,H l=none->Q (.ref l) (upd H l (.lst ys))):=by
 intro pins s σ H xs us Q I r h
 obtain ⟨p,ys,rfl,hq,q⟩:=h
 obtain ⟨u,rfl,rx⟩:=xg r
 cases rx
 have fin:∀ (its:List Value),Vals ys its->ys.length<=sizeLine->∀ (h':Heap) (c':Nat),(∀ b o',s.heap.get? b=some o'->h'.get? b=some o') ->
   h'.get? s.heap.objs.size=some { cls:=.type "list",dict:=none,data:=.seq its.toArray c',slots:=#[] }->EP X pins σ Q (.ref s.heap.objs.size) { s with heap:=h' }:=fun its r' hz h' c' kp e=>
  ⟨.ref s.heap.objs.size,_,I.laid (t':=s.toks) kp (Nat.le_refl _) (show ObjOk X.prog X.w _ h' _ (.lst ys) from ⟨hz,its,c',r',e⟩),rfl,q _ (I.hok.fresh (Nat.le_refl _))⟩
 rcases hq with hq | hq
 ·obtain ⟨its,r',pl,hz⟩:=I.list hq
  have hlen:=r'.length
  obtain ⟨o,ho,hc,n,hd⟩:=pl.isList
  exact call_list_seq p (.inl rfl) ho hc hd (fun h' c' kp e=>fin its r' hz h' c' kp e) (by simp only [List.size_toArray] <;> omega)
 ·obtain ⟨its,r',pl,hz⟩:=I.tuple hq
  have hlen:=r'.length
  obtain ⟨o,ho,hc,n,hd⟩:=pl
  exact call_list_seq p (.inr rfl) ho hc hd (fun h' c' kp e=>fin its r' hz h' c' kp e) (by simp only [List.size_toArray] <;> omega)
theorem uz:wV X (.type "tuple") (fun xs H Q=>∃ p ys,xs=[.ref p]/\((SqL X.K H p ys/\∀ l,H l=none->Q (.ref l) (upd H l (.tup ys)))\/(SqT X.K H p ys/\Q (.ref p) H))):=by
 intro pins s σ H xs us Q I r h
 obtain ⟨p,ys,rfl,h⟩:=h
 obtain ⟨u,rfl,rx⟩:=xg r
 cases rx
 rcases h with ⟨hq,q⟩ | ⟨hq,q⟩
 ·obtain ⟨its,r',pl,hz⟩:=I.list hq
  have hlen:=r'.length
  refine call_tuple_list pl.isList (fun h' kp=>?_) (by simp only [List.size_toArray] <;> omega)
  have I1:Inv X pins σ H { s with heap:=h' }:=I.kept (t':=s.toks) kp
  have I2:Inv X pins σ (upd H h'.objs.size (.tup ys)) { s with heap:=h'.push { cls:=.type "tuple",data:=.seq its.toArray } }:=
   I1.laid (t':=s.toks) (fun b o e=>Heap.get?_push_of_some _ e) (Nat.le_refl _) (show ObjOk X.prog X.w _ _ _ (.tup ys) from ⟨⟨hz,_,Heap.get?_push_size _ rfl,rfl⟩,its,r',IsTup.new _ _⟩)
  exact ⟨.ref h'.objs.size,_,I2,rfl,q _ (I1.hok.fresh (Nat.le_refl _))⟩
 ·obtain ⟨its,r',pl,hz⟩:=I.tuple hq
  exact call_tuple_same pl ⟨.ref p,H,I,rfl,q⟩
def tyV (K:Frag) (T:String) (x:V) (H:Hp):Prop:=match x with
 | .str _=>T = "str"
 | .int _=>T = "int"
 | .ref p=>(T = "list"/\∃ xs,SqL K H p xs)\/(T = "tuple"/\∃ o,K.lookup p=some o/\o.cls=.type "tuple"/\o.dict=none) \/
   (T = "dict"/\((∃ kvs,H p=some (.dK kvs))\/∃ kvs,H p=some (.dT kvs)))\/(T = "set"/\∃ S n,H p=some (.set S n))
 | _=>False
theorem qcd {pins:List (Addr×Obj)} {σ:St} {H:Hp} {s:Shared} {T:String} {x:V} {v:Value} (I:Inv X pins σ H s) (r:RelV x v) (ty:tyV X.K T x H) :
  s.TypeIs v T/\∀ a,v=.ref a->∃ ob,s.heap.get? a=some ob/\ob.dict=none:=by
 cases x with
 | str z=>
  obtain ⟨t,rfl⟩:=r
  cases (show T = "str" from ty)
  exact ⟨typeIs_str s z t,fun _ e=>nomatch e⟩
 | int i=>
  obtain ⟨t,rfl⟩:=r
  cases (show T = "int" from ty)
  exact ⟨typeIs_int s i t,fun _ e=>nomatch e⟩
 | ref p=>
  cases r
  rcases ty with ⟨rfl,xs,hq⟩ | ⟨rfl,o,hk,hc,hd⟩ | ⟨rfl,hk⟩ | ⟨rfl,S,n,hk⟩
  ·obtain ⟨its,_,pl,_⟩:=I.list hq
   refine ⟨pl.isList.typeIs,fun a e=>?_⟩
   cases e
   obtain ⟨o,n,e,c,hd,_⟩:=pl
   exact ⟨o,e,hd⟩
  ·refine ⟨⟨o,I.kIn p o hk,hc⟩,fun a e=>?_⟩
   cases e
   exact ⟨o,I.kIn _ o hk,hd⟩
  ·have z:∃ o,s.heap.get? p=some o/\o.ExactDict:=by
    rcases hk with ⟨kvs,hk⟩ | ⟨kvs,hk⟩
    ·obtain ⟨_,_,_,_,o,_,_,e,ex,_⟩:=I.hok p _ hk
     exact ⟨o,e,ex⟩
    ·obtain ⟨_,_,_,_,o,_,_,e,ex,_⟩:=I.hok p _ hk
     exact ⟨o,e,ex⟩
   obtain ⟨o,e,ex⟩:=z
   refine ⟨⟨o,e,ex.1⟩,fun a e2=>?_⟩
   cases e2
   exact ⟨o,e,ex.2.1⟩
  ·obtain ⟨o,_,_,_,e,ex,_⟩:=I.hok p _ hk
   refine ⟨⟨o,e,ex.1⟩,fun a e2=>?_⟩
   cases e2
   exact ⟨o,e,ex.2.1⟩
 | _=>exact False.elim ty
def tBM (K:Frag) (T:String) (r:V->List V->Hp->VK->Prop) (to:TE) (t:TA):TE:=fun σ H Q=>to σ H fun x H1=>tyV K T x H1/\t σ H1 fun xs H2=>r x xs H2 Q
variable {o e:Expr} {es:List Expr} {to:TE} {t:TA} {name:Str} {apos cpos:Pos} {T id:String} {r:V->List V->Hp->VK->Prop}
theorem Wx (pa:PlainAttrs T) (slot:Slot T name id) (hty:typeOf (.builtin id)=pure (.type "method_descriptor")) (hm:MtR X id r) (ho:PE X o to) (ha:PA X (e::es) t)
  (hbase:attributeBase o name X.env (eval o X.env)=eval o X.env:=by rfl)
  (hfew:((backTo cpos (starEach (e::es) X.env)).all (fun x=>!x.1)&&(backToKw cpos (keywordEach [] X.env)).all (fun x=>x.1.isSome)
   && decide ((e::es).length+([]:List Keyword).length+(if ([]:List Keyword).isEmpty then 0 else 1) < 30))=true:=by rfl)
  (hline:(apos.endLine == cpos.line)=true:=by rfl) (hs:starEach (e::es) X.env=(false,eval e X.env)::starEach es X.env:=by rfl) (hplain:(backTo cpos (starEach es X.env)).any (·.1)=false:=by rfl) :
  PE X (.Call (.Attribute o name apos) (e::es) [] cpos) (tBM X.K T r to t):=by
 refine ⟨?_⟩
 intro pins s σ H Q I h
 refine wpAny_Call_method_late hbase hfew hline rfl (thn (ho pins s σ H _ I h) fun v s1 ⟨x,H1,I1,r1,ty,q1⟩=>?_)
 obtain ⟨h1,h2⟩:=qcd I1 r1 ty
 refine ⟨T,id,pa,slot,hty,h1,h2,?_⟩
 have hA:=ha cpos pins s1 σ H1 _ I1 q1
 rw [hs] at hA ⊢
 refine Calls.callWith_builtin (by show (false||(backTo cpos (starEach es X.env)).any (·.1))=false; rw [hplain] <;> rfl) (Calls.evalArgs_plain ?_)
 exact thn hA fun us s2 ⟨vs,H2,I2,r2,q2⟩=>hm pins s2 σ H2 x vs v us Q I2 r1 r2 q2
end
def MtM (X:Cx) (id:String) (r:V->List V->Hp->VK->Prop):Prop:=
 ∀ (pins:List (Addr×Obj)) (s:Shared) (σ:St) (H:Hp) (x:V) (xs:List V) (v:Value) (us:List Value) (Q:VK),Inv X pins σ H s->RelV x v->Vals xs us->r x xs H Q ->
  wpAny (model X.prog X.w) X.A (call (.builtin id) (v::us)) (EP X pins σ Q) X.xe s
theorem Vals.one:∀ {x:V} {us:List Value},Vals [x] us->∃ u,us=[u]/\RelV x u
 | _,_,.cons r .nil=>⟨_,rfl,r⟩
theorem Vals.two:∀ {x y:V} {us:List Value},Vals [x,y] us->∃ u v,us=[u,v]/\RelV x u/\RelV y v
 | _,_,_,.cons r (.cons q .nil)=>⟨_,_,rfl,r,q⟩
theorem Vals.zero:∀ {us:List Value},Vals [] us->us=[]
 | _,.nil=>rfl
theorem Vals.eraseIdx:∀ {xs:List V} {us:List Value} (i:Nat),Vals xs us->Vals (xs.eraseIdx i) (us.eraseIdx i)
 | _,_,_,.nil=>.nil
 | _,_,0,.cons _ t=>t
 | _,_,i+1,.cons r t=>.cons r (Vals.eraseIdx i t)
theorem Vals.rep {xs:List V} {us:List Value} (h:Vals xs us):∀ k:Nat,Vals (List.replicate k xs).flatten (List.replicate k us).flatten
 | 0=>.nil
 | k+1=>by
  rw [List.replicate_succ,List.replicate_succ,List.flatten_cons,List.flatten_cons]
  exact Vals.append h (Vals.rep h k)
section
variable {X:Cx} {pins:List (Addr×Obj)} {σ:St} {H:Hp} {s:Shared} {l b:Addr} {xs ys zs:List V}
theorem Inv.lset {its its':List Value} {n:Nat} {f:Array Value->Array Value} {t':Nat} (I:Inv X pins σ H s) (hH:H l=some (.lst xs))
  (e:s.heap.get? l=some { cls:=.type "list",data:=.seq its.toArray n }) (hf:f its.toArray=its'.toArray) (hv:Vals ys its') (hz:ys.length<=sizeLine) :
  Inv X pins σ (upd H l (.lst ys)) { s with heap:=s.heap.update l (Obj.mapSeq f),toks:=t' }:=by
 have q:=PySem.IsL.update e f
 rw [hf] at q
 refine I.write (x:=l) (e:=l) (by rw [hH]; exact trivial) (.inl rfl) (fun b' u hb hu=>(Heap.get?_update_other s.heap (Obj.mapSeq f) (Ne.symm hb)).trans hu) ⟨_,q⟩ ?_
 exact ⟨hz,its',_,hv,q⟩
theorem Inv.lnew {its:List Value} {t':Nat} (I:Inv X pins σ H s) (hv:Vals ys its) (hz:ys.length<=sizeLine) :
  Inv X pins σ (upd H s.heap.objs.size (.lst ys)) { s with heap:=s.heap.push { cls:=.type "list",data:=.seq its.toArray },toks:=t' }:=
 I.laid (fun _ _ q=>Heap.get?_push_of_some _ q) (Nat.le_refl _) ⟨hz,its,0,hv,Heap.get?_push_size _ rfl⟩
theorem Inv.fresh (I:Inv X pins σ H s):H s.heap.objs.size=none:=I.hok.fresh (Nat.le_refl _)
theorem Inv.lstM (I:Inv X pins σ H s) (hH:H l=some (.lst xs)):xs.length<=sizeLine/\∃ (its:List Value) (n:Nat),Vals xs its/\xs.length=its.length/\s.heap.get? l=some { cls:=.type "list",data:=.seq its.toArray n }:=by
 obtain ⟨z,its,n,r,e⟩:=I.hok l _ hH
 exact ⟨z,its,n,r,r.length,e⟩
theorem Zg {n:Nat} (h:n<=sizeLine):Builtin.List.listTooLong n=false:=by
 unfold Builtin.List.listTooLong
 exact decide_eq_false (by omega)
end
section
variable {X:Cx}
def JL:V->List V->Hp->VK->Prop:=fun x vs H Q=>∃ l xs y,x=.ref l/\vs=[y]/\H l=some (.lst xs)/\xs.length < sizeLine/\Q .non (upd H l (.lst (xs++[y])))
theorem uA:MtM X "list.append" JL:=by
 intro pins s σ H x vs v us Q I rx rv h
 obtain ⟨l,xs,y,rfl,rfl,hH,hz,q⟩:=h
 cases rx
 obtain ⟨u,rfl,ru⟩:=rv.one
 obtain ⟨z,its,n,r,hl,e⟩:=I.lstM hH
 refine call_meets F.slot_list_append ⟨_,e,rfl⟩ F.entry_list_append (F.args_list_append_2 _ _) (PySem.list_append l its.toArray n u (by rw [List.size_toArray]; omega)) ⟨e,?_⟩
 refine ⟨.non,_,I.lset (its':=its++[u]) hH e (by simp) (r.append (.cons ru .nil)) ?_,rfl,q⟩
 rw [List.length_append,List.length_singleton]
 omega
def qaI:V->List V->Hp->VK->Prop:=fun x vs H Q=>∃ l b xs zs,x=.ref l/\vs=[.ref b]/\H l=some (.lst xs)/\H b=some (.lst zs)/\xs.length+zs.length<=sizeLine/\Q .non (upd H l (.lst (xs++zs)))
theorem Ut:MtM X "list.extend" qaI:=by
 intro pins s σ H x vs v us Q I rx rv h
 obtain ⟨l,b,xs,zs,rfl,rfl,hH,hB,hz,q⟩:=h
 cases rx
 obtain ⟨u,rfl,ru⟩:=rv.one
 cases ru
 obtain ⟨z,its,n,r,hl,e⟩:=I.lstM hH
 obtain ⟨z2,its2,n2,r2,hl2,e2⟩:=I.lstM hB
 have hsz:its.toArray.size+its2.toArray.size<=sizeLine:=by rw [List.size_toArray,List.size_toArray]; omega
 have hlong:¬(!its.toArray.isEmpty&&Builtin.List.listTooLong (its.toArray.size+its2.toArray.size))=true:=by
  rw [Zg hsz,Bool.and_false]
  exact Bool.false_ne_true
 refine call_meets F.slot_list_extend ⟨_,e,rfl⟩ F.entry_list_extend (F.args_list_extend_2 _ _)
  (AutoSeq1.list_extend_list_list_0 l its.toArray n b its2.toArray n2 hlong (by rw [List.size_toArray]; omega) (by omega)) ⟨e,e2,?_⟩
 refine ⟨.non,_,I.lset (its':=its++its2) hH e (by simp) (r.append r2) ?_,rfl,q⟩
 rw [List.length_append]
 omega
end
end L2
namespace Att
open PySem PySem.W PySem.Calls PyProof.Rows
theorem xj {P:Params} {h:Heap}:∀ (ns:List Int) (vs:List Value),WellAll P h vs (ns.map WData.int)->IntsAre vs ns:=by
 intro ns
 induction ns with
 | nil=>
  intro vs w
  rw [List.map_nil] at w
  cases w
  exact .nil
 | cons n ns ih=>
  intro vs w
  rw [List.map_cons] at w
  cases w with
  | cons a b=>
   cases a
   exact .cons _ _ (ih _ b)
theorem Uu {l:OpenLaw} {n:Nat} (hn:l.most=some n) {P:Params} {h:Heap} {args:List WData} {vals:List Value}
  (hpre:l.row.toRowW.claim.pre args=true) (hwl:WellAll P h vals args) :
  ∃ a vs ns,vals=[Value.ref a]/\args=[WData.list (ns.map WData.int)]/\h.get? a=some { cls:=.type "list",data:=.seq vs.toArray }/\IntsAre vs ns/\ns.length<=n:=by
 have hsh:WShape.hasAll [] args [.list .int]=true:=(pre_splitW hpre).1
 have hc:l.pre.holds [] { args:=args }=true:=(pre_splitW hpre).2
 obtain ⟨d,r,rfl,h1,h2⟩:=hasAllW_cons hsh
 obtain rfl:=hasAllW_nil h2
 obtain ⟨xs,rfl,h3⟩:=hasW_list h1
 obtain ⟨ns,rfl⟩:=items_int h3
 have hlen:ns.length<=n:=by
  unfold OpenLaw.pre at hc
  have h4:(WTm.not (.lt (.lit (.int (n:Int))) (.len (.arg 0)))).holds [] { args:=[.list (ns.map .int)] }=true:=by
   have h4:=(holds_andW hc).1
   rw [hn] at h4
   exact h4
  have h5:=condW_of h4 (w_not (w_lt w_lit (w_len_list (w_arg rfl))))
  rw [List.length_map] at h5
  refine Nat.le_of_not_lt fun q=>?_
  have q':(n:Int) < ((ns.length:Nat):Int):=by omega
  first
   | (rw [decide_eq_true q'] at h5; exact absurd h5 (by decide))
   | (simp at h5; omega)
 cases hwl with
 | cons w1 w2=>
  cases w2
  cases w1 with
  | list ho hall=>exact ⟨_,_,ns,rfl,rfl,ho,xj ns _ hall,hlen⟩
theorem Uv (l:OpenLaw) (args:List WData):l.row.toRowW.claim.post args (.bool true) args=true:=
 postW_of (r:=l.row.toRowW) (X:=(true == true))
  (show WShape.has [] (.bool true) .bool=true by first | rfl | decide | simp [WShape.has,WShape.arms,WShape.armsAll])
  (show (WTm.eq .res (.lit (.bool true))).value [] { args:=args,res:=some (.bool true),after:=args }=some (.bool (true == true)) from w_eq_bool (w_res rfl) w_lit) rfl
theorem attach_call {l:OpenLaw} {n:Nat} {q:Program} {loose:List Str} {XP:(Str->Option Value)->Heap->Prop} {YP:World->Heap->Prop} {d:DefRec}
  (hn:l.most=some n) (hdf:d.params.defaults=[])
  (call:∀ (w:World) (s₀ s₁:Shared) (mg mb:Str->Option Value) (fa:Addr) (o:Obj) (pm cd doc:Value) (a:Addr) (vs:List Value) (ns:List Int),
   Ground q loose [] XP w s₀ mg mb s₁.heap->YP w s₁.heap ->
   s₁.heap.get? fa=some o->o.data=.func (docDef d.name d.params d.body d.scope pm cd doc)->s₁.heap.CodeRec cd d.name->mg d.name=some (.ref fa) ->
   s₁.heap.get? a=some { cls:=.type "list",data:=.seq vs.toArray }->IntsAre vs ns->ns.length<=n->s₁.gens=#[] ->
   codeAny (model l.prog w) callerA (.call (.ref fa) ⟨[.ref a],[]⟩) (fun r s'=>r=.ok (.ret (.bool true))/\OldK s₁.heap s'.heap/\s'.os=s₁.os/\AllBare s'.gens) s₁) :
  WalkO q loose XP YP l.row.toRowW d [] (fun f vs=>PySem.call f vs):=by
 intro w s₀ s₁ mg mb G Y fa o pm cd doc dV kV ho hd hcd hD hmg hg args vals as hpre hlay hrd hwl hlo
 obtain rfl:dV=.none:=Dflts.none hD hdf
 obtain rfl:kV=.none:=Dflts.noKw hD
 obtain ⟨a,vs,ns,rfl,rfl,hobj,hints,hlen⟩:=Uu hn hpre hwl
 refine enter_call (codeAny_mono (call w s₀ s₁ mg mb fa o pm cd doc a vs ns G Y ho (fd_plain hd) hcd hmg hobj hints hlen hg) fun r s' hq=>?_)
 obtain ⟨rfl,h2,h3,h4⟩:=hq
 exact ⟨.inl ⟨.bool true,.bool true,[],rfl,fun _=>rfl,.bool true,Uv l _,fun _=>⟨List.Pairwise.nil,fun _ hm=>(nomatch hm)⟩⟩,h2,h3,h4⟩
end Att
namespace L2
open PySem PySem.Spec PyProof.Rows
theorem Qu:∀ {vs:List Value} {ns:List Int},IntsAre vs ns->Vals (ns.map V.int) vs
 | _,_,.nil=>.nil
 | _,_,.cons n t h=>.cons ⟨t,rfl⟩ (Qu h)
def qdY (H:Hp):Prop:=∀ b,H b=none\/∃ o xs,H b=some (.frz o (.lst xs))
theorem Zh {P:Program} {w:World} {K:Frag} {mg mb:Str->Option Value} {CX:CXT} {k:Nat} {fa a:Addr} {fd:FuncData} {x:Str} {sp:Sp} {s₁:Shared} {vs:List Value} {ns:List Int}
  (KX:K.In s₁.heap) (hns:s₁.heap.Ns mainGlobals mg) (hb:s₁.heap.Ns builtinsNs mb) (hbb:∀ x:Str,x ≠ "__name__"->mb x=bootBuiltins x) (hlim:s₁.heap.NoLimit) (hg:s₁.gens=#[])
  (ha:s₁.heap.get? a=some { cls:=.type "list",data:=.seq vs.toArray }) (hi:IntsAre vs ns) (hl:ns.length<=sizeLine) (hr:Room k callerA)
  (F:∀ base:Heap,K.In base->base.Ns mainGlobals mg->FnOk P w K mg base CX k fa fd [x] sp) (hbind:∀ (s:Shared) (u:Value),BindsTo s fd ⟨[u],[]⟩ [(x,u)])
  (hsp:∀ H:Hp,qdY H->SqL K H a (ns.map V.int)->sp [.ref a] H (fun v _=>v=.bl true) fun _ _ _=>False)
  (hCX:∀ H e s',CX [] H s₁ (fun _ _ _=>False) e s'->False) :
  codeAny (model P w) callerA (.call (.ref fa) ⟨[.ref a],[]⟩) (fun r s'=>r=.ok (.ret (.bool true))/\OldK s₁.heap s'.heap/\s'.os=s₁.os/\AllBare s'.gens) s₁:=by
 have rv:=Qu hi
 have lenV:=hi.length
 have core:∀ H:Hp,qdY H->SqL K H a (ns.map V.int)->HOk P w H s₁.heap->(∀ b,H b≠none->b=a)->(H a≠none->K.lookup a=none) ->
   codeAny (model P w) callerA (.call (.ref fa) ⟨[.ref a],[]⟩) (fun r s'=>r=.ok (.ret (.bool true))/\OldK s₁.heap s'.heap/\s'.os=s₁.os/\AllBare s'.gens) s₁:=by
  intro H hO hS hok hA hK
  have base_of:∀ {b:Addr} {o:Obj},s₁.heap.get? b=some o->H b=none->(XQ s₁.heap H).get? b=some o:=fun e n=>XR e n
  have noA:∀ {b:Addr} {o:Obj} {es:Array DictEntry} {ep:Nat},s₁.heap.get? b=some o->o.data=.dict es ep->H b=none:=fun {b o es ep} e d=>by
   cases q:H b with
   | none=>rfl
   | some u=>
    have e':b=a:=hA b (by rw [q]; simp)
    subst e'
    rw [ha] at e; cases e
    have d':Data.seq vs.toArray _=Data.dict es ep:=d
    cases d'
  have nsK:∀ {b:Addr} {m:Str->Option Value},s₁.heap.Ns b m->(XQ s₁.heap H).Ns b m:=fun {b m} ⟨o,es,ep,e,d,r⟩=>⟨o,es,ep,base_of e (noA e d),d,r⟩
  have hKb:K.In (XQ s₁.heap H):=fun b o e=>base_of (KX b o e) (by
   cases q:H b with
   | none=>rfl
   | some u=>
    have e':b=a:=hA b (by rw [q]; simp)
    subst e'
    rw [hK (by rw [q]; simp)] at e; cases e)
  have hM:Mod K mg (XQ s₁.heap H):=⟨hKb,nsK hns,⟨mb,nsK hb,hbb⟩,let ⟨mc,h1,h2⟩:=hlim; ⟨mc,nsK h1,h2⟩⟩
  have e0:Env0 P w K mg (XQ s₁.heap H) callerA [] s₁ H:=⟨rfl,hM,fun b o e=>qas e,Nat.le_of_eq (WY _ _),trivial,fun b hb=>absurd (show b∈([]:List Addr) from hb) (by simp),hok,.of_eq hg⟩
  refine codeAny_mono ((F _ hKb (nsK hns)).run callerA [] s₁ H ⟨[.ref a],[]⟩ [.ref a] [.ref a] _ _ hr e0 (hbind s₁ (.ref a)) (.cons rfl .nil) (hsp H hO hS)) fun r s' h=>?_
  cases r with
  | error e=>exact (hCX H e s' h).elim
  | ok fl=>
   cases fl with
   | next=>exact False.elim h
   | brk=>exact False.elim h
   | cont=>exact False.elim h
   | ret u=>
    obtain ⟨v,H',os,bare,un,hok',r',q⟩:=h
    have q':v=.bl true:=q
    subst q'
    obtain rfl:u=Value.bool true:=r'
    refine ⟨rfl,OldK.of_keep fun b o e=>?_,os,bare⟩
    cases q:H b with
    | none=>exact un.keep b o e q (by intro z; exact absurd (show b∈([]:List Addr) from z) (by simp)) (by simp)
    | some u=>
     rcases hO b with z | ⟨ob,xs,z⟩
     ·rw [q] at z; cases z
     ·have z2:=un.frzs b ob _ z
      obtain ⟨e1,_⟩:=hok b _ z
      obtain ⟨e2,_⟩:=hok' b _ z2
      rw [e] at e1; cases e1
      exact e2
 cases hk:K.lookup a with
 | some o=>
  have e:=KX a o hk
  rw [ha] at e
  cases e
  refine core (fun _=>none) (fun _=>.inl rfl) (.inr ⟨_,vs.toArray,_,hk,rfl,rfl,rfl,by rw [List.size_toArray,lenV]; exact hl,by simpa using rv⟩) (fun b u z=>by have z':(none:Option HO)=some u:=z; cases z') (fun b z=>absurd rfl z) fun z=>absurd rfl z
 | none=>
  refine core (fun b=>if b=a then some (.frz { cls:=.type "list",data:=.seq vs.toArray } (.lst (ns.map V.int))) else none) (fun b=>?_) (.inl (.inr ⟨{ cls:=.type "list",data:=.seq vs.toArray },if_pos rfl⟩)) (fun b u z=>?_) (fun b z=>?_) fun _=>hk
  ·by_cases hb:b=a
   ·exact .inr ⟨_,_,if_pos hb⟩
   ·exact .inl (if_neg hb)
  ·by_cases hb:b=a
   ·have z':=(if_pos hb).symm.trans z
    cases z'
    subst hb
    exact ⟨ha,by rw [List.length_map]; exact hl,vs,_,rv,ha⟩
   ·have z':=(if_neg hb).symm.trans z
    cases z'
  ·by_cases hb:b=a
   ·exact hb
   ·exact absurd (if_neg hb) z
theorem qaJ {l:PySem.W.OpenLaw} {n k:Nat} {q:Program} {loose:List Str} {XP:(Str->Option Value)->Heap->Prop} {YP:World->Heap->Prop} {d:DefRec} {K:Params->Frag} {CX:World->CXT} {sp:World->Sp} {x:Str}
  (hn:l.most=some n) (hn2:n<=sizeLine) (hdf:d.params.defaults=[]) (hr:Room k callerA)
  (hY:∀ (w:World) (h:Heap),YP w h->(K w.params).In h)
  (F:∀ (w:World) (mg:Str->Option Value) (fa:Addr) (h:Heap),(K w.params).In h->h.Ns mainGlobals mg->mg d.name=some (.ref fa) ->
   ∃ fd:FuncData,(∀ (s:Shared) (u:Value),BindsTo s fd ⟨[u],[]⟩ [(x,u)]) /\
    ∀ base:Heap,(K w.params).In base->base.Ns mainGlobals mg->FnOk l.prog w (K w.params) mg base (CX w) k fa fd [x] (sp w))
  (hsp:∀ (w:World) (H:Hp) (a:Addr) (ns:List Int),ns.length<=n->qdY H->SqL (K w.params) H a (ns.map V.int)->sp w [.ref a] H (fun v _=>v=.bl true) fun _ _ _=>False)
  (hCX:∀ (w:World) (H:Hp) (s:Shared) (e:Value) (s':Shared),CX w [] H s (fun _ _ _=>False) e s'->False) :
  PySem.W.WalkO q loose XP YP l.row.toRowW d [] (fun f vs=>PySem.call f vs):=by
 refine Att.attach_call hn hdf fun w s₀ s₁ mg mb fa o pm cd doc a vs ns G Y ho hd hcd hmg hobj hints hlen hg=>?_
 have KX:=hY w _ Y
 obtain ⟨fd,hb,hF⟩:=F w mg fa _ KX G.T.g hmg
 exact Zh KX G.T.g G.T.b G.T.builtins G.T.nolimit hg hobj hints (Nat.le_trans hlen hn2) hr hF hb (fun H hO hS=>hsp w H a ns hlen hO hS) fun H e s'=>hCX w H s₁ e s'
noncomputable def xl (s:Stmt) (j:Nat):Stmt:=match s with
 | .ClassDef _ _ _ body _ _ _ _ _ _ _=>body.getD j (.Pass ⟨0,0,0,0⟩)
 | _=>.Pass ⟨0,0,0,0⟩
noncomputable def wa (s:Stmt):Arguments:=match s with
 | .FunctionDef _ a _ _ _ _ _ _ _ _=>a
 | _=>{ posonlyargs:=[],args:=[],vararg:=none,kwonlyargs:=[],kw_defaults:=[],kwarg:=none,defaults:=[] }
noncomputable def js (s:Stmt):List Stmt:=match s with
 | .FunctionDef _ _ b _ _ _ _ _ _ _=>b
 | _=>[]
noncomputable def qd (s:Stmt):Scope:=match s with
 | .FunctionDef _ _ _ _ _ _ sc _ _ _=>sc
 | _=>{ kind:=.function,names:=[],isGenerator:=false,isCoroutine:=false }
structure Fun (K:Frag) (x qual:Str) (st:Stmt) (f:Addr) (fd:FuncData):Prop where
 ex:∃ (oc:Value) (od:Option Addr) (kV doc pm:Value) (an:Option Addr) (cdv ct:Value) (osl:Array (Option Value)),
  fd=PySem.W.fnOf x qual (wa st) (js st) (qd st) .none kV doc pm an cdv ct/\K.lookup f=some ⟨oc,od,.func fd,osl⟩/\codeIn K cdv qual=true
 kp:keepIn K (.ref f)=true
section
variable {P:Program} {w:World} {K:Frag} {mg:Str->Option Value} {base:Heap}
theorem Fun.binds {x qual:Str} {st:Stmt} {f:Addr} {fd:FuncData} {ps:List Str} (F:Fun K x qual st f fd)
  (h:∀ (kV doc pm:Value) (an:Option Addr) (cdv ct:Value) (us:List Value),us.length=ps.length->bindArgs (PySem.W.fnOf x qual (wa st) (js st) (qd st) .none kV doc pm an cdv ct) ⟨us,[]⟩=pure (ps.zip us)):Binds K fd ps []:=by
 obtain ⟨oc,od,kV,doc,pm,an,cdv,ct,osl,rfl,lk,hcd⟩:=F.ex
 exact .all (h kV doc pm an cdv ct)
theorem vn {x qual:Str} {st:Stmt} {f:Addr} {oc:Value} {od an:Option Addr} {osl:Array (Option Value)} {kV doc pm cdv ct:Value} (l:K.lookup f=some ⟨oc,od,.func (PySem.W.fnOf x qual (wa st) (js st) (qd st) .none kV doc pm an cdv ct),osl⟩)
  (c:codeIn K cdv qual=true) (k:keepIn K (.ref f)=true):Fun K x qual st f (PySem.W.fnOf x qual (wa st) (js st) (qd st) .none kV doc pm an cdv ct):=⟨⟨oc,od,kV,doc,pm,an,cdv,ct,osl,rfl,l,c⟩,k⟩
end
section
variable {X:Cx}
theorem pv (i:Nat) {x:Str} {pos:Pos} (hN:X.N[i]?=some x:=by rfl) (hv:Vis X.env.scope x:=by first | exact Or.inl rfl | exact Or.inr (Or.inl rfl) | exact Or.inr (Or.inr rfl)) (hd:(x == ("__debug__":Str))=false:=by decide)
  (hcd:(x == ("__classdict__":Str))=false:=by decide):PE X (.Name x pos) (qdk i):=vZ hN hv hd hcd
end
def Same (H H':Hp):Prop:=∀ b o,H b=some o->H' b=some o
theorem Same.refl (H:Hp):Same H H:=fun _ _ h=>h
theorem Same.trans {H H1 H2:Hp} (a:Same H H1) (b:Same H1 H2):Same H H2:=fun c o h=>b c o (a c o h)
theorem Same.free {H H':Hp} (e:Same H H') {l:Addr} (h:H' l=Option.none):H l=Option.none:=by
 cases q:H l with
 | none=>rfl
 | some o=>
  rw [e l o q] at h
  cases h
theorem Same.seq {K:Frag} {H H':Hp} {a:Addr} {xs:List V} (e:Same H H') (h:SqL K H a xs):SqL K H' a xs:=by
 rcases h with (h | ⟨o,h⟩) | h
 ·exact .inl (.inl (e _ _ h))
 ·exact .inl (.inr ⟨o,e _ _ h⟩)
 ·exact .inr h
section
variable {κ:Type} [DecidableEq κ]
noncomputable def Vh (kvs:List (κ×V)) (k:κ):Option V:=(kvs.find? fun kv=>decide (kv.1=k)).map (·.2)
noncomputable def JB (kvs:List (κ×V)) (k:κ) (v:V):List (κ×V):=
 if (kvs.any fun kv=>decide (kv.1=k))=true then kvs.map (fun kv=>if kv.1=k then (kv.1,v) else kv) else kvs++[(k,v)]
theorem yN {p:κ×V} {r:List (κ×V)} {k:κ} (e:p.1=k):Vh (p::r) k=some p.2:=by simp [Vh,List.find?_cons,e]
theorem yO {p:κ×V} {r:List (κ×V)} {k:κ} (e:¬p.1=k):Vh (p::r) k=Vh r k:=by simp [Vh,List.find?_cons,e]
theorem Vi (k:κ):∀ kvs:List (κ×V),(kvs.any fun kv=>decide (kv.1=k))=(Vh kvs k).isSome
 | []=>rfl
 | p::r=>by
  rw [List.any_cons]
  by_cases e:p.1=k
  ·simp only [yN e,decide_eq_true e,Bool.true_or,Option.isSome_some]
  ·rw [yO e,decide_eq_false e,Bool.false_or]; exact Vi k r
theorem JM (kvs:List (κ×V)) (k:κ) (v:V):(JB kvs k v).length<=kvs.length+1:=by
 unfold JB
 split
 ·rw [List.length_map]; omega
 ·rw [List.length_append,List.length_cons,List.length_nil]; omega
theorem RelO.isSome_eq {o:Option V} {u:Option Value} (r:RelO o u):o.isSome=u.isSome:=by
 cases o with
 | none=>cases u with
  | none=>rfl
  | some _=>exact (show False from r).elim
 | some _=>cases u with
  | none=>exact (show False from r).elim
  | some _=>rfl
theorem KV.val {kvs:List (κ×V)} {vs:List (κ×Value)} (r:KV kvs vs) (k:κ):RelO (Vh kvs k) (valueAt vs k):=by
 unfold KV at r
 induction r with
 | nil=>exact True.intro
 | @cons p q ps qs h t ih=>
  obtain ⟨h1,h2⟩:=h
  by_cases e:p.1=k
  ·have e':q.1=k:=h1.symm.trans e
   have b:valueAt (q::qs) k=some q.2:=by simp [valueAt,List.find?_cons,e']
   rw [yN e,b]; exact h2
  ·have e':¬q.1=k:=fun z=>e (h1.trans z)
   have b:valueAt (q::qs) k=valueAt qs k:=by simp [valueAt,List.find?_cons,e']
   rw [yO e,b]; exact ih
theorem KV.any {kvs:List (κ×V)} {vs:List (κ×Value)} (r:KV kvs vs) (k:κ):(kvs.any fun kv=>decide (kv.1=k))=vs.any fun kv=>decide (kv.1=k):=by
 unfold KV at r
 induction r with
 | nil=>rfl
 | cons h t ih=>rw [List.any_cons,List.any_cons,ih,h.1]
theorem KV.repl {kvs:List (κ×V)} {vs:List (κ×Value)} (r:KV kvs vs) (k:κ) {y:V} {u:Value} (ry:RelV y u) :
  KV (kvs.map fun kv=>if kv.1=k then (kv.1,y) else kv) (vs.map fun kv=>if kv.1=k then (kv.1,u) else kv):=by
 unfold KV at r ⊢
 induction r with
 | nil=>exact .nil
 | @cons p q ps qs h t ih=>
  rw [List.map_cons,List.map_cons]
  refine .cons ?_ ih
  obtain ⟨h1,h2⟩:=h
  by_cases e:p.1=k
  ·rw [if_pos e,if_pos (h1.symm.trans e)]; exact ⟨h1,ry⟩
  ·rw [if_neg e,if_neg (fun z=>e (h1.trans z))]; exact ⟨h1,h2⟩
theorem KV.put {kvs:List (κ×V)} {vs:List (κ×Value)} (r:KV kvs vs) (k:κ) {y:V} {u:Value} (ry:RelV y u):KV (JB kvs k y) (stored vs k u):=by
 unfold JB stored
 rw [r.any k]
 by_cases e:(vs.any fun kv=>decide (kv.1=k))=true
 ·rw [if_pos e,if_pos e]; exact r.repl k ry
 ·rw [if_neg e,if_neg e]; exact Paired.snoc r ⟨rfl,ry⟩
theorem KV.keys {kvs:List (κ×V)} {vs:List (κ×Value)} (r:KV kvs vs):kvs.map (·.1)=vs.map (·.1):=by
 unfold KV at r
 induction r with
 | nil=>rfl
 | cons h t ih=>rw [List.map_cons,List.map_cons,ih,h.1]
theorem KV.length {kvs:List (κ×V)} {vs:List (κ×Value)} (r:KV kvs vs):kvs.length=vs.length:=Paired.length r
end
theorem Zi {P:Program} {w:World} {k:Key} {u:Value} (r:RelV (kV k) u):(jb P w).is k u=true:=by
 cases k with
 | inl i=>obtain ⟨t,e⟩:=(show ∃ t,u=Value.int i t from r); subst e; exact JG P w i t
 | inr x=>obtain ⟨t,e⟩:=(show ∃ t,u=Value.str x t from r); subst e; exact JH P w x t
theorem Qv {P:Program} {w:World}:∀ {ks:List Key} {us:List Value},Vals (ks.map kV) us->ItemsAre (jb P w) ks us
 | [],_,r=>by rw [List.map_nil] at r; cases r; exact .nil
 | k::ks,_,r=>by
  rw [List.map_cons] at r
  cases r with
  | cons h t=>exact .cons (Zi h) (Qv t)
abbrev KT (H:Hp):List (List Key×V)->List (List Key×Addr×Value)->Prop:=Paired fun p q=>p.1=q.1/\H q.2.1=some (.tup (p.1.map kV))/\RelV p.2 q.2.2
theorem KT.val {H:Hp} {kvs:List (List Key×V)} {xs:List (List Key×Addr×Value)} (r:KT H kvs xs) (k:List Key):RelO (Vh kvs k) ((atKey xs k).map (·.2)):=by
 induction r with
 | nil=>exact True.intro
 | @cons p q ps qs h t ih=>
  obtain ⟨h1,_,h2⟩:=h
  by_cases e:p.1=k
  ·have e':q.1=k:=h1.symm.trans e
   have b:atKey (q::qs) k=some q.2:=by simp [atKey,List.find?_cons,e']
   rw [yN e,b]; exact h2
  ·have e':¬q.1=k:=fun z=>e (h1.trans z)
   have b:atKey (q::qs) k=atKey qs k:=by simp [atKey,List.find?_cons,e']
   rw [yO e,b]; exact ih
theorem KT.keeps {H H':Hp} {kvs:List (List Key×V)} {xs:List (List Key×Addr×Value)} (r:KT H kvs xs) (ht:∀ b ys,H b=some (.tup ys)->H' b=some (.tup ys)):KT H' kvs xs:=
 Paired.mapP r fun _ _ z=>⟨z.1,ht _ _ z.2.1,z.2.2⟩
section
variable {P:Program} {w:World} {H:Hp} {h:Heap} {a:Addr}
theorem qce {u:HO} (ok:HOk P w H h) (e:Rd H a u):ObjOk P w H h a u:=e.ok ok
theorem Uw {kvs:List (Key×V)} (ok:HOk P w H h) (e:Rd H a (.dK kvs)):kvs.length<=sizeLine/\(a == sysModules)=false/\∃ vs,KV kvs vs/\h.DictOf (jb P w) a vs:=
 show ObjOk P w H h a (.dK kvs) from qce ok e
theorem zG {ks:List Key} (ok:HOk P w H h) (e:H a=some (.tup (ks.map kV))):(tupleKind (jb P w)).is h ks a:=by
 obtain ⟨_,its,r,o,h1,h2,n,h3⟩:=(show ObjOk P w H h a (.tup (ks.map kV)) from ok a _ e)
 exact ⟨o,its.toArray,n,h1,h2,h3,by simpa using Qv r⟩
theorem Zj {kvs:List (List Key×V)} (ok:HOk P w H h) (e:Rd H a (.dT kvs)):kvs.length<=sizeLine/\(a == sysModules)=false /\
  ∃ xs,KT H kvs xs/\h.DictOfH (tupleKind (jb P w)) a xs:=by
 obtain ⟨z,y,xs,r,o,es,ep,h1,h2,h3,h4,h5⟩:=(show ObjOk P w H h a (.dT kvs) from qce ok e)
 refine ⟨z,y,xs,r,o,es,ep,h1,h2,h3,h4,fun x hx=>?_,h5⟩
 have all:∀ {l:List (List Key×V)} {m:List (List Key×Addr×Value)},KT H l m->∀ x∈m,(tupleKind (jb P w)).is h x.1 x.2.1:=by
  intro l m q
  induction q with
  | nil=>intro x hx; exact nomatch hx
  | @cons p q ps qs hq t ih=>
   intro x hx
   rcases List.mem_cons.mp hx with e | hx
   ·subst e
    exact zG ok (by rw [<-hq.1]; exact hq.2.1)
   ·exact ih x hx
 exact all r x hx
end
def DGet (H:Hp) (a:Addr) (y:V) (r:Option V):Prop:=
 (∃ kvs k,Rd H a (.dK kvs)/\y=kV k/\r=Vh kvs k)\/∃ kvs k b,Rd H a (.dT kvs)/\y=.ref b/\H b=some (.tup (k.map kV))/\r=Vh kvs k
def DPut (H:Hp) (a:Addr) (y v:V) (H':Hp):Prop:=
 (∃ kvs k,H a=some (.dK kvs)/\y=kV k/\kvs.length < sizeLine/\H'=upd H a (.dK (JB kvs k v))) \/
 ∃ kvs k b,H a=some (.dT kvs)/\y=.ref b/\H b=some (.tup (k.map kV))/\kvs.length < sizeLine/\H'=upd H a (.dT (JB kvs k v))
theorem DGet.k {H:Hp} {a:Addr} {kvs:List (Key×V)} {k:Key} (e:H a=some (.dK kvs)):DGet H a (kV k) (Vh kvs k):=.inl ⟨kvs,k,.inl e,rfl,rfl⟩
theorem DGet.t {H:Hp} {a b:Addr} {kvs:List (List Key×V)} {k:List Key} (e:H a=some (.dT kvs)) (eb:H b=some (.tup (k.map kV))):DGet H a (.ref b) (Vh kvs k):=.inr ⟨kvs,k,b,.inl e,rfl,eb,rfl⟩
theorem DPut.t {H:Hp} {a b:Addr} {kvs:List (List Key×V)} {k:List Key} {v:V} (e:H a=some (.dT kvs)) (eb:H b=some (.tup (k.map kV))) (hl:kvs.length < sizeLine) :
  DPut H a (.ref b) v (upd H a (.dT (JB kvs k v))):=.inr ⟨kvs,k,b,e,rfl,eb,hl,rfl⟩
section
variable {X:Cx} {pins:List (Addr×Obj)} {σ:St} {H:Hp} {s:Shared} {a:Addr} {y v:V} {u r:Value} {o:Option V} {A:Around} {E:Value->Shared->Prop}
theorem Inv.big (I:Inv X pins σ H s):sysModules < s.heap.objs.size:=by
 have h:mainGlobals < s.heap.objs.size:=(I.mod.glob.keeps I.bk).lt
 exact Nat.lt_trans (by decide) h
theorem Ux {Q:Value->Shared->Prop} (hu:A.units+1 < cLine) (I:Inv X pins σ H s) (g:DGet H a y (some v)) (ry:RelV y u) (h:∀ w' s',Inv X pins σ H s'->RelV v w'->Q w' s') :
  wpAny (model X.prog X.w) A (getItem (.ref a) u) Q E s:=by
 rcases g with ⟨kvs,k,e,ey,l⟩ | ⟨kvs,k,b,e,ey,eb,l⟩
 ·subst ey
  obtain ⟨z,hd,vs,rel,dd⟩:=Uw I.hok e
  obtain ⟨w',hw,rw'⟩:=RelO.some_of (v:=v) (o:=valueAt vs k) (by rw [l]; exact rel.val k)
  exact wpAny_getItem_of (Zi ry) dd.mapOf hw (h w' _ (I.tok _) rw')
 ·subst ey
  cases (show u=Value.ref b from ry)
  obtain ⟨z,hd,xs,rel,dd⟩:=Zj I.hok e
  obtain ⟨w',hw,rw'⟩:=RelO.some_of (v:=v) (o:=(atKey xs k).map (·.2)) (by rw [l]; exact rel.val k)
  obtain ⟨p,hp,hp2⟩:=Option.map_eq_some_iff.mp hw
  refine wpAny_getItem_heap (tupleKind_room_in1 hu) (zG I.hok eb) dd hp ?_
  rw [hp2]
  exact h w' _ (I.tok _) rw'
theorem qe6 {Q:Value->Shared->Prop} (hu:A.units+1 < cLine) (I:Inv X pins σ H s) (g:DGet H a y o) (ry:RelV y u) (h:∀ s',Inv X pins σ H s'->Q (.bool o.isSome) s') :
  wpAny (model X.prog X.w) A (compareOp .In u (.ref a)) Q E s:=by
 rcases g with ⟨kvs,k,e,ey,l⟩ | ⟨kvs,k,b,e,ey,eb,l⟩
 ·subst ey
  obtain ⟨z,hd,vs,rel,dd⟩:=Uw I.hok e
  refine wpAny_in_of (Zi ry) hd dd.mapOf ?_
  rw [<-(rel.val k).isSome_eq,<-l]
  exact h _ (I.tok _)
 ·subst ey
  cases (show u=Value.ref b from ry)
  obtain ⟨z,hd,xs,rel,dd⟩:=Zj I.hok e
  refine wpAny_in_heap (tupleKind_room_in1 hu) (zG I.hok eb) hd dd ?_
  have q:=(rel.val k).isSome_eq
  rw [Option.isSome_map] at q
  rw [<-q,<-l]
  exact h _ (I.tok _)
theorem qaK {Q:Value->Shared->Prop} (hu:A.units+1 < cLine) (I:Inv X pins σ H s) (g:DGet H a y o) (ry:RelV y u) (h:∀ s',Inv X pins σ H s'->Q (.bool (!o.isSome)) s') :
  wpAny (model X.prog X.w) A (compareOp .NotIn u (.ref a)) Q E s:=by
 rcases g with ⟨kvs,k,e,ey,l⟩ | ⟨kvs,k,b,e,ey,eb,l⟩
 ·subst ey
  obtain ⟨z,hd,vs,rel,dd⟩:=Uw I.hok e
  refine wpAny_notIn_of (Zi ry) hd dd.mapOf ?_
  rw [<-(rel.val k).isSome_eq,<-l]
  exact h _ (I.tok _)
 ·subst ey
  cases (show u=Value.ref b from ry)
  obtain ⟨z,hd,xs,rel,dd⟩:=Zj I.hok e
  refine wpAny_notIn_heap (tupleKind_room_in1 hu) (zG I.hok eb) hd dd ?_
  have q:=(rel.val k).isSome_eq
  rw [Option.isSome_map] at q
  rw [<-q,<-l]
  exact h _ (I.tok _)
theorem qcf {P:Program} {w:World} {H':Hp} {h':Heap} {kvs:List (Key×V)} {vs:List (Key×Value)} (z:kvs.length<=sizeLine) (hd:(a == sysModules)=false) (rel:KV kvs vs) (dd:h'.DictOf (jb P w) a vs) :
  ObjOk P w H' h' a (.dK kvs):=⟨z,hd,vs,rel,dd⟩
end
section
variable {X:Cx} {pins:List (Addr×Obj)} {σ:St} {H:Hp} {s:Shared} {a:Addr} {kvs:List (Key×V)} {k:Key} {u:Value} {A:Around} {E:Value->Shared->Prop}
theorem qdZ {Q:Value->Shared->Prop} (I:Inv X pins σ H s) (e:Rd H a (.dK kvs)) (h:∀ t s',Inv X pins σ H s'->Q (.int kvs.length t) s'):wpAny (model X.prog X.w) A (call (.builtin "len") [.ref a]) Q E s:=by
 obtain ⟨z,hd,vs,rel,dd⟩:=Uw I.hok e
 refine call_len_dict hd dd (by rw [<-rel.length]; rw [sizeLine_eq] at z; omega) ?_
 rw [<-rel.length]
 exact h _ _ (I.tok _)
end
theorem JN {X:Cx} {pins:List (Addr×Obj)} {σ:St} {H:Hp} {s:Shared} {a:Addr} {y:V} {o:Option V} (I:Inv X pins σ H s) (g:DGet H a y o):s.TypeIs (.ref a) "dict":=by
 rcases g with ⟨kvs,k,e,_,_⟩ | ⟨kvs,k,b,e,_,_,_⟩
 ·obtain ⟨_,_,vs,_,dd⟩:=Uw I.hok e
  exact dd.typeIs
 ·obtain ⟨_,_,xs,_,dd⟩:=Zj I.hok e
  exact dd.typeIs
section
variable {X:Cx}
theorem Uy:wV X (.builtin "len") (fun xs H Q=>∃ a kvs,xs=[V.ref a]/\H a=some (.dK kvs)/\Q (.int kvs.length) H):=by
 intro pins s σ H xs us Q I r h
 obtain ⟨a,kvs,rfl,ha,q⟩:=h
 obtain ⟨u,rfl,ru⟩:=xg r
 cases ru
 exact qdZ I (.inl ha) fun t s' I'=>⟨.int kvs.length,H,I',⟨t,rfl⟩,q⟩
end
end L2
namespace L2.D2
open PySem PySem.Spec PyProof.Rows
theorem vS {a b:List Nat} (h:(a.all fun i=>decide (i∈b))=true):∀ i∈a,i∈b:=fun i hi=>of_decide_eq_true (List.all_eq_true.mp h i hi)
theorem zH {i:Nat} {b:List Nat} (h:decide (i∈b)=false):i∉b:=of_decide_eq_false h
noncomputable def JO:Expr->Bool
 | .Starred ..=>false
 | _=>true
theorem ji {e:Expr} {es:List Expr} {env:Env} (h:JO e=true):starEach (e::es) env=(false,eval e env)::starEach es env:=by cases e <;> first | rfl | cases h
theorem qM {e:Expr} {env:Env} (h:JO e=true):starEach [e] env=[(false,eval e env)]:=ji h
theorem Zk {a b:Expr} {env:Env} (h:JO a=true) (k:JO b=true):starEach [a,b] env=[(false,eval a env),(false,eval b env)]:=by rw [ji h,qM k]
theorem wF {pos:Pos} {env:Env}:∀ {es:List Expr},es.all JO=true->(backTo pos (starEach es env)).any (·.1)=false
 | [],_=>rfl
 | e::es,h=>by
  rw [List.all_cons,Bool.and_eq_true] at h
  rw [ji h.1]
  exact wF h.2
theorem wG {pos:Pos} {env:Env} {e:Expr} (h:JO e=true):((backTo pos (starEach [e] env)).all (fun x=>!x.1)&&(backToKw pos (keywordEach [] env)).all (fun x=>x.1.isSome)
   && decide ([e].length+([]:List Keyword).length+(if ([]:List Keyword).isEmpty then 0 else 1) < 30))=true:=by rw [qM h]; rfl
inductive D where
 | non | bl (b:Bool) | int (i:Int) | str (x:Str)
 | tup (xs:List D) | lst (xs:List D) | dct (kvs:List (Key×D)) | raw (v:V)
 | xcp (C:Addr) | ins (C:Addr) (fs:List (Str×D)) | at_ (a:Addr) (xs:List D)
 deriving Inhabited
abbrev Sl:=List (Option D)
inductive Out (α:Type) where
 | ok (a:α) | exc (c:Str) (o:Sl) | bad
noncomputable def Out.bind {α β:Type} (o:Out α) (k:α->Out β):Out β:=match o with
 | .ok a=>k a
 | .exc c o=>.exc c o
 | .bad=>.bad
@[simp] theorem Out.ok_bind {α β:Type} (a:α) (k:α->Out β):(Out.ok a).bind k=k a:=rfl
@[simp] theorem Out.exc_bind {α β:Type} (c:Str) (o:Sl) (k:α->Out β):(Out.exc c o:Out α).bind k=.exc c o:=rfl
@[simp] theorem Out.bad_bind {α β:Type} (k:α->Out β):(Out.bad:Out α).bind k=.bad:=rfl
noncomputable def Vj (a C:Addr):HO:=.ext fun h=>∃ oe vs,h.get? a=some oe/\oe.cls=.ref C/\oe.data=.fields vs
mutual
/-- the value v is the data d,all its objects in F -/
inductive Is (K:Frag) (F:Hp):V->D->Prop
 | non:Is K F .non .non
 | bl (b:Bool):Is K F (.bl b) (.bl b)
 | int (i:Int):Is K F (.int i) (.int i)
 | str {x:Str} (h:x.length<=sizeLine):Is K F (.str x) (.str x)
 | tup {a:Addr} {xs:List V} {ds:List D} (h:SqT K F a xs) (t:IsL K F xs ds):Is K F (.ref a) (.tup ds)
 | lst {a:Addr} {xs:List V} {ds:List D} (h:SqL K F a xs) (t:IsL K F xs ds):Is K F (.ref a) (.lst ds)
 | dct {a:Addr} {kv:List (Key×V)} {kvs:List (Key×D)} (h:F a=some (.dK kv)) (t:IsK K F kv kvs):Is K F (.ref a) (.dct kvs)
 | raw (v:V):Is K F v (.raw v)
 | xcp {a C:Addr} (h:F a=some (Vj a C)):Is K F (.ref a) (.xcp C)
 | ins {a C dx:Addr} {fv:List (Str×V)} {fs:List (Str×D)} (h:F a=some (.ins C dx fv)) (t:IsF K F fv fs):Is K F (.ref a) (.ins C fs)
 | at_ {a:Addr} {xs:List V} {ds:List D} (h:SqL K F a xs) (t:IsL K F xs ds):Is K F (.ref a) (.at_ a ds)
inductive IsL (K:Frag) (F:Hp):List V->List D->Prop
 | nil:IsL K F [] []
 | cons {v:V} {d:D} {vs:List V} {ds:List D} (h:Is K F v d) (t:IsL K F vs ds):IsL K F (v::vs) (d::ds)
inductive IsK (K:Frag) (F:Hp):List (Key×V)->List (Key×D)->Prop
 | nil:IsK K F [] []
 | cons {k:Key} {v:V} {d:D} {vs:List (Key×V)} {ds:List (Key×D)} (h:Is K F v d) (t:IsK K F vs ds):IsK K F ((k,v)::vs) ((k,d)::ds)
inductive IsF (K:Frag) (F:Hp):List (Str×V)->List (Str×D)->Prop
 | nil:IsF K F [] []
 | cons {k:Str} {v:V} {d:D} {vs:List (Str×V)} {ds:List (Str×D)} (h:Is K F v d) (t:IsF K F vs ds):IsF K F ((k,v)::vs) ((k,d)::ds)
end
theorem qC {K:Frag} {H H':Hp} {a:Addr} {xs:List V} (e:Same H H') (h:SqT K H a xs):SqT K H' a xs:=by
 rcases h with (h | ⟨o,h⟩) | h
 ·exact .inl (.inl (e _ _ h))
 ·exact .inl (.inr ⟨o,e _ _ h⟩)
 ·exact .inr h
mutual
theorem Is.mono {K:Frag} {F F':Hp} (e:Same F F'):∀ {v:V} {d:D},Is K F v d->Is K F' v d
 | _,_,.non=>.non
 | _,_,.bl b=>.bl b
 | _,_,.int i=>.int i
 | _,_,.str h=>.str h
 | _,_,.tup h t=>.tup (qC e h) (IsL.mono e t)
 | _,_,.lst h t=>.lst (e.seq h) (IsL.mono e t)
 | _,_,.dct h t=>.dct (e _ _ h) (IsK.mono e t)
 | _,_,.raw v=>.raw v
 | _,_,.xcp h=>.xcp (e _ _ h)
 | _,_,.ins h t=>.ins (e _ _ h) (IsF.mono e t)
 | _,_,.at_ h t=>.at_ (e.seq h) (IsL.mono e t)
theorem IsL.mono {K:Frag} {F F':Hp} (e:Same F F'):∀ {vs:List V} {ds:List D},IsL K F vs ds->IsL K F' vs ds
 | _,_,.nil=>.nil
 | _,_,.cons h t=>.cons (Is.mono e h) (IsL.mono e t)
theorem IsK.mono {K:Frag} {F F':Hp} (e:Same F F'):∀ {vs:List (Key×V)} {ds:List (Key×D)},IsK K F vs ds->IsK K F' vs ds
 | _,_,.nil=>.nil
 | _,_,.cons h t=>.cons (Is.mono e h) (IsK.mono e t)
theorem IsF.mono {K:Frag} {F F':Hp} (e:Same F F'):∀ {vs:List (Str×V)} {ds:List (Str×D)},IsF K F vs ds->IsF K F' vs ds
 | _,_,.nil=>.nil
 | _,_,.cons h t=>.cons (Is.mono e h) (IsF.mono e t)
end
theorem IsL.length {K:Frag} {F:Hp}:∀ {vs:List V} {ds:List D},IsL K F vs ds->vs.length=ds.length
 | _,_,.nil=>rfl
 | _,_,.cons _ t=>congrArg (·+1) (IsL.length t)
theorem IsL.get {K:Frag} {F:Hp}:∀ {vs:List V} {ds:List D} {i:Nat} {v:V},IsL K F vs ds->vs[i]?=some v->∃ d,ds[i]?=some d/\Is K F v d
 | _,_,_,_,.nil,e=>by simp at e
 | _,_,0,_,.cons h _,e=>by simp at e; subst e; exact ⟨_,rfl,h⟩
 | _,_,i+1,v,.cons _ t,e=>by
  obtain ⟨d,h1,h2⟩:=IsL.get (i:=i) (v:=v) t (by simpa using e)
  exact ⟨d,by simpa using h1,h2⟩
theorem IsL.getD {K:Frag} {F:Hp}:∀ {vs:List V} {ds:List D} {i:Nat} {d:D},IsL K F vs ds->ds[i]?=some d->∃ v,vs[i]?=some v/\Is K F v d
 | _,_,_,_,.nil,e=>by simp at e
 | _,_,0,_,.cons h _,e=>by simp at e; subst e; exact ⟨_,rfl,h⟩
 | _,_,i+1,v,.cons _ t,e=>by
  obtain ⟨d,h1,h2⟩:=IsL.getD (i:=i) (d:=v) t (by simpa using e)
  exact ⟨d,by simpa using h1,h2⟩
theorem IsL.append {K:Frag} {F:Hp}:∀ {vs ws:List V} {ds es:List D},IsL K F vs ds->IsL K F ws es->IsL K F (vs++ws) (ds++es)
 | _,_,_,_,.nil,s=>s
 | _,_,_,_,.cons h t,s=>.cons h (IsL.append t s)
theorem IsL.take {K:Frag} {F:Hp}:∀ {vs:List V} {ds:List D} (n:Nat),IsL K F vs ds->IsL K F (vs.take n) (ds.take n)
 | _,_,0,_=>.nil
 | _,_,_+1,.nil=>.nil
 | _,_,n+1,.cons h t=>.cons h (IsL.take n t)
theorem IsL.set {K:Frag} {F:Hp} {v:V} {d:D} (h:Is K F v d):∀ {vs:List V} {ds:List D} (i:Nat),IsL K F vs ds->IsL K F (vs.set i v) (ds.set i d)
 | _,_,_,.nil=>.nil
 | _,_,0,.cons _ t=>.cons h t
 | _,_,i+1,.cons q t=>.cons q (IsL.set h i t)
def OwnIs (K:Frag) (F H:Hp) (a:Addr):D->Prop
 | .lst ds=>∃ xs,H a=some (.lst xs)/\IsL K F xs ds
 | .dct kvs=>∃ kv,H a=some (.dK kv)/\IsK K F kv kvs
 | .ins C fs=>∃ dx fv,H a=some (.ins C dx fv)/\IsF K F fv fs
 | .at_ b ds=>b=a/\∃ xs,H a=some (.lst xs)/\IsL K F xs ds
 | _=>False
def TopIs (K:Frag) (F H:Hp) (v:V) (d:D):Prop:=Is K F v d\/∃ a,v=.ref a/\OwnIs K F H a d
inductive Mo where
 | sh | fr | any
def MoIs (K:Frag) (m:Mo) (H0 F H:Hp) (v:V) (d:D):Prop:=match m with
 | .sh=>Is K F v d
 | .fr=>∃ a,v=.ref a/\H0 a=none/\F a=none/\OwnIs K F H a d
 | .any=>TopIs K F H v d
theorem MoIs.top {K:Frag} {m:Mo} {H0 F H:Hp} {v:V} {d:D} (h:MoIs K m H0 F H v d):TopIs K F H v d:=by
 cases m with
 | sh=>exact .inl h
 | fr=>obtain ⟨a,e,_,_,o⟩:=h; exact .inr ⟨a,e,o⟩
 | any=>exact h
structure Chg (A:Addr->Prop) (F H F' H':Hp):Prop where
 keep:∀ b o,H b=some o->¬A b->H' b=some o
 stay:∀ b,H b≠none->H' b≠none
 grow:Same F F'
 new:∀ b,F' b≠none->F b≠none\/H b=none\/A b
theorem Chg.refl {A:Addr->Prop} {F H:Hp}:Chg A F H F H:=⟨fun _ _ e _=>e,fun _ h=>h,Same.refl _,fun _ h=>.inl h⟩
theorem Chg.trans {A A1:Addr->Prop} {F H F1 H1 F2 H2:Hp} (a:Chg A F H F1 H1) (b:Chg A1 F1 H1 F2 H2) (hA:∀ x,A1 x->A x\/H x=none):Chg A F H F2 H2 where
 keep:=fun x o e n=>b.keep x o (a.keep x o e n) fun z=>(hA x z).elim n fun q=>by rw [e] at q; cases q
 stay:=fun x h=>b.stay x (a.stay x h)
 grow:=a.grow.trans b.grow
 new:=fun x h=>by
  rcases b.new x h with q | q | q
  ·exact a.new x q
  ·refine .inr (.inl ?_)
   cases e:H x with
   | none=>rfl
   | some o=>exact absurd q (a.stay x (by rw [e]; simp))
  ·rcases hA x q with z | z
   ·exact .inr (.inr z)
   ·exact .inr (.inl z)
theorem Chg.trans' {A:Addr->Prop} {F H F1 H1 F2 H2:Hp} (a:Chg A F H F1 H1) (b:Chg A F1 H1 F2 H2):Chg A F H F2 H2:=a.trans b fun _ z=>.inl z
theorem Chg.mono {A A':Addr->Prop} {F H F1 H1:Hp} (a:Chg A F H F1 H1) (h:∀ x,A x->A' x):Chg A' F H F1 H1:=
 ⟨fun b o e n=>a.keep b o e fun z=>n (h b z),a.stay,a.grow,fun b z=>(a.new b z).imp id (Or.imp id (h b))⟩
abbrev No:Addr->Prop:=fun _=>False
theorem Chg.ofNo {A:Addr->Prop} {F H F1 H1:Hp} (a:Chg No F H F1 H1):Chg A F H F1 H1:=a.mono fun _ z=>z.elim
structure Rep (K:Frag) (own:List Nat) (F H:Hp) (σ:St) (ρ:Sl):Prop where
 sub:Same F H
 len:σ.length=ρ.length
 val:∀ i d,i∉own->ρ[i]?=some (some d)->∃ v,σ[i]?=some (some v)/\Is K F v d
 ow:∀ i d,i∈own->ρ[i]?=some (some d)->∃ a,σ[i]?=some (some (.ref a))/\F a=none/\OwnIs K F H a d
 opn:∀ i,i∈own->∃ d,ρ[i]?=some (some d)
 dis:∀ i j a,i∈own->j∈own->σ[i]?=some (some (V.ref a))->σ[j]?=some (some (V.ref a))->i=j
def OA (own:List Nat) (σ:St):Addr->Prop:=fun b=>∃ i∈own,σ[i]?=some (some (V.ref b))
theorem OwnIs.there {K:Frag} {F H:Hp} {a:Addr} {d:D} (h:OwnIs K F H a d):H a≠none:=by
 cases d with
 | lst ds=>obtain ⟨xs,e,_⟩:=h; rw [e]; simp
 | dct ds=>obtain ⟨xs,e,_⟩:=h; rw [e]; simp
 | ins C fs=>obtain ⟨dx,xs,e,_⟩:=h; rw [e]; simp
 | at_ b ds=>obtain ⟨_,xs,e,_⟩:=h; rw [e]; simp
 | _=>exact h.elim
theorem OwnIs.grow {K:Frag} {F H F' H':Hp} {a:Addr} {d:D} (h:OwnIs K F H a d) (g:Same F F') (k:∀ o,H a=some o->H' a=some o):OwnIs K F' H' a d:=by
 cases d with
 | lst ds=>obtain ⟨xs,e,t⟩:=h; exact ⟨xs,k _ e,t.mono g⟩
 | dct ds=>obtain ⟨xs,e,t⟩:=h; exact ⟨xs,k _ e,t.mono g⟩
 | ins C fs=>obtain ⟨dx,xs,e,t⟩:=h; exact ⟨dx,xs,k _ e,t.mono g⟩
 | at_ b ds=>obtain ⟨eb,xs,e,t⟩:=h; exact ⟨eb,xs,k _ e,t.mono g⟩
 | _=>exact h.elim
theorem Rep.OA_there {K:Frag} {own:List Nat} {F H:Hp} {σ:St} {ρ:Sl} (r:Rep K own F H σ ρ) {b:Addr} (h:OA own σ b):H b≠none/\F b=none:=by
 obtain ⟨i,hi,e⟩:=h
 obtain ⟨d,hd⟩:=r.opn i hi
 obtain ⟨a,e1,e2,o⟩:=r.ow i d hi hd
 rw [e] at e1
 cases e1
 exact ⟨o.there,e2⟩
theorem Rep.grow {K:Frag} {own:List Nat} {F H F' H':Hp} {σ:St} {ρ:Sl} (r:Rep K own F H σ ρ) (c:Chg No F H F' H') (s:Same F' H'):Rep K own F' H' σ ρ where
 sub:=s
 len:=r.len
 val:=fun i d hi e=>let ⟨v,h1,h2⟩:=r.val i d hi e; ⟨v,h1,h2.mono c.grow⟩
 ow:=fun i d hi e=>by
  obtain ⟨a,h1,h2,h3⟩:=r.ow i d hi e
  refine ⟨a,h1,?_,h3.grow c.grow fun o q=>c.keep a o q fun z=>z⟩
  cases q:F' a with
  | none=>rfl
  | some o=>
   rcases c.new a (by rw [q]; simp) with z | z | z
   ·exact absurd h2 z
   ·exact absurd z h3.there
   ·exact z.elim
 opn:=r.opn
 dis:=r.dis
theorem MoIs.grow {K:Frag} {A:Addr->Prop} {m:Mo} {H0 F H F' H':Hp} {v:V} {d:D} (h:MoIs K m H0 F H v d) (hm:m≠.any) (c:Chg A F H F' H') (hA:∀ x,A x->H0 x≠none):MoIs K m H0 F' H' v d:=by
 cases m with
 | sh=>exact Is.mono c.grow h
 | fr=>
  obtain ⟨a,e,h0,hF,o⟩:=h
  have nA:¬A a:=fun z=>hA a z h0
  refine ⟨a,e,h0,?_,o.grow c.grow fun o q=>c.keep a o q nA⟩
  cases q:F' a with
  | none=>rfl
  | some u=>
   rcases c.new a (by rw [q]; simp) with z | z | z
   ·exact absurd hF z
   ·exact absurd z o.there
   ·exact absurd z nA
 | any=>exact absurd rfl hm
def Uz (K:Frag) (io:List Nat) (F H:Hp) (σ:St) (ρ:Sl):Prop:=∀ i∈io,∃ d a,ρ[i]?=some (some d)/\σ[i]?=some (some (V.ref a))/\F a=none/\OwnIs K F H a d
theorem Rep.ioIs {K:Frag} {own io:List Nat} {F H:Hp} {σ:St} {ρ:Sl} (r:Rep K own F H σ ρ) (h:∀ i∈io,i∈own):Uz K io F H σ ρ:=fun i hi=>by
 obtain ⟨d,hd⟩:=r.opn i (h i hi)
 obtain ⟨a,h1,h2,h3⟩:=r.ow i d (h i hi) hd
 exact ⟨d,a,hd,h1,h2,h3⟩
structure Ct where
 K:Frag
 cv:Str->Value
 E:XK
 io:List Nat
 mr:Mo
 ol:List Nat
 ox:List Nat
 oxs:∀ i∈ox,i∈io
def Po (C:Ct) (own:List Nat) (m:Mo) (σ:St) (F H:Hp) (r:Out (D×Sl)) (Q:VK):Prop:=match r with
 | .ok (d,ρ')=>∀ v F' H',Rep C.K own F' H' σ ρ'->Chg (OA own σ) F H F' H'->MoIs C.K m H F' H' v d->Q v H'
 | .exc c ρ'=>∀ F' H',Same F' H'->Uz C.K C.ox F' H' σ ρ'->Chg (OA own σ) F H F' H'->C.E (C.cv c) none H'
 | .bad=>False
def tE (C:Ct) (own:List Nat) (m:Mo) (f:Sl->Out (D×Sl)):TE:=fun σ H Q=>∃ F ρ,Rep C.K own F H σ ρ/\Po C own m σ F H (f ρ) Q
theorem MoIs.back {K:Frag} {m:Mo} {A:Addr->Prop} {H0 F H F1 H1:Hp} {Fa Ha:Hp} {v:V} {d:D} (c:Chg A Fa H0 F1 H1) (h:MoIs K m H1 F H v d):MoIs K m H0 F H v d:=by
 cases m with
 | sh=>exact h
 | fr=>
  obtain ⟨a,e,h0,r⟩:=h
  refine ⟨a,e,?_,r⟩
  cases q:H0 a with
  | none=>rfl
  | some o=>exact absurd h0 (c.stay a (by rw [q]; simp))
 | any=>exact h
theorem Po.shift {C:Ct} {own:List Nat} {m:Mo} {σ:St} {F H F1 H1:Hp} {r:Out (D×Sl)} {Q:VK} (h:Po C own m σ F H r Q) (c:Chg (OA own σ) F H F1 H1):Po C own m σ F1 H1 r Q:=by
 cases r with
 | ok p=>exact fun v F' H' rp c' mo=>h v F' H' rp (c.trans' c') (MoIs.back (Ha:=H1) c mo)
 | exc x=>exact fun F' H' s io c'=>h F' H' s io (c.trans' c')
 | bad=>exact h.elim
theorem Po.bind {C:Ct} {own:List Nat} {m ma:Mo} {σ:St} {F H:Hp} {o:Out (D×Sl)} {k:D×Sl->Out (D×Sl)} {Q R:VK} (hp:Po C own m σ F H (o.bind k) Q)
  (h:∀ v F1 H1 d ρ1,Rep C.K own F1 H1 σ ρ1->Chg (OA own σ) F H F1 H1->MoIs C.K ma H F1 H1 v d->Po C own m σ F1 H1 (k (d,ρ1)) Q->R v H1):Po C own ma σ F H o R:=by
 cases o with
 | ok p=>
  obtain ⟨d,ρ1⟩:=p
  exact fun v F1 H1 rp c mo=>h v F1 H1 d ρ1 rp c mo (Po.shift (show Po C own m σ F H (k (d,ρ1)) Q from hp) c)
 | exc x=>exact hp
 | bad=>exact hp.elim
def PoV (C:Ct) (m:Mo) (F H:Hp) (r:Out D) (Q:VK):Prop:=match r with
 | .ok d=>∀ v F' H',Same F' H'->Chg No F H F' H'->MoIs C.K m H F' H' v d->Q v H'
 | _=>False
def OpD (X:Cx) (C:Ct) (m:Mo) (f:Value->Value->Sem Value) (g:D->D->Out D):Prop:=
 OpR X f (fun x y H Q=>∃ F dx dy,Same F H/\TopIs C.K F H x dx/\TopIs C.K F H y dy/\PoV C m F H (g dx dy) Q)
def UnD (X:Cx) (C:Ct) (m:Mo) (f:Value->Sem Value) (g:D->Out D):Prop:=
 UnR X f (fun x H Q=>∃ F dx,Same F H/\TopIs C.K F H x dx/\PoV C m F H (g dx) Q)
noncomputable def Out.plain {α:Type}:Out α->Out α
 | .ok a=>.ok a
 | _=>.bad
theorem PoV.of {C:Ct} {own:List Nat} {m:Mo} {σ:St} {F H:Hp} {o:Out D} {ρ:Sl} {Q:VK} (rp:Rep C.K own F H σ ρ) (h:Po C own m σ F H (o.plain.bind fun d=>.ok (d,ρ)) Q):PoV C m F H o Q:=by
 cases o with
 | ok d=>exact fun v F' H' s c mo=>h v F' H' (rp.grow c s) c.ofNo mo
 | exc c=>exact h.elim
 | bad=>exact h.elim
noncomputable def d2 (g:D->D->Out D) (fa fb:Sl->Out (D×Sl)):Sl->Out (D×Sl):=fun ρ=>(fa ρ).bind fun p=>(fb p.2).bind fun q=>(g p.1 q.1).plain.bind fun d=>.ok (d,q.2)
noncomputable def d1 (g:D->Out D) (fa:Sl->Out (D×Sl)):Sl->Out (D×Sl):=fun ρ=>(fa ρ).bind fun p=>(g p.1).plain.bind fun d=>.ok (d,p.2)
section
variable {X:Cx} {C:Ct} {own:List Nat} {a b:Expr} {fa fb:Sl->Out (D×Sl)} {m ma mb:Mo} {pos:Pos}
theorem Qw {g:D->D->Out D} {σ:St} {H:Hp} {Q:VK} (hma:ma≠.any) (h:tE C own m (d2 g fa fb) σ H Q) :
  tE C own ma fa σ H fun x H1=>tE C own mb fb σ H1 fun y H2=>∃ F dx dy,Same F H2/\TopIs C.K F H2 x dx/\TopIs C.K F H2 y dy/\PoV C m F H2 (g dx dy) Q:=by
 obtain ⟨F,ρ,rp,h⟩:=h
 refine ⟨F,ρ,rp,Po.bind h fun v F1 H1 d ρ1 rp1 c1 mo1 h1=>⟨F1,ρ1,rp1,Po.bind h1 fun w F2 H2 e ρ2 rp2 c2 mo2 h2=>?_⟩⟩
 exact ⟨F2,d,e,rp2.sub,(mo1.grow hma c2 fun x z=>(rp.OA_there z).1).top,mo2.top,PoV.of rp2 h2⟩
theorem UA {g:D->Out D} {σ:St} {H:Hp} {Q:VK} (h:tE C own m (d1 g fa) σ H Q) :
  tE C own ma fa σ H fun x H1=>∃ F dx,Same F H1/\TopIs C.K F H1 x dx/\PoV C m F H1 (g dx) Q:=by
 obtain ⟨F,ρ,rp,h⟩:=h
 refine ⟨F,ρ,rp,Po.bind h fun v F1 H1 d ρ1 rp1 c1 mo1 h1=>?_⟩
 exact ⟨F1,d,rp1.sub,mo1.top,PoV.of rp1 h1⟩
theorem jn {e:Expr} {t t':TE} (h:PE X e t) (i:∀ σ H Q,t' σ H Q->t σ H Q):PE X e t':=⟨fun pins s σ H Q I hw=>h pins s σ H Q I (i σ H Q hw)⟩
theorem Zl {e:Expr} {t t':TT} (h:PT X e t) (i:∀ σ H Q,t' σ H Q->t σ H Q):PT X e t':=⟨fun pins s σ H Q I hw=>h pins s σ H Q I (i σ H Q hw)⟩
theorem jt {op:Operator} {g:D->D->Out D} (ho:OpD X C m (binaryOp op) g) (ha:PE X a (tE C own ma fa)) (hb:PE X b (tE C own mb fb)) (hma:ma≠.any:=by decide):PE X (.BinOp a op b pos) (tE C own m (d2 g fa fb)):=
 jn (qdL ho ha hb) fun _ _ _ h=>Qw hma h
theorem zI {op:CmpOp} {g:D->D->Out D} (ho:OpD X C m (compareOp op) g) (ha:PE X a (tE C own ma fa)) (hb:PE X b (tE C own mb fb)) (hma:ma≠.any:=by decide)
  (hk:behindInMarks op b=false:=by first | exact GO _ | with_unfolding_all rfl):PE X (.Compare a [op] [b] pos) (tE C own m (d2 g fa fb)):=
 jn (qaA ho ha hb hk) fun _ _ _ h=>Qw hma h
theorem qcg {op:UnaryOp} {g:D->Out D} (ho:UnD X C m (unaryOp op) g) (ha:PE X a (tE C own ma fa)):PE X (.UnaryOp op a pos) (tE C own m (d1 g fa)):=
 jn (qdM ho ha) fun _ _ _ h=>UA h
end
instance:DecidableEq Mo:=fun a b=>by cases a <;> cases b <;> first | exact isTrue rfl | exact isFalse (by intro h; cases h)
theorem Zm {K:Frag} {own:List Nat} {H0 F H:Hp} {σ:St} {ρ:Sl} {v:V} {d:D} (rp:Rep K own F H σ ρ) (hA:∀ b,OA own σ b->H0 b≠none) (h:MoIs K .fr H0 F H v d) :
  ∃ F',Rep K own F' H σ ρ/\Same F F'/\Is K F' v d/\∀ b,F' b≠none->F b≠none\/H0 b=none:=by
 obtain ⟨a,rfl,h0,hF,o⟩:=h
 obtain ⟨u,hu⟩:∃ u,H a=some u:=by
  cases q:H a with
  | none=>exact absurd q o.there
  | some u=>exact ⟨u,rfl⟩
 have gr:Same F (upd F a u):=fun b w e=>by rw [qo (qx e hF)]; exact e
 have sb:Same (upd F a u) H:=fun b w e=>by
  by_cases q:b=a
  ·subst q; rw [qm] at e; cases e; exact hu
  ·rw [qo q] at e; exact rp.sub b w e
 refine ⟨upd F a u,⟨sb,rp.len,fun i d hi e=>?_,fun i d hi e=>?_,rp.opn,rp.dis⟩,gr,?_,fun b hb=>?_⟩
 ·obtain ⟨v,h1,h2⟩:=rp.val i d hi e
  exact ⟨v,h1,h2.mono gr⟩
 ·obtain ⟨c,h1,h2,h3⟩:=rp.ow i d hi e
  refine ⟨c,h1,?_,h3.grow gr fun _ q=>q⟩
  have nc:c≠a:=fun q=>by subst q; exact hA c ⟨i,hi,h1⟩ h0
  rw [qo nc]; exact h2
 ·cases d with
  | lst ds=>obtain ⟨xs,e,t⟩:=o; rw [hu] at e; cases e; exact .lst (.inl (.inl qm)) (t.mono gr)
  | dct ds=>obtain ⟨xs,e,t⟩:=o; rw [hu] at e; cases e; exact .dct qm (t.mono gr)
  | ins C fs=>obtain ⟨dx,xs,e,t⟩:=o; rw [hu] at e; cases e; exact .ins qm (t.mono gr)
  | at_ b ds=>obtain ⟨eb,xs,e,t⟩:=o; rw [hu] at e; cases e; subst eb; exact .at_ (.inl (.inl qm)) (t.mono gr)
  | _=>exact o.elim
 ·by_cases q:b=a
  ·exact .inr (by rw [q]; exact h0)
  ·rw [qo q] at hb; exact .inl hb
theorem Po.toSh {C:Ct} {own:List Nat} {m:Mo} {σ:St} {F H:Hp} {ρ0:Sl} {r:Out (D×Sl)} {Q:VK} (rp:Rep C.K own F H σ ρ0) (hm:m≠.any) (h:Po C own .sh σ F H r Q):Po C own m σ F H r Q:=by
 cases r with
 | ok p=>
  intro v F' H' rp' c mo
  cases m with
  | sh=>exact h v F' H' rp' c mo
  | fr=>
   obtain ⟨F2,rp2,gr,is,nw⟩:=Zm rp' (fun b z=>(rp.OA_there z).1) mo
   refine h v F2 H' rp2 ⟨c.keep,c.stay,c.grow.trans gr,fun b hb=>?_⟩ is
   rcases nw b hb with z | z
   ·exact c.new b z
   ·exact .inr (.inl z)
  | any=>exact absurd rfl hm
 | exc x=>exact h
 | bad=>exact h.elim
section
variable {X:Cx} {C:Ct} {own:List Nat} {a b e:Expr} {f fa fb:Sl->Out (D×Sl)} {m ma mb:Mo} {pos:Pos}
theorem vd (h:PE X e (tE C own m f)) (hm:m≠.any):PE X e (tE C own .sh f):=jn h fun _ _ _ ⟨F,ρ,rp,p⟩=>⟨F,ρ,rp,p.toSh rp hm⟩
noncomputable def qg (i:Nat):Sl->Out (D×Sl):=fun ρ=>match ρ[i]? with
 | some (some d)=>.ok (d,ρ)
 | _=>.bad
noncomputable def dC (d:D):Sl->Out (D×Sl):=fun ρ=>.ok (d,ρ)
theorem qch {i:Nat} {x:Str} (hN:X.N[i]?=some x) (hv:Vis X.env.scope x) (ho:i∉own) (hd:(x == ("__debug__":Str))=false:=by decide) (hcd:(x == ("__classdict__":Str))=false:=by decide):PE X (.Name x pos) (tE C own .sh (qg i)):=by
 refine jn (vZ hN hv hd hcd) fun σ H Q ⟨F,ρ,rp,h⟩=>?_
 unfold qg at h
 cases e:ρ[i]? with
 | none=>rw [e] at h; exact h.elim
 | some o=>
  cases o with
  | none=>rw [e] at h; exact h.elim
  | some d=>
   rw [e] at h
   obtain ⟨v,h1,h2⟩:=rp.val i d ho e
   exact ⟨v,h1,h v F H rp .refl h2⟩
theorem xm {i:Nat} {x:Str} (hN:X.N[i]?=some x) (hv:Vis X.env.scope x) (ho:i∈own) (hd:(x == ("__debug__":Str))=false:=by decide) (hcd:(x == ("__classdict__":Str))=false:=by decide):PE X (.Name x pos) (tE C own .any (qg i)):=by
 refine jn (vZ hN hv hd hcd) fun σ H Q ⟨F,ρ,rp,h⟩=>?_
 unfold qg at h
 cases e:ρ[i]? with
 | none=>rw [e] at h; exact h.elim
 | some o=>
  cases o with
  | none=>rw [e] at h; exact h.elim
  | some d=>
   rw [e] at h
   obtain ⟨a,h1,h2,h3⟩:=rp.ow i d ho e
   exact ⟨_,h1,h _ F H rp .refl (.inr ⟨a,rfl,h3⟩)⟩
theorem qci {v:V} {d:D} (h:PE X e (tC v)) (i:∀ F,Is C.K F v d):PE X e (tE C own .sh (dC d)):=jn h fun σ H Q ⟨F,ρ,rp,h⟩=>h v F H rp .refl (i F)
theorem qA {i j pos}:PE X (.Constant (.int i) j pos) (tE C own .sh (dC (.int i))):=qci qbR fun _=>.int i
theorem gj {i j pos}:PE X (.Constant (.bool i) j pos) (tE C own .sh (dC (.bl i))):=qci qdB fun _=>.bl i
theorem zJ {j pos}:PE X (.Constant .none j pos) (tE C own .sh (dC .non)):=qci qbS fun _=>.non
theorem wb {x j pos} (h:Str.length x<=sizeLine:=by decide):PE X (.Constant (.str x) j pos) (tE C own .sh (dC (.str x))):=qci GK fun _=>.str h
theorem qaL {x:Str} {v:V} {d:D} {u:Value} (hg:Gl X x) (hm:X.mg x=some u) (r:RelV v u) (i:∀ F,Is C.K F v d) (hd:(x == ("__debug__":Str))=false:=by decide):PE X (.Name x pos) (tE C own .sh (dC d)):=qci (qau hg hm r hd) i
noncomputable def Qj (g:Int->Int->Out D):D->D->Out D
 | .int i,.int j=>g i j
 | _,_=>.bad
theorem TopIs.int {K:Frag} {F H:Hp} {v:V} {i:Int} (h:TopIs K F H v (.int i)):v=.int i:=by
 rcases h with h | ⟨a,_,h⟩
 ·cases h; rfl
 ·exact h.elim
theorem TopIs.str {K:Frag} {F H:Hp} {v:V} {x:Str} (h:TopIs K F H v (.str x)):v=.str x/\x.length<=sizeLine:=by
 rcases h with h | ⟨a,_,h⟩
 ·cases h; exact ⟨rfl,by assumption⟩
 ·exact h.elim
theorem TopIs.bl {K:Frag} {F H:Hp} {v:V} {x:Bool} (h:TopIs K F H v (.bl x)):v=.bl x:=by
 rcases h with h | ⟨a,_,h⟩
 ·cases h; rfl
 ·exact h.elim
theorem TopIs.non {K:Frag} {F H:Hp} {v:V} (h:TopIs K F H v .non):v=.non:=by
 rcases h with h | ⟨a,_,h⟩
 ·cases h; rfl
 ·exact h.elim
theorem TopIs.raw {K:Frag} {F H:Hp} {v u:V} (h:TopIs K F H v (.raw u)):v=u:=by
 rcases h with h | ⟨a,_,h⟩
 ·cases h; rfl
 ·exact h.elim
theorem TopIs.lst {K:Frag} {F H:Hp} {v:V} {ds:List D} (s:Same F H) (h:TopIs K F H v (.lst ds)):∃ a xs,v=.ref a/\SqL K H a xs/\IsL K F xs ds:=by
 rcases h with h | ⟨a,e,h⟩
 ·cases h with
  | lst h t=>exact ⟨_,_,rfl,s.seq h,t⟩
 ·obtain ⟨xs,e2,t⟩:=h
  exact ⟨a,xs,e,.inl (.inl e2),t⟩
theorem TopIs.tup {K:Frag} {F H:Hp} {v:V} {ds:List D} (s:Same F H) (h:TopIs K F H v (.tup ds)):∃ a xs,v=.ref a/\SqT K H a xs/\IsL K F xs ds:=by
 rcases h with h | ⟨a,e,h⟩
 ·cases h with
  | tup h t=>exact ⟨_,_,rfl,qC s h,t⟩
 ·exact h.elim
theorem TopIs.dct {K:Frag} {F H:Hp} {v:V} {ds:List (Key×D)} (s:Same F H) (h:TopIs K F H v (.dct ds)):∃ a kv,v=.ref a/\H a=some (.dK kv)/\IsK K F kv ds:=by
 rcases h with h | ⟨a,e,h⟩
 ·cases h with
  | dct h t=>exact ⟨_,_,rfl,s _ _ h,t⟩
 ·obtain ⟨xs,e2,t⟩:=h
  exact ⟨a,xs,e,e2,t⟩
theorem UB {fn:Value->Value->Sem Value} {P:Int->Int->Prop} [∀ i j,Decidable (P i j)] {g:Int->Int->V} {gd:Int->Int->D} (ho:OpR X fn (rI P g)) (hg:∀ F i j,Is C.K F (g i j) (gd i j)) :
  OpD X C .sh fn (Qj fun i j=>if P i j then .ok (gd i j) else .bad):=by
 intro pins s σ H x y v u Q I rx ry h
 obtain ⟨F,dx,dy,sb,tx,ty,po⟩:=h
 cases dx <;> try exact po.elim
 cases dy <;> try exact po.elim
 rename_i i j
 have po:PoV C .sh F H (if P i j then .ok (gd i j) else .bad) Q:=po
 obtain rfl:=tx.int
 obtain rfl:=ty.int
 by_cases q:P i j
 ·rw [if_pos q] at po
  exact ho pins s σ H _ _ v u Q I rx ry ⟨i,j,rfl,rfl,q,po (g i j) F H sb .refl (hg F i j)⟩
 ·rw [if_neg q] at po; exact po.elim
theorem UC {fn:Value->Value->Sem Value} {g:Int->Int->V} {gd:Int->Int->D} (ho:OpR X fn (rI0 g)) (hg:∀ F i j,Is C.K F (g i j) (gd i j)):OpD X C .sh fn (Qj fun i j=>.ok (gd i j)):=by
 intro pins s σ H x y v u Q I rx ry h
 obtain ⟨F,dx,dy,sb,tx,ty,po⟩:=h
 cases dx <;> try exact po.elim
 cases dy <;> try exact po.elim
 rename_i i j
 obtain rfl:=tx.int
 obtain rfl:=ty.int
 exact ho pins s σ H _ _ v u Q I rx ry ⟨i,j,rfl,rfl,po (g i j) F H sb .refl (hg F i j)⟩
noncomputable def Vk:D->D->Out D:=Qj fun i j=>.ok (.int (i - j))
theorem xo:OpD X C .sh (binaryOp .Sub) Vk:=UC qb1 fun _ _ _=>.int _
instance:∀ i j,Decidable (CMul i j):=fun i j=>inferInstanceAs (Decidable (_\/_))
instance:∀ i j,Decidable (qe1 i j):=fun i j=>inferInstanceAs (Decidable (_/\_))
noncomputable def qbD:D->D->Out D:=Qj fun i j=>if CMul i j then .ok (.int (i * j)) else .bad
theorem UD:OpD X C .sh (binaryOp .Mult) qbD:=UB qb2 fun _ _ _=>.int _
noncomputable def UE:D->D->Out D:=Qj fun i j=>if 0 < j then .ok (.int (i % j)) else .bad
theorem zK:OpD X C .sh (binaryOp .Mod) UE:=UB qb3 fun _ _ _=>.int _
noncomputable def kR (x y:Str):Bool:=decide (x.cps.toList < y.cps.toList)
noncomputable def ltD:D->D->Out D
 | .int i,.int j=>.ok (.bl (decide (i < j)))
 | .str x,.str y=>.ok (.bl (kR x y))
 | _,_=>.bad
theorem qcj:OpD X C .sh (compareOp .Lt) ltD:=by
 intro pins s σ H x y v u Q I rx ry h
 obtain ⟨F,dx,dy,sb,tx,ty,po⟩:=h
 cases dx <;> try exact po.elim
 ·cases dy <;> try exact po.elim
  obtain rfl:=tx.int
  obtain rfl:=ty.int
  exact qdO pins s σ H _ _ v u Q I rx ry ⟨_,_,rfl,rfl,po _ F H sb .refl (.bl _)⟩
 ·cases dy <;> try exact po.elim
  obtain ⟨rfl,_⟩:=tx.str
  obtain ⟨rfl,_⟩:=ty.str
  exact Ug pins s σ H _ _ v u Q I rx ry ⟨_,_,rfl,rfl,po _ F H sb .refl (.bl _)⟩
end
noncomputable def eqS:D->D->Option Bool
 | .non,.non=>some true
 | .non,.bl _=>some false
 | .non,.int _=>some false
 | .non,.str _=>some false
 | .non,.tup _=>some false
 | .non,.lst _=>some false
 | .bl _,.non=>some false
 | .bl a,.bl b=>some (a == b)
 | .bl a,.int b=>some ((if a then 1 else 0) == b)
 | .bl _,.str _=>some false
 | .bl _,.tup _=>some false
 | .bl _,.lst _=>some false
 | .int _,.non=>some false
 | .int a,.bl b=>some (a == (if b then 1 else 0))
 | .int a,.int b=>some (a == b)
 | .int _,.str _=>some false
 | .int _,.tup _=>some false
 | .int _,.lst _=>some false
 | .str _,.non=>some false
 | .str _,.bl _=>some false
 | .str _,.int _=>some false
 | .str a,.str b=>some (a == b)
 | .str _,.tup _=>some false
 | .str _,.lst _=>some false
 | .tup _,.non=>some false
 | .tup _,.bl _=>some false
 | .tup _,.int _=>some false
 | .tup _,.str _=>some false
 | .tup _,.lst _=>some false
 | .lst _,.non=>some false
 | .lst _,.bl _=>some false
 | .lst _,.int _=>some false
 | .lst _,.str _=>some false
 | .lst _,.tup _=>some false
 | _,_=>none
noncomputable def vD (f:D->D->Option Bool):List D->List D->Option Bool
 | x::xs,y::ys=>(f x y).bind fun a=>(vD f xs ys).bind fun b=>some (a&&b)
 | _,_=>some true
noncomputable def eqN:Nat->D->D->Option Bool
 | n+1,.tup xs,.tup ys=>(vD (eqN n) xs ys).map fun b=>b&&xs.length == ys.length
 | n+1,.lst xs,.lst ys=>if xs.length=ys.length then vD (eqN n) xs ys else some false
 | _,a,b=>eqS a b
theorem Vl {n:Nat} {a b:D} (h1:∀ xs ys,a=.tup xs->b≠.tup ys) (h2:∀ xs ys,a=.lst xs->b≠.lst ys):eqN n a b=eqS a b:=by
 cases n with
 | zero=>rfl
 | succ n=>
  cases a with
  | tup xs=>cases b with
   | tup ys=>exact absurd rfl (h1 xs ys rfl)
   | _=>rfl
  | lst xs=>cases b with
   | lst ys=>exact absurd rfl (h2 xs ys rfl)
   | _=>rfl
  | _=>rfl
noncomputable def itE (f:D->D->Option Bool) (xs ys:List D) (j:Nat):Bool:=((xs[j]?).bind fun x=>(ys[j]?).bind fun y=>f x y).getD false
theorem vo {f:D->D->Option Bool}:∀ {xs ys:List D} {b:Bool},vD f xs ys=some b->b=(List.range (min xs.length ys.length)).all (itE f xs ys)
 | [],ys,b,h=>by simp [vD] at h ⊢; exact h
 | x::xs,[],b,h=>by simp [vD] at h ⊢; exact h
 | x::xs,y::ys,b,h=>by
  unfold vD at h
  cases e:f x y with
  | none=>rw [e] at h; simp at h
  | some a=>
   cases e2:vD f xs ys with
   | none=>rw [e,e2] at h; simp at h
   | some c=>
    rw [e,e2] at h
    have h:(a&&c)=b:=by simpa using h
    have ih:=vo e2
    have hm:min (x::xs).length (y::ys).length=min xs.length ys.length+1:=by simp only [List.length_cons]; omega
    rw [hm,List.range_succ_eq_map,List.all_cons,List.all_map]
    have e0:itE f (x::xs) (y::ys) 0=a:=by simp [itE,e]
    have e1:(itE f (x::xs) (y::ys)) ∘ Nat.succ=itE f xs ys:=by
     funext j
     simp [itE]
    rw [e0,e1,<-ih]
    exact h.symm
theorem UF {f:D->D->Option Bool}:∀ {xs ys:List D} {b:Bool},vD f xs ys=some b->∀ (j:Nat) (x y:D),xs[j]?=some x->ys[j]?=some y->f x y=some (itE f xs ys j)
 | [],ys,b,_,j,x,y,hx,_=>by simp at hx
 | x::xs,[],b,_,j,_,y,_,hy=>by simp at hy
 | x::xs,y::ys,b,h,0,x',y',hx,hy=>by
  simp at hx hy
  subst hx hy
  unfold vD at h
  cases e:f x y with
  | none=>rw [e] at h; simp at h
  | some a=>simp [itE,e]
 | x::xs,y::ys,b,h,j+1,x',y',hx,hy=>by
  unfold vD at h
  cases e:f x y with
  | none=>rw [e] at h; simp at h
  | some a=>
   cases e2:vD f xs ys with
   | none=>rw [e,e2] at h; simp at h
   | some c=>
    have q:=UF e2 j x' y' (by simpa using hx) (by simpa using hy)
    rw [q]
    simp [itE]
section
variable {X:Cx} {pins:List (Addr×Obj)} {σ:St} {F H:Hp} {s:Shared}
theorem UG (I:Inv X pins σ H s) (sb:Same F H):∀ (n:Nat) {v:V} {d e:D} {b:Bool},Is X.K F v d->Is X.K F v e->eqN n d e=some b->b=true:=by
 intro n
 induction n with
 | zero=>
  intro v d e b h1 h2 h
  cases h1 <;> cases h2 <;> simp [eqN,eqS] at h <;> try exact h.symm
  all_goals first
   | exact h
   | (rename_i p1 _ _ _ p2 _; obtain ⟨_,_,q1,_⟩:=I.list (sb.seq (by assumption)); obtain ⟨_,_,q2,_⟩:=I.tuple (qC sb (by assumption)); exact absurd rfl (PySem.SeqAt.ne_of_list_tuple q1.isList q2))
   | (rename_i p1 _ _ _ p2 _; obtain ⟨_,_,q1,_⟩:=I.list (sb.seq (by assumption)); obtain ⟨_,_,q2,_⟩:=I.tuple (qC sb (by assumption)); exact absurd rfl (PySem.SeqAt.ne_of_list_tuple q1.isList q2).symm)
   | skip
 | succ n ih=>
  have lists:∀ {xs:List V} {ds es:List D} {b:Bool},IsL X.K F xs ds->IsL X.K F xs es->vD (eqN n) ds es=some b->b=true:=by
   intro xs
   induction xs with
   | nil=>intro ds es b h1 h2 h; cases h1; cases h2; simp [vD] at h; exact h
   | cons x xs ihx=>
    intro ds es b h1 h2 h
    cases h1 with
    | cons a1 t1=>
     cases h2 with
     | cons a2 t2=>
      rename_i d ds e es
      unfold vD at h
      cases q:eqN n d e with
      | none=>rw [q] at h; simp at h
      | some a=>
       cases q2:vD (eqN n) ds es with
       | none=>rw [q,q2] at h; simp at h
       | some c=>
        rw [q,q2] at h
        rw [ih a1 a2 q,ihx t1 t2 q2] at h
        simpa using h.symm
  intro v d e b h1 h2 h
  cases h1 with
  | tup p1 t1=>
   cases h2 with
   | tup p2 t2=>
    have e:=I.tuple_inj (qC sb p1) (qC sb p2)
    subst e
    simp only [eqN] at h
    rename_i xs ds es
    cases q:vD (eqN n) ds es with
    | none=>rw [q] at h; simp at h
    | some c=>
     rw [q] at h
     have hl:ds.length=es.length:=by rw [<-t1.length,<-t2.length]
     have hb:(ds.length == es.length)=true:=by simp [hl]
     rw [lists t1 t2 q] at h
     simpa [hb] using h.symm
   | lst p2 t2=>
    obtain ⟨_,_,q1,_⟩:=I.list (sb.seq p2)
    obtain ⟨_,_,q2,_⟩:=I.tuple (qC sb p1)
    exact absurd rfl (PySem.SeqAt.ne_of_list_tuple q1.isList q2)
   | _=>simp [eqN,eqS] at h
  | lst p1 t1=>
   cases h2 with
   | lst p2 t2=>
    have e:=I.list_inj (sb.seq p1) (sb.seq p2)
    subst e
    simp only [eqN] at h
    have hl:=t1.length.symm.trans t2.length
    rw [if_pos hl] at h
    exact lists t1 t2 h
   | tup p2 t2=>
    obtain ⟨_,_,q1,_⟩:=I.list (sb.seq p1)
    obtain ⟨_,_,q2,_⟩:=I.tuple (qC sb p2)
    exact absurd rfl (PySem.SeqAt.ne_of_list_tuple q1.isList q2)
   | _=>simp [eqN,eqS] at h
  | _=>cases h2 <;> simp [eqN,eqS] at h <;> first | exact h.symm | exact h | skip
end
open PySem.SeqAt
section
variable {X:Cx} {pins:List (Addr×Obj)} {σ:St} {F H:Hp} {s:Shared}
theorem Vals.getE {xs:List V} {us:List Value} (r:Vals xs us) {j:Nat} (h:j < us.length):∃ x,xs[j]?=some x/\RelV x us[j]:=by
 have hl:=r.length
 have hj:j < xs.length:=by omega
 obtain ⟨u,e1,e2⟩:=Vals.get (i:=j) (x:=xs[j]) r (by simp [hj])
 refine ⟨xs[j],by simp [hj],?_⟩
 rw [List.getElem?_eq_getElem h] at e1
 cases e1
 exact e2
theorem wH {A:Around} {n:Nat} {xs ys:List V} {ds es:List D} {us ws:List Value} {b:Bool} (ih:∀ {v w:V} {d e:D} {u t:Value} {b:Bool},Is X.K F v d->Is X.K F w e->RelV v u->RelV w t->eqN n d e=some b->EqAt A s u t b)
  (r1:Vals xs us) (r2:Vals ys ws) (i1:IsL X.K F xs ds) (i2:IsL X.K F ys es) (h:vD (eqN n) ds es=some b) :
  ∀ j (h1:j < us.toArray.size) (h2:j < ws.toArray.size),EqAt A s us.toArray[j] ws.toArray[j] (itE (eqN n) ds es j):=by
 intro j h1 h2
 have h1':j < us.length:=by simpa using h1
 have h2':j < ws.length:=by simpa using h2
 obtain ⟨x,ex,rx⟩:=Vals.getE r1 h1'
 obtain ⟨y,ey,ry⟩:=Vals.getE r2 h2'
 obtain ⟨d,ed,idd⟩:=i1.get ex
 obtain ⟨e,ee,ie⟩:=i2.get ey
 have q:=UF h j d e ed ee
 simpa using ih idd ie rx ry q
theorem Vm {A:Around} {n:Nat} {a c:Addr} {xs ys:List V} {ds es:List D} {b:Bool} (I:Inv X pins σ H s) (ih:∀ {v w:V} {d e:D} {u t:Value} {b:Bool},Is X.K F v d->Is X.K F w e->RelV v u->RelV w t->eqN n d e=some b->EqAt A.in1 s u t b)
  (p1:SqT X.K H a xs) (p2:SqT X.K H c ys) (i1:IsL X.K F xs ds) (i2:IsL X.K F ys es) (h:eqN (n+1) (.tup ds) (.tup es)=some b) (hu:A.units < cLine):RcAt A s (.ref a) (.ref c) b:=by
 obtain ⟨us,r1,t1,_⟩:=I.tuple p1
 obtain ⟨ws,r2,t2,_⟩:=I.tuple p2
 simp only [eqN] at h
 cases q:vD (eqN n) ds es with
 | none=>rw [q] at h; simp at h
 | some k=>
  rw [q] at h
  have l1:us.toArray.size=ds.length:=by rw [List.size_toArray,<-r1.length,i1.length]
  have l2:ws.toArray.size=es.length:=by rw [List.size_toArray,<-r2.length,i2.length]
  have z:=RcAt.tuples (A:=A) t1 t2 hu (wH (A:=A.in1) ih r1 r2 i1 i2 q)
  rw [l1,l2,<-vo q] at z
  have e:b=(k&&ds.length == es.length):=by simpa using h.symm
  rw [e]; exact z
theorem Vn {A:Around} {n:Nat} {a c:Addr} {xs ys:List V} {ds es:List D} {b:Bool} (I:Inv X pins σ H s) (ih:∀ {v w:V} {d e:D} {u t:Value} {b:Bool},Is X.K F v d->Is X.K F w e->RelV v u->RelV w t->eqN n d e=some b->EqAt A.in1 s u t b)
  (p1:SqL X.K H a xs) (p2:SqL X.K H c ys) (i1:IsL X.K F xs ds) (i2:IsL X.K F ys es) (h:eqN (n+1) (.lst ds) (.lst es)=some b) (hu:A.units < cLine):RcAt A s (.ref a) (.ref c) b:=by
 obtain ⟨us,r1,t1,_⟩:=I.list p1
 obtain ⟨ws,r2,t2,_⟩:=I.list p2
 have l1:us.toArray.size=ds.length:=by rw [List.size_toArray,<-r1.length,i1.length]
 have l2:ws.toArray.size=es.length:=by rw [List.size_toArray,<-r2.length,i2.length]
 simp only [eqN] at h
 by_cases hl:ds.length=es.length
 ·rw [if_pos hl] at h
  have z:=RcAt.lists (A:=A) t1.isList t2.isList (by omega) hu (wH (A:=A.in1) ih r1 r2 i1 i2 h)
  have e:=vo h
  rw [l1] at z
  rw [e,show min ds.length es.length=ds.length by omega]
  exact z
 ·rw [if_neg hl] at h
  cases h
  exact RcAt.lists_lengths t1.isList t2.isList (bne_iff_ne.mpr (by rw [l1,l2]; exact hl)) hu
theorem UH (I:Inv X pins σ H s) (sb:Same F H):∀ (n:Nat) {A:Around} {v w:V} {d e:D} {u t:Value} {b:Bool},A.units+n < cLine->Is X.K F v d->Is X.K F w e->RelV v u->RelV w t->eqN n d e=some b->EqAt A s u t b:=by
 intro n
 induction n with
 | zero=>
  intro A v w d e u t b hu h1 h2 rx ry h
  have hu:A.units < cLine:=by omega
  have h:eqS d e=some b:=h
  cases h1 with
  | non=>cases rx; cases h2 with
   | non=>cases ry; cases h; exact EqAt.same _
   | bl=>cases ry; cases h; exact EqAt.none_bool _
   | int=>obtain ⟨_,rfl⟩:=ry; cases h; exact EqAt.none_int _ _
   | str=>obtain ⟨_,rfl⟩:=ry; cases h; exact EqAt.none_str _ _
   | tup p _=>cases ry; cases h; obtain ⟨_,_,q,_⟩:=I.tuple (qC sb p); exact EqAt.none_tuple q hu
   | lst p _=>cases ry; cases h; obtain ⟨_,_,q,_⟩:=I.list (sb.seq p); exact EqAt.none_list q.isList hu
   | dct=>cases h
   | raw=>cases h
   | xcp=>cases h
   | ins=>cases h
   | at_=>cases h
  | bl=>cases rx; cases h2 with
   | non=>cases ry; cases h; exact EqAt.bool_none _
   | bl=>cases ry; cases h; exact EqAt.bool_bool _ _
   | int=>obtain ⟨_,rfl⟩:=ry; cases h; exact EqAt.bool_int _ _ _
   | str=>obtain ⟨_,rfl⟩:=ry; cases h; exact EqAt.bool_str _ _ _
   | tup p _=>cases ry; cases h; obtain ⟨_,_,q,_⟩:=I.tuple (qC sb p); exact EqAt.bool_tuple _ q hu
   | lst p _=>cases ry; cases h; obtain ⟨_,_,q,_⟩:=I.list (sb.seq p); exact EqAt.bool_list _ q.isList hu
   | dct=>cases h
   | raw=>cases h
   | xcp=>cases h
   | ins=>cases h
   | at_=>cases h
  | int=>obtain ⟨_,rfl⟩:=rx; cases h2 with
   | non=>cases ry; cases h; exact EqAt.int_none _ _
   | bl=>cases ry; cases h; exact EqAt.int_bool _ _ _
   | int=>obtain ⟨_,rfl⟩:=ry; cases h; exact EqAt.int_int _ _ _ _
   | str=>obtain ⟨_,rfl⟩:=ry; cases h; exact EqAt.int_str _ _ _ _
   | tup p _=>cases ry; cases h; obtain ⟨_,_,q,_⟩:=I.tuple (qC sb p); exact EqAt.int_tuple _ _ q hu
   | lst p _=>cases ry; cases h; obtain ⟨_,_,q,_⟩:=I.list (sb.seq p); exact EqAt.int_list _ _ q.isList hu
   | dct=>cases h
   | raw=>cases h
   | xcp=>cases h
   | ins=>cases h
   | at_=>cases h
  | str=>obtain ⟨_,rfl⟩:=rx; cases h2 with
   | non=>cases ry; cases h; exact EqAt.str_none _ _
   | bl=>cases ry; cases h; exact EqAt.str_bool _ _ _
   | int=>obtain ⟨_,rfl⟩:=ry; cases h; exact EqAt.str_int _ _ _ _
   | str=>obtain ⟨_,rfl⟩:=ry; cases h; exact EqAt.str_str _ _ _ _
   | tup p _=>cases ry; cases h; obtain ⟨_,_,q,_⟩:=I.tuple (qC sb p); exact EqAt.str_tuple _ _ q hu
   | lst p _=>cases ry; cases h; obtain ⟨_,_,q,_⟩:=I.list (sb.seq p); exact EqAt.str_list _ _ q.isList hu
   | dct=>cases h
   | raw=>cases h
   | xcp=>cases h
   | ins=>cases h
   | at_=>cases h
  | tup p0 _=>
   cases rx
   obtain ⟨_,_,q0,_⟩:=I.tuple (qC sb p0)
   cases h2 with
   | non=>cases ry; cases h; exact EqAt.tuple_none q0 hu
   | bl=>cases ry; cases h; exact EqAt.tuple_bool _ q0 hu
   | int=>obtain ⟨_,rfl⟩:=ry; cases h; exact EqAt.tuple_int _ _ q0 hu
   | str=>obtain ⟨_,rfl⟩:=ry; cases h; exact EqAt.tuple_str _ _ q0 hu
   | tup p _=>cases h
   | lst p _=>cases ry; cases h; obtain ⟨_,_,q,_⟩:=I.list (sb.seq p); exact EqAt.tuple_list q0 q.isList hu
   | dct=>cases h
   | raw=>cases h
   | xcp=>cases h
   | ins=>cases h
   | at_=>cases h
  | lst p0 _=>
   cases rx
   obtain ⟨_,_,q0,_⟩:=I.list (sb.seq p0)
   cases h2 with
   | non=>cases ry; cases h; exact EqAt.list_none q0.isList hu
   | bl=>cases ry; cases h; exact EqAt.list_bool _ q0.isList hu
   | int=>obtain ⟨_,rfl⟩:=ry; cases h; exact EqAt.list_int _ _ q0.isList hu
   | str=>obtain ⟨_,rfl⟩:=ry; cases h; exact EqAt.list_str _ _ q0.isList hu
   | tup p _=>cases ry; cases h; obtain ⟨_,_,q,_⟩:=I.tuple (qC sb p); exact EqAt.list_tuple q0.isList q hu
   | lst p _=>cases h
   | dct=>cases h
   | raw=>cases h
   | xcp=>cases h
   | ins=>cases h
   | at_=>cases h
  | dct=>cases h2 <;> cases h
  | raw=>cases h2 <;> cases h
  | xcp=>cases h2 <;> cases h
  | ins=>cases h2 <;> cases h
  | at_=>cases h2 <;> cases h
 | succ n ih=>
  intro A v w d e u t b hu h1 h2 rx ry h
  have hu1:A.in1.units+n < cLine:=by show A.units+1+n < cLine; omega
  by_cases both:(∃ xs ys,d=.tup xs/\e=.tup ys)\/(∃ xs ys,d=.lst xs/\e=.lst ys)
  ·rcases both with ⟨ds,es,rfl,rfl⟩ | ⟨ds,es,rfl,rfl⟩
   ·have h1':=h1
    have h2':=h2
    cases h1 with
    | tup p1 t1=>
     cases h2 with
     | tup p2 t2=>
      rename_i a xs c ys
      cases rx
      cases ry
      by_cases ne:a=c
      ·subst ne
       rw [UG I sb (n+1) h1' h2' h]
       exact EqAt.same _
      ·exact EqAt.of_refs ne (Vm I (fun a1 a2 a3 a4 a5=>ih hu1 a1 a2 a3 a4 a5) (qC sb p1) (qC sb p2) t1 t2 h (by omega))
   ·have h1':=h1
    have h2':=h2
    cases h1 with
    | lst p1 t1=>
     cases h2 with
     | lst p2 t2=>
      rename_i a xs c ys
      cases rx
      cases ry
      by_cases ne:a=c
      ·subst ne
       rw [UG I sb (n+1) h1' h2' h]
       exact EqAt.same _
      ·exact EqAt.of_refs ne (Vn I (fun a1 a2 a3 a4 a5=>ih hu1 a1 a2 a3 a4 a5) (sb.seq p1) (sb.seq p2) t1 t2 h (by omega))
  ·have e1:eqN (n+1) d e=eqS d e:=Vl (fun xs ys a1 a2=>both (.inl ⟨xs,ys,a1,a2⟩)) (fun xs ys a1 a2=>both (.inr ⟨xs,ys,a1,a2⟩))
   have e2:eqN n d e=eqS d e:=Vl (fun xs ys a1 a2=>both (.inl ⟨xs,ys,a1,a2⟩)) (fun xs ys a1 a2=>both (.inr ⟨xs,ys,a1,a2⟩))
   exact ih (by omega) h1 h2 rx ry (by rw [e2,<-e1]; exact h)
end
end L2.D2
namespace L2.D2
open PySem PySem.Spec PyProof.Rows
open PySem.SeqAt
section
variable {X:Cx} {pins:List (Addr×Obj)} {σ:St} {F H:Hp} {s:Shared}
theorem Zn {A:Around} {n:Nat} {a c:Addr} {xs ys:List V} {ds es:List D} {b:Bool} (I:Inv X pins σ H s) (ih:∀ {v w:V} {d e:D} {u t:Value} {b:Bool},Is X.K F v d->Is X.K F w e->RelV v u->RelV w t->eqN n d e=some b->EqAt A.in1 s u t b)
  (p1:SqT X.K H a xs) (p2:SqT X.K H c ys) (i1:IsL X.K F xs ds) (i2:IsL X.K F ys es) (h:eqN (n+1) (.tup ds) (.tup es)=some b) (hu:A.units < cLine):RcNeAt A s (.ref a) (.ref c) (!b):=by
 obtain ⟨us,r1,t1,_⟩:=I.tuple p1
 obtain ⟨ws,r2,t2,_⟩:=I.tuple p2
 simp only [eqN] at h
 cases q:vD (eqN n) ds es with
 | none=>rw [q] at h; simp at h
 | some k=>
  rw [q] at h
  have l1:us.toArray.size=ds.length:=by rw [List.size_toArray,<-r1.length,i1.length]
  have l2:ws.toArray.size=es.length:=by rw [List.size_toArray,<-r2.length,i2.length]
  have z:=RcNeAt.tuples (A:=A) t1 t2 hu (wH (A:=A.in1) ih r1 r2 i1 i2 q)
  rw [l1,l2,<-vo q] at z
  have e:b=(k&&ds.length == es.length):=by simpa using h.symm
  rw [e]; exact z
theorem Zo {A:Around} {n:Nat} {a c:Addr} {xs ys:List V} {ds es:List D} {b:Bool} (I:Inv X pins σ H s) (ih:∀ {v w:V} {d e:D} {u t:Value} {b:Bool},Is X.K F v d->Is X.K F w e->RelV v u->RelV w t->eqN n d e=some b->EqAt A.in1 s u t b)
  (p1:SqL X.K H a xs) (p2:SqL X.K H c ys) (i1:IsL X.K F xs ds) (i2:IsL X.K F ys es) (h:eqN (n+1) (.lst ds) (.lst es)=some b) (hu:A.units < cLine):RcNeAt A s (.ref a) (.ref c) (!b):=by
 obtain ⟨us,r1,t1,_⟩:=I.list p1
 obtain ⟨ws,r2,t2,_⟩:=I.list p2
 have l1:us.toArray.size=ds.length:=by rw [List.size_toArray,<-r1.length,i1.length]
 have l2:ws.toArray.size=es.length:=by rw [List.size_toArray,<-r2.length,i2.length]
 simp only [eqN] at h
 by_cases hl:ds.length=es.length
 ·rw [if_pos hl] at h
  have z:=RcNeAt.lists (A:=A) t1.isList t2.isList (by omega) hu (wH (A:=A.in1) ih r1 r2 i1 i2 h)
  have e:=vo h
  rw [l1] at z
  rw [e,show min ds.length es.length=ds.length by omega]
  exact z
 ·rw [if_neg hl] at h
  cases h
  exact RcNeAt.lists_lengths t1.isList t2.isList (bne_iff_ne.mpr (by rw [l1,l2]; exact hl)) hu
theorem qck (I:Inv X pins σ H s) (sb:Same F H) {n:Nat} {A:Around} {v w:V} {d e:D} {u t:Value} {b:Bool} (hu':A.units+n+1 < cLine) (t1:TopIs X.K F H v d) (t2:TopIs X.K F H w e) (rx:RelV v u) (ry:RelV w t) (h:eqN (n+1) d e=some b):RcAt A s u t b:=by
 have hu:A.units < cLine:=by omega
 have ih:∀ {v w:V} {d e:D} {u t:Value} {b:Bool},Is X.K F v d->Is X.K F w e->RelV v u->RelV w t->eqN n d e=some b->EqAt A.in1 s u t b:=fun a1 a2 a3 a4 a5=>UH I sb n (by show A.units+1+n < cLine; omega) a1 a2 a3 a4 a5
 cases d with
 | non  =>
  obtain rfl:=t1.non; cases rx
  cases e with
  | non  => obtain rfl:=t2.non; cases ry; cases h; exact RcAt.none_none 
  | bl y=>obtain rfl:=t2.bl; cases ry; cases h; exact RcAt.none_bool _
  | int y=>obtain rfl:=t2.int; obtain ⟨_,rfl⟩:=ry; cases h; exact RcAt.none_int _ _
  | str y=>obtain ⟨rfl,_⟩:=t2.str; obtain ⟨_,rfl⟩:=ry; cases h; exact RcAt.none_str _ _
  | tup y=>obtain ⟨c,ys,rfl,p2,i2⟩:=t2.tup sb; cases ry; obtain ⟨_,_,q2,_⟩:=I.tuple p2; cases h; exact RcAt.none_tuple  q2 hu
  | lst y=>obtain ⟨c,ys,rfl,p2,i2⟩:=t2.lst sb; cases ry; obtain ⟨_,_,q2,_⟩:=I.list p2; cases h; exact RcAt.none_list  q2.isList hu
  | dct y=>cases h
  | raw y=>cases h
  | xcp y=>cases h
  | ins y z=>cases h
  | at_ y z=>cases h
 | bl x=>
  obtain rfl:=t1.bl; cases rx
  cases e with
  | non  => obtain rfl:=t2.non; cases ry; cases h; exact RcAt.bool_none _
  | bl y=>obtain rfl:=t2.bl; cases ry; cases h; exact RcAt.bool_bool _ _
  | int y=>obtain rfl:=t2.int; obtain ⟨_,rfl⟩:=ry; cases h; exact RcAt.bool_int _ _ _
  | str y=>obtain ⟨rfl,_⟩:=t2.str; obtain ⟨_,rfl⟩:=ry; cases h; exact RcAt.bool_str _ _ _
  | tup y=>obtain ⟨c,ys,rfl,p2,i2⟩:=t2.tup sb; cases ry; obtain ⟨_,_,q2,_⟩:=I.tuple p2; cases h; exact RcAt.bool_tuple _ q2 hu
  | lst y=>obtain ⟨c,ys,rfl,p2,i2⟩:=t2.lst sb; cases ry; obtain ⟨_,_,q2,_⟩:=I.list p2; cases h; exact RcAt.bool_list _ q2.isList hu
  | dct y=>cases h
  | raw y=>cases h
  | xcp y=>cases h
  | ins y z=>cases h
  | at_ y z=>cases h
 | int x=>
  obtain rfl:=t1.int; obtain ⟨_,rfl⟩:=rx
  cases e with
  | non  => obtain rfl:=t2.non; cases ry; cases h; exact RcAt.int_none _ _
  | bl y=>obtain rfl:=t2.bl; cases ry; cases h; exact RcAt.int_bool _ _ _
  | int y=>obtain rfl:=t2.int; obtain ⟨_,rfl⟩:=ry; cases h; exact RcAt.int_int _ _ _ _
  | str y=>obtain ⟨rfl,_⟩:=t2.str; obtain ⟨_,rfl⟩:=ry; cases h; exact RcAt.int_str _ _ _ _
  | tup y=>obtain ⟨c,ys,rfl,p2,i2⟩:=t2.tup sb; cases ry; obtain ⟨_,_,q2,_⟩:=I.tuple p2; cases h; exact RcAt.int_tuple _ _ q2 hu
  | lst y=>obtain ⟨c,ys,rfl,p2,i2⟩:=t2.lst sb; cases ry; obtain ⟨_,_,q2,_⟩:=I.list p2; cases h; exact RcAt.int_list _ _ q2.isList hu
  | dct y=>cases h
  | raw y=>cases h
  | xcp y=>cases h
  | ins y z=>cases h
  | at_ y z=>cases h
 | str x=>
  obtain ⟨rfl,_⟩:=t1.str; obtain ⟨_,rfl⟩:=rx
  cases e with
  | non  => obtain rfl:=t2.non; cases ry; cases h; exact RcAt.str_none _ _
  | bl y=>obtain rfl:=t2.bl; cases ry; cases h; exact RcAt.str_bool _ _ _
  | int y=>obtain rfl:=t2.int; obtain ⟨_,rfl⟩:=ry; cases h; exact RcAt.str_int _ _ _ _
  | str y=>obtain ⟨rfl,_⟩:=t2.str; obtain ⟨_,rfl⟩:=ry; cases h; exact RcAt.str_str _ _ _ _
  | tup y=>obtain ⟨c,ys,rfl,p2,i2⟩:=t2.tup sb; cases ry; obtain ⟨_,_,q2,_⟩:=I.tuple p2; cases h; exact RcAt.str_tuple _ _ q2 hu
  | lst y=>obtain ⟨c,ys,rfl,p2,i2⟩:=t2.lst sb; cases ry; obtain ⟨_,_,q2,_⟩:=I.list p2; cases h; exact RcAt.str_list _ _ q2.isList hu
  | dct y=>cases h
  | raw y=>cases h
  | xcp y=>cases h
  | ins y z=>cases h
  | at_ y z=>cases h
 | tup x=>
  obtain ⟨a,xs,rfl,p1,i1⟩:=t1.tup sb; cases rx; obtain ⟨_,_,q1,_⟩:=I.tuple p1
  cases e with
  | non  => obtain rfl:=t2.non; cases ry; cases h; exact RcAt.tuple_none  q1 hu
  | bl y=>obtain rfl:=t2.bl; cases ry; cases h; exact RcAt.tuple_bool _ q1 hu
  | int y=>obtain rfl:=t2.int; obtain ⟨_,rfl⟩:=ry; cases h; exact RcAt.tuple_int _ _ q1 hu
  | str y=>obtain ⟨rfl,_⟩:=t2.str; obtain ⟨_,rfl⟩:=ry; cases h; exact RcAt.tuple_str _ _ q1 hu
  | tup y=>obtain ⟨c,ys,rfl,p2,i2⟩:=t2.tup sb; cases ry; obtain ⟨_,_,q2,_⟩:=I.tuple p2; exact Vm I ih p1 p2 i1 i2 h hu
  | lst y=>obtain ⟨c,ys,rfl,p2,i2⟩:=t2.lst sb; cases ry; obtain ⟨_,_,q2,_⟩:=I.list p2; cases h; exact RcAt.tuple_list q1 q2.isList hu
  | dct y=>cases h
  | raw y=>cases h
  | xcp y=>cases h
  | ins y z=>cases h
  | at_ y z=>cases h
 | lst x=>
  obtain ⟨a,xs,rfl,p1,i1⟩:=t1.lst sb; cases rx; obtain ⟨_,_,q1,_⟩:=I.list p1
  cases e with
  | non  => obtain rfl:=t2.non; cases ry; cases h; exact RcAt.list_none  q1.isList hu
  | bl y=>obtain rfl:=t2.bl; cases ry; cases h; exact RcAt.list_bool _ q1.isList hu
  | int y=>obtain rfl:=t2.int; obtain ⟨_,rfl⟩:=ry; cases h; exact RcAt.list_int _ _ q1.isList hu
  | str y=>obtain ⟨rfl,_⟩:=t2.str; obtain ⟨_,rfl⟩:=ry; cases h; exact RcAt.list_str _ _ q1.isList hu
  | tup y=>obtain ⟨c,ys,rfl,p2,i2⟩:=t2.tup sb; cases ry; obtain ⟨_,_,q2,_⟩:=I.tuple p2; cases h; exact RcAt.list_tuple q1.isList q2 hu
  | lst y=>obtain ⟨c,ys,rfl,p2,i2⟩:=t2.lst sb; cases ry; obtain ⟨_,_,q2,_⟩:=I.list p2; exact Vn I ih p1 p2 i1 i2 h hu
  | dct y=>cases h
  | raw y=>cases h
  | xcp y=>cases h
  | ins y z=>cases h
  | at_ y z=>cases h
 | dct x=>cases e <;> cases h
 | raw x=>cases e <;> cases h
 | xcp x=>cases e <;> cases h
 | ins x z=>cases e <;> cases h
 | at_ x z=>cases e <;> cases h
theorem qcl (I:Inv X pins σ H s) (sb:Same F H) {n:Nat} {A:Around} {v w:V} {d e:D} {u t:Value} {b:Bool} (hu':A.units+n+1 < cLine) (t1:TopIs X.K F H v d) (t2:TopIs X.K F H w e) (rx:RelV v u) (ry:RelV w t) (h:eqN (n+1) d e=some b):RcNeAt A s u t (!b):=by
 have hu:A.units < cLine:=by omega
 have ih:∀ {v w:V} {d e:D} {u t:Value} {b:Bool},Is X.K F v d->Is X.K F w e->RelV v u->RelV w t->eqN n d e=some b->EqAt A.in1 s u t b:=fun a1 a2 a3 a4 a5=>UH I sb n (by show A.units+1+n < cLine; omega) a1 a2 a3 a4 a5
 cases d with
 | non  =>
  obtain rfl:=t1.non; cases rx
  cases e with
  | non  => obtain rfl:=t2.non; cases ry; cases h; exact RcNeAt.none_none 
  | bl y=>obtain rfl:=t2.bl; cases ry; cases h; exact RcNeAt.none_bool _
  | int y=>obtain rfl:=t2.int; obtain ⟨_,rfl⟩:=ry; cases h; exact RcNeAt.none_int _ _
  | str y=>obtain ⟨rfl,_⟩:=t2.str; obtain ⟨_,rfl⟩:=ry; cases h; exact RcNeAt.none_str _ _
  | tup y=>obtain ⟨c,ys,rfl,p2,i2⟩:=t2.tup sb; cases ry; obtain ⟨_,_,q2,_⟩:=I.tuple p2; cases h; exact RcNeAt.none_tuple  q2 hu
  | lst y=>obtain ⟨c,ys,rfl,p2,i2⟩:=t2.lst sb; cases ry; obtain ⟨_,_,q2,_⟩:=I.list p2; cases h; exact RcNeAt.none_list  q2.isList hu
  | dct y=>cases h
  | raw y=>cases h
  | xcp y=>cases h
  | ins y z=>cases h
  | at_ y z=>cases h
 | bl x=>
  obtain rfl:=t1.bl; cases rx
  cases e with
  | non  => obtain rfl:=t2.non; cases ry; cases h; exact RcNeAt.bool_none _
  | bl y=>obtain rfl:=t2.bl; cases ry; cases h; exact RcNeAt.bool_bool _ _
  | int y=>obtain rfl:=t2.int; obtain ⟨_,rfl⟩:=ry; cases h; exact RcNeAt.bool_int _ _ _
  | str y=>obtain ⟨rfl,_⟩:=t2.str; obtain ⟨_,rfl⟩:=ry; cases h; exact RcNeAt.bool_str _ _ _
  | tup y=>obtain ⟨c,ys,rfl,p2,i2⟩:=t2.tup sb; cases ry; obtain ⟨_,_,q2,_⟩:=I.tuple p2; cases h; exact RcNeAt.bool_tuple _ q2 hu
  | lst y=>obtain ⟨c,ys,rfl,p2,i2⟩:=t2.lst sb; cases ry; obtain ⟨_,_,q2,_⟩:=I.list p2; cases h; exact RcNeAt.bool_list _ q2.isList hu
  | dct y=>cases h
  | raw y=>cases h
  | xcp y=>cases h
  | ins y z=>cases h
  | at_ y z=>cases h
 | int x=>
  obtain rfl:=t1.int; obtain ⟨_,rfl⟩:=rx
  cases e with
  | non  => obtain rfl:=t2.non; cases ry; cases h; exact RcNeAt.int_none _ _
  | bl y=>obtain rfl:=t2.bl; cases ry; cases h; exact RcNeAt.int_bool _ _ _
  | int y=>obtain rfl:=t2.int; obtain ⟨_,rfl⟩:=ry; cases h; exact RcNeAt.int_int _ _ _ _
  | str y=>obtain ⟨rfl,_⟩:=t2.str; obtain ⟨_,rfl⟩:=ry; cases h; exact RcNeAt.int_str _ _ _ _
  | tup y=>obtain ⟨c,ys,rfl,p2,i2⟩:=t2.tup sb; cases ry; obtain ⟨_,_,q2,_⟩:=I.tuple p2; cases h; exact RcNeAt.int_tuple _ _ q2 hu
  | lst y=>obtain ⟨c,ys,rfl,p2,i2⟩:=t2.lst sb; cases ry; obtain ⟨_,_,q2,_⟩:=I.list p2; cases h; exact RcNeAt.int_list _ _ q2.isList hu
  | dct y=>cases h
  | raw y=>cases h
  | xcp y=>cases h
  | ins y z=>cases h
  | at_ y z=>cases h
 | str x=>
  obtain ⟨rfl,_⟩:=t1.str; obtain ⟨_,rfl⟩:=rx
  cases e with
  | non  => obtain rfl:=t2.non; cases ry; cases h; exact RcNeAt.str_none _ _
  | bl y=>obtain rfl:=t2.bl; cases ry; cases h; exact RcNeAt.str_bool _ _ _
  | int y=>obtain rfl:=t2.int; obtain ⟨_,rfl⟩:=ry; cases h; exact RcNeAt.str_int _ _ _ _
  | str y=>obtain ⟨rfl,_⟩:=t2.str; obtain ⟨_,rfl⟩:=ry; cases h; exact RcNeAt.str_str _ _ _ _
  | tup y=>obtain ⟨c,ys,rfl,p2,i2⟩:=t2.tup sb; cases ry; obtain ⟨_,_,q2,_⟩:=I.tuple p2; cases h; exact RcNeAt.str_tuple _ _ q2 hu
  | lst y=>obtain ⟨c,ys,rfl,p2,i2⟩:=t2.lst sb; cases ry; obtain ⟨_,_,q2,_⟩:=I.list p2; cases h; exact RcNeAt.str_list _ _ q2.isList hu
  | dct y=>cases h
  | raw y=>cases h
  | xcp y=>cases h
  | ins y z=>cases h
  | at_ y z=>cases h
 | tup x=>
  obtain ⟨a,xs,rfl,p1,i1⟩:=t1.tup sb; cases rx; obtain ⟨_,_,q1,_⟩:=I.tuple p1
  cases e with
  | non  => obtain rfl:=t2.non; cases ry; cases h; exact RcNeAt.tuple_none  q1 hu
  | bl y=>obtain rfl:=t2.bl; cases ry; cases h; exact RcNeAt.tuple_bool _ q1 hu
  | int y=>obtain rfl:=t2.int; obtain ⟨_,rfl⟩:=ry; cases h; exact RcNeAt.tuple_int _ _ q1 hu
  | str y=>obtain ⟨rfl,_⟩:=t2.str; obtain ⟨_,rfl⟩:=ry; cases h; exact RcNeAt.tuple_str _ _ q1 hu
  | tup y=>obtain ⟨c,ys,rfl,p2,i2⟩:=t2.tup sb; cases ry; obtain ⟨_,_,q2,_⟩:=I.tuple p2; exact Zn I ih p1 p2 i1 i2 h hu
  | lst y=>obtain ⟨c,ys,rfl,p2,i2⟩:=t2.lst sb; cases ry; obtain ⟨_,_,q2,_⟩:=I.list p2; cases h; exact RcNeAt.tuple_list q1 q2.isList hu
  | dct y=>cases h
  | raw y=>cases h
  | xcp y=>cases h
  | ins y z=>cases h
  | at_ y z=>cases h
 | lst x=>
  obtain ⟨a,xs,rfl,p1,i1⟩:=t1.lst sb; cases rx; obtain ⟨_,_,q1,_⟩:=I.list p1
  cases e with
  | non  => obtain rfl:=t2.non; cases ry; cases h; exact RcNeAt.list_none  q1.isList hu
  | bl y=>obtain rfl:=t2.bl; cases ry; cases h; exact RcNeAt.list_bool _ q1.isList hu
  | int y=>obtain rfl:=t2.int; obtain ⟨_,rfl⟩:=ry; cases h; exact RcNeAt.list_int _ _ q1.isList hu
  | str y=>obtain ⟨rfl,_⟩:=t2.str; obtain ⟨_,rfl⟩:=ry; cases h; exact RcNeAt.list_str _ _ q1.isList hu
  | tup y=>obtain ⟨c,ys,rfl,p2,i2⟩:=t2.tup sb; cases ry; obtain ⟨_,_,q2,_⟩:=I.tuple p2; cases h; exact RcNeAt.list_tuple q1.isList q2 hu
  | lst y=>obtain ⟨c,ys,rfl,p2,i2⟩:=t2.lst sb; cases ry; obtain ⟨_,_,q2,_⟩:=I.list p2; exact Zo I ih p1 p2 i1 i2 h hu
  | dct y=>cases h
  | raw y=>cases h
  | xcp y=>cases h
  | ins y z=>cases h
  | at_ y z=>cases h
 | dct x=>cases e <;> cases h
 | raw x=>cases e <;> cases h
 | xcp x=>cases e <;> cases h
 | ins x z=>cases e <;> cases h
 | at_ x z=>cases e <;> cases h
end
noncomputable def eqD (a b:D):Out D:=match eqN 8 a b with
 | some c=>.ok (.bl c)
 | none=>.bad
noncomputable def neD (a b:D):Out D:=match eqN 8 a b with
 | some c=>.ok (.bl (!c))
 | none=>.bad
section
variable {X:Cx} {C:Ct}
theorem xp (hK:C.K=X.K) (hu:X.A.units+64 < cLine):OpD X C .sh (compareOp .Eq) eqD:=by
 intro pins s σ H x y v u Q I rx ry h
 obtain ⟨F,dx,dy,sb,tx,ty,po⟩:=h
 rw [hK] at tx ty
 unfold eqD at po
 cases e:eqN 8 dx dy with
 | none=>rw [e] at po; exact po.elim
 | some c=>
  rw [e] at po
  exact qck I sb (n:=7) (by omega) tx ty rx ry e _ _ _ _ ⟨.bl c,H,I,rfl,po _ F H sb .refl (.bl _)⟩
theorem UI (hK:C.K=X.K) (hu:X.A.units+64 < cLine):OpD X C .sh (compareOp .NotEq) neD:=by
 intro pins s σ H x y v u Q I rx ry h
 obtain ⟨F,dx,dy,sb,tx,ty,po⟩:=h
 rw [hK] at tx ty
 unfold neD at po
 cases e:eqN 8 dx dy with
 | none=>rw [e] at po; exact po.elim
 | some c=>
  rw [e] at po
  exact qcl I sb (n:=7) (by omega) tx ty rx ry e _ _ _ _ ⟨.bl _,H,I,rfl,po _ F H sb .refl (.bl _)⟩
end
end L2.D2
namespace L2.D2
open PySem PySem.Spec PyProof.Rows
open PySem.SeqAt
section
variable {X:Cx} {pins:List (Addr×Obj)} {σ:St} {F H:Hp} {s:Shared}
theorem qaM (I:Inv X pins σ H s) (sb:Same F H):∀ (n:Nat) {v:V} {d d' e:D} {b b':Bool},Is X.K F v d->Is X.K F v d'->eqN n d e=some b->eqN n d' e=some b'->b=b':=by
 have notTL:∀ {a:Addr} {xs ys:List V},SqT X.K F a xs->SqL X.K F a ys->False:=fun p q=>by
  obtain ⟨_,_,q1,_⟩:=I.list (sb.seq q)
  obtain ⟨_,_,q2,_⟩:=I.tuple (qC sb p)
  exact absurd rfl (ne_of_list_tuple q1.isList q2)
 intro n
 induction n with
 | zero=>
  intro v d d' e b b' h1 h2 e1 e2
  have e1:eqS d e=some b:=e1
  have e2:eqS d' e=some b':=e2
  cases h1 <;> cases h2 <;> cases e <;> simp only [eqS] at e1 e2 <;> first
   | (cases e1; cases e2; rfl)
   | (cases e1; done)
   | (cases e2; done)
   | exact (notTL (by assumption) (by assumption)).elim
 | succ n ih=>
  have lists:∀ {xs:List V} {ds ds' es:List D} {b b':Bool},IsL X.K F xs ds->IsL X.K F xs ds'->vD (eqN n) ds es=some b->vD (eqN n) ds' es=some b'->b=b':=by
   intro xs
   induction xs with
   | nil=>intro ds ds' es b b' h1 h2 e1 e2; cases h1; cases h2; simp only [vD] at e1 e2; cases e1; cases e2; rfl
   | cons x xs ihx=>
    intro ds ds' es b b' h1 h2 e1 e2
    cases h1 with
    | cons a1 t1=>
     cases h2 with
     | cons a2 t2=>
      rename_i d ds d' ds'
      cases es with
      | nil=>simp only [vD] at e1 e2; cases e1; cases e2; rfl
      | cons e es=>
       unfold vD at e1 e2
       cases q:eqN n d e with
       | none=>rw [q] at e1; simp at e1
       | some k=>
        cases q2:eqN n d' e with
        | none=>rw [q2] at e2; simp at e2
        | some k'=>
         cases q3:vD (eqN n) ds es with
         | none=>rw [q,q3] at e1; simp at e1
         | some k3=>
          cases q4:vD (eqN n) ds' es with
          | none=>rw [q2,q4] at e2; simp at e2
          | some k4=>
           rw [q,q3] at e1
           rw [q2,q4] at e2
           rw [ih a1 a2 q q2,ihx t1 t2 q3 q4] at e1
           have e1:some (k'&&k4)=some b:=e1
           have e2:some (k'&&k4)=some b':=e2
           rw [e1] at e2
           exact Option.some.inj e2
  intro v d d' e b b' h1 h2 e1 e2
  cases h1 with
  | tup p1 t1=>
   cases h2 with
   | tup p2 t2=>
    have q:=I.tuple_inj (qC sb p1) (qC sb p2)
    subst q
    have hl:=t1.length.symm.trans t2.length
    cases e with
    | tup es=>
     rename_i ds ds'
     simp only [eqN] at e1 e2
     cases q3:vD (eqN n) ds es with
     | none=>rw [q3] at e1; simp at e1
     | some k3=>
      cases q4:vD (eqN n) ds' es with
      | none=>rw [q4] at e2; simp at e2
      | some k4=>
       rw [q3] at e1
       rw [q4] at e2
       rw [lists t1 t2 q3 q4,hl] at e1
       exact Option.some.inj (e1.symm.trans e2)
    | _=>simp only [eqN,eqS] at e1 e2 <;> first | (cases e1; cases e2; rfl) | (cases e1; done)
   | lst p2 t2=>exact (notTL p1 p2).elim
   | _=>cases e <;> simp [eqN,eqS] at e2
  | lst p1 t1=>
   cases h2 with
   | lst p2 t2=>
    have q:=I.list_inj (sb.seq p1) (sb.seq p2)
    subst q
    have hl:=t1.length.symm.trans t2.length
    cases e with
    | lst es=>
     rename_i ds ds'
     simp only [eqN] at e1 e2
     rw [hl] at e1
     by_cases z:ds'.length=es.length
     ·rw [if_pos z] at e1 e2
      exact lists t1 t2 e1 e2
     ·rw [if_neg z] at e1 e2
      exact Option.some.inj (e1.symm.trans e2)
    | _=>simp only [eqN,eqS] at e1 e2 <;> first | (cases e1; cases e2; rfl) | (cases e1; done)
   | tup p2 t2=>exact (notTL p2 p1).elim
   | _=>cases e <;> simp [eqN,eqS] at e2
  | _=>cases h2 <;> cases e <;> simp only [eqN,eqS] at e1 e2 <;> first
   | (cases e1; cases e2; rfl)
   | (cases e1; done)
   | (cases e2; done)
open Classical in
noncomputable def WW (X:Cx) (F:Hp) (n:Nat) (e:D) (u:Value):Bool:=decide (∃ v d,Is X.K F v d/\RelV v u/\eqN n d e=some true)
open Classical in
theorem UJ (I:Inv X pins σ H s) (sb:Same F H) {n:Nat} {v:V} {d e:D} {u:Value} {b:Bool} (h:Is X.K F v d) (r:RelV v u) (q:eqN n d e=some b):WW X F n e u=b:=by
 unfold WW
 cases b with
 | true=>exact decide_eq_true ⟨v,d,h,r,q⟩
 | false=>
  refine decide_eq_false ?_
  rintro ⟨w,d',h',r',q'⟩
  have e:=r.inj r'
  subst e
  exact absurd (qaM I sb n h h' q q') (by decide)
noncomputable def zo (n:Nat) (e:D):List D->Option Bool
 | []=>some false
 | d::ds=>(eqN n d e).bind fun a=>(zo n e ds).bind fun b=>some (a||b)
theorem Qx {n:Nat} {e d:D} {ds:List D} {b:Bool} (h:zo n e (d::ds)=some b):∃ a c,eqN n d e=some a/\zo n e ds=some c/\b=(a||c):=by
 unfold zo at h
 cases q:eqN n d e with
 | none=>rw [q] at h; simp at h
 | some a=>
  cases q2:zo n e ds with
  | none=>rw [q,q2] at h; simp at h
  | some c=>rw [q,q2] at h; exact ⟨a,c,rfl,rfl,(Option.some.inj h).symm⟩
theorem UK (I:Inv X pins σ H s) (sb:Same F H) {n:Nat} {e:D}:∀ {vs:List V} {ds:List D} {us:List Value} {b:Bool},IsL X.K F vs ds->Vals vs us->zo n e ds=some b->us.any (WW X F n e)=b/\∀ u∈us,∃ v d a,Is X.K F v d/\RelV v u/\eqN n d e=some a/\WW X F n e u=a
 | _,_,_,b,.nil,.nil,h=>⟨by simpa using (Option.some.inj h),fun u hu=>nomatch hu⟩
 | _,_,_,b,.cons i t,.cons r rs,h=>by
  obtain ⟨a,c,q1,q2,rfl⟩:=Qx h
  obtain ⟨ih1,ih2⟩:=UK I sb t rs q2
  have e1:=UJ I sb i r q1
  refine ⟨by rw [List.any_cons,e1,ih1],fun u hu=>?_⟩
  rcases List.mem_cons.mp hu with rfl | hu
  ·exact ⟨_,_,a,i,r,q1,e1⟩
  ·exact ih2 u hu
end
noncomputable def inD (x y:D):Out Bool:=match y with
 | .lst ds=>match zo 7 x ds with
  | some b=>.ok b
  | none=>.bad
 | .tup ds=>match zo 7 x ds with
  | some b=>.ok b
  | none=>.bad
 | _=>.bad
noncomputable def qdm (x y:D):Out D:=(inD x y).bind fun b=>.ok (.bl b)
noncomputable def Wy (x y:D):Out D:=(inD x y).bind fun b=>.ok (.bl (!b))
theorem TopIs.is {K:Frag} {F H:Hp} {v:V} {d:D} (s:Same F H) (h:TopIs K F H v d):∃ F',Same F F'/\Same F' H/\Is K F' v d:=by
 rcases h with h | ⟨a,rfl,o⟩
 ·exact ⟨F,Same.refl _,s,h⟩
 ·obtain ⟨u,hu⟩:∃ u,H a=some u:=by
   cases q:H a with
   | none=>exact absurd q o.there
   | some u=>exact ⟨u,rfl⟩
  by_cases hF:F a=none
  ·have gr:Same F (upd F a u):=fun b w e=>by rw [qo (qx e hF)]; exact e
   refine ⟨upd F a u,gr,fun b w e=>?_,?_⟩
   ·by_cases q:b=a
    ·subst q; rw [qm] at e; cases e; exact hu
    ·rw [qo q] at e; exact s b w e
   ·cases d with
    | lst ds=>obtain ⟨xs,e,t⟩:=o; rw [hu] at e; cases e; exact .lst (.inl (.inl qm)) (t.mono gr)
    | dct ds=>obtain ⟨xs,e,t⟩:=o; rw [hu] at e; cases e; exact .dct qm (t.mono gr)
    | ins C fs=>obtain ⟨dx,xs,e,t⟩:=o; rw [hu] at e; cases e; exact .ins qm (t.mono gr)
    | at_ b ds=>obtain ⟨eb,xs,e,t⟩:=o; rw [hu] at e; cases e; subst eb; exact .at_ (.inl (.inl qm)) (t.mono gr)
    | _=>exact o.elim
  ·obtain ⟨w,hw⟩:∃ w,F a=some w:=by
    cases q:F a with
    | none=>exact absurd q hF
    | some w=>exact ⟨w,rfl⟩
   have e:=s a w hw
   cases d with
   | lst ds=>obtain ⟨xs,e',t⟩:=o; rw [e'] at e; cases e; exact ⟨F,Same.refl _,s,.lst (.inl (.inl hw)) t⟩
   | dct ds=>obtain ⟨xs,e',t⟩:=o; rw [e'] at e; cases e; exact ⟨F,Same.refl _,s,.dct hw t⟩
   | ins C fs=>obtain ⟨dx,xs,e',t⟩:=o; rw [e'] at e; cases e; exact ⟨F,Same.refl _,s,.ins hw t⟩
   | at_ b ds=>obtain ⟨eb,xs,e',t⟩:=o; rw [e'] at e; cases e; subst eb; exact ⟨F,Same.refl _,s,.at_ (.inl (.inl hw)) t⟩
   | _=>exact o.elim
section
variable {X:Cx} {C:Ct}
theorem Qy {pins:List (Addr×Obj)} {σ:St} {F H:Hp} {s:Shared} {A:Around} {y x:V} {dx:D} {ds:List D} {b:Bool} {u v:Value} {a:Addr} {us:List Value} {xs:List V} (I:Inv X pins σ H s) (hu:A.units+64 < cLine) (sb:Same F H) (ix:Is X.K F x dx) (rx:RelV x v)
  (il:IsL X.K F xs ds) (r:Vals xs us) (h:zo 7 dx ds=some b):us.any (WW X F 7 dx)=b/\∀ w,w∈us.toArray->EqAt A.in1 s w v (WW X F 7 dx w):=by
 obtain ⟨h1,h2⟩:=UK I sb il r h
 refine ⟨h1,fun w hw=>?_⟩
 obtain ⟨vv,d,k,i1,r1,q,e⟩:=h2 w (by simpa using hw)
 rw [e]
 exact UH I sb 7 (by show A.units+1+7 < cLine; omega) i1 ix r1 rx q
theorem qd0 (hK:C.K=X.K) (hu:X.A.units+64 < cLine):OpD X C .sh (compareOp .In) qdm:=by
 intro pins s σ H x y v u Q I rx ry h
 obtain ⟨F,dx,dy,sb,tx,ty,po⟩:=h
 rw [hK] at tx ty
 unfold qdm inD at po
 obtain ⟨F',g',sb',ix⟩:=tx.is sb
 cases dy with
 | lst ds=>
  cases e:zo 7 dx ds with
  | none=>simp only [e] at po; exact po.elim
  | some b=>
   simp only [e] at po
   obtain ⟨a,xs,rfl,p,il⟩:=ty.lst sb
   cases ry
   obtain ⟨us,r,pl,_⟩:=I.list p
   obtain ⟨h1,h2⟩:=Qy (A:=X.A) (y:=.non) (a:=a) (u:=.none) I hu sb' ix rx (il.mono g') r e
   refine in_listAt (WW X F' 7 dx) pl.isList h2 ⟨.bl b,H,I,by show _=_; rw [<-h1]; simp,po _ F H sb .refl (.bl _)⟩
 | tup ds=>
  cases e:zo 7 dx ds with
  | none=>simp only [e] at po; exact po.elim
  | some b=>
   simp only [e] at po
   obtain ⟨a,xs,rfl,p,il⟩:=ty.tup sb
   cases ry
   obtain ⟨us,r,pl,_⟩:=I.tuple p
   obtain ⟨h1,h2⟩:=Qy (A:=X.A) (y:=.non) (a:=a) (u:=.none) I hu sb' ix rx (il.mono g') r e
   refine in_tupleAt (WW X F' 7 dx) pl h2 ⟨.bl b,H,I,by show _=_; rw [<-h1]; simp,po _ F H sb .refl (.bl _)⟩
 | _=>exact po.elim
theorem Zp (hK:C.K=X.K) (hu:X.A.units+64 < cLine):OpD X C .sh (compareOp .NotIn) Wy:=by
 intro pins s σ H x y v u Q I rx ry h
 obtain ⟨F,dx,dy,sb,tx,ty,po⟩:=h
 rw [hK] at tx ty
 unfold Wy inD at po
 obtain ⟨F',g',sb',ix⟩:=tx.is sb
 cases dy with
 | lst ds=>
  cases e:zo 7 dx ds with
  | none=>simp only [e] at po; exact po.elim
  | some b=>
   simp only [e] at po
   obtain ⟨a,xs,rfl,p,il⟩:=ty.lst sb
   cases ry
   obtain ⟨us,r,pl,_⟩:=I.list p
   obtain ⟨h1,h2⟩:=Qy (A:=X.A) (y:=.non) (a:=a) (u:=.none) I hu sb' ix rx (il.mono g') r e
   refine notIn_listAt (WW X F' 7 dx) pl.isList h2 ⟨.bl (!b),H,I,by show _=_; rw [<-h1]; simp,po _ F H sb .refl (.bl _)⟩
 | tup ds=>
  cases e:zo 7 dx ds with
  | none=>simp only [e] at po; exact po.elim
  | some b=>
   simp only [e] at po
   obtain ⟨a,xs,rfl,p,il⟩:=ty.tup sb
   cases ry
   obtain ⟨us,r,pl,_⟩:=I.tuple p
   obtain ⟨h1,h2⟩:=Qy (A:=X.A) (y:=.non) (a:=a) (u:=.none) I hu sb' ix rx (il.mono g') r e
   refine notIn_tupleAt (WW X F' 7 dx) pl h2 ⟨.bl (!b),H,I,by show _=_; rw [<-h1]; simp,po _ F H sb .refl (.bl _)⟩
 | _=>exact po.elim
end
end L2.D2
namespace L2.D2
open PySem PySem.Spec PyProof.Rows
def PoT (C:Ct) (own:List Nat) (σ:St) (F H:Hp) (r:Out (Bool×Sl)) (Q:Bool->Hp->Prop):Prop:=match r with
 | .ok (b,ρ')=>∀ F' H',Rep C.K own F' H' σ ρ'->Chg (OA own σ) F H F' H'->Q b H'
 | .exc c ρ'=>∀ F' H',Same F' H'->Uz C.K C.ox F' H' σ ρ'->Chg (OA own σ) F H F' H'->C.E (C.cv c) none H'
 | .bad=>False
def tT (C:Ct) (own:List Nat) (f:Sl->Out (Bool×Sl)):TT:=fun σ H Q=>∃ F ρ,Rep C.K own F H σ ρ/\PoT C own σ F H (f ρ) Q
theorem PoT.shift {C:Ct} {own:List Nat} {σ:St} {F H F1 H1:Hp} {r:Out (Bool×Sl)} {Q:Bool->Hp->Prop} (h:PoT C own σ F H r Q) (c:Chg (OA own σ) F H F1 H1):PoT C own σ F1 H1 r Q:=by
 cases r with
 | ok p=>exact fun F' H' rp c'=>h F' H' rp (c.trans' c')
 | exc x=>exact fun F' H' s io c'=>h F' H' s io (c.trans' c')
 | bad=>exact h.elim
theorem PoT.bindV {C:Ct} {own:List Nat} {ma:Mo} {σ:St} {F H:Hp} {o:Out (D×Sl)} {k:D×Sl->Out (Bool×Sl)} {Q:Bool->Hp->Prop} {R:VK} (hp:PoT C own σ F H (o.bind k) Q)
  (h:∀ v F1 H1 d ρ1,Rep C.K own F1 H1 σ ρ1->Chg (OA own σ) F H F1 H1->MoIs C.K ma H F1 H1 v d->PoT C own σ F1 H1 (k (d,ρ1)) Q->R v H1):Po C own ma σ F H o R:=by
 cases o with
 | ok p=>
  obtain ⟨d,ρ1⟩:=p
  exact fun v F1 H1 rp c mo=>h v F1 H1 d ρ1 rp c mo (PoT.shift (show PoT C own σ F H (k (d,ρ1)) Q from hp) c)
 | exc x=>exact hp
 | bad=>exact hp.elim
theorem PoT.bindT {C:Ct} {own:List Nat} {σ:St} {F H:Hp} {o:Out (Bool×Sl)} {k:Bool×Sl->Out (Bool×Sl)} {Q R:Bool->Hp->Prop} (hp:PoT C own σ F H (o.bind k) Q)
  (h:∀ F1 H1 b ρ1,Rep C.K own F1 H1 σ ρ1->Chg (OA own σ) F H F1 H1->PoT C own σ F1 H1 (k (b,ρ1)) Q->R b H1):PoT C own σ F H o R:=by
 cases o with
 | ok p=>
  obtain ⟨d,ρ1⟩:=p
  exact fun F1 H1 rp c=>h F1 H1 d ρ1 rp c (PoT.shift (show PoT C own σ F H (k (d,ρ1)) Q from hp) c)
 | exc x=>exact hp
 | bad=>exact hp.elim
theorem Po.bindT {C:Ct} {own:List Nat} {m:Mo} {σ:St} {F H:Hp} {o:Out (Bool×Sl)} {k:Bool×Sl->Out (D×Sl)} {Q:VK} {R:Bool->Hp->Prop} (hp:Po C own m σ F H (o.bind k) Q)
  (h:∀ F1 H1 b ρ1,Rep C.K own F1 H1 σ ρ1->Chg (OA own σ) F H F1 H1->Po C own m σ F1 H1 (k (b,ρ1)) Q->R b H1):PoT C own σ F H o R:=by
 cases o with
 | ok p=>
  obtain ⟨d,ρ1⟩:=p
  exact fun F1 H1 rp c=>h F1 H1 d ρ1 rp c (Po.shift (show Po C own m σ F H (k (d,ρ1)) Q from hp) c)
 | exc x=>exact hp
 | bad=>exact hp.elim
noncomputable def yt:D->Out Bool
 | .non=>.ok false
 | .bl b=>.ok b
 | .int i=>.ok (i != 0)
 | .str x=>.ok ((x.length:Int) != 0)
 | .tup xs=>.ok (!xs.isEmpty)
 | .lst xs=>.ok (!xs.isEmpty)
 | .dct xs=>.ok (!xs.isEmpty)
 | .raw _=>.bad
 | .xcp _=>.bad
 | .ins _ _=>.bad
 | .at_ _ _=>.bad
noncomputable def JC (f:Sl->Out (D×Sl)):Sl->Out (Bool×Sl):=fun ρ=>(f ρ).bind fun p=>(yt p.1).bind fun b=>.ok (b,p.2)
theorem IsL.isEmpty {K:Frag} {F:Hp} {vs:List V} {ds:List D} (h:IsL K F vs ds):vs.isEmpty=ds.isEmpty:=by cases h <;> rfl
theorem IsK.isEmpty {K:Frag} {F:Hp} {vs:List (Key×V)} {ds:List (Key×D)} (h:IsK K F vs ds):vs.isEmpty=ds.isEmpty:=by cases h <;> rfl
theorem qaN {K:Frag} {F H:Hp} {v:V} {d:D} {b:Bool} (s:Same F H) (h:TopIs K F H v d) (e:yt d=.ok b):qdR K v H b:=by
 cases d with
 | non=>obtain rfl:=h.non; cases e; rfl
 | bl x=>obtain rfl:=h.bl; cases e; rfl
 | int x=>obtain rfl:=h.int; cases e; rfl
 | str x=>obtain ⟨rfl,q⟩:=h.str; cases e; exact ⟨q,rfl⟩
 | tup x=>obtain ⟨a,xs,rfl,p,t⟩:=h.tup s; cases e; exact .inr (.inl ⟨xs,p,by rw [t.isEmpty]⟩)
 | lst x=>obtain ⟨a,xs,rfl,p,t⟩:=h.lst s; cases e; exact .inl ⟨xs,p,by rw [t.isEmpty]⟩
 | dct x=>obtain ⟨a,xs,rfl,p,t⟩:=h.dct s; cases e; exact .inr (.inr ⟨xs,p,by rw [t.isEmpty]⟩)
 | raw x=>cases e
 | xcp x=>cases e
 | ins x y=>cases e
 | at_ x y=>cases e
noncomputable def jG (f:Sl->Out (D×Sl)):Sl->Out (Bool×Sl):=fun ρ=>(f ρ).bind fun p=>match p.1 with
 | .bl b=>.ok (b,p.2)
 | _=>.bad
section
variable {X:Cx} {C:Ct} {own:List Nat} {a b c e:Expr} {f fa fb fc:Sl->Out (D×Sl)} {ft fu:Sl->Out (Bool×Sl)} {m ma mb mc:Mo} {pos:Pos} {rest:List Expr}
theorem jJ (hK:C.K=X.K) (h:PE X e (tE C own m f)) (he:∀ whole,isTrue e X.env whole=(do let v <-whole; standAt e.pos; holding [v] (truthy v))):PT X e (tT C own (JC f)):=by
 refine Zl (XZ h he) fun σ H Q ⟨F,ρ,rp,h⟩=>⟨F,ρ,rp,PoT.bindV h fun v F1 H1 d ρ1 rp1 c1 mo1 h1=>?_⟩
 cases q:yt d with
 | ok k=>
  have h1:PoT C own σ F1 H1 ((yt d).bind fun b=>.ok (b,ρ1)) Q:=h1
  rw [q] at h1
  exact ⟨k,by rw [<-hK]; exact qaN rp1.sub mo1.top q,h1 F1 H1 rp1 .refl⟩
 | exc x=>
  have h1:PoT C own σ F1 H1 ((yt d).bind fun b=>.ok (b,ρ1)) Q:=h1
  cases d <;> cases q
 | bad=>
  have h1:PoT C own σ F1 H1 ((yt d).bind fun b=>.ok (b,ρ1)) Q:=h1
  rw [q] at h1
  exact h1.elim
theorem UL {σ:St} {H:Hp} {Q:Bool->Hp->Prop} (h:tT C own (jG f) σ H Q):tE C own .sh f σ H fun x H'=>∃ k,x=.bl k/\Q k H':=by
 obtain ⟨F,ρ,rp,h⟩:=h
 refine ⟨F,ρ,rp,PoT.bindV h fun v F1 H1 d ρ1 rp1 c1 mo1 h1=>?_⟩
 cases d with
 | bl k=>
  have mo1:Is C.K F1 v (.bl k):=mo1
  cases mo1
  exact ⟨k,rfl,h1 F1 H1 rp1 .refl⟩
 | _=>exact h1.elim
theorem jg {op:CmpOp} {g:D->D->Out D} (ho:OpD X C .sh (compareOp op) g) (ha:PE X a (tE C own ma fa)) (hb:PE X b (tE C own mb fb)) (hma:ma≠.any:=by decide)
  (hk:behindInMarks op b=false:=by first | exact GO _ | with_unfolding_all rfl):PT X (.Compare a [op] [b] pos) (tT C own (jG (d2 g fa fb))):=by
 refine Zl (qaB ho ha hb hk) fun σ H Q h=>?_
 exact Qw hma (UL h)
noncomputable def Qz (ft:Sl->Out (Bool×Sl)):Sl->Out (Bool×Sl):=fun ρ=>(ft ρ).bind fun p=>.ok (!p.1,p.2)
theorem jw (h:PT X a (tT C own ft)):PT X (.UnaryOp .Not a pos) (tT C own (Qz ft)):=by
 refine Zl (qbU h) fun σ H Q ⟨F,ρ,rp,h⟩=>⟨F,ρ,rp,PoT.bindT h fun F1 H1 b ρ1 rp1 c1 h1=>h1 F1 H1 rp1 .refl⟩
theorem qd1 {e:Expr} {t t':TT} (h:PW X e t) (i:∀ σ H Q,t' σ H Q->t σ H Q):PW X e t':=⟨fun wh pins s σ H Q I hw=>h wh pins s σ H Q I (i σ H Q hw)⟩
noncomputable def qe7 (ft fu:Sl->Out (Bool×Sl)):Sl->Out (Bool×Sl):=fun ρ=>(ft ρ).bind fun p=>if p.1=true then fu p.2 else .ok (false,p.2)
noncomputable def dOr (ft fu:Sl->Out (Bool×Sl)):Sl->Out (Bool×Sl):=fun ρ=>(ft ρ).bind fun p=>if p.1=true then .ok (true,p.2) else fu p.2
theorem uj {op} (h:PT X a (tT C own ft)):PW X (.BoolOp op [a] pos) (tT C own ft):=by
 cases op
 ·exact qaw h
 ·exact qbT h
theorem xq (ha:PT X a (tT C own ft)) (hb:PW X (.BoolOp .Or (b::rest) pos) (tT C own fu)):PW X (.BoolOp .Or (a::b::rest) pos) (tT C own (dOr ft fu)):=by
 refine qd1 (qdC ha hb) fun σ H Q ⟨F,ρ,rp,h⟩=>⟨F,ρ,rp,PoT.bindT h fun F1 H1 k ρ1 rp1 c1 h1=>?_⟩
 cases k with
 | true=>exact h1 F1 H1 rp1 .refl
 | false=>exact ⟨F1,ρ1,rp1,h1⟩
noncomputable def QA (fa fb:Sl->Out (D×Sl)):Sl->Out (D×Sl):=fun ρ=>(fa ρ).bind fun p=>match p.1 with
 | .bl true=>fb p.2
 | .bl false=>.ok (.bl false,p.2)
 | _=>.bad
noncomputable def qez (fa fb:Sl->Out (D×Sl)):Sl->Out (D×Sl):=fun ρ=>(fa ρ).bind fun p=>match p.1 with
 | .bl true=>.ok (.bl true,p.2)
 | .bl false=>fb p.2
 | _=>.bad
theorem Vo {op} (h:PE X a (tE C own m f)):PE X (.BoolOp op [a] pos) (tE C own m f):=qbV h
theorem QB (ha:PE X a (tE C own .sh fa)) (hb:PE X (.BoolOp .And (b::rest) pos) (tE C own .sh fb)):PE X (.BoolOp .And (a::b::rest) pos) (tE C own .sh (QA fa fb)):=by
 refine jn (qbW ha hb) fun σ H Q ⟨F,ρ,rp,h⟩=>⟨F,ρ,rp,Po.bind h fun v F1 H1 d ρ1 rp1 c1 mo1 h1=>?_⟩
 cases d with
 | bl k=>
  have mo1:Is C.K F1 v (.bl k):=mo1
  cases mo1
  refine ⟨k,rfl,?_⟩
  cases k with
  | true=>exact ⟨F1,ρ1,rp1,h1⟩
  | false=>exact h1 _ F1 H1 rp1 .refl (.bl _)
 | _=>exact h1.elim
noncomputable def dIf (ft:Sl->Out (Bool×Sl)) (fa fb:Sl->Out (D×Sl)):Sl->Out (D×Sl):=fun ρ=>(ft ρ).bind fun p=>if p.1=true then fa p.2 else fb p.2
theorem Zq {t:Expr} (ht:PT X t (tT C own ft)) (ha:PE X a (tE C own ma fa)) (hb:PE X b (tE C own mb fb)) (h1:ma≠.any:=by decide) (h2:mb≠.any:=by decide):PE X (.IfExp t a b pos) (tE C own .sh (dIf ft fa fb)):=by
 refine jn (XS ht (vd ha h1) (vd hb h2)) fun σ H Q ⟨F,ρ,rp,h⟩=>⟨F,ρ,rp,Po.bindT h fun F1 H1 k ρ1 rp1 c1 h1=>?_⟩
 cases k with
 | true=>exact ⟨F1,ρ1,rp1,h1⟩
 | false=>exact ⟨F1,ρ1,rp1,h1⟩
noncomputable def uB (g g':D->D->Out D) (fa fb fc:Sl->Out (D×Sl)):Sl->Out (D×Sl):=fun ρ=>(fa ρ).bind fun p=>(fb p.2).bind fun q=>(g p.1 q.1).plain.bind fun z=>match z with
 | .bl true=>(fc q.2).bind fun r=>(g' q.1 r.1).plain.bind fun d=>.ok (d,r.2)
 | .bl false=>.ok (.bl false,q.2)
 | _=>.bad
theorem PoV.bind {σ:St} {F H:Hp} {o:Out D} {k:D->Out (D×Sl)} {Q R:VK} {ρ:Sl} (rp:Rep C.K own F H σ ρ) (h:Po C own m σ F H (o.plain.bind k) Q)
  (hk:∀ v F1 H1 d,Rep C.K own F1 H1 σ ρ->Chg No F H F1 H1->MoIs C.K ma H F1 H1 v d->Po C own m σ F1 H1 (k d) Q->R v H1):PoV C ma F H o R:=by
 cases o with
 | ok d=>exact fun v F1 H1 s c mo=>hk v F1 H1 d (rp.grow c s) c mo (Po.shift (show Po C own m σ F H (k d) Q from h) c.ofNo)
 | exc c=>exact h.elim
 | bad=>exact h.elim
theorem Vp {g g':D->D->Out D} {σ:St} {H:Hp} {Q:VK} (hma:ma≠.any) (hmb:mb≠.any) (h:tE C own .sh (uB g g' fa fb fc) σ H Q) :
  Uh (fun x y H Q=>∃ F dx dy,Same F H/\TopIs C.K F H x dx/\TopIs C.K F H y dy/\PoV C .sh F H (g dx dy) Q) (fun x y H Q=>∃ F dx dy,Same F H/\TopIs C.K F H x dx/\TopIs C.K F H y dy/\PoV C .sh F H (g' dx dy) Q)
   (tE C own ma fa) (tE C own mb fb) (tE C own mc fc) σ H Q:=by
 obtain ⟨F,ρ,rp,h⟩:=h
 refine ⟨F,ρ,rp,Po.bind h fun v F1 H1 d ρ1 rp1 c1 mo1 h1=>⟨F1,ρ1,rp1,Po.bind h1 fun w F2 H2 e ρ2 rp2 c2 mo2 h2=>?_⟩⟩
 have oa:∀ x,OA own σ x->H x≠none:=fun x z=>(rp.OA_there z).1
 have oa1:∀ x,OA own σ x->H1 x≠none:=fun x z=>(rp1.OA_there z).1
 refine ⟨F2,d,e,rp2.sub,(mo1.grow hma c2 oa).top,mo2.top,PoV.bind (m:=.sh) rp2 h2 fun z F3 H3 dz rp3 c3 mo3 h3=>?_⟩
 cases dz with
 | bl k=>
  have mo3:Is C.K F3 z (.bl k):=mo3
  cases mo3
  refine ⟨k,rfl,?_⟩
  cases k with
  | true=>
   refine ⟨F3,ρ2,rp3,Po.bind h3 fun w' F4 H4 r ρ4 rp4 c4 mo4 h4=>?_⟩
   exact ⟨F4,e,r,rp4.sub,((mo2.grow hmb (c3.ofNo) oa1).grow hmb c4 oa1).top,mo4.top,PoV.of rp4 h4⟩
  | false=>exact h3 _ F3 H3 rp3 .refl (.bl _)
 | _=>exact h3.elim
theorem Vq {op op':CmpOp} {g g':D->D->Out D} (ho:OpD X C .sh (compareOp op) g) (ho':OpD X C .sh (compareOp op') g') (ha:PE X a (tE C own ma fa)) (hb:PE X b (tE C own mb fb)) (hc:PE X c (tE C own mc fc)) (hma:ma≠.any:=by decide) (hmb:mb≠.any:=by decide)
  (hm:lastMarks [op,op'] [b,c]=false:=by with_unfolding_all rfl):PE X (.Compare a [op,op'] [b,c] pos) (tE C own .sh (uB g g' fa fb fc)):=jn (XX ho ho' ha hb hc hm) fun _ _ _ h=>Vp hma hmb h
theorem QC {op op':CmpOp} {g g':D->D->Out D} (ho:OpD X C .sh (compareOp op) g) (ho':OpD X C .sh (compareOp op') g') (ha:PE X a (tE C own ma fa)) (hb:PE X b (tE C own mb fb)) (hc:PE X c (tE C own mc fc)) (hma:ma≠.any:=by decide) (hmb:mb≠.any:=by decide)
  (hm:lastMarks [op,op'] [b,c]=false:=by with_unfolding_all rfl):PT X (.Compare a [op,op'] [b,c] pos) (tT C own (jG (uB g g' fa fb fc))):=Zl (XY ho ho' ha hb hc hm) fun _ _ _ h=>Vp hma hmb (UL h)
theorem UM:OpR X (compareOp .LtE) (fun x y H Q=>∃ i j,x=.str i/\y=.str j/\Q (.bl (!kR j i)) H):=by
 intro pins s σ H x y v u Q I rx ry h
 obtain ⟨i,j,rfl,rfl,q⟩:=h
 obtain ⟨t,rfl⟩:=rx
 obtain ⟨t',rfl⟩:=ry
 exact PySem.P.le_str (Uf I q (by simp [kR]))
noncomputable def leD:D->D->Out D
 | .int i,.int j=>.ok (.bl (decide (i<=j)))
 | .str x,.str y=>.ok (.bl (!kR y x))
 | _,_=>.bad
theorem QD:OpD X C .sh (compareOp .LtE) leD:=by
 intro pins s σ H x y v u Q I rx ry h
 obtain ⟨F,dx,dy,sb,tx,ty,po⟩:=h
 cases dx <;> try exact po.elim
 ·cases dy <;> try exact po.elim
  obtain rfl:=tx.int
  obtain rfl:=ty.int
  exact qdP pins s σ H _ _ v u Q I rx ry ⟨_,_,rfl,rfl,po _ F H sb .refl (.bl _)⟩
 ·cases dy <;> try exact po.elim
  obtain ⟨rfl,_⟩:=tx.str
  obtain ⟨rfl,_⟩:=ty.str
  exact UM pins s σ H _ _ v u Q I rx ry ⟨_,_,rfl,rfl,po _ F H sb .refl (.bl _)⟩
noncomputable def geD:D->D->Out D:=Qj fun i j=>.ok (.bl (decide (j<=i)))
theorem qaO:OpD X C .sh (compareOp .GtE) geD:=UC qdQ fun _ _ _=>.bl _
noncomputable def qdn:D->D->Out D
 | .non,.non=>.ok (.bl true)
 | .raw _,.non=>.bad
 | _,.non=>.ok (.bl false)
 | _,_=>.bad
theorem TopIs.notN {K:Frag} {F H:Hp} {v:V} {d:D} (h:TopIs K F H v d) (h1:d≠.non) (h2:∀ u,d≠.raw u):v≠.non:=by
 rintro rfl
 rcases h with h | ⟨a,e,_⟩
 ·cases h
  ·exact h1 rfl
  ·exact h2 _ rfl
 ·cases e
theorem qcm:OpD X C .sh (compareOp .Is) qdn:=by
 intro pins s σ H x y v u Q I rx ry h
 obtain ⟨F,dx,dy,sb,tx,ty,po⟩:=h
 have hy:dy=.non:=by cases dy <;> first | rfl | (cases dx <;> exact po.elim)
 subst hy
 obtain rfl:=ty.non
 refine qb5 pins s σ H x .non v u Q I rx ry ⟨rfl,?_⟩
 cases dx with
 | non=>obtain rfl:=tx.non; exact po _ F H sb .refl (.bl _)
 | raw _=>exact po.elim
 | _=>rw [decide_eq_false (tx.notN (by intro z; cases z) (by intro _ z; cases z))]; exact po _ F H sb .refl (.bl _)
end
inductive Fl where
 | nx | rt (d:D) | bk | ct
structure Nx (C:Ct) (own own':List Nat) (σ:St) (F H:Hp) (ρ':Sl) (σ':St) (F' H':Hp):Prop where
 rep:Rep C.K own' F' H' σ' ρ'
 chg:Chg (OA own σ) F H F' H'
 oa:∀ b,OA own' σ' b->OA own σ b\/H b=none
 io:∀ i∈C.io,σ'[i]?=σ[i]?
def PoS (C:Ct) (own own':List Nat) (σ:St) (F H:Hp) (r:Out (Fl×Sl)) (D:Ends):Prop:=match r with
 | .ok (.nx,ρ')=>∀ σ' F' H',Nx C own own' σ F H ρ' σ' F' H'->D.nx σ' H'
 | .ok (.rt d,ρ')=>∀ v σ' F' H',Same F' H'->Uz C.K C.io F' H' σ' ρ'->Chg (OA own σ) F H F' H'->(∀ i∈C.io,σ'[i]?=σ[i]?)->MoIs C.K C.mr H F' H' v d->D.rt v H'
 | .ok (.bk,ρ')=>∀ σ' F' H',Nx C own C.ol σ F H ρ' σ' F' H'->D.bk σ' H'
 | .ok (.ct,ρ')=>∀ σ' F' H',Nx C own C.ol σ F H ρ' σ' F' H'->D.ct σ' H'
 | .exc c ρ'=>∀ F' H',Same F' H'->Uz C.K C.ox F' H' σ ρ'->Chg (OA own σ) F H F' H'->C.E (C.cv c) none H'
 | .bad=>False
def tSt (C:Ct) (own own':List Nat) (f:Sl->Out (Fl×Sl)):TS:=fun D σ H=>∃ F ρ,Rep C.K own F H σ ρ/\PoS C own own' σ F H (f ρ) D
theorem Nx.then {C:Ct} {o1 o2 o3:List Nat} {σ σ1 σ2:St} {F H F1 H1 F2 H2:Hp} {ρ1 ρ2:Sl} (a:Nx C o1 o2 σ F H ρ1 σ1 F1 H1) (b:Nx C o2 o3 σ1 F1 H1 ρ2 σ2 F2 H2):Nx C o1 o3 σ F H ρ2 σ2 F2 H2 where
 rep:=b.rep
 chg:=a.chg.trans b.chg a.oa
 oa:=fun x h=>by
  rcases b.oa x h with z | z
  ·exact a.oa x z
  ·refine .inr ?_
   cases q:H x with
   | none=>rfl
   | some o=>exact absurd z (a.chg.stay x (by rw [q]; simp))
 io:=fun i hi=>(b.io i hi).trans (a.io i hi)
theorem PoS.shift {C:Ct} {o1 o2 o3:List Nat} {σ σ1:St} {F H F1 H1:Hp} {ρ1:Sl} {r:Out (Fl×Sl)} {D:Ends} (h:PoS C o1 o3 σ F H r D) (a:Nx C o1 o2 σ F H ρ1 σ1 F1 H1):PoS C o2 o3 σ1 F1 H1 r D:=by
 cases r with
 | ok p=>
  obtain ⟨fl,ρ'⟩:=p
  cases fl with
  | nx=>exact fun σ' F' H' n=>h σ' F' H' (a.then n)
  | rt d=>exact fun v σ' F' H' s io c e mo=>h v σ' F' H' s io (a.chg.trans c a.oa) (fun i hi=>(e i hi).trans (a.io i hi)) (MoIs.back (Ha:=H1) a.chg mo)
  | bk=>exact fun σ' F' H' n=>h σ' F' H' (a.then n)
  | ct=>exact fun σ' F' H' n=>h σ' F' H' (a.then n)
 | exc c=>exact fun F' H' s io c'=>h F' H' s (fun i hi=>by
   obtain ⟨d,b,e1,e2,e3⟩:=io i hi
   exact ⟨d,b,e1,by rw [<-a.io i (C.oxs i hi)]; exact e2,e3⟩) (a.chg.trans c' a.oa)
 | bad=>exact h.elim
theorem Nx.ofE {C:Ct} {own:List Nat} {σ:St} {F H F1 H1:Hp} {ρ1:Sl} (r:Rep C.K own F1 H1 σ ρ1) (c:Chg (OA own σ) F H F1 H1):Nx C own own σ F H ρ1 σ F1 H1:=⟨r,c,fun _ h=>.inl h,fun _ _=>rfl⟩
theorem PoS.bindE {C:Ct} {own own':List Nat} {m:Mo} {σ:St} {F H:Hp} {o:Out (D×Sl)} {k:D×Sl->Out (Fl×Sl)} {D:Ends} {R:VK} (hp:PoS C own own' σ F H (o.bind k) D)
  (h:∀ v F1 H1 d ρ1,Rep C.K own F1 H1 σ ρ1->Chg (OA own σ) F H F1 H1->MoIs C.K m H F1 H1 v d->PoS C own own' σ F1 H1 (k (d,ρ1)) D->R v H1):Po C own m σ F H o R:=by
 cases o with
 | ok p=>
  obtain ⟨d,ρ1⟩:=p
  exact fun v F1 H1 rp c mo=>h v F1 H1 d ρ1 rp c mo (PoS.shift (show PoS C own own' σ F H (k (d,ρ1)) D from hp) (.ofE rp c))
 | exc x=>exact hp
 | bad=>exact hp.elim
theorem PoS.bindT {C:Ct} {own own':List Nat} {σ:St} {F H:Hp} {o:Out (Bool×Sl)} {k:Bool×Sl->Out (Fl×Sl)} {D:Ends} {R:Bool->Hp->Prop} (hp:PoS C own own' σ F H (o.bind k) D)
  (h:∀ F1 H1 b ρ1,Rep C.K own F1 H1 σ ρ1->Chg (OA own σ) F H F1 H1->PoS C own own' σ F1 H1 (k (b,ρ1)) D->R b H1):PoT C own σ F H o R:=by
 cases o with
 | ok p=>
  obtain ⟨d,ρ1⟩:=p
  exact fun F1 H1 rp c=>h F1 H1 d ρ1 rp c (PoS.shift (show PoS C own own' σ F H (k (d,ρ1)) D from hp) (.ofE rp c))
 | exc x=>exact hp
 | bad=>exact hp.elim
section
variable {X:Cx} {C:Ct} {own own' o1 o2 o3:List Nat} {e:Expr} {st:Stmt} {sts rest:List Stmt} {f g:Sl->Out (Fl×Sl)} {fe:Sl->Out (D×Sl)} {ft:Sl->Out (Bool×Sl)} {m:Mo} {pos:Pos}
theorem gk {t t':TS} (h:PS X st t) (i:∀ D σ H,t' D σ H->t D σ H):PS X st t':=⟨fun pins s σ H D I hw=>h pins s σ H D I (i D σ H hw)⟩
theorem QE {t t':TS} (h:PSs X sts t) (i:∀ D σ H,t' D σ H->t D σ H):PSs X sts t':=⟨fun pins s σ H D I hw=>h pins s σ H D I (i D σ H hw)⟩
noncomputable def kl:Sl->Out (Fl×Sl):=fun ρ=>.ok (.nx,ρ)
noncomputable def jx (f g:Sl->Out (Fl×Sl)):Sl->Out (Fl×Sl):=fun ρ=>(f ρ).bind fun p=>match p.1 with
 | .nx=>g p.2
 | fl=>.ok (fl,p.2)
theorem Nx.refl {σ:St} {F H:Hp} {ρ:Sl} (r:Rep C.K own F H σ ρ):Nx C own own σ F H ρ σ F H:=.ofE r .refl
theorem qV:PSs X [] (tSt C own own kl):=QE WZ fun D σ H ⟨F,ρ,rp,h⟩=>h σ F H (.refl rp)
theorem GQ {D:Ends} {σ:St} {H:Hp} (h:tSt C o1 o3 (jx f g) D σ H):tSt C o1 o2 f { D with nx:=tSt C o2 o3 g D } σ H:=by
 obtain ⟨F,ρ,rp,h⟩:=h
 refine ⟨F,ρ,rp,?_⟩
 unfold jx at h
 cases q:f ρ with
 | ok p=>
  rw [q] at h
  obtain ⟨fl,ρ1⟩:=p
  cases fl with
  | nx=>exact fun σ' F' H' n=>⟨F',ρ1,n.rep,PoS.shift (show PoS C o1 o3 σ F H (g ρ1) D from h) n⟩
  | rt d=>exact h
  | bk=>exact h
  | ct=>exact h
 | exc c=>rw [q] at h; exact h
 | bad=>rw [q] at h; exact h.elim
theorem qr (h1:PS X st (tSt C o1 o2 f)) (h2:PSs X rest (tSt C o2 o3 g)):PSs X (st::rest) (tSt C o1 o3 (jx f g)):=QE (wC h1 h2) fun D σ H h=>GQ h
theorem qp (h1:PS X st (tSt C o1 o2 f)):PSs X [st] (tSt C o1 o2 f):=JI h1
theorem Rep.weak {K:Frag} {F H:Hp} {σ:St} {ρ:Sl}:∀ (drop:List Nat) {own own':List Nat},(∀ i,i∈own'↔i∈own/\i∉drop)->Rep K own F H σ ρ->∃ F',Rep K own' F' H σ ρ/\Chg (OA own σ) F H F' H
 | [],own,own',hs,rp=>⟨F,⟨rp.sub,rp.len,fun i d hi=>rp.val i d fun z=>hi ((hs i).mpr ⟨z,by simp⟩),fun i d hi=>rp.ow i d ((hs i).mp hi).1,fun i hi=>rp.opn i ((hs i).mp hi).1,fun i j a hi hj=>rp.dis i j a ((hs i).mp hi).1 ((hs j).mp hj).1⟩,.refl⟩
 | k::r,own,own',hs,rp=>by
  obtain ⟨F1,rp1,c1⟩:=Rep.weak r (own:=own) (own':=own.filter fun i=>decide (i∉r)) (fun i=>by simp) rp
  by_cases hk:k∈own/\k∉r
  ·obtain ⟨d,hd⟩:=rp1.opn k (by simp [hk.1,hk.2])
   obtain ⟨a,h1,h2,h3⟩:=rp1.ow k d (by simp [hk.1,hk.2]) hd
   obtain ⟨u,hu⟩:∃ u,H a=some u:=by
    cases q:H a with
    | none=>exact absurd q h3.there
    | some u=>exact ⟨u,rfl⟩
   have gr:Same F1 (upd F1 a u):=fun b w e=>by rw [qo (qx e h2)]; exact e
   refine ⟨upd F1 a u,⟨fun b w e=>?_,rp1.len,fun i d' hi e=>?_,fun i d' hi e=>?_,fun i hi=>?_,fun i j b hi hj=>?_⟩,?_⟩
   ·by_cases q:b=a
    ·subst q; rw [qm] at e; cases e; exact hu
    ·rw [qo q] at e; exact rp1.sub b w e
   ·by_cases q:i=k
    ·subst q
     rw [hd] at e; cases e
     refine ⟨_,h1,?_⟩
     cases d with
     | lst ds=>obtain ⟨xs,e,t⟩:=h3; rw [hu] at e; cases e; exact .lst (.inl (.inl qm)) (t.mono gr)
     | dct ds=>obtain ⟨xs,e,t⟩:=h3; rw [hu] at e; cases e; exact .dct qm (t.mono gr)
     | ins C fs=>obtain ⟨dx,xs,e,t⟩:=h3; rw [hu] at e; cases e; exact .ins qm (t.mono gr)
     | at_ b ds=>obtain ⟨eb,xs,e,t⟩:=h3; rw [hu] at e; cases e; subst eb; exact .at_ (.inl (.inl qm)) (t.mono gr)
     | _=>exact h3.elim
    ·obtain ⟨v,q1,q2⟩:=rp1.val i d' (fun z=>by simp at z; exact hi ((hs i).mpr ⟨z.1,by simp [q,z.2]⟩)) e
     exact ⟨v,q1,q2.mono gr⟩
   ·have hi':=(hs i).mp hi
    have hik:i≠k:=fun z=>hi'.2 (by simp [z])
    have hir:i∉r:=fun z=>hi'.2 (by simp [z])
    obtain ⟨b,q1,q2,q3⟩:=rp1.ow i d' (by simp [hi'.1,hir]) e
    refine ⟨b,q1,?_,q3.grow gr fun _ z=>z⟩
    have nb:b≠a:=fun z=>by subst z; exact hik (rp1.dis i k b (by simp [hi'.1,hir]) (by simp [hk.1,hk.2]) q1 h1)
    rw [qo nb]; exact q2
   ·have hi':=(hs i).mp hi
    exact rp1.opn i (by simp [hi'.1]; exact fun z=>hi'.2 (by simp [z]))
   ·have hi':=(hs i).mp hi
    have hj':=(hs j).mp hj
    exact rp1.dis i j b (by simp [hi'.1]; exact fun z=>hi'.2 (by simp [z])) (by simp [hj'.1]; exact fun z=>hj'.2 (by simp [z]))
   ·refine ⟨c1.keep,c1.stay,c1.grow.trans gr,fun b hb=>?_⟩
    by_cases q:b=a
    ·exact .inr (.inr ⟨k,hk.1,by rw [q]; exact h1⟩)
    ·rw [qo q] at hb; exact c1.new b hb
  ·refine ⟨F1,⟨rp1.sub,rp1.len,fun i d hi=>rp1.val i d fun z=>?_,fun i d hi=>rp1.ow i d ?_,fun i hi=>rp1.opn i ?_,fun i j a hi hj=>rp1.dis i j a ?_ ?_⟩,c1⟩
   ·simp at z
    refine hi ((hs i).mpr ⟨z.1,?_⟩)
    simp only [List.mem_cons,not_or]
    exact ⟨fun q=>hk (by subst q; exact z),z.2⟩
   all_goals
    first
     | (have q:=(hs _).mp hi; simp only [List.mem_filter,decide_eq_true_eq]; exact ⟨q.1,fun z=>q.2 (by simp [z])⟩)
     | (have q:=(hs _).mp hj; simp only [List.mem_filter,decide_eq_true_eq]; exact ⟨q.1,fun z=>q.2 (by simp [z])⟩)
theorem OA.sub {σ:St} (h:∀ i∈own',i∈own) {b:Addr} (q:OA own' σ b):OA own σ b:=let ⟨i,hi,e⟩:=q; ⟨i,h i hi,e⟩
theorem Nx.drop {σ:St} {F H:Hp} {ρ:Sl} (drop:List Nat) (hs:∀ i,i∈own'↔i∈own/\i∉drop) (rp:Rep C.K own F H σ ρ):∃ F',Nx C own own' σ F H ρ σ F' H:=by
 obtain ⟨F',rp',c⟩:=Rep.weak drop hs rp
 exact ⟨F',rp',c,fun b q=>.inl (OA.sub (fun i hi=>((hs i).mp hi).1) q),fun _ _=>rfl⟩
noncomputable def vX (own drop:List Nat):List Nat:=own.filter fun i=>decide (i∉drop)
theorem qO {own drop:List Nat} (i:Nat):i∈vX own drop↔i∈own/\i∉drop:=by simp [vX]
theorem gl (drop:List Nat) (h:PSs X sts (tSt C (vX own drop) o2 f)):PSs X sts (tSt C own o2 f):=QE h fun D σ H ⟨F,ρ,rp,h⟩=>by
 obtain ⟨F',n⟩:=Nx.drop (C:=C) drop (fun i=>qO (own:=own) i) rp
 exact ⟨F',ρ,n.rep,h.shift n⟩
noncomputable def sIf (ft:Sl->Out (Bool×Sl)) (f g:Sl->Out (Fl×Sl)):Sl->Out (Fl×Sl):=fun ρ=>(ft ρ).bind fun p=>if p.1=true then f p.2 else g p.2
theorem jA {c:Expr} {a b:List Stmt} (hc:PT X c (tT C own ft)) (ha:PSs X a (tSt C own own' f)) (hb:PSs X b (tSt C own own' g)):PS X (.If c a b pos) (tSt C own own' (sIf ft f g)):=by
 refine gk (qdG hc ha hb) fun D σ H ⟨F,ρ,rp,h⟩=>⟨F,ρ,rp,PoS.bindT h fun F1 H1 k ρ1 rp1 c1 h1=>?_⟩
 cases k with
 | true=>exact ⟨F1,ρ1,rp1,h1⟩
 | false=>exact ⟨F1,ρ1,rp1,h1⟩
noncomputable def uC (fe:Sl->Out (D×Sl)):Sl->Out (Fl×Sl):=fun ρ=>(fe ρ).bind fun p=>.ok (.nx,p.2)
theorem jX (he:PE X e (tE C own m fe)) (hs:swapsWith e none pos.line X.env=pure false:=by rfl):PS X (.Expr e pos) (tSt C own own (uC fe)):=by
 refine gk (qax he hs) fun D σ H ⟨F,ρ,rp,h⟩=>⟨F,ρ,rp,PoS.bindE h fun v F1 H1 d ρ1 rp1 c1 mo1 h1=>h1 σ F1 H1 (.refl rp1)⟩
noncomputable def kx (fe:Sl->Out (D×Sl)):Sl->Out (Fl×Sl):=fun ρ=>(fe ρ).bind fun p=>.ok (.rt p.1,p.2)
theorem UN (he:PE X e (tE C own C.mr fe)) (hio:∀ i∈C.io,i∈own:=by exact vS rfl):PS X (.Return (some e) pos) (tSt C own own' (kx fe)):=by
 refine gk (qbX he) fun D σ H ⟨F,ρ,rp,h⟩=>⟨F,ρ,rp,?_⟩
 unfold kx at h
 cases q:fe ρ with
 | ok p=>
  rw [q] at h
  obtain ⟨d,ρ1⟩:=p
  exact fun v F1 H1 rp1 c1 mo1=>h v σ F1 H1 rp1.sub (rp1.ioIs hio) c1 (fun _ _=>rfl) mo1
 | exc c=>rw [q] at h; exact h
 | bad=>rw [q] at h; exact h.elim
theorem qu (he:PE X e (tE C own m fe)) (hm:m≠.any:=by decide) (hr:C.mr=.sh:=by rfl) (hio:∀ i∈C.io,i∈own:=by exact vS rfl):PS X (.Return (some e) pos) (tSt C own own' (kx fe)):=UN (by rw [hr]; exact vd he hm) hio
theorem Rep.put {K:Frag} {F H:Hp} {σ:St} {ρ:Sl} {i:Nat} {v:V} {d:D} (rp:Rep K own F H σ ρ) (hi:i < ρ.length) (is:Is K F v d):Rep K (vX own [i]) F H (σ.set i (some v)) (ρ.set i (some d)) where
 sub:=rp.sub
 len:=by simp [rp.len]
 val:=fun j d' hj e=>by
  by_cases q:j=i
  ·subst q
   rw [List.getElem?_set_self hi] at e
   cases e
   exact ⟨v,List.getElem?_set_self (by rw [rp.len]; exact hi),is⟩
  ·rw [List.getElem?_set_ne (Ne.symm q)] at e
   obtain ⟨w,h1,h2⟩:=rp.val j d' (fun z=>hj ((qO j).mpr ⟨z,by simp [q]⟩)) e
   exact ⟨w,by rw [List.getElem?_set_ne (Ne.symm q)]; exact h1,h2⟩
 ow:=fun j d' hj e=>by
  have hj':=(qO j).mp hj
  have q:j≠i:=fun z=>hj'.2 (by simp [z])
  rw [List.getElem?_set_ne (Ne.symm q)] at e
  obtain ⟨a,h1,h2⟩:=rp.ow j d' hj'.1 e
  exact ⟨a,by rw [List.getElem?_set_ne (Ne.symm q)]; exact h1,h2⟩
 opn:=fun j hj=>by
  have hj':=(qO j).mp hj
  have q:j≠i:=fun z=>hj'.2 (by simp [z])
  obtain ⟨d',e⟩:=rp.opn j hj'.1
  exact ⟨d',by rw [List.getElem?_set_ne (Ne.symm q)]; exact e⟩
 dis:=fun j k a hj hk e1 e2=>by
  have hj':=(qO j).mp hj
  have hk':=(qO k).mp hk
  rw [List.getElem?_set_ne (fun z=>hj'.2 (by simp [z]))] at e1
  rw [List.getElem?_set_ne (fun z=>hk'.2 (by simp [z]))] at e2
  exact rp.dis j k a hj'.1 hk'.1 e1 e2
theorem OA.put {σ:St} {i:Nat} {v:V} {b:Addr} (h:OA (vX own [i]) (σ.set i (some v)) b):OA own σ b:=by
 obtain ⟨j,hj,e⟩:=h
 have hj':=(qO j).mp hj
 rw [List.getElem?_set_ne (fun z=>hj'.2 (by simp [z]))] at e
 exact ⟨j,hj'.1,e⟩
noncomputable def wI (i:Nat) (fe:Sl->Out (D×Sl)):Sl->Out (Fl×Sl):=fun ρ=>(fe ρ).bind fun p=>if i < p.2.length then .ok (.nx,p.2.set i (some p.1)) else .bad
theorem jc {i:Nat} {x:Str} {pos':Pos} (hN:X.N.Nodup) (hi:X.N[i]?=some x) (hx:Loc X.env.scope x) (he:PE X e (tE C own m fe)) (hm:m≠.any:=by decide) (hio:i∉C.io:=by exact zH rfl) (hs:swapsWith e (some (.Name x pos')) pos.line X.env=pure false:=by rfl)
  (hf:X.fn x=true\/X.env.scope.names.lookup x=some .local:=by first | exact .inl rfl | exact .inr rfl):PS X (.Assign [.Name x pos'] e pos) (tSt C own (vX own [i]) (wI i fe)):=by
 refine gk (Ub hN hi hx (vd he hm) hs hf) fun D σ H ⟨F,ρ,rp,h⟩=>⟨F,ρ,rp,PoS.bindE h fun v F1 H1 d ρ1 rp1 c1 mo1 h1=>?_⟩
 by_cases q:i < ρ1.length
 ·have h1:PoS C own (vX own [i]) σ F1 H1 (if i < ρ1.length then .ok (.nx,ρ1.set i (some d)) else .bad) D:=h1
  rw [if_pos q] at h1
  exact h1 _ F1 H1 ⟨rp1.put q mo1,.refl,fun b z=>.inl (OA.put z),fun j hj=>List.getElem?_set_ne fun z=>hio (by rw [z]; exact hj)⟩
 ·have h1:PoS C own (vX own [i]) σ F1 H1 (if i < ρ1.length then .ok (.nx,ρ1.set i (some d)) else .bad) D:=h1
  rw [if_neg q] at h1
  exact h1.elim
theorem Rep.putO {K:Frag} {F H:Hp} {σ:St} {ρ:Sl} {i:Nat} {a:Addr} {d:D} (rp:Rep K own F H σ ρ) (hi:i < ρ.length) (hF:F a=none) (nA:¬OA own σ a) (o:OwnIs K F H a d):Rep K (i::vX own [i]) F H (σ.set i (some (.ref a))) (ρ.set i (some d)) where
 sub:=rp.sub
 len:=by simp [rp.len]
 val:=fun j d' hj e=>by
  have q:j≠i:=fun z=>hj (by simp [z])
  rw [List.getElem?_set_ne (Ne.symm q)] at e
  obtain ⟨w,h1,h2⟩:=rp.val j d' (fun z=>hj (List.mem_cons_of_mem _ ((qO j).mpr ⟨z,by simp [q]⟩))) e
  exact ⟨w,by rw [List.getElem?_set_ne (Ne.symm q)]; exact h1,h2⟩
 ow:=fun j d' hj e=>by
  by_cases q:j=i
  ·subst q
   rw [List.getElem?_set_self hi] at e
   cases e
   exact ⟨a,List.getElem?_set_self (by rw [rp.len]; exact hi),hF,o⟩
  ·have hj':=(qO j).mp ((List.mem_cons.mp hj).resolve_left q)
   rw [List.getElem?_set_ne (Ne.symm q)] at e
   obtain ⟨b,h1,h2⟩:=rp.ow j d' hj'.1 e
   exact ⟨b,by rw [List.getElem?_set_ne (Ne.symm q)]; exact h1,h2⟩
 opn:=fun j hj=>by
  by_cases q:j=i
  ·subst q; exact ⟨d,List.getElem?_set_self hi⟩
  ·have hj':=(qO j).mp ((List.mem_cons.mp hj).resolve_left q)
   obtain ⟨d',e⟩:=rp.opn j hj'.1
   exact ⟨d',by rw [List.getElem?_set_ne (Ne.symm q)]; exact e⟩
 dis:=fun j k b hj hk e1 e2=>by
  have iσ:i < σ.length:=by rw [rp.len]; exact hi
  by_cases qj:j=i
  ·by_cases qk:k=i
   ·rw [qj,qk]
   ·subst qj
    have hk':=(qO k).mp ((List.mem_cons.mp hk).resolve_left qk)
    rw [List.getElem?_set_self iσ] at e1
    cases e1
    rw [List.getElem?_set_ne (Ne.symm qk)] at e2
    exact absurd ⟨k,hk'.1,e2⟩ nA
  ·have hj':=(qO j).mp ((List.mem_cons.mp hj).resolve_left qj)
   by_cases qk:k=i
   ·subst qk
    rw [List.getElem?_set_self iσ] at e2
    cases e2
    rw [List.getElem?_set_ne (Ne.symm qj)] at e1
    exact absurd ⟨j,hj'.1,e1⟩ nA
   ·have hk':=(qO k).mp ((List.mem_cons.mp hk).resolve_left qk)
    rw [List.getElem?_set_ne (Ne.symm qj)] at e1
    rw [List.getElem?_set_ne (Ne.symm qk)] at e2
    exact rp.dis j k b hj'.1 hk'.1 e1 e2
theorem yP {i:Nat} {x:Str} {pos':Pos} (hN:X.N.Nodup) (hi:X.N[i]?=some x) (hx:Loc X.env.scope x) (he:PE X e (tE C own .fr fe)) (hio:i∉C.io:=by exact zH rfl) (hs:swapsWith e (some (.Name x pos')) pos.line X.env=pure false:=by rfl)
  (hf:X.fn x=true\/X.env.scope.names.lookup x=some .local:=by first | exact .inl rfl | exact .inr rfl):PS X (.Assign [.Name x pos'] e pos) (tSt C own (i::vX own [i]) (wI i fe)):=by
 refine gk (Ub hN hi hx he hs hf) fun D σ H ⟨F,ρ,rp,h⟩=>⟨F,ρ,rp,?_⟩
 unfold wI at h
 cases q:fe ρ with
 | ok p=>
  rw [q] at h
  obtain ⟨d,ρ1⟩:=p
  intro v F1 H1 rp1 c1 mo1
  obtain ⟨a,rfl,h0,hF,o⟩:=mo1
  by_cases z:i < ρ1.length
  ·have h1:PoS C own (i::vX own [i]) σ F H (if i < ρ1.length then .ok (.nx,ρ1.set i (some d)) else .bad) D:=h
   rw [if_pos z] at h1
   refine h1 _ F1 H1 ⟨rp1.putO z hF (fun y=>(rp.OA_there y).1 h0) o,c1,fun b y=>?_,fun j hj=>List.getElem?_set_ne fun y=>hio (by rw [y]; exact hj)⟩
   obtain ⟨j,hj,e⟩:=y
   by_cases qj:j=i
   ·subst qj
    rw [List.getElem?_set_self (by rw [rp1.len]; exact z)] at e
    cases e
    exact .inr h0
   ·have hj':=(qO j).mp ((List.mem_cons.mp hj).resolve_left qj)
    rw [List.getElem?_set_ne (Ne.symm qj)] at e
    exact .inl ⟨j,hj'.1,e⟩
  ·have h1:PoS C own (i::vX own [i]) σ F H (if i < ρ1.length then .ok (.nx,ρ1.set i (some d)) else .bad) D:=h
   rw [if_neg z] at h1
   exact h1.elim
 | exc c=>rw [q] at h; exact h
 | bad=>rw [q] at h; exact h.elim
end
inductive AK where
 | vl | sl (i:Nat) | fr
 deriving DecidableEq
def ArgV (K:Frag) (H0 F H:Hp) (σ:St):List AK->List V->List D->Prop
 | [],[],[]=>True
 | .vl::as,v::vs,d::ds=>Is K F v d/\ArgV K H0 F H σ as vs ds
 | .sl i::as,v::vs,d::ds=>σ[i]?=some (some v)/\d=.non/\ArgV K H0 F H σ as vs ds
 | .fr::as,v::vs,d::ds=>MoIs K .fr H0 F H v d/\ArgV K H0 F H σ as vs ds
 | _,_,_=>False
theorem ArgV.grow {K:Frag} {A:Addr->Prop} {H0 F H F' H':Hp} {σ:St} (c:Chg A F H F' H') (hA:∀ x,A x->H0 x≠none):∀ {as:List AK} {vs:List V} {ds:List D},ArgV K H0 F H σ as vs ds->ArgV K H0 F' H' σ as vs ds
 | [],[],[],h=>trivial
 | .vl::as,v::vs,d::ds,h=>⟨h.1.mono c.grow,ArgV.grow c hA h.2⟩
 | .sl i::as,v::vs,d::ds,h=>⟨h.1,h.2.1,ArgV.grow c hA h.2.2⟩
 | .fr::as,v::vs,d::ds,h=>⟨h.1.grow (by decide) c hA,ArgV.grow c hA h.2⟩
 | [],_::_,_,h=>h.elim
 | [],[],_::_,h=>h.elim
 | .vl::_,[],_,h=>h.elim
 | .vl::_,_::_,[],h=>h.elim
 | .sl _::_,[],_,h=>h.elim
 | .sl _::_,_::_,[],h=>h.elim
 | .fr::_,[],_,h=>h.elim
 | .fr::_,_::_,[],h=>h.elim
theorem ArgV.back {K:Frag} {A:Addr->Prop} {H0 H1 F0 F1 F H:Hp} {σ:St} (c:Chg A F0 H0 F1 H1):∀ {as:List AK} {vs:List V} {ds:List D},ArgV K H1 F H σ as vs ds->ArgV K H0 F H σ as vs ds
 | [],[],[],h=>trivial
 | .vl::as,v::vs,d::ds,h=>⟨h.1,ArgV.back c h.2⟩
 | .sl i::as,v::vs,d::ds,h=>⟨h.1,h.2.1,ArgV.back c h.2.2⟩
 | .fr::as,v::vs,d::ds,h=>⟨MoIs.back (Ha:=H1) c h.1,ArgV.back c h.2⟩
 | [],_::_,_,h=>h.elim
 | [],[],_::_,h=>h.elim
 | .vl::_,[],_,h=>h.elim
 | .vl::_,_::_,[],h=>h.elim
 | .sl _::_,[],_,h=>h.elim
 | .sl _::_,_::_,[],h=>h.elim
 | .fr::_,[],_,h=>h.elim
 | .fr::_,_::_,[],h=>h.elim
def PoA (C:Ct) (own:List Nat) (as:List AK) (σ:St) (F H:Hp) (r:Out (List D×Sl)) (Q:List V->Hp->Prop):Prop:=match r with
 | .ok (ds,ρ')=>∀ vs F' H',Rep C.K own F' H' σ ρ'->Chg (OA own σ) F H F' H'->ArgV C.K H F' H' σ as vs ds->Q vs H'
 | .exc c ρ'=>∀ F' H',Same F' H'->Uz C.K C.ox F' H' σ ρ'->Chg (OA own σ) F H F' H'->C.E (C.cv c) none H'
 | .bad=>False
def tAr (C:Ct) (own:List Nat) (as:List AK) (f:Sl->Out (List D×Sl)):TA:=fun σ H Q=>∃ F ρ,Rep C.K own F H σ ρ/\PoA C own as σ F H (f ρ) Q
theorem PoA.bindV {C:Ct} {own:List Nat} {as:List AK} {ma:Mo} {σ:St} {F H:Hp} {o:Out (D×Sl)} {k:D×Sl->Out (List D×Sl)} {Q:List V->Hp->Prop} {R:VK} (hp:PoA C own as σ F H (o.bind k) Q)
  (h:∀ v F1 H1 d ρ1,Rep C.K own F1 H1 σ ρ1->Chg (OA own σ) F H F1 H1->MoIs C.K ma H F1 H1 v d->PoA C own as σ F H (k (d,ρ1)) Q->R v H1):Po C own ma σ F H o R:=by
 cases o with
 | ok p=>
  obtain ⟨d,ρ1⟩:=p
  exact fun v F1 H1 rp c mo=>h v F1 H1 d ρ1 rp c mo hp
 | exc x=>exact hp
 | bad=>exact hp.elim
theorem Po.bindA {C:Ct} {own:List Nat} {as:List AK} {m:Mo} {σ:St} {F H:Hp} {o:Out (List D×Sl)} {k:List D×Sl->Out (D×Sl)} {Q:VK} {R:List V->Hp->Prop} (hp:Po C own m σ F H (o.bind k) Q)
  (h:∀ vs F1 H1 ds ρ1,Rep C.K own F1 H1 σ ρ1->Chg (OA own σ) F H F1 H1->ArgV C.K H F1 H1 σ as vs ds->Po C own m σ F1 H1 (k (ds,ρ1)) Q->R vs H1):PoA C own as σ F H o R:=by
 cases o with
 | ok p=>
  obtain ⟨d,ρ1⟩:=p
  exact fun vs F1 H1 rp c av=>h vs F1 H1 d ρ1 rp c av (Po.shift (show Po C own m σ F H (k (d,ρ1)) Q from hp) c)
 | exc x=>exact hp
 | bad=>exact hp.elim
noncomputable def qJ:Sl->Out (List D×Sl):=fun ρ=>.ok ([],ρ)
noncomputable def qe (fe:Sl->Out (D×Sl)) (fr:Sl->Out (List D×Sl)):Sl->Out (List D×Sl):=fun ρ=>(fe ρ).bind fun p=>(fr p.2).bind fun q=>.ok (p.1::q.1,q.2)
noncomputable def vf (fr:Sl->Out (List D×Sl)):Sl->Out (List D×Sl):=fun ρ=>(fr ρ).bind fun q=>.ok (D.non::q.1,q.2)
section
variable {X:Cx} {C:Ct} {own:List Nat} {as:List AK} {e:Expr} {es:List Expr} {fe:Sl->Out (D×Sl)} {fr:Sl->Out (List D×Sl)} {m:Mo} {pos:Pos}
theorem qaP {t t':TA} (h:PA X es t) (i:∀ σ H Q,t' σ H Q->t σ H Q):PA X es t':=⟨fun pos pins s σ H Q I hw=>h pos pins s σ H Q I (i σ H Q hw)⟩
theorem ql:PA X [] (tAr C own [] qJ):=qaP jR fun σ H Q ⟨F,ρ,rp,h⟩=>h [] F H rp .refl trivial
theorem QF {σ:St} {F H F1 H1:Hp} {d:D} {ρ1:Sl} {a:AK} {Q:List V->Hp->Prop} {v:V} (rp:∀ x,OA own σ x->H x≠none) (rp1:Rep C.K own F1 H1 σ ρ1) (c1:Chg (OA own σ) F H F1 H1) (hp:PoA C own (a::as) σ F H ((fr ρ1).bind fun q=>.ok (d::q.1,q.2)) Q)
  (ha:∀ F2 H2 vs ds,Chg (OA own σ) F1 H1 F2 H2->ArgV C.K H F2 H2 σ as vs ds->ArgV C.K H F2 H2 σ (a::as) (v::vs) (d::ds)):tAr C own as fr σ H1 fun xs H2=>Q (v::xs) H2:=by
 refine ⟨F1,ρ1,rp1,?_⟩
 cases q:fr ρ1 with
 | ok p=>
  rw [q] at hp
  obtain ⟨ds,ρ2⟩:=p
  exact fun vs F2 H2 rp2 c2 av=>hp (v::vs) F2 H2 rp2 (c1.trans' c2) (ha F2 H2 vs ds c2 (ArgV.back c1 av))
 | exc c=>rw [q] at hp; exact fun F' H' s io c'=>hp F' H' s io (c1.trans' c')
 | bad=>rw [q] at hp; exact hp.elim
theorem qc (ha:PE X e (tE C own m fe)) (hr:PA X es (tAr C own as fr)) (hm:m≠.any:=by decide) (hs:starEach (e::es) X.env=(false,eval e X.env)::starEach es X.env:=by exact ji rfl):PA X (e::es) (tAr C own (.vl::as) (qe fe fr)):=by
 refine qaP (qS (vd ha hm) hr hs) fun σ H Q ⟨F,ρ,rp,h⟩=>⟨F,ρ,rp,PoA.bindV h fun v F1 H1 d ρ1 rp1 c1 mo1 h1=>?_⟩
 exact QF (fun x z=>(rp.OA_there z).1) rp1 c1 h1 fun F2 H2 vs ds c2 av=>⟨Is.mono c2.grow mo1,av⟩
theorem jd {i:Nat} {x:Str} {px:Pos} (hN:X.N[i]?=some x) (hv:Vis X.env.scope x) (ho:i∈own) (hr:PA X es (tAr C own as fr)) (hs:starEach (.Name x px::es) X.env=(false,eval (.Name x px) X.env)::starEach es X.env:=by rfl)
  (hd:(x == ("__debug__":Str))=false:=by decide) (hcd:(x == ("__classdict__":Str))=false:=by decide):PA X (.Name x px::es) (tAr C own (.sl i::as) (vf fr)):=by
 refine qaP (qS (vZ hN hv hd hcd) hr hs) fun σ H Q ⟨F,ρ,rp,h⟩=>?_
 obtain ⟨d,hd⟩:=rp.opn i ho
 obtain ⟨a,h1,h2,h3⟩:=rp.ow i d ho hd
 exact ⟨_,h1,QF (fun x z=>(rp.OA_there z).1) rp .refl h fun F2 H2 vs ds c2 av=>⟨h1,rfl,av⟩⟩
theorem ArgV.isL {K:Frag} {H0 F H:Hp} {σ:St}:∀ {as:List AK} {vs:List V} {ds:List D},(as.all fun a=>decide (a=.vl))=true->ArgV K H0 F H σ as vs ds->IsL K F vs ds
 | [],[],[],_,_=>.nil
 | .vl::as,v::vs,d::ds,h,a=>.cons a.1 (ArgV.isL (by simpa using h) a.2)
 | .sl i::as,_,_,h,a=>by simp at h
 | .fr::as,_,_,h,a=>by simp at h
 | [],_::_,_,_,h=>h.elim
 | [],[],_::_,_,h=>h.elim
 | .vl::_,[],_,_,h=>h.elim
 | .vl::_,_::_,[],_,h=>h.elim
noncomputable def yQ (fr:Sl->Out (List D×Sl)):Sl->Out (D×Sl):=fun ρ=>(fr ρ).bind fun p=>if p.1.length<=sizeLine then .ok (.tup p.1,p.2) else .bad
noncomputable def JD (fr:Sl->Out (List D×Sl)):Sl->Out (D×Sl):=fun ρ=>(fr ρ).bind fun p=>if p.1.length<=sizeLine then .ok (.lst p.1,p.2) else .bad
theorem qcn {σ:St} {F H:Hp} {ρ:Sl} {p:Addr} {u:HO} (rp:Rep C.K own F H σ ρ) (hp:H p=none):Rep C.K own (upd F p u) (upd H p u) σ ρ/\Chg No F H (upd F p u) (upd H p u):=by
 have hF:F p=none:=by
  cases q:F p with
  | none=>rfl
  | some o=>rw [rp.sub p o q] at hp; cases hp
 have c:Chg No F H (upd F p u) (upd H p u):=⟨fun b o e _=>by rw [qo (qx e hp)]; exact e,fun b e=>by
  by_cases q:b=p
  ·rw [q,qm]; simp
  ·rw [qo q]; exact e,fun b o e=>by rw [qo (qx e hF)]; exact e,fun b e=>by
  by_cases q:b=p
  ·exact .inr (.inl (by rw [q]; exact hp))
  ·rw [qo q] at e; exact .inl e⟩
 refine ⟨rp.grow c fun b o e=>?_,c⟩
 by_cases q:b=p
 ·subst q; rw [qm] at e ⊢; exact e
 ·rw [qo q] at e ⊢; exact rp.sub b o e
theorem GR {σ:St} {F H:Hp} {ρ:Sl} {p:Addr} {u:HO} (rp:Rep C.K own F H σ ρ) (hp:H p=none):Rep C.K own F (upd H p u) σ ρ/\Chg No F H F (upd H p u)/\F p=none:=by
 have hF:F p=none:=by
  cases q:F p with
  | none=>rfl
  | some o=>rw [rp.sub p o q] at hp; cases hp
 have c:Chg No F H F (upd H p u):=⟨fun b o e _=>by rw [qo (qx e hp)]; exact e,fun b e=>by
  by_cases q:b=p
  ·rw [q,qm]; simp
  ·rw [qo q]; exact e,Same.refl _,fun b e=>.inl e⟩
 exact ⟨rp.grow c fun b o e=>by rw [qo (qx e hF)]; exact rp.sub b o e,c,hF⟩
theorem kS {x1} (h:PA X es (tAr C own as fr)) (ha:(as.all fun a=>decide (a=.vl))=true:=by decide):PE X (.Tuple es x1 pos) (tE C own .sh (yQ fr)):=by
 refine jn (qb8 h) fun σ H Q ⟨F,ρ,rp,h⟩=>⟨F,ρ,rp,Po.bindA h fun vs F1 H1 ds ρ1 rp1 c1 av h1=>?_⟩
 have il:=av.isL ha
 have h1:Po C own .sh σ F1 H1 (if ds.length<=sizeLine then .ok (.tup ds,ρ1) else .bad) Q:=h1
 by_cases z:ds.length<=sizeLine
 ·rw [if_pos z] at h1
  refine ⟨by rw [il.length]; exact z,fun p hp=>?_⟩
  obtain ⟨rp2,c2⟩:=qcn (u:=.tup vs) rp1 hp
  exact h1 _ _ _ rp2 c2.ofNo (.tup (.inl (.inl qm)) (il.mono c2.grow))
 ·rw [if_neg z] at h1; exact h1.elim
theorem wX (h:PA X es (tAr C own as fr)) (ha:(as.all fun a=>decide (a=.vl))=true:=by decide):PE X (.List es pos) (tE C own .fr (JD fr)):=by
 refine jn (qb9 h) fun σ H Q ⟨F,ρ,rp,h⟩=>⟨F,ρ,rp,Po.bindA h fun vs F1 H1 ds ρ1 rp1 c1 av h1=>?_⟩
 have il:=av.isL ha
 have h1:Po C own .fr σ F1 H1 (if ds.length<=sizeLine then .ok (.lst ds,ρ1) else .bad) Q:=h1
 by_cases z:ds.length<=sizeLine
 ·rw [if_pos z] at h1
  refine ⟨by rw [il.length]; exact z,fun p hp=>?_⟩
  obtain ⟨rp2,c2,hF⟩:=GR (u:=.lst vs) rp1 hp
  exact h1 _ _ _ rp2 c2.ofNo ⟨p,rfl,hp,hF,vs,qm,il⟩
 ·rw [if_neg z] at h1; exact h1.elim
noncomputable def ixD:D->D->Out D
 | .lst xs,.int i=>match atI xs i with
  | some d=>.ok d
  | none=>.bad
 | .tup xs,.int i=>match atI xs i with
  | some d=>.ok d
  | none=>.bad
 | .str x,.int i=>match atI x.cps.toList i with
  | some c=>.ok (.str ⟨#[c]⟩)
  | none=>.bad
 | .dct kvs,.str x=>match (kvs.find? fun kv=>decide (kv.1=Sum.inr x)) with
  | some kv=>.ok kv.2
  | none=>.bad
 | .dct kvs,.int x=>match (kvs.find? fun kv=>decide (kv.1=Sum.inl x)) with
  | some kv=>.ok kv.2
  | none=>.bad
 | _,_=>.bad
theorem IsL.atI {K:Frag} {F:Hp} {vs:List V} {ds:List D} {i:Int} {d:D} (h:IsL K F vs ds) (e:L2.atI ds i=some d):∃ v,L2.atI vs i=some v/\Is K F v d:=by
 unfold L2.atI at e ⊢
 rw [h.length]
 cases q:ixN ds.length i with
 | none=>rw [q] at e; cases e
 | some j=>
  rw [q] at e
  exact h.getD e
theorem IsK.find {K:Frag} {F:Hp} {k:Key}:∀ {vs:List (Key×V)} {ds:List (Key×D)} {d:Key×D},IsK K F vs ds->(ds.find? fun kv=>decide (kv.1=k))=some d->∃ v,Vh vs k=some v/\Is K F v d.2
 | _,_,_,.nil,e=>by simp at e
 | _,_,d,.cons (k:=k') (vs:=vs) h t,e=>by
  by_cases q:k'=k
  ·rw [List.find?_cons_of_pos (by simp [q])] at e
   cases e
   exact ⟨_,yN q,h⟩
  ·rw [List.find?_cons_of_neg (by simp [q])] at e
   obtain ⟨v,h1,h2⟩:=IsK.find t e
   exact ⟨v,by rw [yO q]; exact h1,h2⟩
theorem Vr (c:Nat):(⟨#[c]⟩:Str).length<=sizeLine:=by
 show 1<=sizeLine
 rw [sizeLine_eq]; decide
def qeA (K:Frag):R2:=fun x y H Q=>rIx K x y H Q\/∃ a v,x=.ref a/\DGet H a y (some v)/\Q v H
theorem qco (hu:X.A.units+1 < cLine):IxR X (qeA X.K):=by
 refine IxR.or qcc ?_
 intro value slice pins s σ H x y v u Q I rx ry h hs
 obtain ⟨a,w,rfl,g,q⟩:=h
 cases rx
 obtain ⟨T,ht⟩:∃ T,s.TypeIs (.ref a) T/\T = "dict":=⟨_,JN I g,rfl⟩
 obtain ⟨ht,rfl⟩:=ht
 exact tail_any ht PySem.slot_dict_getitem.lookup (Ux hu I g ry fun w' s' I' r=>⟨w,H,I',r,q⟩) hs
end
section
variable {X:Cx} {C:Ct} {own:List Nat} {a b e:Expr} {f fa fb:Sl->Out (D×Sl)} {m ma mb:Mo} {pos:Pos}
theorem qcp {σ:St} {F H:Hp} {x y:V} {dx dy:D} {Q:VK} (hK:C.K=X.K) (sb:Same F H) (tx:TopIs C.K F H x dx) (ty:TopIs C.K F H y dy) (po:PoV C .sh F H (ixD dx dy) Q):qeA X.K x y H Q:=by
 rw [hK] at tx ty
 cases dx with
 | lst xs=>
  cases dy <;> try exact po.elim
  rename_i i
  obtain rfl:=ty.int
  obtain ⟨a,vs,rfl,p,t⟩:=tx.lst sb
  unfold ixD at po
  cases e:L2.atI xs i with
  | none=>simp only [e] at po; exact po.elim
  | some d=>
   simp only [e] at po
   obtain ⟨v,h1,h2⟩:=t.atI e
   exact .inl (.inl ⟨a,vs,i,v,rfl,rfl,p,h1,po v F H sb .refl (by rw [hK]; exact h2)⟩)
 | tup xs=>
  cases dy <;> try exact po.elim
  rename_i i
  obtain rfl:=ty.int
  obtain ⟨a,vs,rfl,p,t⟩:=tx.tup sb
  unfold ixD at po
  cases e:L2.atI xs i with
  | none=>simp only [e] at po; exact po.elim
  | some d=>
   simp only [e] at po
   obtain ⟨v,h1,h2⟩:=t.atI e
   exact .inl (.inr (.inl ⟨a,vs,i,v,rfl,rfl,p,h1,po v F H sb .refl (by rw [hK]; exact h2)⟩))
 | str z=>
  cases dy <;> try exact po.elim
  rename_i i
  obtain rfl:=ty.int
  obtain ⟨rfl,hz⟩:=tx.str
  unfold ixD at po
  cases e:L2.atI z.cps.toList i with
  | none=>simp only [e] at po; exact po.elim
  | some c=>
   simp only [e] at po
   exact .inl (.inr (.inr ⟨z,i,c,rfl,rfl,hz,e,po _ F H sb .refl (.str (Vr c))⟩))
 | dct kvs=>
  obtain ⟨a,kv,rfl,p,t⟩:=tx.dct sb
  cases dy with
  | int i=>
   obtain rfl:=ty.int
   unfold ixD at po
   cases e:(kvs.find? fun kv=>decide (kv.1=Sum.inl i)) with
   | none=>simp only [e] at po; exact po.elim
   | some d=>
    simp only [e] at po
    obtain ⟨v,h1,h2⟩:=t.find e
    exact .inr ⟨a,v,rfl,by rw [<-h1]; exact DGet.k (k:=Sum.inl i) p,po v F H sb .refl (by rw [hK]; exact h2)⟩
  | str z=>
   obtain ⟨rfl,_⟩:=ty.str
   unfold ixD at po
   cases e:(kvs.find? fun kv=>decide (kv.1=Sum.inr z)) with
   | none=>simp only [e] at po; exact po.elim
   | some d=>
    simp only [e] at po
    obtain ⟨v,h1,h2⟩:=t.find e
    exact .inr ⟨a,v,rfl,by rw [<-h1]; exact DGet.k (k:=Sum.inr z) p,po v F H sb .refl (by rw [hK]; exact h2)⟩
  | _=>exact po.elim
 | _=>exact po.elim
theorem kg (hK:C.K=X.K) (hu:X.A.units+64 < cLine) (ha:PE X a (tE C own ma fa)) (hb:PE X b (tE C own mb fb)) (hs:Us b) (hma:ma≠.any:=by decide):PE X (.Subscript a b pos) (tE C own .sh (d2 ixD fa fb)):=by
 refine jn (qdW (qco (by omega)) ha hb hs) fun σ H Q h=>?_
 obtain ⟨F,ρ,rp,h⟩:=Qw (mb:=mb) hma h
 refine ⟨F,ρ,rp,?_⟩
 cases q:fa ρ with
 | ok p=>
  rw [q] at h
  obtain ⟨d,ρ1⟩:=p
  intro v F1 H1 rp1 c1 mo1
  obtain ⟨F2,ρ2,rp2,h2⟩:=h v F1 H1 rp1 c1 mo1
  refine ⟨F2,ρ2,rp2,?_⟩
  cases q2:fb ρ2 with
  | ok p=>
   rw [q2] at h2
   obtain ⟨d',ρ3⟩:=p
   intro w F3 H3 rp3 c3 mo3
   obtain ⟨F4,dx,dy,sb,tx,ty,po⟩:=h2 w F3 H3 rp3 c3 mo3
   exact qcp (σ:=σ) hK sb tx ty po
  | exc c=>rw [q2] at h2; exact h2
  | bad=>rw [q2] at h2; exact h2.elim
 | exc c=>rw [q] at h; exact h
 | bad=>rw [q] at h; exact h.elim
def JP (X:Cx) (C:Ct) (m:Mo) (f:Value) (g:D->Out D):Prop:=wV X f (fun xs H Q=>∃ x F dx,xs=[x]/\Same F H/\TopIs C.K F H x dx/\PoV C m F H (g dx) Q)
theorem xu {σ:St} {H:Hp} {Q:VK} {g:D->Out D} (h:tE C own m (d1 g fa) σ H Q):Zd (tE C own ma fa) qdl σ H fun xs H1=>∃ x F dx,xs=[x]/\Same F H1/\TopIs C.K F H1 x dx/\PoV C m F H1 (g dx) Q:=by
 obtain ⟨F,ρ,rp,h⟩:=UA (ma:=ma) h
 refine ⟨F,ρ,rp,?_⟩
 cases q:fa ρ with
 | ok p=>
  rw [q] at h
  obtain ⟨d,ρ1⟩:=p
  intro v F1 H1 rp1 c1 mo1
  obtain ⟨F2,dx,sb,tx,po⟩:=h v F1 H1 rp1 c1 mo1
  exact ⟨v,F2,dx,rfl,sb,tx,po⟩
 | exc c=>rw [q] at h; exact h
 | bad=>rw [q] at h; exact h.elim
theorem qD {x:Str} {id:String} {p:Pos} {g:D->Out D} (hc:JP X C m (.builtin id) g) (hg:Gl X x) (hm:X.mg x=none) (hv:bootBuiltins x=some (.builtin id)) (ha:PE X e (tE C own ma fa)) (hn:x ≠ "__name__":=by decide) (hdb:(x == ("__debug__":Str))=false:=by decide)
  (he:starEach [e] X.env=[(false,eval e X.env)]:=by exact qM rfl):PE X (.Call (.Name x p) [e] [] pos) (tE C own m (d1 g fa)):=
 jn (wE hc hg hm hv (qS ha jR he) hn hdb (by rw [he]; rfl) rfl) fun _ _ _ h=>xu h
theorem jK {x:Str} {T:String} {p:Pos} {g:D->Out D} (hc:JP X C m (.type T) g) (hg:Gl X x) (hm:X.mg x=none) (hv:bootBuiltins x=some (.type T)) (ha:PE X e (tE C own ma fa)) (hn:x ≠ "__name__":=by decide) (hdb:(x == ("__debug__":Str))=false:=by decide)
  (he:starEach [e] X.env=[(false,eval e X.env)]:=by exact qM rfl):PE X (.Call (.Name x p) [e] [] pos) (tE C own m (d1 g fa)):=
 jn (uy hc hg hm hv (qS ha jR he) hn hdb (by rw [he]; rfl) rfl) fun _ _ _ h=>xu h
noncomputable def kD:D->Out D
 | .str x=>.ok (.int x.length)
 | .lst xs=>.ok (.int xs.length)
 | .tup xs=>.ok (.int xs.length)
 | .dct xs=>.ok (.int xs.length)
 | _=>.bad
theorem IsK.length {K:Frag} {F:Hp}:∀ {vs:List (Key×V)} {ds:List (Key×D)},IsK K F vs ds->vs.length=ds.length
 | _,_,.nil=>rfl
 | _,_,.cons _ t=>congrArg (·+1) (IsK.length t)
theorem jB (hK:C.K=X.K):JP X C .sh (.builtin "len") kD:=by
 intro pins s σ H xs us Q I r h
 obtain ⟨x,F,dx,rfl,sb,tx,po⟩:=h
 cases dx with
 | str z=>
  obtain ⟨rfl,hz⟩:=tx.str
  exact gh pins s σ H _ us Q I r ⟨_,_,rfl,⟨hz,rfl⟩,po _ F H sb .refl (.int _)⟩
 | lst ds=>
  obtain ⟨a,vs,rfl,p,t⟩:=tx.lst sb
  exact gh pins s σ H _ us Q I r ⟨_,ds.length,rfl,.inl ⟨vs,by rw [<-hK]; exact p,t.length.symm⟩,po _ F H sb .refl (.int _)⟩
 | tup ds=>
  obtain ⟨a,vs,rfl,p,t⟩:=tx.tup sb
  exact gh pins s σ H _ us Q I r ⟨_,ds.length,rfl,.inr ⟨vs,by rw [<-hK]; exact p,t.length.symm⟩,po _ F H sb .refl (.int _)⟩
 | dct ds=>
  obtain ⟨a,vs,rfl,p,t⟩:=tx.dct sb
  refine Uy pins s σ H _ us Q I r ⟨a,vs,rfl,p,?_⟩
  rw [t.length]
  exact po _ F H sb .refl (.int _)
 | _=>exact po.elim
noncomputable def wW:D->D->Out D
 | .int i,.int j=>.ok (.int (i+j))
 | .str x,.str y=>if x.length+y.length<=sizeLine then .ok (.str (x++y)) else .bad
 | .lst xs,.lst ys=>if xs.length+ys.length<=sizeLine then .ok (.lst (xs++ys)) else .bad
 | .tup xs,.tup ys=>if xs.length+ys.length<=sizeLine then .ok (.tup (xs++ys)) else .bad
 | _,_=>.bad
theorem uR {F H:Hp} {p:Addr} {u:HO} (sb:Same F H) (hp:H p=none):Same (upd F p u) (upd H p u)/\Chg No F H (upd F p u) (upd H p u):=by
 have hF:F p=none:=by
  cases q:F p with
  | none=>rfl
  | some o=>rw [sb p o q] at hp; cases hp
 refine ⟨fun b o e=>?_,⟨fun b o e _=>by rw [qo (qx e hp)]; exact e,fun b e=>?_,fun b o e=>by rw [qo (qx e hF)]; exact e,fun b e=>?_⟩⟩
 ·by_cases q:b=p
  ·subst q; rw [qm] at e ⊢; exact e
  ·rw [qo q] at e ⊢; exact sb b o e
 ·by_cases q:b=p
  ·rw [q,qm]; simp
  ·rw [qo q]; exact e
 ·by_cases q:b=p
  ·exact .inr (.inl (by rw [q]; exact hp))
  ·rw [qo q] at e; exact .inl e
theorem wc {F H:Hp} {p:Addr} {u:HO} (sb:Same F H) (hp:H p=none):Same F (upd H p u)/\Chg No F H F (upd H p u)/\F p=none:=by
 have hF:F p=none:=by
  cases q:F p with
  | none=>rfl
  | some o=>rw [sb p o q] at hp; cases hp
 refine ⟨fun b o e=>by rw [qo (qx e hF)]; exact sb b o e,⟨fun b o e _=>by rw [qo (qx e hp)]; exact e,fun b e=>?_,Same.refl _,fun b e=>.inl e⟩,hF⟩
 by_cases q:b=p
 ·rw [q,qm]; simp
 ·rw [qo q]; exact e
theorem JQ (x y:Str):(x++y).length=x.length+y.length:=by
 show (x.cps++y.cps).size=_
 simp [Str.length]
theorem qaQ:OpR X (binaryOp .Add) (fun x y H Q=>∃ l b xs zs,x=.ref l/\y=.ref b/\SqL X.K H l xs/\SqL X.K H b zs/\xs.length+zs.length<=sizeLine/\∀ p,H p=none->Q (.ref p) (upd H p (.lst (xs++zs)))):=by
 intro pins s σ H x y v u Q I rx ry h
 obtain ⟨l,b,xs,zs,rfl,rfl,h1,h2,hz,q⟩:=h
 cases rx
 cases ry
 obtain ⟨its,r1,p1,_⟩:=I.list h1
 obtain ⟨its2,r2,p2,_⟩:=I.list h2
 obtain ⟨⟨cls,dd,data,sl⟩,ho,hc,n,hd⟩:=id p1.isList
 obtain ⟨⟨cls2,dd2,data2,sl2⟩,ho2,hc2,n2,hd2⟩:=id p2.isList
 simp only at hc hd hc2 hd2
 subst hc hd hc2 hd2
 have hl1:=r1.length
 have hl2:=r2.length
 refine concat_meets ⟨_,ho,rfl⟩ ⟨_,ho2,rfl⟩ noFill_list_add seq_list_add PySem.F.slot_list_add PySem.F.entry_list_add (PySem.F.args_list_add_2 _ _)
  (list_addW l b its.toArray its2.toArray n n2 dd dd2 sl sl2 (by simp only [List.size_toArray]; omega)) ⟨ho,ho2,?_⟩
 have ea:its.toArray++its2.toArray=(its++its2).toArray:=by simp
 rw [ea]
 exact ⟨.ref _,_,I.lnew (t':=s.toks) (r1.append r2) (by rw [List.length_append]; exact hz),rfl,q _ I.fresh⟩
theorem qaR:OpR X (binaryOp .Add) (fun x y H Q=>∃ a b ys,x=.ref a/\y=.ref b/\SqT X.K H a []/\SqT X.K H b ys/\Q (.ref b) H):=by
 intro pins s σ H x y v u Q I rx ry h
 obtain ⟨a,b,ys,rfl,rfl,h1,h2,q⟩:=h
 cases rx
 cases ry
 obtain ⟨its,r1,p1,_⟩:=I.tuple h1
 obtain ⟨its2,r2,p2,_⟩:=I.tuple h2
 cases r1
 obtain ⟨⟨cls,dd,data,sl⟩,ho,hc,n,hd⟩:=id p1
 obtain ⟨⟨cls2,dd2,data2,sl2⟩,ho2,hc2,n2,hd2⟩:=id p2
 simp only at hc hd hc2 hd2
 subst hc hd hc2 hd2
 exact concat_meets ⟨_,ho,rfl⟩ ⟨_,ho2,rfl⟩ noFill_tuple_add seq_tuple_add PySem.F.slot_tuple_add PySem.F.entry_tuple_add (PySem.F.args_tuple_add_2 _ _)
  (tuple_addW0 a b _ _ n n2 dd dd2 sl sl2 rfl) ⟨ho,ho2,⟨.ref b,H,I,rfl,q⟩⟩
theorem kT (hK:C.K=X.K):OpD X C .sh (binaryOp .Add) wW:=by
 intro pins s σ H x y v u Q I rx ry h
 obtain ⟨F,dx,dy,sb,tx,ty,po⟩:=h
 cases dx with
 | int i=>
  cases dy <;> try exact po.elim
  obtain rfl:=tx.int
  obtain rfl:=ty.int
  exact qb0 pins s σ H _ _ v u Q I rx ry ⟨_,_,rfl,rfl,po _ F H sb .refl (.int _)⟩
 | str a=>
  cases dy <;> try exact po.elim
  rename_i b
  obtain ⟨rfl,_⟩:=tx.str
  obtain ⟨rfl,_⟩:=ty.str
  have po:PoV C .sh F H (if a.length+b.length<=sizeLine then .ok (.str (a++b)) else .bad) Q:=po
  by_cases z:a.length+b.length<=sizeLine
  ·rw [if_pos z] at po
   exact Wr pins s σ H _ _ v u Q I rx ry ⟨_,_,rfl,rfl,z,po _ F H sb .refl (.str (by rw [JQ]; exact z))⟩
  ·rw [if_neg z] at po; exact po.elim
 | lst xs=>
  cases dy <;> try exact po.elim
  rename_i ys
  obtain ⟨a,vs,rfl,p1,t1⟩:=tx.lst sb
  obtain ⟨b,ws,rfl,p2,t2⟩:=ty.lst sb
  have po:PoV C .sh F H (if xs.length+ys.length<=sizeLine then .ok (.lst (xs++ys)) else .bad) Q:=po
  by_cases z:xs.length+ys.length<=sizeLine
  ·rw [if_pos z] at po
   refine qaQ pins s σ H _ _ v u Q I rx ry ⟨a,b,vs,ws,rfl,rfl,by rw [<-hK]; exact p1,by rw [<-hK]; exact p2,by rw [t1.length,t2.length]; exact z,fun p hp=>?_⟩
   obtain ⟨s2,c2⟩:=uR (u:=.lst (vs++ws)) sb hp
   exact po _ _ _ s2 c2 (.lst (.inl (.inl qm)) ((t1.append t2).mono c2.grow))
  ·rw [if_neg z] at po; exact po.elim
 | tup xs=>
  cases dy <;> try exact po.elim
  rename_i ys
  obtain ⟨a,vs,rfl,p1,t1⟩:=tx.tup sb
  obtain ⟨b,ws,rfl,p2,t2⟩:=ty.tup sb
  have po:PoV C .sh F H (if xs.length+ys.length<=sizeLine then .ok (.tup (xs++ys)) else .bad) Q:=po
  by_cases z:xs.length+ys.length<=sizeLine
  ·rw [if_pos z] at po
   cases vs with
   | nil=>
    cases t1
    rcases ty with ty | ⟨_,_,ty⟩
    ·exact qaR pins s σ H _ _ v u Q I rx ry ⟨a,b,ws,rfl,rfl,by rw [<-hK]; exact p1,by rw [<-hK]; exact p2,po _ F H sb .refl ty⟩
    ·exact ty.elim
   | cons v0 vs=>
    refine qaH pins s σ H _ _ v u Q I rx ry ⟨a,b,v0::vs,ws,rfl,rfl,by rw [<-hK]; exact p1,by rw [<-hK]; exact p2,by simp,by rw [t1.length,t2.length]; exact z,fun e=>?_,fun e p hp=>?_⟩
    ·subst e
     cases t2
     rcases tx with tx | ⟨_,_,tx⟩
     ·refine po _ F H sb .refl ?_
      rw [List.append_nil]
      exact tx
     ·exact tx.elim
    ·obtain ⟨s2,c2⟩:=uR (u:=.tup (v0::vs++ws)) sb hp
     exact po _ _ _ s2 c2 (.tup (.inl (.inl qm)) ((t1.append t2).mono c2.grow))
  ·rw [if_neg z] at po; exact po.elim
 | _=>exact po.elim
end
inductive PM where
 | val | io | tk
 deriving DecidableEq
noncomputable def we:List PM->List V->List Addr
 | .val::ms,_::vs=>we ms vs
 | .io::ms,.ref a::vs=>a::we ms vs
 | .tk::ms,.ref a::vs=>a::we ms vs
 | _::ms,_::vs=>we ms vs
 | _,_=>[]
def ArgsIs (K:Frag) (F H:Hp):List PM->List V->List D->Prop
 | [],[],[]=>True
 | .val::ms,v::vs,d::ds=>Is K F v d/\ArgsIs K F H ms vs ds
 | .io::ms,v::vs,d::ds=>(∃ a,v=.ref a/\F a=none/\OwnIs K F H a d)/\ArgsIs K F H ms vs ds
 | .tk::ms,v::vs,d::ds=>(∃ a,v=.ref a/\F a=none/\OwnIs K F H a d)/\ArgsIs K F H ms vs ds
 | _,_,_=>False
def vU (K:Frag) (F H:Hp):List PM->List V->List D->Prop
 | [],_,_=>True
 | .io::ms,v::vs,d::ds=>(∃ a,v=.ref a/\F a=none/\OwnIs K F H a d)/\vU K F H ms vs ds
 | _::ms,_::vs,_::ds=>vU K F H ms vs ds
 | _,_,_=>False
abbrev LA (ms:List PM) (vs:List V):Addr->Prop:=fun b=>b∈we ms vs
def PoG (K:Frag) (cv:Str->Value) (ms:List PM) (mr:Mo) (vs:List V) (F H:Hp) (Q:VK) (E:XK) (o:Out (D×List D)):Prop:=match o with
 | .ok (d,outs)=>∀ v F' H',Same F' H'->Chg (LA ms vs) F H F' H'->vU K F' H' ms vs outs->MoIs K mr H F' H' v d->Q v H'
 | .exc c o=>∀ F' H',Same F' H'->Chg (LA ms vs) F H F' H'->vU K F' H' ms vs (o.map (·.getD .non))->E (cv c) none H'
 | .bad=>False
def spD (K:Frag) (cv:Str->Value) (ms:List PM) (mr:Mo) (G:List D->Out (D×List D)):Sp:=fun vs H Q E=>∃ F ds,Same F H/\ArgsIs K F H ms vs ds/\(we ms vs).Nodup/\PoG K cv ms mr vs F H Q E (G ds)
theorem ArgsIs.length {K:Frag} {F H:Hp}:∀ {ms:List PM} {vs:List V} {ds:List D},ArgsIs K F H ms vs ds->vs.length=ms.length/\ds.length=ms.length
 | [],[],[],_=>⟨rfl,rfl⟩
 | .val::ms,v::vs,d::ds,h=>by have:=ArgsIs.length h.2; simp [this]
 | .io::ms,v::vs,d::ds,h=>by have:=ArgsIs.length h.2; simp [this]
 | .tk::ms,v::vs,d::ds,h=>by have:=ArgsIs.length h.2; simp [this]
 | [],_::_,_,h=>h.elim
 | [],[],_::_,h=>h.elim
 | .val::_,[],_,h=>h.elim
 | .val::_,_::_,[],h=>h.elim
 | .io::_,[],_,h=>h.elim
 | .io::_,_::_,[],h=>h.elim
 | .tk::_,[],_,h=>h.elim
 | .tk::_,_::_,[],h=>h.elim
noncomputable def jo (n:Nat):List PM->List Nat
 | []=>[]
 | .val::ms=>jo (n+1) ms
 | _::ms=>n::jo (n+1) ms
noncomputable def QG (n:Nat):List PM->List Nat
 | []=>[]
 | .io::ms=>n::QG (n+1) ms
 | _::ms=>QG (n+1) ms
theorem uD {n:Nat}:∀ {ms:List PM} {i:Nat},i∈jo n ms->n<=i/\i < n+ms.length:=by
 intro ms
 induction ms generalizing n with
 | nil=>intro i h; simp [jo] at h
 | cons m ms ih=>
  intro i h
  cases m with
  | val=>have:=ih (n:=n+1) h; simp only [List.length_cons]; omega
  | io=>
   rcases List.mem_cons.mp h with e | h
   ·simp only [List.length_cons]; omega
   ·have:=ih (n:=n+1) h; simp only [List.length_cons]; omega
  | tk=>
   rcases List.mem_cons.mp h with e | h
   ·simp only [List.length_cons]; omega
   ·have:=ih (n:=n+1) h; simp only [List.length_cons]; omega
theorem Zr {n:Nat}:∀ {ms:List PM} {i:Nat},i∈QG n ms->i∈jo n ms:=by
 intro ms
 induction ms generalizing n with
 | nil=>intro i h; simp [QG] at h
 | cons m ms ih=>
  intro i h
  cases m with
  | val=>exact ih (n:=n+1) h
  | io=>
   rcases List.mem_cons.mp h with e | h
   ·exact List.mem_cons.mpr (.inl e)
   ·exact List.mem_cons_of_mem _ (ih (n:=n+1) h)
  | tk=>exact List.mem_cons_of_mem _ (ih (n:=n+1) h)
theorem Wz {K:Frag} {F H:Hp}:∀ {ms:List PM} {vs:List V} {ds:List D} {n:Nat},ArgsIs K F H ms vs ds ->
  (∀ j d,ds[j]?=some d->n+j∉jo n ms->∃ v,vs[j]?=some v/\Is K F v d) /\
  (∀ j d,ds[j]?=some d->n+j∈jo n ms->∃ a,vs[j]?=some (.ref a)/\F a=none/\OwnIs K F H a d):=by
 intro ms
 induction ms with
 | nil=>intro vs ds n h; cases vs <;> cases ds <;> first | exact h.elim | (refine ⟨fun j d e=>?_,fun j d e=>?_⟩ <;> simp at e)
 | cons m ms ih=>
  intro vs ds n h
  cases vs with
  | nil=>cases m <;> exact h.elim
  | cons v vs=>
   cases ds with
   | nil=>cases m <;> exact h.elim
   | cons d ds=>
    cases m with
    | val=>
     obtain ⟨h1,h2⟩:=h
     obtain ⟨i1,i2⟩:=ih (n:=n+1) h2
     refine ⟨fun j e hj hn=>?_,fun j e hj hn=>?_⟩
     ·cases j with
      | zero=>simp at hj; subst hj; exact ⟨v,rfl,h1⟩
      | succ j=>simpa using i1 j e (by simpa using hj) (by rw [show n+1+j=n+(j+1) by omega]; exact hn)
     ·cases j with
      | zero=>have:=uD (n:=n+1) hn; omega
      | succ j=>simpa using i2 j e (by simpa using hj) (by rw [show n+1+j=n+(j+1) by omega]; exact hn)
    | io=>
     obtain ⟨⟨a,rfl,h1⟩,h2⟩:=h
     obtain ⟨i1,i2⟩:=ih (n:=n+1) h2
     refine ⟨fun j e hj hn=>?_,fun j e hj hn=>?_⟩
     ·cases j with
      | zero=>exact absurd (List.mem_cons.mpr (.inl rfl)) hn
      | succ j=>simpa using i1 j e (by simpa using hj) (fun z=>hn (List.mem_cons_of_mem _ (by rw [show n+(j+1)=n+1+j by omega]; exact z)))
     ·cases j with
      | zero=>simp at hj; subst hj; exact ⟨a,rfl,h1⟩
      | succ j=>
       have hm:n+1+j∈jo (n+1) ms:=by
        rcases List.mem_cons.mp hn with z | z
        ·omega
        ·rw [show n+1+j=n+(j+1) by omega]; exact z
       simpa using i2 j e (by simpa using hj) hm
    | tk=>
     obtain ⟨⟨a,rfl,h1⟩,h2⟩:=h
     obtain ⟨i1,i2⟩:=ih (n:=n+1) h2
     refine ⟨fun j e hj hn=>?_,fun j e hj hn=>?_⟩
     ·cases j with
      | zero=>exact absurd (List.mem_cons.mpr (.inl rfl)) hn
      | succ j=>simpa using i1 j e (by simpa using hj) (fun z=>hn (List.mem_cons_of_mem _ (by rw [show n+(j+1)=n+1+j by omega]; exact z)))
     ·cases j with
      | zero=>simp at hj; subst hj; exact ⟨a,rfl,h1⟩
      | succ j=>
       have hm:n+1+j∈jo (n+1) ms:=by
        rcases List.mem_cons.mp hn with z | z
        ·omega
        ·rw [show n+1+j=n+(j+1) by omega]; exact z
       simpa using i2 j e (by simpa using hj) hm
theorem UO {n:Nat}:∀ {ms:List PM} {vs:List V} {j:Nat} {a:Addr},n+j∈jo n ms->vs[j]?=some (.ref a)->a∈we ms vs:=by
 intro ms
 induction ms generalizing n with
 | nil=>intro vs j a h; simp [jo] at h
 | cons m ms ih=>
  intro vs j a h e
  cases vs with
  | nil=>simp at e
  | cons v vs=>
   cases j with
   | zero=>
    simp at e; subst e
    cases m with
    | val=>have:=uD (n:=n+1) h; omega
    | io=>exact List.mem_cons.mpr (.inl rfl)
    | tk=>exact List.mem_cons.mpr (.inl rfl)
   | succ j=>
    have e':vs[j]?=some (.ref a):=by simpa using e
    have sub:n+1+j∈jo (n+1) ms:=by
     rw [show n+1+j=n+(j+1) by omega]
     cases m with
     | val=>exact h
     | io=>exact (List.mem_cons.mp h).resolve_left (by omega)
     | tk=>exact (List.mem_cons.mp h).resolve_left (by omega)
    have q:=ih (n:=n+1) sub e'
    cases m <;> cases v <;> first | exact q | exact List.mem_cons_of_mem _ q
theorem UP {n:Nat}:∀ {ms:List PM} {vs:List V} {a:Addr},a∈we ms vs->∃ j,n+j∈jo n ms/\vs[j]?=some (.ref a):=by
 intro ms
 induction ms generalizing n with
 | nil=>intro vs a h; cases vs <;> simp [we] at h
 | cons m ms ih=>
  intro vs a h
  cases vs with
  | nil=>cases m <;> simp [we] at h
  | cons v vs=>
   have up:∀ {b},b∈we ms vs->∃ j,n+j∈jo n (m::ms)/\(v::vs)[j]?=some (.ref b):=fun hb=>by
    obtain ⟨j,h1,h2⟩:=ih (n:=n+1) hb
    refine ⟨j+1,?_,by simpa using h2⟩
    rw [show n+(j+1)=n+1+j by omega]
    cases m with
    | val=>exact h1
    | io=>exact List.mem_cons_of_mem _ h1
    | tk=>exact List.mem_cons_of_mem _ h1
   cases m with
   | val=>exact up (by cases v <;> exact h)
   | io=>
    cases v with
    | ref c=>
     rcases List.mem_cons.mp h with e | h
     ·subst e; exact ⟨0,List.mem_cons.mpr (.inl rfl),rfl⟩
     ·exact up h
    | _=>exact up h
   | tk=>
    cases v with
    | ref c=>
     rcases List.mem_cons.mp h with e | h
     ·subst e; exact ⟨0,List.mem_cons.mpr (.inl rfl),rfl⟩
     ·exact up h
    | _=>exact up h
theorem Zs {n:Nat}:∀ {ms:List PM} {vs:List V} {i j:Nat} {a:Addr},(we ms vs).Nodup->n+i∈jo n ms->n+j∈jo n ms->vs[i]?=some (.ref a)->vs[j]?=some (.ref a)->i=j:=by
 intro ms
 induction ms generalizing n with
 | nil=>intro vs i j a _ h; simp [jo] at h
 | cons m ms ih=>
  intro vs i j a nd hi hj e1 e2
  cases vs with
  | nil=>simp at e1
  | cons v vs=>
   have sub:∀ {k},n+(k+1)∈jo n (m::ms)->n+1+k∈jo (n+1) ms:=fun {k} h=>by
    rw [show n+1+k=n+(k+1) by omega]
    cases m with
    | val=>exact h
    | io=>exact (List.mem_cons.mp h).resolve_left (by omega)
    | tk=>exact (List.mem_cons.mp h).resolve_left (by omega)
   have nd':(we ms vs).Nodup:=by
    cases m <;> cases v <;> first | exact nd | exact (List.nodup_cons.mp nd).2
   have no0:∀ {k b},n+0∈jo n (m::ms)->v=.ref b->n+(k+1)∈jo n (m::ms)->vs[k]?=some (.ref b)->False:=fun {k b} h0 hv hk ek=>by
    subst hv
    have q:=UO (n:=n+1) (sub hk) ek
    cases m with
    | val=>have:=uD (n:=n+1) h0; omega
    | io=>exact (List.nodup_cons.mp nd).1 q
    | tk=>exact (List.nodup_cons.mp nd).1 q
   cases i with
   | zero=>
    cases j with
    | zero=>rfl
    | succ j=>exact (no0 hi (by simpa using e1) hj (by simpa using e2)).elim
   | succ i=>
    cases j with
    | zero=>exact (no0 hj (by simpa using e2) hi (by simpa using e1)).elim
    | succ j=>exact congrArg (·+1) (ih (n:=n+1) nd' (sub hi) (sub hj) (by simpa using e1) (by simpa using e2))
noncomputable def qv (N:List Str) (ds:List D):Sl:=ds.map some++List.replicate (N.length - ds.length) none
theorem get_start {α:Type} {N:List Str} {xs:List α} {i:Nat} {x:α}:(xs.map some++List.replicate (N.length - xs.length) none)[i]?=some (some x)↔xs[i]?=some x:=by
 by_cases h:i < xs.length
 ·rw [List.getElem?_append_left (by simpa using h),List.getElem?_map]
  cases e:xs[i]? with
  | none=>simp
  | some y=>simp
 ·rw [List.getElem?_append_right (by simpa using h),List.getElem?_replicate]
  have e:xs[i]?=none:=List.getElem?_eq_none_iff.mpr (by omega)
  rw [e]
  split <;> simp
theorem xw {K:Frag} {F H:Hp} {N:List Str} {ms:List PM} {vs:List V} {ds:List D} (sb:Same F H) (ar:ArgsIs K F H ms vs ds) (nd:(we ms vs).Nodup):Rep K (jo 0 ms) F H (kQ N vs) (qv N ds):=by
 obtain ⟨h1,h2⟩:=Wz (n:=0) ar
 obtain ⟨l1,l2⟩:=ar.length
 refine ⟨sb,by simp [kQ,qv,l1,l2],fun i d hi e=>?_,fun i d hi e=>?_,fun i hi=>?_,fun i j a hi hj e1 e2=>?_⟩
 ·obtain ⟨v,a,b⟩:=h1 i d (get_start.mp e) (by simpa using hi)
  exact ⟨v,get_start.mpr a,b⟩
 ·obtain ⟨v,a,b⟩:=h2 i d (get_start.mp e) (by simpa using hi)
  exact ⟨v,get_start.mpr a,b⟩
 ·have q:=uD hi
  have hl:i < ds.length:=by omega
  exact ⟨ds[i],get_start.mpr (by simp [hl])⟩
 ·exact Zs (n:=0) nd (by simpa using hi) (by simpa using hj) (get_start.mp e1) (get_start.mp e2)
theorem oa_start {N:List Str} {ms:List PM} {vs:List V} {b:Addr}:OA (jo 0 ms) (kQ N vs) b↔LA ms vs b:=by
 constructor
 ·rintro ⟨i,hi,e⟩
  exact UO (n:=0) (by simpa using hi) (get_start.mp e)
 ·intro h
  obtain ⟨j,h1,h2⟩:=UP (n:=0) h
  exact ⟨j,by simpa using h1,get_start.mpr h2⟩
noncomputable def qy (ρ:Sl):Nat->List PM->List D
 | _,[]=>[]
 | n,.io::ms=>((ρ[n]?).getD none).getD .non::qy ρ (n+1) ms
 | n,_::ms=>.non::qy ρ (n+1) ms
theorem qaS {K:Frag} {F H:Hp} {σ:St} {ρ:Sl} {N:List Str}:∀ {ms:List PM} {vs:List V} {n:Nat},vs.length=ms.length->(∀ i∈QG n ms,∃ d a,ρ[i]?=some (some d)/\vs[i - n]?=some (V.ref a)/\F a=none/\OwnIs K F H a d)->vU K F H ms vs (qy ρ n ms):=by
 intro ms
 induction ms with
 | nil=>intro vs n _ _; trivial
 | cons m ms ih=>
  intro vs n hl h
  cases vs with
  | nil=>simp at hl
  | cons v vs=>
   have rest:(∀ i∈QG (n+1) ms,i∈QG n (m::ms))->vU K F H ms vs (qy ρ (n+1) ms):=fun hs=>by
    refine ih (by simpa using hl) fun i hi=>?_
    obtain ⟨d,a,e1,e2,e3⟩:=h i (hs i hi)
    have q:=uD (Zr hi)
    refine ⟨d,a,e1,?_,e3⟩
    rw [show i - n=(i - (n+1))+1 by omega] at e2
    simpa using e2
   cases m with
   | val=>exact rest fun i hi=>hi
   | io=>
    obtain ⟨d,a,e1,e2,e3⟩:=h n (List.mem_cons.mpr (.inl rfl))
    refine ⟨⟨a,by simpa using e2,e3.1,?_⟩,rest fun i hi=>List.mem_cons_of_mem _ hi⟩
    rw [e1]
    exact e3.2
   | tk=>exact rest fun i hi=>hi
noncomputable def Fl.val:Fl->Option D
 | .nx=>some .non
 | .rt d=>some d
 | _=>none
noncomputable def vg (N:List Str) (ms:List PM) (f:Sl->Out (Fl×Sl)) (ds:List D):Out (D×List D):=match f (qv N ds) with
 | .ok (.nx,ρ)=>.ok (.non,qy ρ 0 ms)
 | .ok (.rt d,ρ)=>.ok (d,qy ρ 0 ms)
 | .ok _=>.bad
 | .exc c ρ=>.exc c ((qy ρ 0 ms).map some)
 | .bad=>.bad
theorem Vs:∀ (l:List D),(l.map some).map (fun x:Option D=>x.getD .non)=l
 | []=>rfl
 | a::l=>congrArg (a::·) (Vs l)
def Out.le {α:Type} (a b:Out α):Prop:=a=.bad\/a=b
theorem UQ {C:Ct} {N:List Str} {ms:List PM} {own':List Nat} {f:Sl->Out (Fl×Sl)} {F H:Hp} {vs:List V} {ds:List D} {Q:VK} {o:Out (D×List D)} (hio:C.io=QG 0 ms) (hox:C.ox=C.io) (hmr:C.mr=.sh\/∀ ρ,(f (qv N ds))≠.ok (.nx,ρ)) (hsub:∀ i∈QG 0 ms,i∈own') (sb:Same F H) (ar:ArgsIs C.K F H ms vs ds) (nd:(we ms vs).Nodup)
  (hG:Out.le o (vg N ms f ds)) (h:PoG C.K C.cv ms C.mr vs F H Q C.E o):tSt C (jo 0 ms) own' f { nx:=fun _ H'=>Q .non H',rt:=Q } (kQ N vs) H:=by
 refine ⟨F,qv N ds,xw sb ar nd,?_⟩
 have hl:=ar.length.1
 have ch:∀ {F' H'},Chg (OA (jo 0 ms) (kQ N vs)) F H F' H'->Chg (LA ms vs) F H F' H':=fun c=>c.mono fun x z=>oa_start.mp z
 have outs:∀ {σ':St} {ρ':Sl} {F' H':Hp},Uz C.K C.io F' H' σ' ρ'->(∀ i∈C.io,σ'[i]?=(kQ N vs)[i]?)->vU C.K F' H' ms vs (qy ρ' 0 ms):=fun {σ' ρ' F' H'} io e=>by
  refine qaS (N:=N) (σ:=σ') hl fun i hi=>?_
  have hi':i∈C.io:=by rw [hio]; exact hi
  obtain ⟨d,a,e1,e2,e3⟩:=io i hi'
  refine ⟨d,a,e1,?_,e3⟩
  rw [e i hi'] at e2
  exact get_start.mp e2
 rcases hG with e | e
 ·subst e; exact h.elim
 ·subst e
  unfold vg at h
  cases q:f (qv N ds) with
  | ok p=>
   rw [q] at h
   obtain ⟨fl,ρ'⟩:=p
   cases fl with
   | nx=>
    have hm:C.mr=.sh:=hmr.resolve_right fun z=>z ρ' q
    exact fun σ' F' H' n=>h .non F' H' n.rep.sub (ch n.chg) (outs (n.rep.ioIs (by rw [hio]; exact hsub)) n.io) (by rw [hm]; exact .non)
   | rt d=>exact fun v σ' F' H' s io c e mo=>h v F' H' s (ch c) (outs io e) mo
   | bk=>exact h.elim
   | ct=>exact h.elim
  | exc c ρ'=>
   rw [q] at h
   exact fun F' H' s io c'=>h F' H' s (ch c') (by rw [Vs]; exact outs (σ':=kQ N vs) (by rw [<-hox]; exact io) fun _ _=>rfl)
  | bad=>rw [q] at h; exact h.elim
def JE (K:Frag) (cv:Str->Value) (E:XK) (ms:List PM) (mr:Mo):Ct:=⟨K,cv,E,QG 0 ms,mr,[],QG 0 ms,fun _ h=>h⟩
theorem qeB {P:Program} {w:World} {K:Frag} {mg:Str->Option Value} {base:Heap} {CX:CXT} {x qual:Str} {st:Stmt} {f:Addr} {fd:FuncData} {N ps:List Str} {k:Nat} {cv:Str->Value} {ms:List PM} {mr:Mo} {own':List Nat} {fb:Sl->Out (Fl×Sl)} {G:List D->Out (D×List D)}
  (F:Fun K x qual st f fd) (S:FnScope N ps (qd st)) (hl:ms.length=ps.length) (hsub:∀ i∈QG 0 ms,i∈own') (hmr:mr=.sh\/∀ ds ρ,(fb (qv N ds))≠.ok (.nx,ρ))
  (hbody:∀ (cdv:Value) (A:Around) (outer:List Env) (s:Shared) (H:Hp) (E:XK),Room k (A.deeper (envOfC qual (qd st) s.heap.objs.size f cdv)) ->
   PSs (XH CX P w K mg base N qual (qd st) f cdv A outer s H E) (js st) (tSt (JE K cv E ms mr) (jo 0 ms) own' fb))
  (hG:∀ ds,Out.le (G ds) (vg N ms fb ds)):FnOk P w K mg base CX (k+1) f fd ps (spD K cv ms mr G):=by
 obtain ⟨oc,od,kV,doc,pm,an,cdv,ct,osl,rfl,lk,hcd⟩:=F.ex
 refine Zf lk hcd S (fun vs H Q E h=>?_) fun A outer s H vs Q E hr hsp=>?_
 ·obtain ⟨F,ds,_,ar,_⟩:=h
  rw [ar.length.1,hl]
 ·obtain ⟨F1,ds,sb,ar,nd,h⟩:=hsp
  refine ⟨_,hbody cdv A outer s H E hr,?_⟩
  exact UQ (C:=JE K cv E ms mr) rfl rfl (hmr.imp id fun z ρ=>z ds ρ) hsub sb ar nd (hG ds) h
noncomputable def wf:AK->PM
 | .vl=>.val
 | .sl _=>.io
 | .fr=>.tk
noncomputable def qF:List AK->List D->Sl->Option (List D)
 | [],[],_=>some []
 | .sl i::as,_::ds,ρ=>match ρ[i]? with
  | some (some d)=>(qF as ds ρ).map (d::·)
  | _=>none
 | .vl::as,d::ds,ρ=>(qF as ds ρ).map (d::·)
 | .fr::as,d::ds,ρ=>(qF as ds ρ).map (d::·)
 | _,_,_=>none
noncomputable def jQ:List AK->List D->Sl->Sl
 | .sl i::as,d::outs,ρ=>jQ as outs (ρ.set i (some d))
 | _::as,_::outs,ρ=>jQ as outs ρ
 | _,_,ρ=>ρ
noncomputable def jf:List AK->List Nat
 | []=>[]
 | .sl i::as=>i::jf as
 | _::as=>jf as
noncomputable def frA:List AK->Nat
 | []=>0
 | .fr::as=>frA as+1
 | _::as=>frA as
section
variable {K:Frag} {own:List Nat} {H0 F H:Hp} {σ:St} {ρ:Sl}
theorem uE:∀ {as:List AK} {vs:List V} {ds ds':List D},Rep K own F H σ ρ->(∀ i∈jf as,i∈own)->ArgV K H0 F H σ as vs ds->qF as ds ρ=some ds'->ArgsIs K F H (as.map wf) vs ds'
 | [],vs,ds,ds',rp,hs,av,e=>by
  cases vs <;> cases ds <;> first | exact av.elim | (simp [qF] at e; subst e; trivial)
 | a::as,[],ds,ds',rp,hs,av,e=>by cases a <;> exact av.elim
 | a::as,v::vs,[],ds',rp,hs,av,e=>by cases a <;> exact av.elim
 | .vl::as,v::vs,d::ds,ds',rp,hs,av,e=>by
  cases q:qF as ds ρ with
  | none=>simp [qF,q] at e
  | some l=>
   have e:d::l=ds':=by simpa [qF,q] using e
   subst e
   exact ⟨av.1,uE rp hs av.2 q⟩
 | .fr::as,v::vs,d::ds,ds',rp,hs,av,e=>by
  cases q:qF as ds ρ with
  | none=>simp [qF,q] at e
  | some l=>
   have e:d::l=ds':=by simpa [qF,q] using e
   subst e
   obtain ⟨a,h1,_,h2,h3⟩:=av.1
   exact ⟨⟨a,h1,h2,h3⟩,uE rp hs av.2 q⟩
 | .sl i::as,v::vs,d::ds,ds',rp,hs,av,e=>by
  obtain ⟨h1,_,av2⟩:=av
  have hi:i∈own:=hs i (List.mem_cons.mpr (.inl rfl))
  obtain ⟨d',hd⟩:=rp.opn i hi
  obtain ⟨a,e1,e2,e3⟩:=rp.ow i d' hi hd
  rw [h1] at e1
  cases e1
  cases q:qF as ds ρ with
  | none=>simp [qF,q,hd] at e
  | some l=>
   have e:d'::l=ds':=by simpa [qF,q,hd] using e
   subst e
   exact ⟨⟨a,rfl,e2,e3⟩,uE rp (fun j hj=>hs j (List.mem_cons_of_mem _ hj)) av2 q⟩
theorem kE:∀ {as:List AK} {vs:List V} {ds:List D} {b:Addr},ArgV K H0 F H σ as vs ds->b∈we (as.map wf) vs->(∃ i∈jf as,σ[i]?=some (some (V.ref b)))\/(H0 b=none/\frA as≠0/\H b≠none/\F b=none)
 | [],vs,ds,b,av,h=>by cases vs <;> simp [we] at h
 | a::as,[],ds,b,av,h=>by cases a <;> exact av.elim
 | a::as,v::vs,[],b,av,h=>by cases a <;> exact av.elim
 | .vl::as,v::vs,d::ds,b,av,h=>by
  have h:b∈we (as.map wf) vs:=by cases v <;> exact h
  exact kE (as:=as) av.2 h
 | .fr::as,v::vs,d::ds,b,av,h=>by
  obtain ⟨⟨a,rfl,h0,hF,o⟩,av2⟩:=av
  have h:b∈a::we (as.map wf) vs:=h
  rcases List.mem_cons.mp h with e | h
  ·subst e; exact .inr ⟨h0,by simp [frA],o.there,hF⟩
  ·rcases kE av2 h with z | ⟨z,_,z2⟩
   ·exact .inl z
   ·exact .inr ⟨z,by simp [frA],z2⟩
 | .sl i::as,v::vs,d::ds,b,av,h=>by
  obtain ⟨h1,_,av2⟩:=av
  have up:b∈we (as.map wf) vs->(∃ j∈jf (.sl i::as),σ[j]?=some (some (V.ref b)))\/(H0 b=none/\frA (.sl i::as)≠0/\H b≠none/\F b=none):=fun h=>by
   rcases kE av2 h with ⟨j,hj,e⟩ | z
   ·exact .inl ⟨j,List.mem_cons_of_mem _ hj,e⟩
   ·exact .inr z
  cases v with
  | ref a=>
   have h:b∈a::we (as.map wf) vs:=h
   rcases List.mem_cons.mp h with e | h
   ·subst e; exact .inl ⟨i,List.mem_cons.mpr (.inl rfl),h1⟩
   ·exact up h
  | _=>exact up h
theorem wJ:∀ {as:List AK} {vs:List V} {ds:List D},Rep K own F H σ ρ->(∀ x,OA own σ x->H0 x≠none)->(∀ i∈jf as,i∈own)->(jf as).Nodup->frA as<=1->ArgV K H0 F H σ as vs ds->(we (as.map wf) vs).Nodup
 | [],vs,ds,rp,h0,hs,nd,hf,av=>by cases vs <;> simp [we]
 | a::as,[],ds,rp,h0,hs,nd,hf,av=>by cases a <;> exact av.elim
 | a::as,v::vs,[],rp,h0,hs,nd,hf,av=>by cases a <;> exact av.elim
 | .vl::as,v::vs,d::ds,rp,h0,hs,nd,hf,av=>by
  have q:=wJ (as:=as) rp h0 hs nd hf av.2
  cases v <;> exact q
 | .fr::as,v::vs,d::ds,rp,h0,hs,nd,hf,av=>by
  have hf':frA as=0:=by simp only [frA] at hf; omega
  obtain ⟨⟨a,rfl,hz,hF,o⟩,av2⟩:=av
  show (a::we (as.map wf) vs).Nodup
  refine List.nodup_cons.mpr ⟨fun z=>?_,wJ rp h0 hs nd (by omega) av2⟩
  rcases kE av2 z with ⟨i,hi,e⟩ | ⟨_,n,_⟩
  ·exact h0 a ⟨i,hs i hi,e⟩ hz
  ·exact n hf'
 | .sl i::as,v::vs,d::ds,rp,h0,hs,nd,hf,av=>by
  obtain ⟨h1,_,av2⟩:=av
  have hs':∀ j∈jf as,j∈own:=fun j hj=>hs j (List.mem_cons_of_mem _ hj)
  have hi:i∈own:=hs i (List.mem_cons.mpr (.inl rfl))
  obtain ⟨ni,nd'⟩:=List.nodup_cons.mp nd
  have q:=wJ rp h0 hs' nd' hf av2
  cases v with
  | ref a=>
   show (a::we (as.map wf) vs).Nodup
   refine List.nodup_cons.mpr ⟨fun z=>?_,q⟩
   rcases kE av2 z with ⟨j,hj,e⟩ | ⟨n,_⟩
   ·exact ni (by rw [rp.dis i j a hi (hs' j hj) h1 e]; exact hj)
   ·exact h0 a ⟨i,hi,h1⟩ n
  | _=>exact q
theorem vE:∀ {as:List AK} {outs:List D} {ρ:Sl} {i:Nat},i∉jf as->(jQ as outs ρ)[i]?=ρ[i]?
 | [],outs,ρ,i,h=>by cases outs <;> rfl
 | a::as,[],ρ,i,h=>by cases a <;> rfl
 | .vl::as,d::outs,ρ,i,h=>vE (as:=as) h
 | .fr::as,d::outs,ρ,i,h=>vE (as:=as) h
 | .sl j::as,d::outs,ρ,i,h=>by
  have h':i≠j/\i∉jf as:=by simpa [jf] using h
  show (jQ as outs (ρ.set j (some d)))[i]?=_
  rw [vE h'.2,List.getElem?_set_ne (Ne.symm h'.1)]
theorem yR:∀ {as:List AK} {outs:List D} {ρ:Sl},(jQ as outs ρ).length=ρ.length
 | [],outs,ρ=>by cases outs <;> rfl
 | a::as,[],ρ=>by cases a <;> rfl
 | .vl::as,d::outs,ρ=>yR (as:=as)
 | .fr::as,d::outs,ρ=>yR (as:=as)
 | .sl j::as,d::outs,ρ=>by
  show (jQ as outs (ρ.set j (some d))).length=_
  rw [yR,List.length_set]
theorem gm {F' H':Hp}:∀ {as:List AK} {vs:List V} {ds outs:List D} {ρ:Sl},(jf as).Nodup->(∀ i∈jf as,i < ρ.length)->ArgV K H0 F H σ as vs ds->vU K F' H' (as.map wf) vs outs->∀ i∈jf as,∃ d a,(jQ as outs ρ)[i]?=some (some d)/\σ[i]?=some (some (V.ref a))/\F' a=none/\OwnIs K F' H' a d
 | [],vs,ds,outs,ρ,nd,hl,av,o,i,hi=>by simp [jf] at hi
 | a::as,[],ds,outs,ρ,nd,hl,av,o,i,hi=>by cases a <;> exact av.elim
 | a::as,v::vs,[],outs,ρ,nd,hl,av,o,i,hi=>by cases a <;> exact av.elim
 | a::as,v::vs,d::ds,[],ρ,nd,hl,av,o,i,hi=>by cases a <;> exact o.elim
 | .vl::as,v::vs,d::ds,u::outs,ρ,nd,hl,av,o,i,hi=>gm (as:=as) nd hl av.2 o i hi
 | .fr::as,v::vs,d::ds,u::outs,ρ,nd,hl,av,o,i,hi=>gm (as:=as) nd hl av.2 o i hi
 | .sl j::as,v::vs,d::ds,u::outs,ρ,nd,hl,av,o,i,hi=>by
  obtain ⟨ni,nd'⟩:=List.nodup_cons.mp nd
  obtain ⟨h1,_,av2⟩:=av
  obtain ⟨⟨a,e,hF,ow⟩,o2⟩:=o
  subst e
  rcases List.mem_cons.mp hi with e | hi
  ·subst e
   refine ⟨u,a,?_,h1,hF,ow⟩
   show (jQ as outs (ρ.set i (some u)))[i]?=_
   rw [vE ni,List.getElem?_set_self (hl i (List.mem_cons.mpr (.inl rfl)))]
  ·exact gm (as:=as) (ρ:=ρ.set j (some u)) nd' (fun k hk=>by rw [List.length_set]; exact hl k (List.mem_cons_of_mem _ hk)) av2 o2 i hi
end
noncomputable def qB (as:List AK) (G:List D->Out (D×List D)) (fr:Sl->Out (List D×Sl)):Sl->Out (D×Sl):=fun ρ=>(fr ρ).bind fun p=>match qF as p.1 p.2 with
 | some ds=>match G ds with
  | .ok q=>.ok (q.1,jQ as q.2 p.2)
  | .exc c o=>.exc c (jQ as (o.map (·.getD .non)) p.2)
  | .bad=>.bad
 | none=>.bad
section
variable {X:Cx} {C:Ct} {own:List Nat} {as:List AK} {G:List D->Out (D×List D)} {fr:Sl->Out (List D×Sl)} {mr:Mo} {e:Expr} {es:List Expr}
theorem Vt {σ:St} {H0 F H F' H':Hp} {ρ:Sl} {vs:List V} {ds outs:List D} (rp:Rep C.K own F H σ ρ) (h0:∀ x,OA own σ x->H0 x≠none) (hs:∀ i∈jf as,i∈own) (nd:(jf as).Nodup) (av:ArgV C.K H0 F H σ as vs ds)
  (sb:Same F' H') (c:Chg (LA (as.map wf) vs) F H F' H') (o:vU C.K F' H' (as.map wf) vs outs):Rep C.K own F' H' σ (jQ as outs ρ):=by
 have pin:=gm (ρ:=ρ) nd (fun i hi=>by
  obtain ⟨d,e⟩:=rp.opn i (hs i hi)
  exact (List.getElem?_eq_some_iff.mp e).1) av o
 refine ⟨sb,by rw [yR]; exact rp.len,fun i d hi e=>?_,fun i d hi e=>?_,fun i hi=>?_,rp.dis⟩
 ·rw [vE (fun z=>hi (hs i z))] at e
  obtain ⟨v,h1,h2⟩:=rp.val i d hi e
  exact ⟨v,h1,h2.mono c.grow⟩
 ·by_cases q:i∈jf as
  ·obtain ⟨d',a,e1,e2,e3,e4⟩:=pin i q
   rw [e1] at e
   cases e
   exact ⟨a,e2,e3,e4⟩
  ·rw [vE q] at e
   obtain ⟨a,h1,h2,h3⟩:=rp.ow i d hi e
   have nl:¬LA (as.map wf) vs a:=fun z=>by
    rcases kE av z with ⟨j,hj,e'⟩ | ⟨n,_⟩
    ·exact q (by rw [rp.dis i j a hi (hs j hj) h1 e']; exact hj)
    ·exact h0 a ⟨i,hi,h1⟩ n
   refine ⟨a,h1,?_,h3.grow c.grow fun o' q'=>c.keep a o' q' nl⟩
   cases q':F' a with
   | none=>rfl
   | some u=>
    rcases c.new a (by rw [q']; simp) with z | z | z
    ·exact absurd h2 z
    ·exact absurd z h3.there
    ·exact absurd z nl
 ·by_cases q:i∈jf as
  ·obtain ⟨d',a,e1,_⟩:=pin i q
   exact ⟨d',e1⟩
  ·rw [vE q]
   exact rp.opn i hi
theorem qaT {σ:St} {H:Hp} {Q:VK} (hio:∀ i∈C.ox,i∈own) (hs:∀ i∈jf as,i∈own) (nd:(jf as).Nodup) (hf:frA as<=1) (h:tE C own mr (qB as G fr) σ H Q) :
  tAr C own as fr σ H fun vs H1=>spD C.K C.cv (as.map wf) mr G (vs++[]) H1 Q C.E:=by
 obtain ⟨F,ρ,rp,h⟩:=h
 have h0:∀ x,OA own σ x->H x≠none:=fun x z=>(rp.OA_there z).1
 refine ⟨F,ρ,rp,?_⟩
 unfold qB at h
 cases q0:fr ρ with
 | ok p=>
  rw [q0] at h
  obtain ⟨ds,ρ1⟩:=p
  intro vs F1 H1 rp1 c1 av
  rw [List.append_nil]
  have h1:Po C own mr σ F H (match qF as ds ρ1 with | some ds=>(match G ds with | .ok q=>.ok (q.1,jQ as q.2 ρ1) | .exc c o=>.exc c (jQ as (o.map (·.getD .non)) ρ1) | .bad=>.bad) | none=>.bad) Q:=h
  cases q:qF as ds ρ1 with
  | none=>simp only [q] at h1; exact h1.elim
  | some ds'=>
   simp only [q] at h1
   have lo:∀ x,LA (as.map wf) vs x->OA own σ x\/H x=none:=fun x z=>by
    rcases kE av z with ⟨i,hi,e⟩ | ⟨n,_⟩
    ·exact .inl ⟨i,hs i hi,e⟩
    ·exact .inr n
   refine ⟨F1,ds',rp1.sub,uE rp1 hs av q,wJ rp1 h0 hs nd hf av,?_⟩
   cases q2:G ds' with
   | ok p=>
    rw [q2] at h1
    obtain ⟨d,outs⟩:=p
    exact fun v F' H' sb c o mo=>h1 v F' H' (Vt rp1 h0 hs nd av sb c o) (c1.trans c lo) (MoIs.back (Ha:=H1) c1 mo)
   | exc x o=>rw [q2] at h1; exact fun F' H' sb c outs=>h1 F' H' sb ((Vt rp1 h0 hs nd av sb c outs).ioIs hio) (c1.trans c lo)
   | bad=>rw [q2] at h1; exact h1.elim
 | exc c=>rw [q0] at h; exact h
 | bad=>rw [q0] at h; exact h.elim
theorem qaU {CX:CXT} {k:Nat} {f:Addr} {fd:FuncData} {ps:List Str} {x:Str} {p pos:Pos} {ms:List PM} (F:FnOk X.prog X.w X.K X.mg X.base CX k f fd ps (spD C.K C.cv ms mr G)) (hr:Room k X.A) (hg:Gl X x) (hm:X.mg x=some (.ref f)) (hk:keepIn X.K (.ref f)=true) (hb:Binds X.K fd ps []) (hx:kb CX X C.E)
  (ha:PA X (e::es) (tAr C own as fr)) (hms:ms=as.map wf:=by rfl) (hs:∀ i∈jf as,i∈own:=by decide) (nd:(jf as).Nodup:=by decide) (hf:frA as<=1:=by decide) (hio:∀ i∈C.ox,i∈own:=by exact vS rfl) (hdb:(x == ("__debug__":Str))=false:=by decide) (he:starEach (e::es) X.env=(false,eval e X.env)::starEach es X.env:=by exact ji rfl)
  (hpl:(backTo pos (starEach es X.env)).any (·.1)=false:=by exact wF rfl):PE X (.Call (.Name x p) (e::es) [] pos) (tE C own mr (qB as G fr)):=by
 subst hms
 exact jn (qaF F hr hg hm hk hb .nil hx ha hdb he hpl) fun σ H Q h=>qaT hio hs nd hf h
end
structure ItIs (K:Frag) (F:Hp) (J:It) (ds:List D):Prop where
 go:∀ i H,i < ds.length->Same F H->J.go i H
 yld:∀ i Fi H x H' d,ds[i]?=some d->Same F Fi->Same Fi H->J.yld i H x H'->∃ F',Chg No Fi H F' H'/\Same F' H'/\Is K F' x d
 stop:∀ i H,ds.length<=i->Same F H->J.stop i H
def PoI (C:Ct) (own:List Nat) (σ:St) (F H:Hp) (r:Out (List D×Sl)) (R:It->Hp->Prop):Prop:=match r with
 | .ok (ds,ρ')=>∀ J F' H',Rep C.K own F' H' σ ρ'->Chg (OA own σ) F H F' H'->ItIs C.K F' J ds->R J H'
 | .exc c ρ'=>∀ F' H',Same F' H'->Uz C.K C.ox F' H' σ ρ'->Chg (OA own σ) F H F' H'->C.E (C.cv c) none H'
 | .bad=>False
def tIt (C:Ct) (own:List Nat) (f:Sl->Out (List D×Sl)):TI:=fun σ H R=>∃ F ρ,Rep C.K own F H σ ρ/\PoI C own σ F H (f ρ) R
noncomputable def xx:D->Out (List D)
 | .lst xs=>.ok xs
 | .tup xs=>.ok xs
 | _=>.bad
noncomputable def qe8 (f:Sl->Out (D×Sl)):Sl->Out (List D×Sl):=fun ρ=>(f ρ).bind fun p=>(xx p.1).bind fun ds=>.ok (ds,p.2)
theorem PoI.bindV {C:Ct} {own:List Nat} {m:Mo} {σ:St} {F H:Hp} {o:Out (D×Sl)} {k:D×Sl->Out (List D×Sl)} {Q:It->Hp->Prop} {R:VK} (hp:PoI C own σ F H (o.bind k) Q)
  (h:∀ v F1 H1 d ρ1,Rep C.K own F1 H1 σ ρ1->Chg (OA own σ) F H F1 H1->MoIs C.K m H F1 H1 v d->PoI C own σ F H (k (d,ρ1)) Q->R v H1):Po C own m σ F H o R:=by
 cases o with
 | ok p=>exact fun v F1 H1 rp c mo=>h v F1 H1 p.1 p.2 rp c mo hp
 | exc x=>exact hp
 | bad=>exact hp.elim
section
variable {X:Cx} {C:Ct} {own:List Nat} {tg e:Expr} {f:Sl->Out (D×Sl)} {m:Mo} {pos:Pos}
theorem qaV {t t':TI} (h:PI X tg e t) (i:∀ σ H Q,t' σ H Q->t σ H Q):PI X tg e t':=⟨fun pins s σ H R I hw=>h pins s σ H R I (i σ H R hw)⟩
theorem qcq {K:Frag} {F:Hp} {a:Addr} {xs:List V} {ds:List D} (p:SqL K F a xs) (t:IsL K F xs ds):ItIs K F (Itl K a) ds where
 go:=fun i H hi s=>by
  have hx:i < xs.length:=by rw [t.length]; exact hi
  exact ⟨xs,xs[i],s.seq p,by simp [hx]⟩
 yld:=fun i Fi H x H' d e s1 s2 y=>by
  obtain ⟨rfl,y⟩:=y
  obtain ⟨v,h1,h2⟩:=t.getD e
  have q:=y xs ((s1.trans s2).seq p)
  rw [h1] at q
  cases q
  exact ⟨Fi,.refl,s2,h2.mono s1⟩
 stop:=fun i H hi s=>⟨xs,s.seq p,by rw [t.length]; exact hi⟩
theorem qcr {K:Frag} {F:Hp} {a:Addr} {xs:List V} {ds:List D} (p:SqT K F a xs) (t:IsL K F xs ds):ItIs K F (Itt K a) ds where
 go:=fun i H hi s=>by
  have hx:i < xs.length:=by rw [t.length]; exact hi
  exact ⟨xs,xs[i],qC s p,by simp [hx]⟩
 yld:=fun i Fi H x H' d e s1 s2 y=>by
  obtain ⟨rfl,y⟩:=y
  obtain ⟨v,h1,h2⟩:=t.getD e
  have q:=y xs (qC (s1.trans s2) p)
  rw [h1] at q
  cases q
  exact ⟨Fi,.refl,s2,h2.mono s1⟩
 stop:=fun i H hi s=>⟨xs,qC s p,by rw [t.length]; exact hi⟩
noncomputable def Vu (lo:Int) (n:Nat):List D:=(List.range n).map fun k=>.int (lo+(k:Nat))
theorem qcs {K:Frag} {F:Hp} {lo:Int} {n:Nat}:ItIs K F (Itr lo n) (Vu lo n) where
 go:=fun i H hi _=>by
  have:i < n:=by simpa [Vu] using hi
  exact this
 yld:=fun i Fi H x H' d e s1 s2 y=>by
  obtain ⟨rfl,rfl⟩:=y
  have e:d=.int (lo+i):=by
   unfold Vu at e
   rw [List.getElem?_map] at e
   cases q:(List.range n)[i]? with
   | none=>rw [q] at e; cases e
   | some k=>
    rw [q] at e
    have hk:k=i:=by
     have:=List.getElem?_eq_some_iff.mp q
     obtain ⟨_,z⟩:=this
     simpa using z.symm
    subst hk
    exact (Option.some.inj e).symm
  subst e
  exact ⟨Fi,.refl,s2,.int _⟩
 stop:=fun i H hi _=>by
  have:n<=i:=by simpa [Vu] using hi
  exact this
noncomputable def uS (f:Sl->Out (D×Sl)):Sl->Out (List D×Sl):=fun ρ=>(f ρ).bind fun p=>match p.1 with
 | .int j=>if -(2 ^ 62)<=j/\j < 2 ^ 62 then .ok (Vu 0 j.toNat,p.2) else .bad
 | _=>.bad
theorem uT {p:Pos} (hg:Gl X "range") (hm:X.mg "range"=none) (h:PE X e (tE C own m f)) (hs:starEach [e] X.env=[(false,eval e X.env)]:=by exact qM rfl):PI X tg (.Call (.Name "range" p) [e] [] pos) (tIt C own (uS f)):=by
 refine qaV (Ud hg hm (qS h jR hs) hs) fun σ H R ⟨F,ρ,rp,h⟩=>⟨F,ρ,rp,PoI.bindV h fun v F1 H1 d ρ1 rp1 c1 mo1 h1=>?_⟩
 cases d with
 | int j=>
  obtain rfl:=mo1.top.int
  have h1:PoI C own σ F H (if -(2 ^ 62)<=j/\j < 2 ^ 62 then .ok (Vu 0 j.toNat,ρ1) else .bad) R:=h1
  by_cases z:-(2 ^ 62)<=j/\j < 2 ^ 62
  ·rw [if_pos z] at h1
   exact ⟨j,rfl,z.1,z.2,h1 _ F1 H1 rp1 c1 qcs⟩
  ·rw [if_neg z] at h1; exact h1.elim
 | _=>exact h1.elim
def tGd (C:Ct) (own:List Nat) (g:D->Sl->Out Sl):TG:=fun v σ H Q=>∃ F ρ d,Rep C.K own F H σ ρ/\Is C.K F v d/\∃ ρ',g d ρ=.ok ρ'/\∀ σ',Rep C.K own F H σ' ρ'->(∀ b,OA own σ' b->OA own σ b)->(∀ i∈C.io,σ'[i]?=σ[i]?)->Q σ' H
def qdo (C:Ct) (own:List Nat) (g:List D->Sl->Out Sl):TGs:=fun vs σ H Q=>∃ F ρ ds,Rep C.K own F H σ ρ/\IsL C.K F vs ds/\∃ ρ',g ds ρ=.ok ρ'/\∀ σ',Rep C.K own F H σ' ρ'->(∀ b,OA own σ' b->OA own σ b)->(∀ i∈C.io,σ'[i]?=σ[i]?)->Q σ' H
theorem qct {t t':TG} (h:PG X e t) (i:∀ v σ H Q,t' v σ H Q->t v σ H Q):PG X e t':=⟨fun pins s σ H v u Q I r hw=>h pins s σ H v u Q I r (i v σ H Q hw)⟩
theorem GS {es:List Expr} {t t':TGs} (h:PGs X es t) (i:∀ v σ H Q,t' v σ H Q->t v σ H Q):PGs X es t':=⟨fun pins s σ H v u Q I r hw=>h pins s σ H v u Q I r (i v σ H Q hw)⟩
noncomputable def gNm (i:Nat):D->Sl->Out Sl:=fun d ρ=>if i < ρ.length then .ok (ρ.set i (some d)) else .bad
theorem wK {own:List Nat} {i:Nat} (h:i∉own):vX own [i]=own:=by
 unfold vX
 rw [List.filter_eq_self]
 intro j hj
 simp only [List.mem_singleton,decide_eq_true_eq]
 exact fun z=>h (by rw [<-z]; exact hj)
theorem qw {i:Nat} {x:Str} (hN:X.N.Nodup) (hi:X.N[i]?=some x) (hx:Loc X.env.scope x) (ho:i∉own:=by decide) (hio:i∉C.io:=by exact zH rfl) (hf:X.fn x=true\/X.env.scope.names.lookup x=some .local:=by first | exact .inl rfl | exact .inr rfl):PG X (.Name x pos) (tGd C own (gNm i)):=by
 refine qct (qay hN hi hx hf) fun v σ H Q ⟨F,ρ,d,rp,is,ρ',e,k⟩=>?_
 unfold gNm at e
 by_cases z:i < ρ.length
 ·rw [if_pos z] at e
  cases e
  have r2:=rp.put z is
  rw [wK ho] at r2
  refine k _ r2 (fun b q=>?_) fun j hj=>List.getElem?_set_ne fun q=>hio (by rw [q]; exact hj)
  have q':OA (vX own [i]) (σ.set i (some v)) b:=by rw [wK ho]; exact q
  exact q'.put
 ·rw [if_neg z] at e; cases e
noncomputable def wg:List D->Sl->Out Sl
 | [],ρ=>.ok ρ
 | _::_,_=>.bad
noncomputable def qN (g:D->Sl->Out Sl) (gs:List D->Sl->Out Sl):List D->Sl->Out Sl
 | d::ds,ρ=>(g d ρ).bind fun ρ1=>gs ds ρ1
 | [],_=>.bad
theorem vF:PGs X [] (qdo C own wg):=by
 refine GS qaz fun vs σ H Q ⟨F,ρ,ds,rp,is,ρ',e,k⟩=>?_
 cases is with
 | nil=>cases e; exact ⟨rfl,k σ rp (fun _ z=>z) fun _ _=>rfl⟩
 | cons _ _=>cases e
theorem qH {es:List Expr} {g:D->Sl->Out Sl} {gs:List D->Sl->Out Sl} (h1:PG X e (tGd C own g)) (h2:PGs X es (qdo C own gs)) (hs:(assignEach (e::es) X.env).map (·.2)=assign e X.env::(assignEach es X.env).map (·.2):=by rfl):PGs X (e::es) (qdo C own (qN g gs)):=by
 refine GS (XU h1 h2 hs) fun vs σ H Q ⟨F,ρ,ds,rp,is,ρ',e,k⟩=>?_
 cases is with
 | nil=>cases e
 | @cons v d vs ds a t=>
  have e:(g d ρ).bind (fun ρ1=>gs ds ρ1)=.ok ρ':=e
  cases q:g d ρ with
  | ok ρ1=>
   rw [q] at e
   exact ⟨v,vs,rfl,F,ρ,d,rp,a,ρ1,q,fun σ1 rp1 oa1 io1=>⟨F,ρ1,ds,rp1,t,ρ',e,fun σ2 rp2 oa2 io2=>k σ2 rp2 (fun b z=>oa1 b (oa2 b z)) fun i hi=>(io2 i hi).trans (io1 i hi)⟩⟩
  | exc c=>rw [q] at e; cases e
  | bad=>rw [q] at e; cases e
noncomputable def wj (n:Nat) (gs:List D->Sl->Out Sl):D->Sl->Out Sl
 | .tup ds,ρ=>if ds.length=n then gs ds ρ else .bad
 | _,_=>.bad
theorem ul {es:List Expr} {k n:Nat} {gs:List D->Sl->Out Sl} (hK:C.K=X.K) (hc:X.calm=true) (h:PGs X es (qdo C own gs)) (hn:(assignEach es X.env).length=n:=by rfl) (hst:(assignEach es X.env).findIdx? (·.1)=none:=by rfl):PG X (.Tuple es k pos) (tGd C own (wj n gs)):=by
 refine qct (qbZ hc h hn hst) fun v σ H Q ⟨F,ρ,d,rp,is,ρ',e,k⟩=>?_
 cases is with
 | @tup a xs ds p t=>
  have e:(if ds.length=n then gs ds ρ else .bad)=.ok ρ':=e
  by_cases z:ds.length=n
  ·rw [if_pos z] at e
   exact ⟨a,xs,rfl,by rw [<-hK]; exact qC rp.sub p,by rw [t.length]; exact z,F,ρ,ds,rp,t,ρ',e,k⟩
  ·rw [if_neg z] at e; cases e
 | _=>cases e
noncomputable def qdp (fe:Sl->Out (D×Sl)) (g:D->Sl->Out Sl):Sl->Out (Fl×Sl):=fun ρ=>(fe ρ).bind fun p=>match g p.1 p.2 with
 | .ok ρ'=>.ok (.nx,ρ')
 | _=>.bad
theorem UR {g:D->Sl->Out Sl} (he:PE X e (tE C own m f)) (hg:PG X tg (tGd C own g)) (hm:m≠.any:=by decide) (hs:swapsWithSole [tg] e pos.line X.env=pure false:=by rfl) (hw:swappedStores [tg] e X.env=pure none:=by rfl)
  (h1:(assignEach [tg] X.env).map (·.2)=[assign tg X.env]:=by rfl):PS X (.Assign [tg] e pos) (tSt C own own (qdp f g)):=by
 refine gk (Ua (vd he hm) hg hs hw h1) fun D σ H ⟨F,ρ,rp,h⟩=>⟨F,ρ,rp,PoS.bindE h fun v F1 H1 d ρ1 rp1 c1 mo1 h1=>?_⟩
 cases q:g d ρ1 with
 | ok ρ'=>
  simp only [q] at h1
  exact ⟨F1,ρ1,d,rp1,mo1,ρ',q,fun σ' rp' oa io=>h1 σ' F1 H1 ⟨rp',.refl,fun b z=>.inl (oa b z),io⟩⟩
 | exc c=>simp only [q] at h1; exact h1.elim
 | bad=>simp only [q] at h1; exact h1.elim
noncomputable def yS (g:D->Sl->Out Sl) (fb:Sl->Out (Fl×Sl)):List D->Sl->Out (Fl×Sl)
 | [],ρ=>.ok (.nx,ρ)
 | d::ds,ρ=>(g d ρ).plain.bind fun ρ1=>(fb ρ1).bind fun p=>match p.1 with
  | .nx=>yS g fb ds p.2
  | .ct=>yS g fb ds p.2
  | .bk=>.ok (.nx,p.2)
  | .rt v=>.ok (.rt v,p.2)
noncomputable def qaW (fi:Sl->Out (List D×Sl)) (g:D->Sl->Out Sl) (fb:Sl->Out (Fl×Sl)):Sl->Out (Fl×Sl):=fun ρ=>(fi ρ).bind fun p=>yS g fb p.1 p.2
theorem gp {iter:Expr} {body:List Stmt} {fi:Sl->Out (List D×Sl)} {g:D->Sl->Out Sl} {fb:Sl->Out (Fl×Sl)} (hp:PassesOwn (model X.prog X.w) X.A X.env X.xe) (hc:X.calm=true) (hi:PI X tg iter (tIt C own fi)) (hg:PG X tg (tGd C own g))
  (hb:PSs X body (tSt { C with ol:=own } own own fb)) (hs:∀ x,foldedSetIterable iter X.env x=pure x:=by intro _; rfl):PS X (.For tg iter body [] pos) (tSt C own own (qaW fi g fb)):=by
 refine gk (GM hp hc hi hg hb hs) fun D σ H ⟨F,ρ,rp,h⟩=>⟨F,ρ,rp,?_⟩
 unfold qaW at h
 cases q0:fi ρ with
 | exc c=>rw [q0] at h; exact h
 | bad=>rw [q0] at h; exact h.elim
 | ok p=>
  rw [q0] at h
  obtain ⟨ds,ρ1⟩:=p
  intro J F1 H1 rp1 c1 it
  have h:PoS C own own σ F H (yS g fb ds ρ1) D:=h
  refine ⟨fun i m σ' H'=>m=ds.length - i/\i<=ds.length/\∃ F' ρ',Nx C own own σ F H ρ' σ' F' H'/\Same F1 F'/\PoS C own own σ' F' H' (yS g fb (ds.drop i) ρ') D,⟨ds.length,by simp,Nat.zero_le _,F1,ρ1,.ofE rp1 c1,Same.refl _,h.shift (.ofE rp1 c1)⟩,?_⟩
  rintro i m σ' H' ⟨rfl,hle,F',ρ',nx,gr,po⟩
  by_cases hlt:i < ds.length
  ·have hd:ds.drop i=ds[i]::ds.drop (i+1):=List.drop_eq_getElem_cons hlt
   rw [hd] at po
   have po:PoS C own own σ' F' H' ((g ds[i] ρ').plain.bind fun ρ1=>(fb ρ1).bind fun p=>match p.1 with | .nx=>yS g fb (ds.drop (i+1)) p.2 | .ct=>yS g fb (ds.drop (i+1)) p.2 | .bk=>.ok (.nx,p.2) | .rt v=>.ok (.rt v,p.2)) D:=po
   refine .inr ⟨it.go i H' hlt (gr.trans nx.rep.sub),fun σ2 H2=>ds.length - (i+1)=ds.length - (i+1)/\i+1<=ds.length/\∃ F' ρ',Nx C own own σ F H ρ' σ2 F' H2/\Same F1 F'/\PoS C own own σ2 F' H2 (yS g fb (ds.drop (i+1)) ρ') D,fun σ2 H2 q=>⟨ds.length - (i+1),by omega,q⟩,fun x H2 y=>?_⟩
   obtain ⟨F2,c2,s2,is2⟩:=it.yld i F' H' x H2 ds[i] (by simp [hlt]) gr nx.rep.sub y
   cases q1:g ds[i] ρ' with
   | exc c=>rw [q1] at po; exact po.elim
   | bad=>rw [q1] at po; exact po.elim
   | ok ρ2=>
    rw [q1] at po
    refine ⟨F2,ρ',ds[i],nx.rep.grow c2 s2,is2,ρ2,q1,fun σ3 rp3 oa3 io3=>⟨F2,ρ2,rp3,?_⟩⟩
    have n3:Nx C own own σ' F' H' ρ2 σ3 F2 H2:=⟨rp3,c2.ofNo,fun b z=>.inl (oa3 b z),io3⟩
    have po3:=PoS.shift (show PoS C own own σ' F' H' ((fb ρ2).bind fun p=>match p.1 with | .nx=>yS g fb (ds.drop (i+1)) p.2 | .ct=>yS g fb (ds.drop (i+1)) p.2 | .bk=>.ok (.nx,p.2) | .rt v=>.ok (.rt v,p.2)) D from po) n3
    have up:∀ {ρ4 σ4 F4 H4},Nx { C with ol:=own } own own σ3 F2 H2 ρ4 σ4 F4 H4->Nx C own own σ3 F2 H2 ρ4 σ4 F4 H4:=fun z=>⟨z.rep,z.chg,z.oa,z.io⟩
    cases q2:fb ρ2 with
    | exc c=>rw [q2] at po3; exact po3
    | bad=>rw [q2] at po3; exact po3.elim
    | ok p=>
     rw [q2] at po3
     obtain ⟨fl,ρ4⟩:=p
     cases fl with
     | nx=>exact fun σ4 F4 H4 n4=>⟨rfl,hlt,F4,ρ4,(nx.then n3).then (up n4),(gr.trans c2.grow).trans n4.chg.grow,PoS.shift (show PoS C own own σ3 F2 H2 (yS g fb (ds.drop (i+1)) ρ4) D from po3) (up n4)⟩
     | ct=>exact fun σ4 F4 H4 n4=>⟨rfl,hlt,F4,ρ4,(nx.then n3).then (up n4),(gr.trans c2.grow).trans n4.chg.grow,PoS.shift (show PoS C own own σ3 F2 H2 (yS g fb (ds.drop (i+1)) ρ4) D from po3) (up n4)⟩
     | bk=>exact fun σ4 F4 H4 n4=>po3 σ4 F4 H4 (up n4)
     | rt d=>exact fun v σ4 F4 H4 s io c e mo=>po3 v σ4 F4 H4 s io c e mo
  ·have e:i=ds.length:=by omega
   subst e
   rw [List.drop_length] at po
   exact .inl ⟨it.stop _ H' (Nat.le_refl _) (gr.trans nx.rep.sub),po σ' F' H' (.refl nx.rep)⟩
end
noncomputable def Qk (cells:List (Str×Addr)):List (Str×NameKind)->List (Str×Addr)->List (Str×Addr)
 | [],acc=>acc
 | (n,k)::r,acc=>if (k == .free)=true then Qk cells r ((n,(cells.lookup n).getD 0)::acc) else Qk cells r acc
theorem wk {env:Env}:∀ (names:List (Str×NameKind)) (acc:List (Str×Addr)),(∀ x∈names,x.2=.free->∃ c,env.cells.lookup x.1=some c) ->
  (forIn names acc fun (x:Str×NameKind) (cs:List (Str×Addr))=>if (x.2 == NameKind.free)=true then (do let a <-cellOf env x.1; pure (ForInStep.yield ((x.1,a)::cs))) else pure (ForInStep.yield cs):Sem (List (Str×Addr)))=pure (Qk env.cells names acc)
 | [],acc,_=>rfl
 | (n,k)::r,acc,h=>by
  rw [List.forIn_cons]
  by_cases q:(k == NameKind.free)=true
  ·obtain ⟨c,hc⟩:=h (n,k) List.mem_cons_self (by simpa using q)
   have e:cellOf env n=pure c:=by unfold cellOf; rw [hc]
   simp only [q,if_true,e]
   have ih:=wk r ((n,c)::acc) (fun x hx=>h x (List.mem_cons_of_mem _ hx))
   simp only [Qk,q,if_true,hc,Option.getD_some]
   exact ih
  ·simp only [q,if_false,Qk]
   exact wk r acc (fun x hx=>h x (List.mem_cons_of_mem _ hx))
theorem zL {scope:Scope} {env:Env} (h:∀ x∈scope.names,x.2=.free->∃ c,env.cells.lookup x.1=some c):closureFor scope env=pure (Qk env.cells scope.names []):=by
 have:=wk scope.names [] h
 unfold closureFor
 simp only [bind_pure]
 exact this
theorem um {cells:List (Str×Addr)}:∀ {names:List (Str×NameKind)} {acc:List (Str×Addr)} {x:Str} {c:Addr},(∀ y∈names,y.2=.free->∃ c,cells.lookup y.1=some c)->(Qk cells names acc).lookup x=some c->cells.lookup x=some c\/acc.lookup x=some c
 | [],acc,x,c,_,h=>.inr h
 | (n,k)::r,acc,x,c,hf,h=>by
  unfold Qk at h
  by_cases q:(k == NameKind.free)=true
  ·rw [if_pos q] at h
   obtain ⟨c',hc⟩:=hf (n,k) List.mem_cons_self (by simpa using q)
   rcases um (fun y hy=>hf y (List.mem_cons_of_mem _ hy)) h with z | z
   ·exact .inl z
   ·rw [List.lookup_cons] at z
    have hc:cells.lookup n=some c':=hc
    by_cases e:(x == n)=true
    ·rw [e] at z
     simp only [hc,Option.getD_some] at z
     have:x=n:=by simpa using e
     subst this
     rw [hc]; exact .inl z
    ·have e:(x == n)=false:=by simpa using e
     rw [e] at z
     exact .inr z
  ·rw [if_neg q] at h
   exact um (fun y hy=>hf y (List.mem_cons_of_mem _ hy)) h
theorem gq {cells:List (Str×Addr)}:∀ {names:List (Str×NameKind)} {acc:List (Str×Addr)} {x:Str},(∃ c,acc.lookup x=some c)->∃ c,(Qk cells names acc).lookup x=some c
 | [],_,_,h=>h
 | (n,k)::r,acc,x,h=>by
  unfold Qk
  by_cases q:(k == NameKind.free)=true
  ·rw [if_pos q]
   refine gq ?_
   obtain ⟨c,hc⟩:=h
   rw [List.lookup_cons]
   by_cases e:(x == n)=true
   ·rw [e]; exact ⟨_,rfl⟩
   ·have e:(x == n)=false:=by simpa using e
    rw [e]; exact ⟨c,hc⟩
  ·rw [if_neg q]; exact gq h
theorem yT {cells:List (Str×Addr)}:∀ {names:List (Str×NameKind)} {acc:List (Str×Addr)} {x:Str},(x,NameKind.free)∈names->∃ c,(Qk cells names acc).lookup x=some c
 | (n,k)::r,acc,x,h=>by
  unfold Qk
  rcases List.mem_cons.mp h with e | h
  ·cases e
   rw [if_pos (by rfl)]
   refine gq ?_
   rw [List.lookup_cons,beq_self_eq_true]
   exact ⟨_,rfl⟩
  ·by_cases q:(k == NameKind.free)=true
   ·rw [if_pos q]; exact yT h
   ·rw [if_neg q]; exact yT h
noncomputable def jC (X:Cx) (scope:Scope) (N:List Str) (fp:List Addr) (L:Addr) (s:Shared) (H:Hp):Cx:=
 { X with N:=N,s₀:=s,H₀:=H,env:=compEnvC scope (Qk X.env.cells scope.names []) L X.env,outer:=X.stack,stack:=X.stack,ex:=fp,fn:=fun _=>false,pn:=[],xe:=fun _ _=>False }
structure ScOk (X:Cx) (scope:Scope):Prop where
 kind:scope.kind=.function
 nocell:∀ y∈scope.names,y.2≠.cell
 names:∀ y∈scope.names,y.2=.local->scope.names.lookup y.1=some .local
 free:∀ y∈scope.names,y.2=.free->X.env.kindOf y.1=some .cell\/X.env.kindOf y.1=some .free
 frl:∀ y∈scope.names,y.2=.free->scope.names.lookup y.1=some .free
theorem wL {α:Type} {x:Str} {a:α}:∀ {l:List (Str×α)},l.lookup x=some a->(x,a)∈l
 | [],h=>by simp at h
 | (n,k)::r,h=>by
  rw [List.lookup_cons] at h
  by_cases e:(x == n)=true
  ·rw [e] at h
   have h:some k=some a:=h
   cases h
   have:x=n:=by simpa using e
   subst this
   exact List.mem_cons_self
  ·have e:(x == n)=false:=by simpa using e
   rw [e] at h
   exact List.mem_cons_of_mem _ (wL h)
theorem yu {scope:Scope} {env:Env} {x:Str} {k:NameKind} (h:(relabel scope env).names.lookup x=some k) (hk:k=.cell\/k=.free) (hn:∀ y∈scope.names,y.2≠.cell):(x,NameKind.free)∈scope.names:=by
 have m:=wL h
 obtain ⟨⟨n,k'⟩,hm,e⟩:=List.mem_map.mp m
 dsimp only at e
 by_cases q:(k' == NameKind.free&&env.scope.kind == .function&&env.kindOf n == some .cell)=true
 ·rw [if_pos q] at e
  cases e
  have:k'=.free:=by
   rw [Bool.and_eq_true,Bool.and_eq_true] at q
   simpa using q.1.1
  subst this
  exact hm
 ·rw [if_neg q] at e
  cases e
  rcases hk with rfl | rfl
  ·exact absurd rfl (hn _ hm)
  ·exact hm
theorem QH {scope:Scope} {env:Env} {x:Str} (h:Vis (relabel scope env) x):∃ k,(x,k)∈scope.names:=by
 have go:∀ {k:NameKind},(relabel scope env).names.lookup x=some k->∃ k,(x,k)∈scope.names:=fun {k} h=>by
  obtain ⟨⟨n,k'⟩,hm,e⟩:=List.mem_map.mp (wL h)
  dsimp only at e
  by_cases q:(k' == NameKind.free&&env.scope.kind == .function&&env.kindOf n == some .cell)=true
  ·rw [if_pos q] at e
   cases e
   exact ⟨_,hm⟩
  ·rw [if_neg q] at e
   cases e
   exact ⟨_,hm⟩
 rcases h with h | h | h <;> exact go h
section
variable {X:Cx} {pins:List (Addr×Obj)} {σ σc:St} {H:Hp} {s:Shared} {scope:Scope} {N:List Str} {fp:List Addr}
theorem xy (I:Inv X pins σ H s) (S:ScOk X scope):∀ y∈scope.names,y.2=.free->∃ c,X.env.cells.lookup y.1=some c:=fun y hy e=>I.ok.has y.1 (S.free y hy e)
theorem Zu {h':Heap} (I:Inv X pins σ H s) (S:ScOk X scope) (hf:∀ b∈fp,JA X pins H b) (ho:∀ b∈fp,b < s.heap.objs.size) (hns:h'.Ns s.heap.objs.size (fun _=>none))
  (hk:∀ b o,s.heap.get? b=some o->h'.get? b=some o) (hl:σc.length=N.length)
  (hσ:∀ (j:Nat) (x:Str) (v:V),N[j]?=some x->σc[j]?=some (some v)->(∃ k,(x,k)∈scope.names)->∃ i:Nat,X.N[i]?=some x/\σ[i]?=some (some v)/\Vis X.env.scope x/\(x,NameKind.free)∈scope.names) {t:Nat} :
  Inv (jC X scope N fp s.heap.objs.size s H) [] σc H { s with heap:=h',toks:=t }:=by
 have hfc:=xy I S
 have cl:∀ x c,(Qk X.env.cells scope.names []).lookup x=some c->X.env.cells.lookup x=some c:=fun x c e=>(um hfc e).resolve_right (by simp)
 have nfs:∀ b∈fp,b∉frs X.stack:=fun b hb z=>by
  obtain ⟨f0,f1,f2,_⟩:=hf b hb
  rcases List.mem_cons.mp (I.stkSub b z) with e | e
  ·exact f1 e
  ·exact f2 e
 refine ⟨⟨I.ok.mod,?_,I.ok.glob,I.ok.blt,Nat.le_refl _,fun x y c h1 h2=>I.ok.inj x y c (cl x c h1) (cl y c h2),fun x hx=>?_,fun x c h=>absurd h (by show ¬(false=true); exact Bool.false_ne_true),I.ok.hd,I.ok.frames,.inl rfl,fun b hb=>⟨Nat.ne_of_lt (ho b hb),fun x c e z=>?_⟩,I.bs,Nat.le_trans I.ok.bsz I.sz,fun b o e hb=>?_,nfs,I.stack,I.stkFree⟩,
  rfl,I.bare,Un.kept hk,⟨_,hns,fun j x v e1 e2 e3=>?_⟩,fun x c e=>?_,I.hok.fresh (Nat.le_refl _),fun x c e=>I.freeC x c (cl x c e),fun p hp=>absurd (show p∈([]:List (Addr×Obj)) from hp) (by simp),I.hok.kept hk,hl⟩
 ·exact S.kind
 ·refine yT ?_
  rcases hx with hx | hx
  ·exact yu hx (.inl rfl) S.nocell
  ·exact yu hx (.inr rfl) S.nocell
 ·exact (hf b hb).2.2.2.2.1 x c (cl x c e) z
 ·rcases (hf b hb).2.2.2.1 with z | z
  ·exact I.ok.noex b o e z
  ·have hlt:=Heap.lt_size e
   exact absurd (Nat.lt_of_lt_of_le hlt (Nat.le_trans I.ok.bsz z)) (Nat.lt_irrefl _)
 ·obtain ⟨i,g1,g2,g3,g4⟩:=hσ j x v e1 e2 (QH e3)
  obtain ⟨m,hn,hl'⟩:=I.loc
  obtain ⟨u,r,look⟩:=hl' i x v g1 g2 g3
  refine ⟨u,r,?_⟩
  obtain ⟨c0,hc0⟩:=yT (cells:=X.env.cells) (acc:=[]) g4
  have hce:=cl x c0 hc0
  have kd:(jC X scope N fp s.heap.objs.size s H).env.kindOf x=some .cell\/(jC X scope N fp s.heap.objs.size s H).env.kindOf x=some .free\/(jC X scope N fp s.heap.objs.size s H).env.kindOf x=some .local:=by
   rcases e3 with z | z | z
   ·exact .inr (.inr z)
   ·exact .inl z
   ·exact .inr (.inl z)
  rcases look with ⟨k,_⟩ | ⟨k,c,hc,z⟩
  ·rcases S.free _ g4 rfl with q | q
   ·have q:X.env.kindOf x=some .cell:=q
    rw [k] at q; cases q
   ·have q:X.env.kindOf x=some .free:=q
    rw [k] at q; cases q
  ·rw [hce] at hc
   cases hc
   obtain ⟨oc,ho1,ho2⟩:=z
   rcases kd with q | q | q
   ·exact .inr ⟨.inl q,c0,hc0,⟨oc,hk _ _ ho1,ho2⟩⟩
   ·exact .inr ⟨.inr q,c0,hc0,⟨oc,hk _ _ ho1,ho2⟩⟩
   ·refine absurd q ?_
    intro q
    have m2:=wL (show (relabel scope X.env).names.lookup x=some .local from q)
    obtain ⟨⟨n,k'⟩,hm,e⟩:=List.mem_map.mp m2
    dsimp only at e
    by_cases qq:(k' == NameKind.free&&X.env.scope.kind == .function&&X.env.kindOf n == some .cell)=true
    ·rw [if_pos qq] at e; cases e
    ·rw [if_neg qq] at e
     cases e
     have e1:=S.names _ hm rfl
     have e2:=S.frl _ g4 rfl
     have e1:scope.names.lookup x=some .local:=e1
     have e2:scope.names.lookup x=some .free:=e2
     rw [e1] at e2
     cases e2
 ·obtain ⟨v,oc,ho1,ho2⟩:=I.cell x c (cl x c e)
  exact ⟨v,oc,hk _ _ ho1,ho2⟩
theorem Zv {H1 H':Hp} {s1 s':Shared} {h':Heap} {L:Addr} (I:Inv X pins σ H s) (hf:∀ b∈fp,JA X pins H b) (J:Inv (jC X scope N fp s.heap.objs.size s H) [] σc H' s') (sb:Heap.SameBut s.heap.objs.size s'.heap h'):Inv X pins σ H' { s' with heap:=h' }:=by
 have hL:H' s.heap.objs.size=none:=J.free
 have ne:∀ b o,s.heap.get? b=some o->b≠s.heap.objs.size:=fun b o e=>Nat.ne_of_lt (Heap.lt_size e)
 have U:Un (frs X.stack) fp H H' s.heap s'.heap:=J.base
 refine I.call' (s':={ s' with heap:=h' }) (ch:=fp) J.os ⟨fun b o e n h1 h2=>(sb.2 b (ne b o e)).trans (U.keep b o e n h1 h2),fun b o e n h1 h2=>?_,U.free,fun b o e h2=>?_,U.tups,U.frzs,U.tbls⟩ (fun b u e=>?_) J.bare fun b hb=>?_
 ·obtain ⟨sl,q⟩:=U.slot b o e n h1 h2
  exact ⟨sl,(sb.2 b (ne b o e)).trans q⟩
 ·obtain ⟨o',q⟩:=U.there b o e h2
  exact ⟨o',(sb.2 b (ne b o e)).trans q⟩
 ·refine (J.hok b u e).stay (fun c w hc q=>(sb.2 c ?_).trans q) (fun _ q=>q) fun _ _ q=>q
  rintro rfl
  rcases hc with z | z
  ·rw [<-z,hL] at e; cases e
  ·rw [hL] at z; cases z
 ·obtain ⟨f0,f1,f2,f3,f4,f5⟩:=hf b hb
  exact ⟨f3,f1,f4,f5⟩
end
theorem gt {prog:Program} {w:World} {A:Around} {R:Result->Shared->Prop} {s:Shared} {elt target iter:Expr} {ifs:List Expr} {scope:Scope} {pos:Pos} {it acc:Value} {env:Env} (I:Nat->Shared->Prop)
  (turn:∀ n s,I n s->wpAny (model prog w) A (pyNext it) (fun r s₁=>match r with
   | none=>R (.ok .next) s₁
   | some v=>wpAny (model prog w) A (letOwnedTupleGo target it v) (fun _ t₁=>wpAny (model prog w) A (assign target env v) (fun _ s₂=>
     wpAny (model prog w) A (forIn ifs true fun c r=>if r=true then do let ok <-isTrue c env (eval c env); pure (ForInStep.yield ok) else pure (ForInStep.yield r)) (fun ok s₃=>
      if ok=true then wpAny (model prog w) A (eval elt env) (fun x s₄=>
       wpAny (model prog w) A (call (.builtin "list.append") [acc,x]) (fun _ s₅=>∃ m,m < n/\I m s₅) (fun _ _=>False) s₄) (fun _ _=>False) s₃
      else ∃ m,m < n/\I m s₃) (fun _ _=>False) s₂) (fun _ _=>False) t₁) (fun _ _=>False) s₁) (fun _ _=>False) s)
  (n:Nat) (h:I n s):codeAny (model prog w) A (.compLoop (.ListComp elt [⟨target,iter,ifs,0⟩] scope pos) 0 it acc env) R s:=by
 have no:∀ {α:Type} {t:Sem α} {Q Q':α->Shared->Prop} {E':Value->Shared->Prop} {s:Shared},wpAny (model prog w) A t Q (fun _ _=>False) s->(∀ a s,Q a s->Q' a s)->wpAny (model prog w) A t Q' E' s:=fun h k=>wpAny_mono h k fun _ _ z=>z.elim
 refine codeAny_loop rfl I (fun n s hI=>?_) n h
 show wpAny _ A ((compTurn (.ListComp elt [⟨target,iter,ifs,0⟩] scope pos) 0 it acc env).onRaise (fun x=>do noteFrame x env; theTreesLotGoes x)) _ _ s
 refine wpAny_noted ?_
 rw [compTurn_list]
 refine wpAny_bind (wpAny_standAt (wpAny_bind (no (turn n s hI) fun r s₁ h₁=>?_)))
 cases r with
 | none=>exact wpAny_pure h₁
 | some v=>
  refine wpAny_bind (no h₁ fun _ t₁ k₁=>wpAny_bind (no k₁ fun _ s₂ h₂=>wpAny_bind (no h₂ fun ok s₃ h₃=>?_)))
  cases ok with
  | false=>exact wpAny_pure ⟨rfl,h₃⟩
  | true=>exact wpAny_bind (wpAny_bind (no h₃ fun x s₄ h₄=>wpAny_bind (no h₄ fun _ s₅ h₅=>wpAny_pure (wpAny_pure ⟨rfl,h₅⟩))))
structure PTs (Y:Cx) (ifs:List Expr) (t:TT):Prop where
 run:∀ (pins:List (Addr×Obj)) (s:Shared) (σ:St) (H:Hp) (Q:Bool->Hp->Prop),Inv Y pins σ H s->t σ H Q ->
  wpAny (model Y.prog Y.w) Y.A (forIn ifs true fun c r=>if r=true then do let ok <-isTrue c Y.env (eval c Y.env); pure (ForInStep.yield ok) else pure (ForInStep.yield r)) (TP Y pins σ Q) Y.xe s
instance {Y:Cx} {ifs:List Expr} {t:TT}:CoeFun (PTs Y ifs t) (fun _=>∀ (pins:List (Addr×Obj)) (s:Shared) (σ:St) (H:Hp) (Q:Bool->Hp->Prop),Inv Y pins σ H s->t σ H Q ->
  wpAny (model Y.prog Y.w) Y.A (forIn ifs true fun c r=>if r=true then do let ok <-isTrue c Y.env (eval c Y.env); pure (ForInStep.yield ok) else pure (ForInStep.yield r)) (TP Y pins σ Q) Y.xe s):=⟨fun h=>h.run⟩
theorem qaX {Y:Cx}:PTs Y [] (fun _ H Q=>Q true H):=⟨fun _ _ _ H _ I h=>wpAny_tests_nil ⟨H,I,h⟩⟩
theorem JR {Y:Cx} {c:Expr} {t:TT} (h:PT Y c t):PTs Y [c] t:=⟨fun pins s σ H Q I q=>wpAny_tests_one (h pins s σ H Q I q)⟩
section
variable {X:Cx} {pins:List (Addr×Obj)} {σ σc:St} {H:Hp} {s:Shared} {scope:Scope} {N:List Str} {fp:List Addr} {it:Addr} {tn:Nat->Heap->Prop} {J:It} {tg elt iter:Expr} {ifs:List Expr} {pos:Pos} {g:TG} {tt:TT} {te:TE} {E:Value->Shared->Prop}
theorem Zw (I:Inv X pins σ H s) (hcalm:X.calm=true) (S:ScOk X scope) (T:Turn X.prog X.w X.K tg J fp it tn) (st0:tn 0 s.heap) (hf:∀ b∈fp,JA X pins H b)
  (hg:∀ fp L s' H',PG (jC X scope N fp L s' H') tg g) (ht:∀ fp L s' H',PTs (jC X scope N fp L s' H') ifs tt) (he:∀ fp L s' H',PE (jC X scope N fp L s' H') elt te) (hl:σc.length=N.length)
  (hσ:∀ (j:Nat) (x:Str) (v:V),N[j]?=some x->σc[j]?=some (some v)->(∃ k,(x,k)∈scope.names)->∃ i:Nat,X.N[i]?=some x/\σ[i]?=some (some v)/\Vis X.env.scope x/\(x,NameKind.free)∈scope.names)
  (W:Addr->Nat->Nat->St->Hp->Prop) (Fin:Addr->Hp->Prop) (w0:∀ p,H p=none->∃ m,W p 0 m σc (upd H p (.lst [])))
  (turn:∀ p i m σ1 H1,W p i m σ1 H1->(J.stop i H1/\Fin p H1)\/(J.go i H1/\∀ x H2,J.yld i H1 x H2->g x σ1 H2 fun σ2 H3=>tt σ2 H3 fun b H4=>if b=true then te σ2 H4 fun y H5=>∃ xs,H5 p=some (.lst xs)/\xs.length < sizeLine/\∃ m',m' < m/\W p (i+1) m' σ2 (upd H5 p (.lst (xs++[y]))) else ∃ m',m' < m/\W p (i+1) m' σ2 H4))
  (RR:Value->Addr->Result->Shared->Prop)
  (hRR:∀ p L H' s',Fin p H'->(∃ m,s'.heap.Ns L m)->JA X pins H' L->(∀ h',Heap.SameBut L s'.heap h'->Inv X pins σ H' { s' with heap:=h' })->RR (.ref p) L (.ok .next) s') :
  wpAny (model X.prog X.w) X.A (newList []) (fun acc s₃=>wpAny (model X.prog X.w) X.A (newFunctionEnv scope X.env.globals (Qk X.env.cells scope.names []) [] X.env.qual none .none (some X.env)) (fun cenv s₄=>
   codeAny (model X.prog X.w) X.A (.compStart (.ListComp elt [⟨tg,iter,ifs,0⟩] scope pos) 0 (.ref it) acc { cenv with scope:=relabel scope X.env }) (RR acc cenv.locals) s₄) E s₃) E s:=by
 have hfo:∀ b∈fp,b < s.heap.objs.size:=fun b hb=>let ⟨o,e,_⟩:=T.obj 0 _ st0 b hb; Heap.lt_size e
 have hfresh:=I.fresh
 have I3:Inv X pins σ (upd H s.heap.objs.size (.lst [])) { s with heap:=s.heap.push { cls:=.type "list",data:=.seq ([]:List Value).toArray } }:=I.lnew (t':=s.toks) (ys:=[]) (its:=[]) .nil (Nat.zero_le _)
 have hf3:∀ b∈fp,JA X pins (upd H s.heap.objs.size (.lst [])) b:=fun b hb=>⟨by rw [qo (Nat.ne_of_lt (hfo b hb))]; exact (hf b hb).1,(hf b hb).2⟩
 have st3:tn 0 (s.heap.push { cls:=.type "list",data:=.seq ([]:List Value).toArray }):=T.keep 0 _ _ st0 fun b hb o e=>Heap.get?_push_of_some _ e
 refine wpAny_newObj_type (wpAny_newFunctionEnv S.nocell (fun y hy=>by simp at hy) (fun h₁ hns₁ hsb₁=>?_) S.kind)
 dsimp only at hns₁ hsb₁ ⊢
 generalize hs3:({ s with heap:=s.heap.push { cls:=.type "list",data:=.seq ([]:List Value).toArray } }:Shared)=s3 at I3
 have e3:s3.heap=s.heap.push { cls:=.type "list",data:=.seq ([]:List Value).toArray }:=by rw [<-hs3]
 rw [<-e3] at hns₁ hsb₁ st3 ⊢
 have keep:∀ b o,s3.heap.get? b=some o->h₁.get? b=some o:=fun b o e=>(hsb₁.2 b (Nat.ne_of_lt (Heap.lt_size e))).trans (Heap.get?_push_of_some _ e)
 have ho3:∀ b∈fp,b < s3.heap.objs.size:=fun b hb=>by rw [e3,Heap.size_push]; exact Nat.lt_succ_of_lt (hfo b hb)
 have J1:Inv (jC X scope N fp s3.heap.objs.size s3 (upd H s.heap.objs.size (.lst []))) [] σc (upd H s.heap.objs.size (.lst [])) { s3 with heap:=h₁,toks:=s.toks+0 }:=
  Zu I3 S hf3 ho3 (by simpa using hns₁) keep hl hσ
 have st4:tn 0 h₁:=T.keep 0 _ _ st3 fun b hb o e=>keep b o e
 have loop:∀ s4:Shared,s4={ s3 with heap:=h₁,toks:=s.toks+0 }->codeAny (model X.prog X.w) X.A (.compLoop (.ListComp elt [⟨tg,iter,ifs,0⟩] scope pos) 0 (.ref it) (.ref s.heap.objs.size) (compEnvC scope (Qk X.env.cells scope.names []) s3.heap.objs.size X.env)) (RR (.ref s.heap.objs.size) s3.heap.objs.size) s4:=by
  rintro s4 rfl
  generalize hY:jC X scope N fp s3.heap.objs.size s3 (upd H s.heap.objs.size (.lst []))=Y at J1
  have eP:Y.prog=X.prog:=by rw [<-hY]; rfl
  have ew:Y.w=X.w:=by rw [<-hY]; rfl
  have eA:Y.A=X.A:=by rw [<-hY]; rfl
  have ee:Y.env=compEnvC scope (Qk X.env.cells scope.names []) s3.heap.objs.size X.env:=by rw [<-hY]; rfl
  have eK:Y.K=X.K:=by rw [<-hY]; rfl
  have ec:Y.calm=true:=by rw [<-hY]; exact hcalm
  have ex:Y.xe=fun _ _=>False:=by rw [<-hY]; rfl
  have hgY:PG Y tg g:=by rw [<-hY]; exact hg fp _ _ _
  have htY:PTs Y ifs tt:=by rw [<-hY]; exact ht fp _ _ _
  have heY:PE Y elt te:=by rw [<-hY]; exact he fp _ _ _
  have stat:∀ {H1:Hp},(∀ b∈fp,H1 b=none)->∀ b∈fp,JA Y [] H1 b:=fun hn b hb=>by
   have q:=J1.ok.exf b (by rw [<-hY]; exact hb)
   refine ⟨hn b hb,q.1,J1.ok.exfs b (by rw [<-hY]; exact hb),.inl (by rw [<-hY]; exact hb),q.2,fun p hp=>?_⟩
   rw [<-hY] at hp
   exact absurd (show p∈([]:List (Addr×Obj)) from hp) (by simp)
  obtain ⟨m0,hm0⟩:=w0 s.heap.objs.size hfresh
  refine gt (fun n s'=>∃ i σ1 H1,Inv Y [] σ1 H1 s'/\tn i s'.heap/\(∀ b∈fp,H1 b=none)/\W s.heap.objs.size i n σ1 H1) ?_ m0 ⟨0,σc,_,J1,st4,fun b hb=>(hf3 b hb).1,hm0⟩
  rintro n s5 ⟨i,σ1,H1,J5,st5,fr5,w5⟩
  rw [<-eP,<-ew,<-eA,<-ee]
  have TY:Turn Y.prog Y.w Y.K tg J fp it tn:=by rw [eP,ew,eK]; exact T
  rcases turn _ i n σ1 H1 w5 with ⟨stop,fin⟩ | ⟨go,step⟩
  ·refine thn (TY.done Y rfl rfl rfl ec i [] s5 σ1 H1 _ J5 (stat fr5) st5 stop) fun r s6 ⟨hr,J6⟩=>?_
   subst hr
   have J6':Inv (jC X scope N fp s3.heap.objs.size s3 (upd H s.heap.objs.size (.lst []))) [] σ1 H1 s6:=by rw [hY]; exact J6
   exact hRR _ _ H1 s6 fin (let ⟨m,hn,_⟩:=J6'.loc; ⟨m,hn⟩) (I3.fpOk (Nat.le_refl _) J6'.free) fun h' sb=>Zv (s1:=s6) (H1:=H1) (L:=0) I3 hf3 J6' sb
  ·refine thn (TY.item Y rfl rfl rfl ec i [] s5 σ1 H1 _ J5 (stat fr5) st5 go) fun r s6 ⟨u,hr,h6⟩=>?_
   subst hr
   refine thn h6 fun _ s7 ⟨x,H7,J7,r7,y7,st7,fr7⟩=>?_
   have J7':=J7.pinned (stat fr7) (TY.obj _ _ st7)
   have back:∀ {σ9:St} {H9:Hp} {s9:Shared},Inv Y ([]++Qp fp s7.heap) σ9 H9 s9->(∃ m',m' < n/\W s.heap.objs.size (i+1) m' σ9 H9)->∃ m,m < n/\∃ i σ1 H1,Inv Y [] σ1 H1 s9/\tn i s9.heap/\(∀ b∈fp,H1 b=none)/\W s.heap.objs.size i m σ1 H1:=fun {σ9 H9 s9} J9 ⟨m',hm,w9⟩=>by
    refine ⟨m',hm,i+1,σ9,H9,J9.unpinned,TY.keep _ _ _ st7 fun b hb o e=>(J9.pin (b,o) (List.mem_append_right _ (List.mem_append_right _ (wD hb e)))).1,fun b hb=>?_,w9⟩
    obtain ⟨o,e,d⟩:=TY.obj _ _ st7 b hb
    exact (J9.pin (b,o) (List.mem_append_right _ (List.mem_append_right _ (wD hb e)))).2.1
   rw [<-ex]
   refine thn (hgY _ s7 σ1 H7 x u _ J7' r7 (step x H7 y7)) fun _ s8 ⟨σ8,H8,J8,q8⟩=>?_
   refine thn (htY _ s8 σ8 H8 _ J8 q8) fun ok s9 ⟨H9,J9,q9⟩=>?_
   cases ok with
   | false=>exact back J9 q9
   | true=>
    refine thn (heY _ s9 σ8 H9 _ J9 q9) fun v s10 ⟨y,H10,J10,r10,xs,hx,hlen,q10⟩=>?_
    exact thn (uA _ s10 σ8 H10 (.ref s.heap.objs.size) [y] (.ref s.heap.objs.size) [v] (fun _ H11=>∃ m',m' < n/\W s.heap.objs.size (i+1) m' σ8 H11) J10 rfl (.cons r10 .nil) ⟨_,xs,y,rfl,rfl,hx,hlen,q10⟩) fun _ s11 ⟨_,H11,J11,_,q11⟩=>back J11 q11
 have e4:({ heap:=h₁,gens:=s.gens,drawn:=s.drawn,toks:=s.toks+([]:List (Str×Value)).length,os:=s.os }:Shared)={ s3 with heap:=h₁,toks:=s.toks+0 }:=by rw [<-hs3]; rfl
 exact codeAny_compStart_list (loop _ e4) (T.self _ 0 _ _ _ st4 (loop _ e4))
end
noncomputable def kh {α:Type} (nt:Nat) (cap:List Nat) (ρ:List (Option α)):List (Option α):=List.replicate nt none++cap.map fun k=>(ρ[k]?).getD none
noncomputable def uo (own:List Nat):Nat->List Nat->List Nat
 | _,[]=>[]
 | n,k::cap=>if k∈own then n::uo own (n+1) cap else uo own (n+1) cap
noncomputable def ioC (nt len:Nat):List Nat:=(List.range len).map (nt + ·)
noncomputable def ju (own:List Nat) (ρc:Sl):Nat->List Nat->Sl->Sl
 | _,[],ρ=>ρ
 | n,k::cap,ρ=>if k∈own then ju own ρc (n+1) cap (ρ.set k ((ρc[n]?).getD none)) else ju own ρc (n+1) cap ρ
theorem get_cap {α:Type} {nt:Nat} {cap:List Nat} {ρ:List (Option α)} {i:Nat} {d:α}:(kh nt cap ρ)[i]?=some (some d)↔∃ j k,i=nt+j/\cap[j]?=some k/\ρ[k]?=some (some d):=by
 unfold kh
 constructor
 ·intro h
  by_cases hi:i < nt
  ·rw [List.getElem?_append_left (by simpa using hi),List.getElem?_replicate] at h
   split at h <;> cases h
  ·rw [List.getElem?_append_right (by simpa using hi),List.length_replicate,List.getElem?_map] at h
   cases q:cap[i - nt]? with
   | none=>rw [q] at h; cases h
   | some k=>
    rw [q] at h
    have h:(ρ[k]?).getD none=some d:=Option.some.inj h
    refine ⟨i - nt,k,by omega,q,?_⟩
    cases q2:ρ[k]? with
    | none=>rw [q2] at h; cases h
    | some o=>rw [q2] at h; exact congrArg some h
 ·rintro ⟨j,k,rfl,h1,h2⟩
  rw [List.getElem?_append_right (by simp),List.length_replicate,List.getElem?_map,show nt+j - nt=j by omega,h1]
  simp [h2]
theorem mem_ownC {own:List Nat}:∀ {n:Nat} {cap:List Nat} {i:Nat},i∈uo own n cap↔∃ j k,i=n+j/\cap[j]?=some k/\k∈own
 | n,[],i=>by simp [uo]
 | n,k::cap,i=>by
  have ih:=@mem_ownC own (n+1) cap i
  unfold uo
  by_cases hk:k∈own
  ·rw [if_pos hk,List.mem_cons,ih]
   constructor
   ·rintro (rfl | ⟨j,k',e,h1,h2⟩)
    ·exact ⟨0,k,rfl,rfl,hk⟩
    ·exact ⟨j+1,k',by omega,by simpa using h1,h2⟩
   ·rintro ⟨j,k',e,h1,h2⟩
    cases j with
    | zero=>exact .inl (by omega)
    | succ j=>exact .inr ⟨j,k',by omega,by simpa using h1,h2⟩
  ·rw [if_neg hk,ih]
   constructor
   ·rintro ⟨j,k',e,h1,h2⟩
    exact ⟨j+1,k',by omega,by simpa using h1,h2⟩
   ·rintro ⟨j,k',e,h1,h2⟩
    cases j with
    | zero=>simp at h1; subst h1; exact absurd h2 hk
    | succ j=>exact ⟨j,k',by omega,by simpa using h1,h2⟩
theorem mem_ioC {nt len i:Nat}:i∈ioC nt len↔∃ j,j < len/\i=nt+j:=by
 unfold ioC
 rw [List.mem_map]
 constructor
 ·rintro ⟨j,h1,h2⟩; exact ⟨j,List.mem_range.mp h1,h2.symm⟩
 ·rintro ⟨j,h1,h2⟩; exact ⟨j,List.mem_range.mpr h1,h2.symm⟩
theorem uU {own:List Nat} {ρc:Sl}:∀ {n:Nat} {cap:List Nat} {ρ:Sl},(ju own ρc n cap ρ).length=ρ.length
 | _,[],_=>rfl
 | n,k::cap,ρ=>by
  unfold ju
  by_cases hk:k∈own
  ·rw [if_pos hk,uU,List.length_set]
  ·rw [if_neg hk,uU]
theorem ky {own:List Nat} {ρc:Sl}:∀ {n:Nat} {cap:List Nat} {ρ:Sl} {i:Nat},¬(i∈cap/\i∈own)->(ju own ρc n cap ρ)[i]?=ρ[i]?
 | _,[],_,_,_=>rfl
 | n,k::cap,ρ,i,h=>by
  unfold ju
  have h':¬(i∈cap/\i∈own):=fun z=>h ⟨List.mem_cons_of_mem _ z.1,z.2⟩
  by_cases hk:k∈own
  ·rw [if_pos hk,ky h',List.getElem?_set_ne (fun e=>h ⟨List.mem_cons.mpr (.inl e.symm),by rw [<-e]; exact hk⟩)]
  ·rw [if_neg hk,ky h']
theorem uF {own:List Nat} {ρc:Sl}:∀ {n:Nat} {cap:List Nat} {ρ:Sl} {j k:Nat} {d:D},cap.Nodup->cap[j]?=some k->k∈own->k < ρ.length->ρc[n+j]?=some (some d)->(ju own ρc n cap ρ)[k]?=some (some d)
 | _,[],_,_,_,_,_,h,_,_,_=>by simp at h
 | n,k0::cap,ρ,0,k,d,nd,h,hk,hl,e=>by
  simp at h; subst h
  obtain ⟨n1,n2⟩:=List.nodup_cons.mp nd
  unfold ju
  rw [if_pos hk,ky (fun z=>n1 z.1),List.getElem?_set_self hl]
  have e:ρc[n]?=some (some d):=e
  rw [e]; rfl
 | n,k0::cap,ρ,j+1,k,d,nd,h,hk,hl,e=>by
  obtain ⟨n1,n2⟩:=List.nodup_cons.mp nd
  have h:cap[j]?=some k:=by simpa using h
  have e:ρc[n+1+j]?=some (some d):=by rw [show n+1+j=n+(j+1) by omega]; exact e
  unfold ju
  by_cases hk0:k0∈own
  ·rw [if_pos hk0]; exact uF n2 h hk (by rw [List.length_set]; exact hl) e
  ·rw [if_neg hk0]; exact uF n2 h hk hl e
section
variable {K:Frag} {own cap:List Nat} {nt:Nat} {F H:Hp} {σ σ1:St} {ρ ρ1:Sl}
theorem JS {α:Type} {ρ:List (Option α)}:(kh nt cap ρ).length=nt+cap.length:=by simp [kh]
theorem US {l:List Nat} (h:l.Nodup) {i j k:Nat} (a:l[i]?=some k) (b:l[j]?=some k):i=j:=by
 obtain ⟨h1,e1⟩:=List.getElem?_eq_some_iff.mp a
 obtain ⟨h2,e2⟩:=List.getElem?_eq_some_iff.mp b
 exact (List.getElem_inj h).mp (e1.trans e2.symm)
theorem qaY (rp:Rep K own F H σ ρ) (nd:cap.Nodup):Rep K (uo own nt cap) F H (kh nt cap σ) (kh nt cap ρ) where
 sub:=rp.sub
 len:=by rw [JS,JS]
 val:=fun i d hi e=>by
  obtain ⟨j,k,rfl,h1,h2⟩:=get_cap.mp e
  obtain ⟨v,g1,g2⟩:=rp.val k d (fun z=>hi (mem_ownC.mpr ⟨j,k,rfl,h1,z⟩)) h2
  exact ⟨v,get_cap.mpr ⟨j,k,rfl,h1,g1⟩,g2⟩
 ow:=fun i d hi e=>by
  obtain ⟨j,k,rfl,h1,h2⟩:=get_cap.mp e
  obtain ⟨j',k',e',h1',h2'⟩:=mem_ownC.mp hi
  have:j=j':=by omega
  subst this
  rw [h1] at h1'; cases h1'
  obtain ⟨a,g1,g2⟩:=rp.ow k d h2' h2
  exact ⟨a,get_cap.mpr ⟨j,k,rfl,h1,g1⟩,g2⟩
 opn:=fun i hi=>by
  obtain ⟨j,k,rfl,h1,h2⟩:=mem_ownC.mp hi
  obtain ⟨d,e⟩:=rp.opn k h2
  exact ⟨d,get_cap.mpr ⟨j,k,rfl,h1,e⟩⟩
 dis:=fun i i' a hi hi' e e'=>by
  obtain ⟨j,k,rfl,h1,h2⟩:=mem_ownC.mp hi
  obtain ⟨j',k',rfl,h1',h2'⟩:=mem_ownC.mp hi'
  obtain ⟨x,y,q1,q2,q3⟩:=get_cap.mp e
  obtain ⟨x',y',q1',q2',q3'⟩:=get_cap.mp e'
  have:x=j:=by omega
  subst this
  have:x'=j':=by omega
  subst this
  rw [h1] at q2; cases q2
  rw [h1'] at q2'; cases q2'
  have e:=rp.dis k k' a h2 h2' q3 q3'
  subst e
  rw [US nd h1 h1']
theorem UT (hio:∀ i∈ioC nt cap.length,σ1[i]?=(kh nt cap σ)[i]?) {b:Addr} (h:OA (uo own nt cap) σ1 b):OA own σ b:=by
 obtain ⟨i,hi,e⟩:=h
 obtain ⟨j,k,rfl,h1,h2⟩:=mem_ownC.mp hi
 rw [hio _ (mem_ioC.mpr ⟨j,(List.getElem?_eq_some_iff.mp h1).1,rfl⟩)] at e
 obtain ⟨x,y,q1,q2,q3⟩:=get_cap.mp e
 have:x=j:=by omega
 subst this
 rw [h1] at q2; cases q2
 exact ⟨k,h2,q3⟩
theorem UU {F' H':Hp} (rp:Rep K own F H σ ρ) (nd:cap.Nodup) (rp1:Rep K (uo own nt cap) F' H' σ1 ρ1) (hio:∀ i∈ioC nt cap.length,σ1[i]?=(kh nt cap σ)[i]?) (c:Chg (OA (uo own nt cap) σ1) F H F' H'):Rep K own F' H' σ (ju own ρ1 nt cap ρ) where
 sub:=rp1.sub
 len:=by rw [uU]; exact rp.len
 val:=fun i d hi e=>by
  rw [ky (fun z=>hi z.2)] at e
  obtain ⟨v,h1,h2⟩:=rp.val i d hi e
  exact ⟨v,h1,h2.mono c.grow⟩
 ow:=fun i d hi e=>by
  by_cases q:i∈cap
  ·obtain ⟨j,hj⟩:=List.getElem?_of_mem q
   have hm:nt+j∈uo own nt cap:=mem_ownC.mpr ⟨j,i,rfl,hj,hi⟩
   obtain ⟨d',hd'⟩:=rp1.opn _ hm
   obtain ⟨d0,hd0⟩:=rp.opn i hi
   rw [uF nd hj hi (List.getElem?_eq_some_iff.mp hd0).1 hd'] at e
   cases e
   obtain ⟨a,h1,h2⟩:=rp1.ow _ _ hm hd'
   rw [hio _ (mem_ioC.mpr ⟨j,(List.getElem?_eq_some_iff.mp hj).1,rfl⟩)] at h1
   obtain ⟨x,y,q1,q2,q3⟩:=get_cap.mp h1
   have:x=j:=by omega
   subst this
   rw [hj] at q2; cases q2
   exact ⟨a,q3,h2⟩
  ·rw [ky (fun z=>q z.1)] at e
   obtain ⟨a,h1,h2,h3⟩:=rp.ow i d hi e
   have na:¬OA (uo own nt cap) σ1 a:=fun z=>by
    obtain ⟨i',hi',e'⟩:=z
    obtain ⟨j,k,rfl,g1,g2⟩:=mem_ownC.mp hi'
    rw [hio _ (mem_ioC.mpr ⟨j,(List.getElem?_eq_some_iff.mp g1).1,rfl⟩)] at e'
    obtain ⟨x,y,q1,q2,q3⟩:=get_cap.mp e'
    have:x=j:=by omega
    subst this
    rw [g1] at q2; cases q2
    have e:=rp.dis i k a hi g2 h1 q3
    subst e
    exact q (List.mem_of_getElem? g1)
   refine ⟨a,h1,?_,h3.grow c.grow fun o z=>c.keep a o z na⟩
   cases qq:F' a with
   | none=>rfl
   | some u=>
    rcases c.new a (by rw [qq]; simp) with z | z | z
    ·exact absurd h2 z
    ·exact absurd z h3.there
    ·exact absurd z na
 opn:=fun i hi=>by
  by_cases q:i∈cap
  ·obtain ⟨j,hj⟩:=List.getElem?_of_mem q
   have hm:nt+j∈uo own nt cap:=mem_ownC.mpr ⟨j,i,rfl,hj,hi⟩
   obtain ⟨d',hd'⟩:=rp1.opn _ hm
   obtain ⟨d0,hd0⟩:=rp.opn i hi
   exact ⟨d',uF nd hj hi (List.getElem?_eq_some_iff.mp hd0).1 hd'⟩
  ·rw [ky (fun z=>q z.1)]
   exact rp.opn i hi
 dis:=rp.dis
end
noncomputable def zp (g:D->Sl->Out Sl) (ft:Sl->Out (Bool×Sl)) (fe:Sl->Out (D×Sl)) (d:D) (ρ:Sl):Out (Option D×Sl):=
 (g d ρ).plain.bind fun ρ1=>(ft ρ1).plain.bind fun q=>if q.1=true then (fe q.2).plain.bind fun r=>.ok (some r.1,r.2) else .ok (none,q.2)
noncomputable def jy (g:D->Sl->Out Sl) (ft:Sl->Out (Bool×Sl)) (fe:Sl->Out (D×Sl)):List D->Sl->Out (List D×Sl)
 | [],ρ=>.ok ([],ρ)
 | d::ds,ρ=>(zp g ft fe d ρ).bind fun p=>(jy g ft fe ds p.2).bind fun q=>.ok (p.1.toList++q.1,q.2)
noncomputable def jh (own:List Nat) (nt:Nat) (cap:List Nat) (fi:Sl->Out (List D×Sl)) (g:D->Sl->Out Sl) (ft:Sl->Out (Bool×Sl)) (fe:Sl->Out (D×Sl)):Sl->Out (D×Sl):=fun ρ=>(fi ρ).bind fun p=>
 if p.1.length<=sizeLine then (jy g ft fe p.1 (kh nt cap p.2)).bind fun q=>.ok (.lst q.1,ju own q.2 nt cap p.2) else .bad
noncomputable def ctC (C:Ct) (nt len:Nat):Ct:=⟨C.K,C.cv,fun _ _ _=>False,ioC nt len,.sh,[],[],fun _ h=>absurd h (by simp)⟩
noncomputable def ftT:Sl->Out (Bool×Sl):=fun ρ=>.ok (true,ρ)
theorem qU {Y:Cx} {C:Ct} {own:List Nat}:PTs Y [] (tT C own ftT):=⟨fun pins s σ H Q I ⟨F,ρ,rp,h⟩=>qaX pins s σ H Q I (h F H rp .refl)⟩
structure CW (C:Ct) (own:List Nat) (nt:Nat) (cap:List Nat) (σ:St) (F H F0:Hp) (g:D->Sl->Out Sl) (ft:Sl->Out (Bool×Sl)) (fe:Sl->Out (D×Sl)) (ds ys:List D) (ρe:Sl) (p:Addr) (i:Nat) (σ1:St) (H1:Hp) (F1:Hp) (ρi:Sl) (accD:List D) (xs:List V) (rest:List D):Prop where
 rep:Rep C.K (uo own nt cap) F1 H1 σ1 ρi
 io:∀ i∈ioC nt cap.length,σ1[i]?=(kh nt cap σ)[i]?
 chg:Chg (OA (uo own nt cap) σ1) F H F1 H1
 gr:Same F0 F1
 at_:H1 p=some (.lst xs)
 nF:F1 p=none
 is:IsL C.K F1 xs accD
 le:accD.length<=i
 run:jy g ft fe (ds.drop i) ρi=.ok (rest,ρe)
 all:accD++rest=ys
theorem WA {g:D->Sl->Out Sl} {ft:Sl->Out (Bool×Sl)} {fe:Sl->Out (D×Sl)} {d:D} {ds rest:List D} {ρ ρe:Sl} (h:jy g ft fe (d::ds) ρ=.ok (rest,ρe)) :
  ∃ ρ1,g d ρ=.ok ρ1/\∃ b ρ2,ft ρ1=.ok (b,ρ2)/\((b=true/\∃ y ρ3 r,fe ρ2=.ok (y,ρ3)/\jy g ft fe ds ρ3=.ok (r,ρe)/\rest=y::r)\/(b=false/\jy g ft fe ds ρ2=.ok (rest,ρe))):=by
 unfold jy zp at h
 cases q1:g d ρ with
 | exc c=>rw [q1] at h; cases h
 | bad=>rw [q1] at h; cases h
 | ok ρ1=>
  rw [q1] at h
  refine ⟨ρ1,rfl,?_⟩
  simp only [Out.plain,Out.ok_bind] at h
  cases q2:ft ρ1 with
  | exc c=>rw [q2] at h; cases h
  | bad=>rw [q2] at h; cases h
  | ok p=>
   obtain ⟨b,ρ2⟩:=p
   rw [q2] at h
   refine ⟨b,ρ2,rfl,?_⟩
   simp only [Out.plain,Out.ok_bind] at h
   cases b with
   | true=>
    refine .inl ⟨rfl,?_⟩
    simp only [if_true] at h
    cases q3:fe ρ2 with
    | exc c=>rw [q3] at h; cases h
    | bad=>rw [q3] at h; cases h
    | ok p=>
     obtain ⟨y,ρ3⟩:=p
     rw [q3] at h
     simp only [Out.plain,Out.ok_bind] at h
     cases q4:jy g ft fe ds ρ3 with
     | exc c=>rw [q4] at h; cases h
     | bad=>rw [q4] at h; cases h
     | ok p=>
      obtain ⟨r,ρ4⟩:=p
      rw [q4] at h
      simp only [Out.ok_bind] at h
      cases h
      exact ⟨y,ρ3,r,rfl,q4,rfl⟩
   | false=>
    refine .inr ⟨rfl,?_⟩
    simp only [Bool.false_eq_true,if_false,Out.ok_bind] at h
    cases q4:jy g ft fe ds ρ2 with
    | exc c=>rw [q4] at h; cases h
    | bad=>rw [q4] at h; cases h
    | ok p=>
     obtain ⟨r,ρ4⟩:=p
     rw [q4] at h
     simp only [Out.ok_bind] at h
     cases h
     rfl
section
variable {X:Cx} {C:Ct} {own cap:List Nat} {nt:Nat} {scope:Scope} {N:List Str} {tg elt iter:Expr} {ifs:List Expr} {pos:Pos} {fi:Sl->Out (List D×Sl)} {g:D->Sl->Out Sl} {ft:Sl->Out (Bool×Sl)} {fe:Sl->Out (D×Sl)} {me:Mo}
structure CapOk (X:Cx) (scope:Scope) (N:List Str) (nt:Nat) (cap:List Nat):Prop where
 nd:cap.Nodup
 len:N.length=nt+cap.length
 at_:∀ (j k:Nat),cap[j]?=some k->∃ x,N[nt+j]?=some x/\X.N[k]?=some x/\((Vis X.env.scope x/\(x,NameKind.free)∈scope.names)\/∀ k',(x,k')∉scope.names)
theorem QI {pins:List (Addr×Obj)} {s:Shared} {σ:St} {F H:Hp} {ρ1:Sl} {it:Addr} {fp:List Addr} {tn:Nat->Heap->Prop} {J:It} {E:Value->Shared->Prop} {ds ys:List D} {ρe:Sl} (I:Inv X pins σ H s) (hcalm:X.calm=true) (S:ScOk X scope) (CO:CapOk X scope N nt cap)
  (T:Turn X.prog X.w X.K tg J fp it tn) (st0:tn 0 s.heap) (hf:∀ b∈fp,JA X pins H b) (rp:Rep C.K own F H σ ρ1) (itI:ItIs C.K F J ds) (hz:ds.length<=sizeLine)
  (hg:∀ fp L s' H',PG (jC X scope N fp L s' H') tg (tGd (ctC C nt cap.length) (uo own nt cap) g)) (ht:∀ fp L s' H',PTs (jC X scope N fp L s' H') ifs (tT (ctC C nt cap.length) (uo own nt cap) ft))
  (he:∀ fp L s' H',PE (jC X scope N fp L s' H') elt (tE (ctC C nt cap.length) (uo own nt cap) me fe)) (hme:me≠.any)
  (hrun:jy g ft fe ds (kh nt cap ρ1)=.ok (ys,ρe)) (RR:Value->Addr->Result->Shared->Prop)
  (hRR:∀ p L s' F' H',H p=none->Rep C.K own F' H' σ (ju own ρe nt cap ρ1)->Chg (OA own σ) F H F' H'->F' p=none->OwnIs C.K F' H' p (.lst ys)->(∃ m,s'.heap.Ns L m)->JA X pins H' L->(∀ h',Heap.SameBut L s'.heap h'->Inv X pins σ H' { s' with heap:=h' })->RR (.ref p) L (.ok .next) s') :
  wpAny (model X.prog X.w) X.A (newList []) (fun acc s₃=>wpAny (model X.prog X.w) X.A (newFunctionEnv scope X.env.globals (Qk X.env.cells scope.names []) [] X.env.qual none .none (some X.env)) (fun cenv s₄=>
   codeAny (model X.prog X.w) X.A (.compStart (.ListComp elt [⟨tg,iter,ifs,0⟩] scope pos) 0 (.ref it) acc { cenv with scope:=relabel scope X.env }) (RR acc cenv.locals) s₄) E s₃) E s:=by
 have oaH:∀ {σ1:St} {b:Addr},(∀ i∈ioC nt cap.length,σ1[i]?=(kh nt cap σ)[i]?)->OA (uo own nt cap) σ1 b->H b≠none:=fun hio z=>(rp.OA_there (UT hio z)).1
 refine Zw (σc:=kh nt cap σ) I hcalm S T st0 hf hg ht (fun fp L s' H'=>vd (he fp L s' H') hme) (by rw [JS,CO.len]) (fun j x v e1 e2 e3=>?_)
  (fun p i m σ1 H1=>H p=none/\m=ds.length - i/\i<=ds.length/\∃ F1 ρi accD xs rest,CW C own nt cap σ F H F g ft fe ds ys ρe p i σ1 H1 F1 ρi accD xs rest)
  (fun p H1=>H p=none/\∃ σ1 F1 xs,Rep C.K (uo own nt cap) F1 H1 σ1 ρe/\(∀ i∈ioC nt cap.length,σ1[i]?=(kh nt cap σ)[i]?)/\Chg (OA (uo own nt cap) σ1) F H F1 H1/\H1 p=some (.lst xs)/\F1 p=none/\IsL C.K F1 xs ys) (fun p hp=>?_) ?_ RR ?_
 ·obtain ⟨j',k,rfl,h1,h2⟩:=get_cap.mp e2
  obtain ⟨y,g1,g2,g3⟩:=CO.at_ j' k h1
  rw [g1] at e1; cases e1
  obtain ⟨k',hk'⟩:=e3
  rcases g3 with ⟨g3,g4⟩ | g3
  ·exact ⟨k,g2,h2,g3,g4⟩
  ·exact absurd hk' (g3 k')
 ·obtain ⟨r1,c1,hF⟩:=GR (C:=C) (u:=.lst []) (qaY (nt:=nt) rp CO.nd) hp
  exact ⟨ds.length,hp,by simp,Nat.zero_le _,F,kh nt cap ρ1,[],[],ys,r1,fun _ _=>rfl,c1.ofNo,Same.refl _,qm,hF,.nil,Nat.le_refl _,by simpa using hrun,rfl⟩
 ·rintro p i m σ1 H1 ⟨hp,rfl,hle,F1,ρi,accD,xs,rest,w⟩
  by_cases hlt:i < ds.length
  ·have hd:ds.drop i=ds[i]::ds.drop (i+1):=List.drop_eq_getElem_cons hlt
   have run:=w.run
   rw [hd] at run
   obtain ⟨ρa,ea,b,ρb,eb,hrest⟩:=WA run
   have sub1:Same F H1:=w.gr.trans w.rep.sub
   refine .inr ⟨itI.go i H1 hlt sub1,fun x H2 y=>?_⟩
   obtain ⟨F2,c2,s2,is2⟩:=itI.yld i F1 H1 x H2 ds[i] (by simp [hlt]) w.gr w.rep.sub y
   have rp2:=w.rep.grow c2 s2
   have nop:∀ {σ9:St},(∀ i∈ioC nt cap.length,σ9[i]?=(kh nt cap σ)[i]?)->¬OA (uo own nt cap) σ9 p:=fun hio z=>oaH hio z hp
   have keepP:∀ {A:Addr->Prop} {Fa Ha Fb Hb:Hp} {zs:List V},Chg A Fa Ha Fb Hb->¬A p->Ha p=some (.lst zs)->Fa p=none->Hb p=some (.lst zs)/\Fb p=none:=fun {A Fa Ha Fb Hb zs} c na e1 e2=>by
    refine ⟨c.keep p _ e1 na,?_⟩
    cases q:Fb p with
    | none=>rfl
    | some u=>
     rcases c.new p (by rw [q]; simp) with z | z | z
     ·exact absurd e2 z
     ·rw [e1] at z; cases z
     ·exact absurd z na
   obtain ⟨at2,nF2⟩:=keepP c2 (fun z=>z) w.at_ w.nF
   refine ⟨F2,ρi,ds[i],rp2,is2,ρa,ea,fun σ3 rp3 oa3 io3=>?_⟩
   have io3':∀ i∈ioC nt cap.length,σ3[i]?=(kh nt cap σ)[i]?:=fun i hi=>(io3 i hi).trans (w.io i hi)
   refine ⟨F2,ρa,rp3,?_⟩
   rw [eb]
   intro F4 H4 rp4 c4
   obtain ⟨at4,nF4⟩:=keepP c4 (nop io3') at2 nF2
   have chg4:Chg (OA (uo own nt cap) σ3) F H F4 H4:=by
    have q1:Chg (OA own σ) F H F1 H1:=w.chg.mono fun b z=>UT w.io z
    have mv:∀ {b},OA (uo own nt cap) σ1 b->OA (uo own nt cap) σ3 b:=fun {b} z=>by
     obtain ⟨i',hi',e'⟩:=z
     obtain ⟨j,k,rfl,g1,g2⟩:=mem_ownC.mp hi'
     have hm:nt+j∈ioC nt cap.length:=mem_ioC.mpr ⟨j,(List.getElem?_eq_some_iff.mp g1).1,rfl⟩
     exact ⟨nt+j,hi',by rw [io3' _ hm,<-w.io _ hm]; exact e'⟩
    exact ((w.chg.mono fun b z=>mv z).trans' c2.ofNo).trans' c4
   have gr4:Same F F4:=(w.gr.trans c2.grow).trans c4.grow
   have is4:IsL C.K F4 xs accD:=(w.is.mono c2.grow).mono c4.grow
   rcases hrest with ⟨rfl,y',ρc,r,ec,er,hr⟩ | ⟨rfl,er⟩
   ·rw [if_pos rfl]
    refine ⟨F4,ρb,rp4,?_⟩
    rw [ec]
    intro v F5 H5 rp5 c5 mo5
    obtain ⟨at5,nF5⟩:=keepP c5 (nop io3') at4 nF4
    have hlen:xs.length=accD.length:=is4.length
    refine ⟨xs,at5,by have:=w.le; omega,ds.length - (i+1),by omega,hp,rfl,hlt,F5,ρc,accD++[y'],xs++[v],r,?_⟩
    have cp:Chg (fun b=>b=p) F5 H5 F5 (upd H5 p (.lst (xs++[v]))):=⟨fun b o e n=>by rw [qo n]; exact e,fun b e=>by
     by_cases q:b=p
     ·rw [q,qm]; simp
     ·rw [qo q]; exact e,Same.refl _,fun b e=>.inl e⟩
    have sb5:Same F5 (upd H5 p (.lst (xs++[v]))):=fun b o e=>by rw [qo (qx e nF5)]; exact rp5.sub b o e
    have rp6:Rep C.K (uo own nt cap) F5 (upd H5 p (.lst (xs++[v]))) σ3 ρc:=by
     refine ⟨sb5,rp5.len,rp5.val,fun i d hi e=>?_,rp5.opn,rp5.dis⟩
     obtain ⟨a,h1,h2,h3⟩:=rp5.ow i d hi e
     have na:a≠p:=fun z=>by subst z; exact nop io3' ⟨i,hi,h1⟩
     exact ⟨a,h1,h2,h3.grow (Same.refl _) fun o z=>by rw [qo na]; exact z⟩
    refine ⟨rp6,io3',?_,(gr4.trans c5.grow),qm,nF5,(is4.mono c5.grow).append (.cons mo5 .nil),by simp only [List.length_append,List.length_cons,List.length_nil]; have:=w.le; omega,er,?_⟩
    ·exact (chg4.trans' c5).trans cp fun b z=>.inr (by rw [z]; exact hp)
    ·rw [List.append_assoc,<-w.all,hr]; rfl
   ·rw [if_neg Bool.false_ne_true]
    exact ⟨ds.length - (i+1),by omega,hp,rfl,hlt,F4,ρb,accD,xs,rest,rp4,io3',chg4,gr4,at4,nF4,is4,by have:=w.le; omega,er,w.all⟩
  ·have e:i=ds.length:=by omega
   subst e
   have run:=w.run
   rw [List.drop_length] at run
   unfold jy at run
   cases run
   have ha:=w.all
   rw [List.append_nil] at ha
   subst ha
   exact .inl ⟨itI.stop _ H1 (Nat.le_refl _) (w.gr.trans w.rep.sub),hp,σ1,F1,xs,w.rep,w.io,w.chg,w.at_,w.nF,w.is⟩
 ·rintro p L H' s' ⟨hp,σ1,F1,xs,r1,io1,c1,e1,n1,is1⟩ hns hfp hinv
  exact hRR p L s' F1 H' hp (UU rp CO.nd r1 io1 c1) (c1.mono fun b z=>UT io1 z) n1 ⟨xs,e1,is1⟩ hns hfp hinv
theorem JT:∀ (ds:List D) (ρ:Sl) (c:Str) (o:Sl),jy g ft fe ds ρ≠.exc c o:=by
 intro ds
 induction ds with
 | nil=>intro ρ c o z; cases z
 | cons d ds ih=>
  intro ρ c o z
  unfold jy zp at z
  cases q1:g d ρ with
  | exc c=>rw [q1] at z; cases z
  | bad=>rw [q1] at z; cases z
  | ok ρ1=>
   rw [q1] at z
   simp only [Out.plain,Out.ok_bind] at z
   cases q2:ft ρ1 with
   | exc c=>rw [q2] at z; cases z
   | bad=>rw [q2] at z; cases z
   | ok p=>
    rw [q2] at z
    simp only [Out.plain,Out.ok_bind] at z
    by_cases hb:p.1=true
    ·rw [if_pos hb] at z
     cases q3:fe p.2 with
     | exc c=>rw [q3] at z; cases z
     | bad=>rw [q3] at z; cases z
     | ok r=>
      rw [q3] at z
      simp only [Out.plain,Out.ok_bind] at z
      cases q4:jy g ft fe ds r.2 with
      | exc c=>exact ih _ _ _ q4
      | bad=>rw [q4] at z; cases z
      | ok t=>rw [q4] at z; cases z
    ·rw [if_neg hb] at z
     simp only [Out.ok_bind] at z
     cases q4:jy g ft fe ds p.2 with
     | exc c=>exact ih _ _ _ q4
     | bad=>rw [q4] at z; cases z
     | ok t=>rw [q4] at z; cases z
theorem QJ {σ:St} {F H:Hp} {ρ:Sl} {α:Type} {Z:Out (D×Sl)->Prop} (rp:Rep C.K own F H σ ρ) (hb:¬Z .bad) (hx:∀ c ρ',Z (.exc c ρ')->∀ F' H',Same F' H'->Uz C.K C.ox F' H' σ ρ'->Chg (OA own σ) F H F' H'->C.E (C.cv c) none H') (h:Z (jh own nt cap fi g ft fe ρ)) :
  tIt C own fi σ H fun J H1=>∃ ds ρ1 ys ρe F1,ds.length<=sizeLine/\jy g ft fe ds (kh nt cap ρ1)=.ok (ys,ρe)/\Rep C.K own F1 H1 σ ρ1/\Chg (OA own σ) F H F1 H1/\ItIs C.K F1 J ds/\Z (.ok (.lst ys,ju own ρe nt cap ρ1)):=by
 refine ⟨F,ρ,rp,?_⟩
 unfold jh at h
 cases q:fi ρ with
 | exc c=>rw [q] at h; exact hx c _ h
 | bad=>rw [q] at h; exact (hb h).elim
 | ok p=>
  obtain ⟨ds,ρ1⟩:=p
  rw [q] at h
  have h:Z (if ds.length<=sizeLine then (jy g ft fe ds (kh nt cap ρ1)).bind fun q=>.ok (.lst q.1,ju own q.2 nt cap ρ1) else .bad):=h
  by_cases z:ds.length<=sizeLine
  ·rw [if_pos z] at h
   cases q2:jy g ft fe ds (kh nt cap ρ1) with
   | exc c=>exact absurd q2 (JT _ _ _ _)
   | bad=>rw [q2] at h; exact (hb h).elim
   | ok p=>
    obtain ⟨ys,ρe⟩:=p
    rw [q2] at h
    exact fun J F1 H1 rp1 c1 it=>⟨ds,ρ1,ys,ρe,F1,z,q2,rp1,c1,it,h⟩
  ·rw [if_neg z] at h; exact (hb h).elim
theorem jk (hcalm:X.calm=true) (S:ScOk X scope) (CO:CapOk X scope N nt cap) (hi:PI X tg iter (tIt C own fi))
  (hg:∀ fp L s' H',PG (jC X scope N fp L s' H') tg (tGd (ctC C nt cap.length) (uo own nt cap) g)) (ht:∀ fp L s' H',PTs (jC X scope N fp L s' H') ifs (tT (ctC C nt cap.length) (uo own nt cap) ft))
  (he:∀ fp L s' H',PE (jC X scope N fp L s' H') elt (tE (ctC C nt cap.length) (uo own nt cap) me fe)) (hme:me≠.any:=by decide) (hs:∀ x,foldedSetIterable iter X.env x=pure x:=by intro _; rfl) :
  PE X (.ListComp elt [⟨tg,iter,ifs,0⟩] scope pos) (tE C own .fr (jh own nt cap fi g ft fe)):=by
 refine ⟨?_⟩
 intro pins s σ H Q I ⟨F,ρ,rp,h⟩
 rw [eval_ListComp]
 have main:=QJ (α:=Unit) (Z:=fun r=>Po C own .fr σ F H r Q) rp (fun z=>z) (fun c _ z=>z) h
 refine wpAny_comprehension_free (use:=none) rfl hs (zL (xy I S)) S.kind S.names (thn (hi pins s σ H _ I main) fun xv s1 h1=>thn h1 fun itv s2 h2=>?_)
 obtain ⟨it,fp,tn,J,H2,e,I2,T,st2,f2,ds,ρ1,ys,ρe,F1,hz,hrun,rp1,c1,itI,po⟩:=h2
 subst e
 refine QI (RR:=fun acc C'=>compPost (model X.prog X.w) X.A X.xe none (EP X pins σ Q) acc C') I2 hcalm S CO T st2 f2 rp1 itI hz hg ht he hme hrun fun p L s' F' H' hp rp' c' nF o hns hfp hinv=>?_
 obtain ⟨m,hn⟩:=hns
 refine ⟨m,hn,fun h' sb=>⟨.ref p,H',hinv h' sb,rfl,?_⟩⟩
 refine po (.ref p) F' H' rp' (c1.trans' c') ⟨p,rfl,?_,nF,o⟩
 cases q:H p with
 | none=>rfl
 | some u=>exact absurd hp (c1.stay p (by rw [q]; simp))
theorem Vv {i:Nat} {x:Str} {pos' spos:Pos} (hN:X.N.Nodup) (hix:X.N[i]?=some x) (hx:Loc X.env.scope x) (hcalm:X.calm=true) (S:ScOk X scope) (CO:CapOk X scope N nt cap) (hi:PI X tg iter (tIt C own fi))
  (hg:∀ fp L s' H',PG (jC X scope N fp L s' H') tg (tGd (ctC C nt cap.length) (uo own nt cap) g)) (ht:∀ fp L s' H',PTs (jC X scope N fp L s' H') ifs (tT (ctC C nt cap.length) (uo own nt cap) ft))
  (he:∀ fp L s' H',PE (jC X scope N fp L s' H') elt (tE (ctC C nt cap.length) (uo own nt cap) me fe)) (hme:me≠.any:=by decide) (hio:i∉C.io:=by exact zH rfl)
  (hsw:swapsWith (.ListComp elt [⟨tg,iter,ifs,0⟩] scope pos) (some (.Name x pos')) spos.line X.env=pure true:=by rfl) (hs:∀ x,foldedSetIterable iter X.env x=pure x:=by intro _; rfl)
  (hfx:X.fn x=true\/X.env.scope.names.lookup x=some .local:=by first | exact .inl rfl | exact .inr rfl) :
  PS X (.Assign [.Name x pos'] (.ListComp elt [⟨tg,iter,ifs,0⟩] scope pos) spos) (tSt C own (i::vX own [i]) (wI i (jh own nt cap fi g ft fe))):=by
 refine ⟨?_⟩
 intro pins s σ H D I ⟨F,ρ,rp,h⟩
 rw [exec_Assign_Name_used _ _ _ _ hsw]
 refine wpAny_bind (wpAny_standAt (wpAny_bind ?_))
 show wpAny _ X.A (do let _ <-comprehension (.ListComp elt [⟨tg,iter,ifs,0⟩] scope pos) scope X.env _ (newList []) false (eval iter X.env) (some (assign (.Name x pos') X.env))) _ _ s
 have main:=QJ (α:=Unit) (Z:=fun r=>PoS C own (i::vX own [i]) σ F H (r.bind fun p=>if i < p.2.length then .ok (.nx,p.2.set i (some p.1)) else .bad) D) rp (fun z=>z) (fun c _ z=>z) h
 refine wpAny_bind (wpAny_mono (wpAny_comprehension_free (use:=some (assign (.Name x pos') X.env)) (Q:=fun _ s'=>SP X pins D .next s') rfl hs (zL (xy I S)) S.kind S.names (thn (hi pins s σ H _ I main) fun xv s1 h1=>thn h1 fun itv s2 h2=>?_)) (fun _ s' hq=>wpAny_pure (wpAny_pure hq)) fun _ _ e=>e)
 obtain ⟨it,fp,tn,J,H2,e,I2,T,st2,f2,ds,ρ1,ys,ρe,F1,hz,hrun,rp1,c1,itI,po⟩:=h2
 subst e
 refine QI (RR:=fun acc C'=>compPost (model X.prog X.w) X.A X.xe (some (assign (.Name x pos') X.env)) (fun _ s'=>SP X pins D .next s') acc C') I2 hcalm S CO T st2 f2 rp1 itI hz hg ht he hme hrun fun p L s' F' H' hp rp' c' nF o hns hfp hinv=>?_
 obtain ⟨m,hn⟩:=hns
 have I3:Inv X pins σ H' s':=by simpa using hinv s'.heap (.refl ..)
 have hH:H p=none:=by
  cases q:H p with
  | none=>rfl
  | some u=>exact absurd hp (c1.stay p (by rw [q]; simp))
 show wpAny _ X.A (assign (.Name x pos') X.env (.ref p)) _ _ s'
 refine wpAny_assign_Name (Qn I3 hN hix hx (v:=.ref p) rfl (fun s4 I4 ⟨a,sba,ha⟩=>?_) hfx)
 obtain ⟨f0,f1,f2',f3,f4,f5⟩:=hfp
 have nL:L≠a:=by
  rcases ha with z | z
  ·rw [z]; exact f1
  ·exact fun q=>f4 x a z q.symm
 refine ⟨m,hn.sameBut sba nL,fun h' sb=>?_⟩
 have I5:Inv X pins (σ.set i (some (.ref p))) H' { s4 with heap:=h' }:=by
  have:=I4.turned (h':=h') (t':=s4.toks) (it:=L) (fun b o hb e=>(sb.2 b hb).trans e) f0 f1 f3 f4 f5
  exact this
 refine ⟨_,H',I5,?_⟩
 have po:PoS C own (i::vX own [i]) σ F H (if i < (ju own ρe nt cap ρ1).length then .ok (.nx,(ju own ρe nt cap ρ1).set i (some (.lst ys))) else .bad) D:=po
 by_cases z:i < (ju own ρe nt cap ρ1).length
 ·rw [if_pos z] at po
  refine po _ F' H' ⟨rp'.putO z nF (fun y=>(rp.OA_there y).1 hH) o,c1.trans' c',fun b y=>?_,fun j hj=>List.getElem?_set_ne fun y=>hio (by rw [y]; exact hj)⟩
  obtain ⟨j,hj,e⟩:=y
  by_cases qj:j=i
  ·subst qj
   rw [List.getElem?_set_self (by rw [rp'.len]; exact z)] at e
   cases e
   exact .inr hH
  ·have hj':=(qO j).mp ((List.mem_cons.mp hj).resolve_left qj)
   rw [List.getElem?_set_ne (Ne.symm qj)] at e
   exact .inl ⟨j,hj'.1,e⟩
 ·rw [if_neg z] at po; exact po.elim
end
def Fly (h:Heap) (ex T:Addr) (cls:Value):Prop:=∃ oe vs oT ts,h.get? ex=some oe/\oe.cls=cls/\oe.data=.fields vs/\vs[1]?=some (.ref T)/\T≠ex/\h.get? T=some oT/\oT.data=.fields ts/\ts[3]?=some .none
def CXk (P:Program) (w:World):CXT:=fun outer H s E e s'=>∃ ex T C H',e=.ref ex/\s'.os=s.os/\AllBare s'.gens/\Un (frs outer) [] H H' s.heap s'.heap/\HOk P w H' s'.heap/\Fly s'.heap ex T (.ref C)/\H' ex=none/\H' T=none/\s.heap.get? ex=none/\s.heap.get? T=none/\E (.ref C) none H'
def InB (X:Cx) (H:Hp) (s:Shared) (ex:Addr) (cls:Value):Prop:=H ex=none/\X.s₀.heap.get? ex=none /\
 ((∃ oe vs,s.heap.get? ex=some oe/\oe.cls=cls/\oe.data=.fields vs/\vs[1]?=some .none)\/∃ T,Fly s.heap ex T cls/\H T=none/\X.s₀.heap.get? T=none)
section
variable {X:Cx} {pins:List (Addr×Obj)} {σ:St} {H:Hp} {s:Shared} {ex:Addr} {cls:Value}
theorem InB.dat (h:InB X H s ex cls):∃ oe vs,s.heap.get? ex=some oe/\oe.cls=cls/\oe.data=.fields vs:=by
 rcases h.2.2 with ⟨oe,vs,a,b,c,_⟩ | ⟨T,⟨oe,vs,oT,ts,a,b,c,_⟩,_⟩
 ·exact ⟨oe,vs,a,b,c⟩
 ·exact ⟨oe,vs,a,b,c⟩
noncomputable def uG (ex:Addr) (T:Option Addr) (X:Cx):List Addr:=ex::(T.toList++frs X.stack)
theorem uH (I:Inv X pins σ H s) {b:Addr} (hb:b∈frs X.stack):∃ o,s.heap.get? b=some o/\∀ vs,o.data≠.fields vs:=(I.stack.mem hb).2
theorem QK (hs:X.stack=X.env::X.outer):∀ env∈X.stack,∀ b,env.frame=some b->b∈frs X.stack:=fun env he b hb=>List.mem_filterMap.mpr ⟨env,he,hb⟩
structure Gone (X:Cx) (H:Hp) (s:Shared) (ex:Addr) (cls:Value) (h2:Heap):Prop where
 keep:∀ b o,s.heap.get? b=some o->H b≠none\/(X.s₀.heap.get? b≠none/\b∉frs X.stack)->h2.get? b=some o
 slot:∀ b o,s.heap.get? b=some o->b∈frs X.stack->∃ sl,h2.get? b=some { o with slots:=sl }
 ok:HOk X.prog X.w H h2
 un:Un (frs X.stack) [] H H s.heap h2\/True
theorem UV {T0:Option Addr} {h2:Heap} (I:Inv X pins σ H s) (hex:H ex=none) (hT:∀ T,T0=some T->H T=none) (n1:X.s₀.heap.get? ex=none) (n2:∀ T,T0=some T->X.s₀.heap.get? T=none)
  (st:(PySem.W.hideAll s.heap (uG ex T0 X)).StaysIn h2) (sl:∀ b o,s.heap.get? b=some o->(∀ vs,o.data≠.fields vs)->∃ sl,h2.get? b=some { o with slots:=sl }):Gone X H s ex cls h2:=by
 have keep:∀ b o,s.heap.get? b=some o->b≠ex->(∀ T,T0=some T->b≠T)->b∉frs X.stack->h2.get? b=some o:=fun b o e h1 h2 h3=>st b o (PySem.W.hideAll_get _ e fun hm=>by
  rcases List.mem_cons.mp hm with q | hm
  ·exact h1 q
  ·rcases List.mem_append.mp hm with q | q
   ·exact h2 b (Option.mem_toList.mp q) rfl
   ·exact h3 q)
 have k1:∀ b o,s.heap.get? b=some o->H b≠none->h2.get? b=some o:=fun b o e hn=>keep b o e (fun q=>hn (by rw [q]; exact hex)) (fun T hT' q=>hn (by rw [q]; exact hT T hT')) fun q=>hn (I.stkFree b q)
 refine ⟨fun b o e hb=>?_,fun b o e hb=>?_,fun b u e=>?_,.inr trivial⟩
 ·rcases hb with hb | ⟨hb,hf⟩
  ·exact k1 b o e hb
  ·exact keep b o e (fun q=>hb (by rw [q]; exact n1)) (fun T hT' q=>hb (by rw [q]; exact n2 T hT')) hf
 ·obtain ⟨o',e',nf⟩:=uH I hb
  rw [e] at e'; cases e'
  exact sl b o e nf
 ·refine (I.hok b u e).stay (fun c v hc q=>k1 c v q ?_) (fun _ q=>q) fun _ _ q=>q
  rcases hc with z | z
  ·rw [z,e]; simp
  ·rw [z]; simp
theorem QL {T0:Option Addr} {h2:Heap} (I:Inv X pins σ H s) (hT:∀ T,T0=some T->H T=none) (n2:∀ T,T0=some T->X.s₀.heap.get? T=none) (g:Gone X H s ex cls h2) (hex0:X.ex=[])
  (tr:h2.Traced (PySem.W.hideAll s.heap (uG ex T0 X)) ex cls):∃ T,Fly h2 ex T cls/\H T=none/\X.s₀.heap.get? T=none:=by
 obtain ⟨oe,vs,T,oT,ts,a1,a2,a3,a4,a5,a6,a7,a8,a9⟩:=tr
 have noS:∀ o,s.heap.get? T=some o->(∃ q,T0=some q/\T=q):=fun o e=>by
  have hm:T∈uG ex T0 X:=by
   refine Classical.byContradiction fun hn=>?_
   rw [PySem.W.hideAll_get _ e hn] at a5
   cases a5
  rcases List.mem_cons.mp hm with q | hm
  ·exact absurd q a6
  ·rcases List.mem_append.mp hm with q | q
   ·exact ⟨T,Option.mem_toList.mp q,rfl⟩
   ·obtain ⟨o',e',nf⟩:=uH I q
    obtain ⟨sl,e2⟩:=g.slot T o' e' q
    rw [a7] at e2
    cases e2
    exact absurd a8 (nf ts)
 refine ⟨T,⟨oe,vs,oT,ts,a1,a2,a3,a4,a6,a7,a8,a9⟩,?_,?_⟩
 ·cases q:H T with
  | none=>rfl
  | some u=>
   have hlt:=I.hok.lt q
   obtain ⟨o,e⟩:∃ o,s.heap.get? T=some o:=by
    have:=(I.hok T u q)
    have st:=this.stay (H':=H) (h':=s.heap) (fun b v _ z=>z) (fun _ z=>z) fun _ _ z=>z
    cases z:s.heap.get? T with
    | some o=>exact ⟨o,rfl⟩
    | none=>
     exfalso
     cases u with
     | lst xs=>obtain ⟨_,_,_,_,e⟩:=st; rw [z] at e; cases e
     | tup xs=>obtain ⟨_,_,_,_,e,_⟩:=st; rw [z] at e; cases e
     | dK kvs=>obtain ⟨_,_,_,_,o,_,_,e,_⟩:=st; rw [z] at e; cases e
     | dT kvs=>obtain ⟨_,_,_,_,o,_,_,e,_⟩:=st; rw [z] at e; cases e
     | set S n=>obtain ⟨o,_,_,_,e,_⟩:=st; rw [z] at e; cases e
     | ins C dx fs=>obtain ⟨_,_,_,e,_⟩:=st; rw [z] at e; cases e
     | own y=>obtain ⟨_,e⟩:=st; rw [z] at e; cases e
     | xd fs=>obtain ⟨_,⟨_,_,_,e,_⟩,_⟩:=st; rw [z] at e; cases e
     | rng lo hi=>obtain ⟨_,_,_,e⟩:=st; rw [z] at e; cases e
     | frz ob u=>obtain ⟨e,_⟩:=st; rw [z] at e; cases e
     | tbl ps=>have e:s.heap.get? T=some _:=st; rw [z] at e; cases e
     | met f y=>have e:s.heap.get? T=some _:=st; rw [z] at e; cases e
     | ext φ=>obtain ⟨_,⟨_,e⟩,_⟩:=st; rw [z] at e; cases e
   obtain ⟨q',hq',rfl⟩:=noS o e
   rw [hT _ hq'] at q; cases q
 ·cases q:X.s₀.heap.get? T with
  | none=>rfl
  | some o=>
   obtain ⟨o',e'⟩:=I.base.there T o q (by rw [hex0]; simp)
   obtain ⟨q',hq',rfl⟩:=noS o' e'
   rw [n2 _ hq'] at q; cases q
theorem WB {E:Value->Shared->Prop} {Q:Unit->Shared->Prop} (I:Inv X pins σ H s) (hstk:X.stack=X.env::X.outer) (hfr:X.env.frame=some X.env.locals) (hex0:X.ex=[]) (x:InB X H s ex cls)
  (k:∀ h2 T,Gone X H s ex cls h2->Fly h2 ex T cls->H T=none->X.s₀.heap.get? T=none->Q () { s with heap:=h2 }):wpAny (model X.prog X.w) X.A (leaving X.env (.ref ex)) Q E s:=by
 obtain ⟨hex,n1,hx⟩:=x
 have hF:X.A.frames=some (X.env::X.outer):=by rw [I.ok.frames,hstk]
 have hB:∀ as,(PySem.W.hideAll s.heap as).StaysIn s.heap:=fun as b o e=>PySem.W.of_hideAll as e
 have hl:∀ T0,s.heap.FunFrames (PySem.W.hideAll s.heap (uG ex T0 X)) (X.env::X.outer):=fun T0=>by
  rw [<-hstk]
  exact PySem.W.funFrames_hide I.stack fun env he b hb=>List.mem_cons_of_mem _ (List.mem_append_right _ (QK hstk env he b hb))
 have hn:∀ T0,(PySem.W.hideAll s.heap (uG ex T0 X)).get? ex=none:=fun T0=>PySem.W.hideAll_none _ (List.mem_cons.mpr (.inl rfl))
 rcases hx with ⟨oe,vs,a1,a2,a3,a4⟩ | ⟨T,⟨oe,vs,oT,ts,a1,a2,a3,a4,a5,a6,a7,a8⟩,hT,n2⟩
 ·refine wpAny_leaving_first (base:=PySem.W.hideAll s.heap (uG ex none X)) hF (hl none) hfr a1 (hB _) (hn none) a3 a4 fun h2 ⟨st,_,tr,sl⟩=>?_
  have g:Gone X H s ex cls h2:=UV I hex (T0:=none) (fun _ z=>nomatch z) n1 (fun _ z=>nomatch z) st sl
  rw [a2] at tr
  obtain ⟨T',f1,f2,f3⟩:=QL I (T0:=none) (fun _ z=>nomatch z) (fun _ z=>nomatch z) g hex0 tr
  exact k h2 T' g f1 f2 f3
 ·have hT':∀ T1,some T=some T1->H T1=none:=fun T1 z=>by cases z; exact hT
  have n2':∀ T1,some T=some T1->X.s₀.heap.get? T1=none:=fun T1 z=>by cases z; exact n2
  have tr0:s.heap.Traced (PySem.W.hideAll s.heap (uG ex (some T) X)) ex cls:=⟨oe,vs,T,oT,ts,a1,a2,a3,a4,PySem.W.hideAll_none _ (List.mem_cons_of_mem _ (List.mem_append_left _ (by simp))),a5,a6,a7,a8⟩
  refine wpAny_leaving_next (base:=PySem.W.hideAll s.heap (uG ex (some T) X)) hF (hl (some T)) hfr tr0 (hB _) (hn _) fun h2 ⟨st,_,tr,sl⟩=>?_
  have g:Gone X H s ex cls h2:=UV I hex hT' n1 n2' st sl
  obtain ⟨T',f1,f2,f3⟩:=QL I hT' n2' g hex0 tr
  exact k h2 T' g f1 f2 f3
end
section
variable {P:Program} {w:World} {K:Frag} {mg:Str->Option Value} {base:Heap} {N:List Str} {qual:Str} {scope:Scope} {f:Addr} {cd:Value} {A:Around} {outer:List Env} {s0:Shared} {H0:Hp} {E:XK}
abbrev cxk (P:Program) (w:World) (K:Frag) (mg:Str->Option Value) (base:Heap) (N:List Str) (qual:Str) (scope:Scope) (f:Addr) (cd:Value) (A:Around) (outer:List Env) (s0:Shared) (H0:Hp) (E:XK):Cx:=XH (CXk P w) P w K mg base N qual scope f cd A outer s0 H0 E
theorem qcu {pins:List (Addr×Obj)} {σ:St} {H:Hp} {s:Shared} {ex C:Addr} (I:Inv (cxk P w K mg base N qual scope f cd A outer s0 H0 E) pins σ H s) (x:InB (cxk P w K mg base N qual scope f cd A outer s0 H0 E) H s ex (.ref C)) (hE:E (.ref C) none H) :
  (cxk P w K mg base N qual scope f cd A outer s0 H0 E).xe (.ref ex) s:=by
 refine WB I rfl rfl rfl x fun h2 T g fl hT nT=>?_
 have bs0:=I.base
 have neL:∀ b o,s0.heap.get? b=some o->b≠(cxk P w K mg base N qual scope f cd A outer s0 H0 E).env.locals:=fun b o e=>Nat.ne_of_lt (Nat.lt_of_lt_of_le (Heap.lt_size e) I.ok.above)
 have nst:∀ b o,s0.heap.get? b=some o->b∉frs outer->b∉frs (cxk P w K mg base N qual scope f cd A outer s0 H0 E).stack:=fun b o e hb z=>by
  rcases List.mem_cons.mp (I.stkSub b z) with q | q
  ·exact neL b o e q
  ·exact hb q
 have ist:∀ b,b∈frs outer->b∈frs (cxk P w K mg base N qual scope f cd A outer s0 H0 E).stack:=fun b hb=>by
  show b∈frs (_::outer)
  unfold frs
  rw [List.filterMap_cons]
  exact List.mem_cons_of_mem _ hb
 refine ⟨ex,T,C,H,rfl,I.os,I.bare,⟨fun b o e n hb hx=>?_,fun b o e n hb hx=>?_,bs0.free,fun b o e hx=>?_,bs0.tups,bs0.frzs,bs0.tbls⟩,g.ok,fl,x.1,hT,x.2.1,nT,hE⟩
 ·exact g.keep b o (bs0.keep b o e n hb hx) (.inr ⟨by show s0.heap.get? b≠none; rw [e]; simp,nst b o e hb⟩)
 ·obtain ⟨sl,q⟩:=bs0.slot b o e n hb hx
  obtain ⟨sl2,q2⟩:=g.slot b _ q (ist b hb)
  exact ⟨sl2,q2⟩
 ·obtain ⟨o',q⟩:=bs0.there b o e hx
  by_cases hb:b∈frs (cxk P w K mg base N qual scope f cd A outer s0 H0 E).stack
  ·obtain ⟨sl,q2⟩:=g.slot b o' q hb
   exact ⟨_,q2⟩
  ·exact ⟨o',g.keep b o' q (.inr ⟨by show s0.heap.get? b≠none; rw [e]; simp,hb⟩)⟩
theorem qaZ {X:Cx} {pins:List (Addr×Obj)} {σ:St} {H:Hp} {s s':Shared} {e:Value} (hex0:X.ex=[]) (I:Inv X pins σ H s) (h:CXk X.prog X.w X.stack H s E e s'):∃ ex C H',e=.ref ex/\Inv X pins σ H' s'/\InB X H' s' ex (.ref C)/\E (.ref C) none H':=by
 obtain ⟨ex,T,C,H',rfl,os,bare,un,hok,fl,e1,e2,n1,n2,hE⟩:=h
 have old:∀ b,s.heap.get? b=none->X.s₀.heap.get? b=none:=fun b hb=>by
  cases q:X.s₀.heap.get? b with
  | none=>rfl
  | some o=>
   obtain ⟨o',e'⟩:=I.base.there b o q (by rw [hex0]; simp)
   rw [hb] at e'; cases e'
 exact ⟨ex,C,H',rfl,I.call' (ch:=[]) os un hok bare (fun b z=>absurd z (by simp)),⟨e1,old ex n1,.inr ⟨T,fl,e2,old T n2⟩⟩,hE⟩
theorem qW:kb (CXk P w) (cxk P w K mg base N qual scope f cd A outer s0 H0 E) E:=fun pins σ H s e s' I h=>by
 obtain ⟨ex,C,H',rfl,I',x,hE⟩:=qaZ rfl I h
 exact qcu I' x hE
theorem qa0 {h:Heap} {C:Addr} {bmB:List Value} {newId:String} {x:Str} (kin:K.In h) (hm:mg x=some (.ref C)) (q:PySem.W.excIn K C bmB newId=true):OwnCls x C bmB newId mg h:=by
 refine ⟨hm,?_⟩
 unfold PySem.W.excIn at q
 split at q
 case h_2=>cases q
 case h_1 dd cd sl lk=>
  split at q
  case h_2=>cases q
  case h_1 C' bm a0 a1 a2 a3 n a5 em es=>
   have q':=q
   simp only [Bool.and_eq_true,beq_iff_eq,Bool.not_eq_true'] at q'
   obtain ⟨⟨⟨⟨⟨e1,e2⟩,nodel⟩,tl⟩,nsok⟩,noinit⟩:=q'
   obtain ⟨nm,bs,mro,ns,qn,hd,sn,sub,ab,col,del⟩:=cd
   dsimp only at em nodel nsok noinit
   obtain ⟨sll⟩:=sl
   dsimp only at es
   subst em nodel es e1 e2
   exact ⟨bm,ns,nm,qn,bs,hd,sn,sub,ab,col,dd,a0,a1,a2,a3,a5,_,kin _ _ lk,.of_isNs (PySem.W.isNs_of_in kin nsok),PySem.W.nsMap_none_of_in kin nsok noinit,PySem.W.tail_of_in kin tl⟩
end
theorem GT {P:Program} {w:World} {H:Hp} {h:Heap} {T:Addr} {u:HO} (hok:HOk P w H h) (q:H T=some u):∃ o,h.get? T=some o:=by
 have st:=hok T u q
 cases z:h.get? T with
 | some o=>exact ⟨o,rfl⟩
 | none=>
  exfalso
  cases u with
  | lst xs=>obtain ⟨_,_,_,_,e⟩:=st; rw [z] at e; cases e
  | tup xs=>obtain ⟨_,_,_,_,e,_⟩:=st; rw [z] at e; cases e
  | dK kvs=>obtain ⟨_,_,_,_,o,_,_,e,_⟩:=st; rw [z] at e; cases e
  | dT kvs=>obtain ⟨_,_,_,_,o,_,_,e,_⟩:=st; rw [z] at e; cases e
  | set S n=>obtain ⟨o,_,_,_,e,_⟩:=st; rw [z] at e; cases e
  | ins C dx fs=>obtain ⟨_,_,_,e,_⟩:=st; rw [z] at e; cases e
  | own y=>obtain ⟨_,e⟩:=st; rw [z] at e; cases e
  | xd fs=>obtain ⟨_,⟨_,_,_,e,_⟩,_⟩:=st; rw [z] at e; cases e
  | rng lo hi=>obtain ⟨_,_,_,e⟩:=st; rw [z] at e; cases e
  | frz ob u=>obtain ⟨e,_⟩:=st; rw [z] at e; cases e
  | tbl ps=>have e:h.get? T=some _:=st; rw [z] at e; cases e
  | met f y=>have e:h.get? T=some _:=st; rw [z] at e; cases e
  | ext φ=>obtain ⟨_,⟨_,e⟩,_⟩:=st; rw [z] at e; cases e
abbrev bmV:List Value:=[.type "ValueError",.type "Exception",.type "BaseException",.type "object"]
noncomputable def kG (x:Str) (fr:Sl->Out (List D×Sl)):Sl->Out (Fl×Sl):=fun ρ=>(fr ρ).bind fun p=>.exc x p.2
theorem PoS.bindA {C:Ct} {own own':List Nat} {as:List AK} {σ:St} {F H:Hp} {o:Out (List D×Sl)} {k:List D×Sl->Out (Fl×Sl)} {D:Ends} {R:List V->Hp->Prop} (hp:PoS C own own' σ F H (o.bind k) D)
  (h:∀ vs F1 H1 ds ρ1,Rep C.K own F1 H1 σ ρ1->Chg (OA own σ) F H F1 H1->ArgV C.K H F1 H1 σ as vs ds->PoS C own own' σ F1 H1 (k (ds,ρ1)) D->R vs H1):PoA C own as σ F H o R:=by
 cases o with
 | ok p=>
  obtain ⟨ds,ρ1⟩:=p
  exact fun vs F1 H1 rp c av=>h vs F1 H1 ds ρ1 rp c av (PoS.shift (show PoS C own own' σ F H (k (ds,ρ1)) D from hp) (.ofE rp c))
 | exc x=>exact hp
 | bad=>exact hp.elim
def UW (X:Cx) (C:Ct):Prop:=∀ (pins:List (Addr×Obj)) (σ:St) (H:Hp) (s:Shared) (ex A:Addr),Inv X pins σ H s->InB X H s ex (.ref A)->C.E (.ref A) none H->X.xe (.ref ex) s
theorem qcv {P:Program} {w:World} {K:Frag} {mg:Str->Option Value} {base:Heap} {N:List Str} {qual:Str} {scope:Scope} {f:Addr} {cd:Value} {A:Around} {outer:List Env} {s0:Shared} {H0:Hp} {C:Ct}:UW (cxk P w K mg base N qual scope f cd A outer s0 H0 C.E) C:=fun pins σ H s ex A I x hE=>qcu I x hE
section
variable {X:Cx} {C:Ct} {own own':List Nat} {as:List AK} {e:Expr} {es:List Expr} {fr:Sl->Out (List D×Sl)} {x:Str} {Cc:Addr} {np cpos pos:Pos}
theorem ArgV.len {K:Frag} {H0 F H:Hp} {σ:St}:∀ {as:List AK} {vs:List V} {ds:List D},ArgV K H0 F H σ as vs ds->vs.length=as.length
 | [],[],[],_=>rfl
 | .vl::as,v::vs,d::ds,h=>congrArg (·+1) (ArgV.len h.2)
 | .sl i::as,v::vs,d::ds,h=>congrArg (·+1) (ArgV.len h.2.2)
 | .fr::as,v::vs,d::ds,h=>congrArg (·+1) (ArgV.len h.2)
 | [],_::_,_,h=>h.elim
 | [],[],_::_,h=>h.elim
 | .vl::_,[],_,h=>h.elim
 | .vl::_,_::_,[],h=>h.elim
 | .sl _::_,[],_,h=>h.elim
 | .sl _::_,_::_,[],h=>h.elim
 | .fr::_,[],_,h=>h.elim
 | .fr::_,_::_,[],h=>h.elim
theorem kH (hx0:X.ex=[]) (ht:UW X C) (hcalm:X.calm=true) (hg:Gl X x) (hm:X.mg x=some (.ref Cc)) (hcv:C.cv x=.ref Cc) (q:PySem.W.excIn X.K Cc bmV "ValueError.__new__"=true) (ha:PA X (e::es) (tAr C own as fr)) (hsz:as.length<=1000:=by decide) (hio:∀ i∈C.ox,i∈own:=by exact vS rfl) (hd:(x == ("__debug__":Str))=false:=by decide)
  (he:starEach (e::es) X.env=(false,eval e X.env)::starEach es X.env:=by exact ji rfl) (hpl:(backTo cpos (starEach es X.env)).any (·.1)=false:=by rfl) :
  PS X (.Raise (some (.Call (.Name x np) (e::es) [] cpos)) none pos) (tSt C own own' (kG x fr)):=by
 refine ⟨?_⟩
 intro pins s σ H D I ⟨F,ρ,rp,h⟩
 obtain ⟨tl,N,nm,qn,bs,hdct,sn,sub,ab,col,dd,k0,k1,k2,k3,k5,mN,hC,hN,hni,T⟩:=(qa0 I.ok.mod.kin hm q).obj
 refine wpAny_Raise_call_subT (C:=Cc) (nm:=nm) (q:=qn) (N:=N) (bs:=bs) (bm:=tl) (hdct:=hdct) (sn:=sn) (sub:=sub) (ab:=ab) (col:=col) (dd:=dd) (k0:=k0) (k1:=k1) (k2:=k2) (k3:=k3) (k5:=k5)
  PySem.F.excBase_ValueError (mN:=mN) (T.hasType PySem.F.excBase_ValueError.hasBase) (I.ok.hd hcalm) (by rw [he]; show (false||(backTo cpos (starEach es X.env)).any (·.1))=false; rw [hpl]; rfl) hni (xf I hg hm ⟨rfl,?_⟩ hd)
 have main:tAr C own as fr σ H fun vs H1=>vs.length<=sizeLine/\C.E (.ref Cc) none H1:=by
  refine ⟨F,ρ,rp,PoS.bindA h fun vs F1 H1 ds ρ1 rp1 c1 av h1=>⟨?_,?_⟩⟩
  ·rw [av.len]; exact Nat.le_trans hsz (by rw [sizeLine_eq]; decide)
  ·rw [<-hcv]; exact h1 F1 H1 rp1.sub (rp1.ioIs hio) .refl
 have run:=ha cpos pins s σ H _ I main
 rw [he] at run ⊢
 refine Calls.evalArgs_plain (wpAny_mono run (fun us s2 ⟨vs,H2,I2,r2,z2,hE⟩=>?_) fun _ _ y=>y)
 refine ⟨rfl,by rw [<-r2.length]; exact z2,I2.bk _ _ hC,hN.keeps I2.bk,T.keeps I2.bk,fun h' ex mk=>?_⟩
 have I3:Inv X pins σ H2 { s2 with heap:=h' }:=I2.kept (t':=s2.toks) mk.keeps
 obtain ⟨t,h1,h2,h3⟩:=mk.there
 refine ht pins σ H2 _ ex Cc I3 ⟨?_,?_,.inl ⟨_,_,h1,rfl,rfl,rfl⟩⟩ hE
 ·cases q2:H2 ex with
  | none=>rfl
  | some u=>
   have hlt:=I2.hok.lt q2
   refine absurd mk.new ?_
   obtain ⟨o,e⟩:=GT I2.hok q2
   rw [e]; simp
 ·cases q2:X.s₀.heap.get? ex with
  | none=>rfl
  | some o=>
   obtain ⟨o',e'⟩:=I2.base.there ex o q2 (by rw [hx0]; simp)
   rw [mk.new] at e'; cases e'
end
structure Caught (X:Cx) (pins:List (Addr×Obj)) (H:Hp) (s:Shared) (ex T Cc:Addr):Prop where
 fly:Fly s.heap ex T (.ref Cc)
 hex:H ex=none
 hT:H T=none
 n1:X.s₀.heap.get? ex=none
 n2:X.s₀.heap.get? T=none
 pp:∀ p∈X.pn++pins,p.1≠ex/\p.1≠T
section
variable {X:Cx} {pins:List (Addr×Obj)} {σ:St} {H:Hp} {s:Shared} {ex T Cc:Addr}
theorem Caught.dex (c:Caught X pins H s ex T Cc):∃ oe vs,s.heap.get? ex=some oe/\oe.data=.fields vs:=let ⟨oe,vs,oT,ts,a1,a2,a3,_⟩:=c.fly; ⟨oe,vs,a1,a3⟩
theorem Caught.dT (c:Caught X pins H s ex T Cc):∃ oe vs,s.heap.get? T=some oe/\oe.data=.fields vs:=let ⟨oe,vs,oT,ts,a1,a2,a3,a4,a5,a6,a7,_⟩:=c.fly; ⟨oT,ts,a6,a7⟩
theorem Vw {h2:Heap} (I:Inv X pins σ H s) (hstk:X.stack=X.env::X.outer) (hfr:X.env.frame=some X.env.locals) (hx0:X.ex=[]) (c:Caught X pins H s ex T Cc)
  (keep:∀ b o,s.heap.get? b=some o->b≠ex->b≠T->b∉frs X.stack->h2.get? b=some o)
  (slot:∀ b o,s.heap.get? b=some o->b∈frs X.stack->∃ sl,h2.get? b=some { o with slots:=sl }):Inv X pins σ H { s with heap:=h2 }:=by
 obtain ⟨oe,ve,he,de⟩:=c.dex
 obtain ⟨oT,vT,hT,dT⟩:=c.dT
 have nf:∀ b o,s.heap.get? b=some o->(∀ vs,o.data≠.fields vs)->b≠ex/\b≠T:=fun b o e n=>by
  constructor
  ·rintro rfl; rw [he] at e; cases e; exact n _ de
  ·rintro rfl; rw [hT] at e; cases e; exact n _ dT
 have Lm:X.env.locals∈frs X.stack:=by
  rw [hstk]; unfold frs; rw [List.filterMap_cons,hfr]; exact List.mem_cons_self
 have neL:∀ b o,X.s₀.heap.get? b=some o->b≠X.env.locals:=fun b o e=>Nat.ne_of_lt (Nat.lt_of_lt_of_le (Heap.lt_size e) I.ok.above)
 have nst:∀ b o,X.s₀.heap.get? b=some o->b∉X.fs->b∉frs X.stack:=fun b o e hb z=>by
  rcases List.mem_cons.mp (I.stkSub b z) with q | q
  ·exact neL b o e q
  ·exact hb q
 have ist:∀ b,b∈X.fs->b∈frs X.stack:=fun b hb=>by
  rw [hstk]; unfold frs; rw [List.filterMap_cons,hfr]; exact List.mem_cons_of_mem _ hb
 have ne0:∀ b o,X.s₀.heap.get? b=some o->b≠ex/\b≠T:=fun b o e=>⟨(by rintro rfl; rw [c.n1] at e; cases e),(by rintro rfl; rw [c.n2] at e; cases e)⟩
 have kc:∀ {a:Addr} {v:Option Value},s.heap.IsCell a v->h2.IsCell a v:=fun {a v} ⟨oc,e1,e2⟩=>by
  have q:=nf a oc e1 fun vs z=>by rw [e2] at z; cases z
  by_cases hb:a∈frs X.stack
  ·obtain ⟨sl,z⟩:=slot a oc e1 hb
   exact ⟨_,z,e2⟩
  ·exact ⟨oc,keep a oc e1 q.1 q.2 hb,e2⟩
 refine ⟨I.ok,I.os,I.bare,⟨fun b o e n hb hx=>?_,fun b o e n hb hx=>?_,I.base.free,fun b o e hx=>?_,I.base.tups,I.base.frzs,I.base.tbls⟩,?_,fun x a e=>?_,I.free,I.freeC,fun p hp=>?_,fun b u e=>?_,I.len⟩
 ·exact keep b o (I.base.keep b o e n hb hx) (ne0 b o e).1 (ne0 b o e).2 (nst b o e hb)
 ·obtain ⟨sl,q⟩:=I.base.slot b o e n hb hx
  obtain ⟨sl2,q2⟩:=slot b _ q (ist b hb)
  exact ⟨sl2,q2⟩
 ·obtain ⟨o',q⟩:=I.base.there b o e hx
  by_cases hb:b∈frs X.stack
  ·obtain ⟨sl,z⟩:=slot b o' q hb
   exact ⟨_,z⟩
  ·exact ⟨o',keep b o' q (ne0 b o e).1 (ne0 b o e).2 hb⟩
 ·obtain ⟨m,⟨o,es,ep,ho,r⟩,hl⟩:=I.loc
  obtain ⟨sl,hL⟩:=slot _ o ho Lm
  refine ⟨m,⟨_,es,ep,hL,r⟩,fun i x v e1 e2 e3=>?_⟩
  obtain ⟨u,rv,lk⟩:=hl i x v e1 e2 e3
  refine ⟨u,rv,?_⟩
  rcases lk with z | ⟨k,a,e,z⟩
  ·exact .inl z
  ·exact .inr ⟨k,a,e,kc z⟩
 ·obtain ⟨v,z⟩:=I.cell x a e
  exact ⟨v,kc z⟩
 ·obtain ⟨a1,a2,a3,a4,a5⟩:=I.pin p hp
  refine ⟨keep p.1 p.2 a1 (c.pp p hp).1 (c.pp p hp).2 fun z=>?_,a2,a3,a4,a5⟩
  rcases List.mem_cons.mp (I.stkSub p.1 z) with q | q
  ·exact a3 q
  ·exact a4 q
 ·refine (I.hok b u e).stay (fun d v hc q=>?_) (fun _ q=>q) fun _ _ q=>q
  have hd:H d≠none:=by
   rcases hc with z | z
   ·rw [z,e]; simp
   ·rw [z]; simp
  exact keep d v q (fun z=>hd (by rw [z]; exact c.hex)) (fun z=>hd (by rw [z]; exact c.hT)) fun z=>hd (I.stkFree d z)
theorem zM {h2:Heap} {a0:Value} (I:Inv X pins σ H s) (hx0:X.ex=[]) (c:Caught X pins H s ex T Cc) (slot:∀ b o,s.heap.get? b=some o->b∈frs X.stack->∃ sl,h2.get? b=some { o with slots:=sl })
  (tr:h2.TracedW (PySem.W.hideAll s.heap (uG ex (some T) X)) ex (.ref Cc) a0):∃ T',Caught X pins H { s with heap:=h2 } ex T' Cc:=by
 obtain ⟨oe,vs,T',oT,ts,b1,⟨b2,_⟩,b3,b4,b5,b6,b7,b8,b9⟩:=tr
 have noS:∀ o,s.heap.get? T'=some o->T'=T:=fun o e=>by
  have hm:T'∈uG ex (some T) X:=by
   refine Classical.byContradiction fun hn=>?_
   rw [PySem.W.hideAll_get _ e hn] at b5
   cases b5
  rcases List.mem_cons.mp hm with q | hm
  ·exact absurd q b6
  ·rcases List.mem_append.mp hm with q | q
   ·simpa using q
   ·obtain ⟨o',e',nf⟩:=uH I q
    obtain ⟨sl,e2⟩:=slot T' o' e' q
    rw [b7] at e2
    cases e2
    exact absurd b8 (nf ts)
 refine ⟨T',⟨oe,vs,oT,ts,b1,b2,b3,b4,b6,b7,b8,b9⟩,c.hex,?_,c.n1,?_,fun p hp=>⟨(c.pp p hp).1,?_⟩⟩
 ·cases q:H T' with
  | none=>rfl
  | some u=>
   obtain ⟨o,e⟩:=GT I.hok q
   rw [noS o e,c.hT] at q; cases q
 ·cases q:X.s₀.heap.get? T' with
  | none=>rfl
  | some o=>
   obtain ⟨o',e'⟩:=I.base.there T' o q (by rw [hx0]; simp)
   rw [noS o' e',c.n2] at q; cases q
 ·rintro rfl
  exact (c.pp p hp).2 (noS _ (I.pin p hp).1)
theorem zN {h2:Heap} (st:(PySem.W.hideAll s.heap (uG ex (some T) X)).StaysIn h2):∀ b o,s.heap.get? b=some o->b≠ex->b≠T->b∉frs X.stack->h2.get? b=some o:=fun b o e h1 h2 h3=>st b o (PySem.W.hideAll_get _ e fun hm=>by
  rcases List.mem_cons.mp hm with q | hm
  ·exact h1 q
  ·rcases List.mem_append.mp hm with q | q
   ·exact h2 (by simpa using q)
   ·exact h3 q)
theorem QM (c:Caught X pins H s ex T Cc):∃ a0,s.heap.TracedW (PySem.W.hideAll s.heap (uG ex (some T) X)) ex (.ref Cc) a0:=by
 obtain ⟨oe,vs,oT,ts,a1,a2,a3,a4,a5,a6,a7,a8⟩:=c.fly
 have hz:0 < vs.size:=Nat.lt_of_succ_lt (Array.getElem?_eq_some_iff.mp a4).1
 exact ⟨vs[0],oe,vs,T,oT,ts,a1,⟨a2,by simp [hz]⟩,a3,a4,PySem.W.hideAll_none _ (List.mem_cons_of_mem _ (List.mem_append_left _ (by simp))),a5,a6,a7,a8⟩
theorem zO (I:Inv X pins σ H s) (hstk:X.stack=X.env::X.outer):s.heap.FunFrames (PySem.W.hideAll s.heap (uG ex (some T) X)) (X.env::X.outer):=by
 rw [<-hstk]
 exact PySem.W.funFrames_hide I.stack fun env he b hb=>List.mem_cons_of_mem _ (List.mem_append_right _ (QK hstk env he b hb))
theorem UX {A:Around} {E:Value->Shared->Prop} {Q:Unit->Shared->Prop} (hA:A.frames=some X.stack) (I:Inv X pins σ H s) (hstk:X.stack=X.env::X.outer) (hfr:X.env.frame=some X.env.locals) (hx0:X.ex=[]) (c:Caught X pins H s ex T Cc)
  (k:∀ s' T',Inv X pins σ H s'->Caught X pins H s' ex T' Cc->Q () s'):wpAny (model X.prog X.w) A (noteFrame (.ref ex) X.env) (fun _ s1=>wpAny (model X.prog X.w) A (setFlight (.ref ex) none) Q E s1) E s:=by
 obtain ⟨a0,tr⟩:=QM c
 refine wpAny_looks_onW (by rw [hA,hstk]) hfr ⟨fun b o e=>PySem.W.of_hideAll _ e,PySem.W.hideAll_none _ (List.mem_cons.mpr (.inl rfl)),zO I hstk,tr⟩ fun h1 held u1=>?_
 refine wpAny_landsW held fun h2 fl u2=>?_
 have slot:∀ b o,s.heap.get? b=some o->b∈frs X.stack->∃ sl,h2.get? b=some { o with slots:=sl }:=fun b o e hb=>by
  obtain ⟨o',e',nf⟩:=uH I hb
  rw [e] at e'; cases e'
  obtain ⟨sl,q⟩:=u1 b o e nf
  obtain ⟨sl2,q2⟩:=u2 b _ q nf
  exact ⟨sl2,q2⟩
 obtain ⟨T',c'⟩:=zM I hx0 c slot fl.2.2.2
 have I2:Inv X pins σ H { s with heap:=h2 }:=Vw I hstk hfr hx0 c (zN fl.1) slot
 exact k { s with heap:=h2 } T' I2 c'
theorem JU {A:Around} {E:Value->Shared->Prop} {Q:Unit->Shared->Prop} (I:Inv X pins σ H s) (hstk:X.stack=X.env::X.outer) (hfr:X.env.frame=some X.env.locals) (hx0:X.ex=[]) (c:Caught X pins H s ex T Cc)
  (k:∀ s' T',Inv X pins σ H s'->Caught X pins H s' ex T' Cc->Q () s'):wpAny (model X.prog X.w) A (setFlight (.ref ex) none) Q E s:=by
 obtain ⟨a0,tr⟩:=QM c
 refine wpAny_setFlight_noneW (base:=PySem.W.hideAll s.heap (uG ex (some T) X)) (fun b o e=>PySem.W.of_hideAll _ e) (zO I hstk) tr fun h2 st _ tr2 kp=>?_
 have slot:∀ b o,s.heap.get? b=some o->b∈frs X.stack->∃ sl,h2.get? b=some { o with slots:=sl }:=fun b o e hb=>by
  obtain ⟨o',e',nf⟩:=uH I hb
  rw [e] at e'; cases e'
  exact ⟨o.slots,kp b o e nf⟩
 obtain ⟨T',c'⟩:=zM I hx0 c slot tr2
 exact k _ T' (Vw I hstk hfr hx0 c (zN st) slot) c'
theorem qd2 (I:Inv X pins σ H s) (c:Caught X pins H s ex T Cc):Inv X pins σ (upd H ex (Vj ex Cc)) s:=by
 obtain ⟨oe,vs,oT,ts,a1,a2,a3,_⟩:=c.fly
 have nf:∀ b o,s.heap.get? b=some o->(∀ vs,o.data≠.fields vs)->b≠ex:=fun b o e n=>by
  rintro rfl; rw [a1] at e; cases e; exact n _ a3
 have up:∀ {b:Addr} {u:HO},H b=some u->upd H ex (Vj ex Cc) b=some u:=fun {b u} e=>by rw [qo (qx e c.hex)]; exact e
 refine ⟨I.ok,I.os,I.bare,⟨I.base.keep,I.base.slot,fun b o e n hx=>?_,I.base.there,fun b xs e=>up (I.base.tups b xs e),fun b o u e=>up (I.base.frzs b o u e),fun b ps e=>?_⟩,I.loc,I.cell,?_,fun x a e=>?_,fun p hp=>?_,fun b u e=>?_,I.len⟩
 ·rw [qo (by rintro rfl; rw [c.n1] at e; cases e)]; exact I.base.free b o e n hx
 ·obtain ⟨more,z⟩:=I.base.tbls b ps e
  exact ⟨more,up z⟩
 ·obtain ⟨m,⟨o,es,ep,ho,hd,_⟩,_⟩:=I.loc
  rw [qo (nf _ o ho fun vs z=>by rw [hd] at z; cases z)]; exact I.free
 ·obtain ⟨v,oc,e1,e2⟩:=I.cell x a e
  rw [qo (nf _ oc e1 fun vs z=>by rw [e2] at z; cases z)]; exact I.freeC x a e
 ·obtain ⟨b1,b2,b3⟩:=I.pin p hp
  refine ⟨b1,?_,b3⟩
  rw [qo (c.pp p hp).1]; exact b2
 ·by_cases q:b=ex
  ·subst q
   rw [qm] at e; cases e
   refine ⟨⟨oe,vs,a1,a2,a3⟩,⟨oe,a1⟩,fun h1 h2 ⟨o1,v1,e1,e2,e3⟩ kk=>⟨o1,v1,kk _ e1,e2,e3⟩⟩
  ·rw [qo q] at e
   exact (I.hok b u e).stay (fun _ _ _ z=>z) (fun d z=>up z) fun d xs z=>up z
def JV (X:Cx) (pn:List (Addr×Obj)) (xe:Value->Shared->Prop):Cx:={ X with pn:=pn,xe:=xe }
theorem qa1 {xe:Value->Shared->Prop} (I:Inv X pins σ H s):Inv (JV X (X.pn++pins) xe) [] σ H s:=
 ⟨⟨I.ok.mod,I.ok.kind,I.ok.glob,I.ok.blt,I.ok.above,I.ok.inj,I.ok.has,I.ok.cab,I.ok.hd,I.ok.frames,I.ok.stk,I.ok.exf,I.ok.bs,I.ok.bsz,I.ok.noex,I.ok.exfs,I.ok.funs,I.ok.frf⟩,I.os,I.bare,I.base,I.loc,I.cell,I.free,I.freeC,fun p hp=>I.pin p (by simpa [JV] using hp),I.hok,I.len⟩
theorem wl {xe:Value->Shared->Prop} {pins':List (Addr×Obj)} (I:Inv (JV X (X.pn++pins) xe) pins' σ H s):Inv X pins σ H s:=
 ⟨⟨I.ok.mod,I.ok.kind,I.ok.glob,I.ok.blt,I.ok.above,I.ok.inj,I.ok.has,I.ok.cab,I.ok.hd,I.ok.frames,I.ok.stk,I.ok.exf,I.ok.bs,I.ok.bsz,I.ok.noex,I.ok.exfs,I.ok.funs,I.ok.frf⟩,I.os,I.bare,I.base,I.loc,I.cell,I.free,I.freeC,fun p hp=>I.pin p (List.mem_append_left _ hp),I.hok,I.len⟩
noncomputable def qdq (X:Cx) (e:Value):Cx:={ X with A:=X.A.mark (some e),calm:=false,xe:=fun _ _=>False }
theorem GU {e:Value} (I:Inv X pins σ H s):Inv (qdq X e) pins σ H s:=
 ⟨⟨I.ok.mod,I.ok.kind,I.ok.glob,I.ok.blt,I.ok.above,I.ok.inj,I.ok.has,I.ok.cab,fun z=>absurd z (by show ¬(false=true); exact Bool.false_ne_true),I.ok.frames,I.ok.stk,I.ok.exf,I.ok.bs,I.ok.bsz,I.ok.noex,I.ok.exfs,I.ok.funs,I.ok.frf⟩,I.os,I.bare,I.base,I.loc,I.cell,I.free,I.freeC,I.pin,I.hok,I.len⟩
theorem qa2 {e:Value} (hok:X.Ok) (I:Inv (qdq X e) pins σ H s):Inv X pins σ H s:=
 ⟨hok,I.os,I.bare,I.base,I.loc,I.cell,I.free,I.freeC,I.pin,I.hok,I.len⟩
end
def qd3 (C:Ct) (own:List Nat) (E:XK):Ct:=⟨C.K,C.cv,E,own,C.mr,C.ol,own,fun _ h=>h⟩
noncomputable def exC (C:Ct):Ct:=⟨C.K,C.cv,fun _ _ _=>False,[],C.mr,[],[],fun _ h=>h⟩
noncomputable def qbE (n:Nat) (j:Option Nat) (hit:Str->Option Addr) (fb fs:Sl->Out (Fl×Sl)):Sl->Out (Fl×Sl):=fun ρ=>match fb ρ with
 | .exc c ρe=>match hit c with
  | some Cc=>match fs (match j with | some j=>(List.replicate n none).set j (some (.xcp Cc)) | none=>List.replicate n none) with
   | .ok (.rt d,_)=>.ok (.rt d,ρe)
   | _=>.bad
  | none=>.bad
 | o=>o
def qd4 (C:Ct) (own:List Nat) (σ:St) (F H:Hp) (r:Out (Fl×Sl)):XK:=fun cls _ H'=>∃ c ρe F',r=.exc c ρe/\cls=C.cv c/\Same F' H'/\Uz C.K own F' H' σ ρe/\Chg (OA own σ) F H F' H'
def qd5 (X:Cx) (pins:List (Addr×Obj)) (E:XK):Value->Shared->Prop:=fun e s'=>∃ σ ex T Cc H',e=.ref ex/\Inv X pins σ H' s'/\Caught X pins H' s' ex T Cc/\E (.ref Cc) none H'
section
variable {X:Cx} {C:Ct} {own own':List Nat} {fb fs:Sl->Out (Fl×Sl)} {pins:List (Addr×Obj)}
theorem WC {E:XK} (hx0:X.ex=[]):kb (CXk X.prog X.w) (JV X (X.pn++pins) (qd5 X pins E)) E:=fun pins' σ H s e s' I h=>by
 obtain ⟨ex,T,Cc,H',rfl,os,bare,un,hok,fl,e1,e2,n1,n2,hE⟩:=h
 have old:∀ b,s.heap.get? b=none->X.s₀.heap.get? b=none:=fun b hb=>by
  cases q:X.s₀.heap.get? b with
  | none=>rfl
  | some o=>
   obtain ⟨o',e'⟩:=I.base.there b o q (by show b∉X.ex; rw [hx0]; simp)
   rw [hb] at e'; cases e'
 have I2:Inv (JV X (X.pn++pins) (qd5 X pins E)) pins' σ H' s':=I.call' (ch:=[]) os un hok bare (fun b z=>absurd z (by simp))
 refine ⟨σ,ex,T,Cc,H',rfl,wl I2,⟨fl,e1,e2,old ex n1,old T n2,fun p hp=>?_⟩,hE⟩
 have q:=(I.pin p (List.mem_append_left _ hp)).1
 exact ⟨fun z=>(by rw [z,n1] at q; cases q),fun z=>(by rw [z,n2] at q; cases q)⟩
theorem Nx.untry {E:XK} {o1 o2:List Nat} {σ σ':St} {F H F' H':Hp} {ρ':Sl} (hsub:∀ i∈C.io,i∈own) (n:Nx (qd3 C own E) o1 o2 σ F H ρ' σ' F' H'):Nx C o1 o2 σ F H ρ' σ' F' H':=⟨n.rep,n.chg,n.oa,fun i hi=>n.io i (hsub i hi)⟩
theorem Zx {σ:St} {F H:Hp} {ρ:Sl} {D:Ends} {n:Nat} {j:Option Nat} {hit:Str->Option Addr} (hsub:∀ i∈C.io,i∈own) (rp:Rep C.K own F H σ ρ) (h:PoS C own own' σ F H (qbE n j hit fb fs ρ) D):tSt (qd3 C own (qd4 C own σ F H (fb ρ))) own own' fb D σ H:=by
 refine ⟨F,ρ,rp,?_⟩
 unfold qbE at h
 cases q:fb ρ with
 | ok p=>
  rw [q] at h
  obtain ⟨fl,ρ'⟩:=p
  cases fl with
  | nx=>exact fun σ' F' H' nn=>h σ' F' H' (nn.untry hsub)
  | rt d=>exact fun v σ' F' H' s io c e mo=>h v σ' F' H' s (fun i hi=>io i (hsub i hi)) c (fun i hi=>e i (hsub i hi)) mo
  | bk=>exact fun σ' F' H' nn=>h σ' F' H' (nn.untry hsub)
  | ct=>exact fun σ' F' H' nn=>h σ' F' H' (nn.untry hsub)
 | exc c ρe=>exact fun F' H' s io ch=>⟨c,ρe,F',rfl,rfl,s,io,ch⟩
 | bad=>rw [q] at h; exact h.elim
theorem UY {σ:St} {F H F1 H1 F3 H3:Hp} {ρe:Sl} {ex Cc:Addr} {D:Ends} {d:D2.D} {v:V} {σw:St} (hsub:∀ i∈C.io,i∈own) (h:PoS C own own' σ F H (.ok (.rt d,ρe)) D) (hn:H1 ex=none) (sb:Same F1 H1) (io:Uz C.K own F1 H1 σ ρe) (ch:Chg (OA own σ) F H F1 H1)
  (s3:Same F3 H3) (c3:Chg (OA [] σw) (upd F1 ex (Vj ex Cc)) (upd H1 ex (Vj ex Cc)) F3 H3) (mo:MoIs C.K C.mr (upd H1 ex (Vj ex Cc)) F3 H3 v d):D.rt v H3:=by
 obtain ⟨sb2,c2⟩:=uR (u:=Vj ex Cc) sb hn
 have no:∀ {b},OA [] σw b->False:=fun ⟨i,hi,_⟩=>by simp at hi
 have c3':Chg No (upd F1 ex (Vj ex Cc)) (upd H1 ex (Vj ex Cc)) F3 H3:=c3.mono fun x z=>no z
 have c12:Chg No F1 H1 F3 H3:=c2.trans c3' fun _ z=>z.elim
 refine h v σ F3 H3 s3 (fun i hi=>?_) (ch.trans c12 fun _ z=>z.elim) (fun _ _=>rfl) (MoIs.back (Ha:=H3) (ch.trans c2 fun _ z=>z.elim) mo)
 obtain ⟨d',a,e1,e2,e3,e4⟩:=io i (hsub i hi)
 refine ⟨d',a,e1,e2,?_,e4.grow c12.grow fun o q=>c12.keep a o q fun z=>z⟩
 cases q:F3 a with
 | none=>rfl
 | some u=>
  rcases c12.new a (by rw [q]; simp) with z | z | z
  ·exact absurd e3 z
  ·exact absurd z e4.there
  ·exact z.elim
theorem Zy {cn:Str} {np hpos pos:Pos} {body suite:List Stmt} {b0:Stmt} {cls:Value} {n:Nat} {hit:Str->Option Addr} {own2:List Nat} (hx0:X.ex=[]) (hstk:X.stack=X.env::X.outer) (hfr:X.env.frame=some X.env.locals)
  (hg:Gl X cn) (hm:X.mg cn=some cls) (hhit:∀ c Cc,hit c=some Cc->C.cv c=.ref Cc/\PySem.W.exmOne X.K (.ref Cc) cls=some true) (hn:X.N.length=n)
  (hb:∀ pn xe E,kb (CXk X.prog X.w) (JV X pn xe) E->PSs (JV X pn xe) body (tSt (qd3 C own E) own own' fb)) (hs:∀ e,PSs (qdq X e) (b0::suite) (tSt (exC C) [] own2 fs)) (hsub:∀ i∈C.io,i∈own:=by exact vS rfl) (hd:(cn == ("__debug__":Str))=false:=by decide) :
  PS X (.Try body [.ExceptHandler (some (.Name cn np)) none (b0::suite) hpos] [] [] pos) (tSt C own own' (qbE n none hit fb fs)):=by
 refine ⟨?_⟩
 intro pins s σ H D I ⟨F,ρ,rp,h⟩
 have run:=hb (X.pn++pins) (qd5 X pins (qd4 C own σ F H (fb ρ))) (qd4 C own σ F H (fb ρ)) (WC hx0) [] s σ H D (qa1 I) (Zx hsub rp h)
 refine wpAny_Try_except (wpAny_mono run (fun f s1 hf=>?_) fun e s1 he=>?_)
 ·cases f with
  | next=>
   obtain ⟨σ',H',I',q⟩:=hf
   exact WZ pins s1 σ' H' D (wl I') q
  | brk=>obtain ⟨σ',H',I',q⟩:=hf; exact ⟨σ',H',wl I',q⟩
  | cont=>obtain ⟨σ',H',I',q⟩:=hf; exact ⟨σ',H',wl I',q⟩
  | ret u=>obtain ⟨v,σ',H',I',r,q⟩:=hf; exact ⟨v,σ',H',wl I',r,q⟩
 ·obtain ⟨σ1,ex,T,Cc,H1,rfl,I1,c1,c,ρe,F1,hr,hcls,sb1,io1,ch1⟩:=he
  refine UX I1.ok.frames I1 hstk hfr hx0 c1 fun s2 T2 I2 c2=>?_
  unfold qbE at h
  rw [hr] at h
  cases qh:hit c with
  | none=>simp only [qh] at h; exact h.elim
  | some Ch=>
   simp only [qh] at h
   obtain ⟨hc1,hc2⟩:=hhit c Ch qh
   rw [hc1] at hcls
   obtain rfl:Cc=Ch:=by injection hcls
   refine wpAny_handleBy_cons (codeAny_handlers_test (xf (X:=qdq X (.ref ex)) (GU I2) hg hm ?_ hd)) (by intro q; cases q)
   obtain ⟨oe,vs,oT,ts,a1,a2,a3,_⟩:=id c2.fly
   have LT:PySem.W.Looks (model X.prog X.w) s2.heap (typeOf (.ref ex)) (.ref Cc):=by rw [<-a2]; exact (PySem.W.Looks.ld a1).andThen .now
   refine (PySem.W.exm_one I2.kIn LT hc2) _ _ _ _ (fun _ _ z=>z) ?_
   refine codeAny_handlers_suite (JU I2 hstk hfr hx0 c2 fun s3 T3 I3 c3=>?_)
   have I4:=qd2 I3 c3
   have I6:Inv X pins (List.replicate n none) (upd H1 ex (Vj ex Cc)) s3:=I4.weak (by simp [I3.len,hn]) fun i v e=>by
    rw [List.getElem?_replicate] at e
    split at e <;> cases e
   obtain ⟨sb2,cc2⟩:=uR (u:=Vj ex Cc) sb1 c1.hex
   have rp6:Rep C.K [] (upd F1 ex (Vj ex Cc)) (upd H1 ex (Vj ex Cc)) (List.replicate n none) (List.replicate n none):=by
    refine ⟨sb2,by simp,fun i d hi e=>?_,fun i d hi=>by simp at hi,fun i hi=>by simp at hi,fun i j a hi=>by simp at hi⟩
    rw [List.getElem?_replicate] at e
    split at e <;> cases e
   have main:tSt (exC C) [] own2 fs { nx:=fun _ _=>False,rt:=D.rt } (List.replicate n none) (upd H1 ex (Vj ex Cc)):=by
    refine ⟨_,_,rp6,?_⟩
    cases qs:fs (List.replicate n none) with
    | ok p=>
     obtain ⟨fl,ρ5⟩:=p
     rw [qs] at h
     cases fl with
     | rt d=>exact fun v σ' F3 H3 s3 io c3 e mo=>UY (own':=own') (D:=D) (ex:=ex) (Cc:=Cc) hsub h c1.hex sb1 io1 ch1 s3 c3 mo
     | nx=>exact h.elim
     | bk=>exact h.elim
     | ct=>exact h.elim
    | exc _ _=>rw [qs] at h; exact h.elim
    | bad=>rw [qs] at h; exact h.elim
   refine wpAny_mono (hs (.ref ex) pins s3 _ _ _ (GU I6) main) (fun f s7 hf=>?_) fun _ _ z=>z.elim
   cases f with
   | next=>obtain ⟨_,_,_,q⟩:=hf; exact q.elim
   | brk=>obtain ⟨_,_,_,q⟩:=hf; exact q.elim
   | cont=>obtain ⟨_,_,_,q⟩:=hf; exact q.elim
   | ret u=>
    obtain ⟨v,σ7,H7,I7,r7,q7⟩:=hf
    exact ⟨v,σ7,H7,qa2 I.ok I7,r7,q7⟩
end
structure RoomQ (k:Nat) (A:Around):Prop where
 dp:A.depth+3 * k+5 < recursionLimit
 un:A.units+16 * k+200 < cLine
theorem RoomQ.mark {k:Nat} {A:Around} (r:RoomQ k A) (e:Option Value):RoomQ k (A.mark e):=⟨r.dp,r.un⟩
def DefOk (P:Program) (w:World) (K:Frag) (mg:Str->Option Value) (base:Heap) (cv:Str->Value) (k:Nat) (x:Str) (ps:List Str) (ms:List PM) (mr:Mo) (G:List D->Out (D×List D)):Prop:=
 ∃ f fd,FnOk P w K mg base (CXk P w) k f fd ps (spD K cv ms mr G)/\mg x=some (.ref f)/\keepIn K (.ref f)=true/\Binds K fd ps []
def jD (K:Frag) (mg:Str->Option Value) (x:Str) (st:Stmt) (ps:List Str):Prop:=∃ f fd,Fun K x x st f fd/\mg x=some (.ref f)/\Binds K fd ps []
theorem qP {P:Program} {w:World} {K:Frag} {mg:Str->Option Value} {base:Heap} {cv:Str->Value} {x:Str} {st:Stmt} {N ps:List Str} {k:Nat} {ms:List PM} {mr:Mo} {own':List Nat} {fb:Sl->Out (Fl×Sl)} (T:jD K mg x st ps) (S:FnScope N ps (qd st))
  (hbody:∀ (cdv:Value) (f:Addr) (A:Around) (outer:List Env) (s:Shared) (H:Hp) (E:XK),Room k (A.deeper (envOfC x (qd st) s.heap.objs.size f cdv)) ->
   PSs (cxk P w K mg base N x (qd st) f cdv A outer s H E) (js st) (tSt (JE K cv E ms mr) (jo 0 ms) own' fb))
  (hl:ms.length=ps.length:=by rfl) (hsub:∀ i∈QG 0 ms,i∈own':=by exact vS rfl) (hmr:mr=.sh\/∀ ds ρ,(fb (qv N ds))≠.ok (.nx,ρ):=by exact .inl rfl):DefOk P w K mg base cv (k+1) x ps ms mr (vg N ms fb):=by
 obtain ⟨f,fd,F,hm,hb⟩:=T
 exact ⟨f,fd,qeB F S hl hsub hmr (fun cdv A outer s H E hr=>hbody cdv f A outer s H E hr) fun _=>.inr rfl,hm,F.kp,hb⟩
theorem DefOk.by {P:Program} {w:World} {K:Frag} {mg:Str->Option Value} {base:Heap} {cv:Str->Value} {k:Nat} {x:Str} {ps:List Str} {ms:List PM} {mr:Mo} {G G':List D->Out (D×List D)} (h:DefOk P w K mg base cv k x ps ms mr G) (e:∀ ds,Out.le (G' ds) (G ds)):DefOk P w K mg base cv k x ps ms mr G':=by
 obtain ⟨f,fd,F,r⟩:=h
 refine ⟨f,fd,F.imp fun vs H Q E ⟨F1,ds,sb,ar,nd,po⟩=>⟨F1,ds,sb,ar,nd,?_⟩,r⟩
 rcases e ds with z | z
 ·rw [z] at po; exact po.elim
 ·rw [<-z]; exact po
section
variable {X:Cx} {C:Ct} {own:List Nat} {as:List AK} {G:List D->Out (D×List D)} {fr:Sl->Out (List D×Sl)} {mr:Mo} {e:Expr} {es:List Expr} {x:Str} {p pos:Pos} {ms:List PM} {ps:List Str} {k j:Nat} {cv:Str->Value}
theorem qt (F:DefOk X.prog X.w X.K X.mg X.base cv j x ps ms mr G) (hr:Room k X.A) (hj:j<=k) (hx:kb (CXk X.prog X.w) X C.E) (hg:Gl X x) (ha:PA X (e::es) (tAr C own as fr)) (hcv:C.cv=cv:=by rfl) (hK:C.K=X.K:=by rfl) (hms:ms=as.map wf:=by rfl) (hs:∀ i∈jf as,i∈own:=by decide) (nd:(jf as).Nodup:=by decide) (hf:frA as<=1:=by decide) (hio:∀ i∈C.ox,i∈own:=by exact vS rfl)
  (hdb:(x == ("__debug__":Str))=false:=by decide) (he:starEach (e::es) X.env=(false,eval e X.env)::starEach es X.env:=by exact ji rfl) (hpl:(backTo pos (starEach es X.env)).any (·.1)=false:=by exact wF rfl):PE X (.Call (.Name x p) (e::es) [] pos) (tE C own mr (qB as G fr)):=by
 subst hcv
 obtain ⟨f,fd,F,hm,hk,hb⟩:=F
 rw [<-hK] at F
 exact qaU (by rw [<-hK]; exact F) (hr.mono hj) hg hm hk hb hx ha hms hs nd hf hio hdb he hpl
noncomputable def qeC:D->Out D
 | .int i=>.ok (.int (-i))
 | _=>.bad
theorem GV:UnD X C .sh (unaryOp .USub) qeC:=by
 intro pins s σ H x v Q I rx h
 obtain ⟨F,dx,sb,tx,po⟩:=h
 cases dx <;> try exact po.elim
 obtain rfl:=tx.int
 exact qb4 pins s σ H _ v Q I rx ⟨_,rfl,po _ F H sb .refl (.int _)⟩
end
noncomputable def gu:Option (Option D)->Bool
 | some (some (.lst _))=>true
 | _=>false
noncomputable def UZ (i:Nat) (g:List D->D->Out (List D)) (fe:Sl->Out (D×Sl)):Sl->Out (D×Sl):=fun ρ=>if gu ρ[i]?=true then (fe ρ).bind fun p=>match p.2[i]? with
 | some (some (.lst xs))=>match g xs p.1 with
  | .ok ys=>.ok (.non,p.2.set i (some (.lst ys)))
  | _=>.bad
 | _=>.bad
 else .bad
noncomputable def GW (xs:List D) (d:D):Out (List D):=if xs.length < sizeLine then .ok (xs++[d]) else .bad
noncomputable def qdr (xs:List D):D->Out (List D)
 | .lst ys=>if xs.length+ys.length<=sizeLine then .ok (xs++ys) else .bad
 | .tup ys=>if xs.length+ys.length<=sizeLine then .ok (xs++ys) else .bad
 | _=>.bad
section
variable {X:Cx} {C:Ct} {own:List Nat} {m:Mo} {e:Expr} {fe:Sl->Out (D×Sl)}
theorem Rep.write {K:Frag} {F H:Hp} {σ:St} {ρ:Sl} {i:Nat} {a:Addr} {d:D} {u:HO} (rp:Rep K own F H σ ρ) (hi:i∈own) (ha:σ[i]?=some (some (V.ref a))) (ow:OwnIs K F (upd H a u) a d) :
  Rep K own F (upd H a u) σ (ρ.set i (some d))/\Chg (OA own σ) F H F (upd H a u):=by
 obtain ⟨d0,hd0⟩:=rp.opn i hi
 obtain ⟨a',e1,hF,o0⟩:=rp.ow i d0 hi hd0
 rw [ha] at e1; cases e1
 have hl:i < ρ.length:=(List.getElem?_eq_some_iff.mp hd0).1
 refine ⟨⟨fun b o e=>by rw [qo (qx e hF)]; exact rp.sub b o e,by simp [rp.len],fun j d' hj e=>?_,fun j d' hj e=>?_,fun j hj=>?_,rp.dis⟩,⟨fun b o e n=>?_,fun b e=>?_,Same.refl _,fun b e=>.inl e⟩⟩
 ·rw [List.getElem?_set_ne (fun z=>hj (by rw [<-z]; exact hi))] at e
  exact rp.val j d' hj e
 ·by_cases q:j=i
  ·subst q
   rw [List.getElem?_set_self hl] at e
   cases e
   exact ⟨a,ha,hF,ow⟩
  ·rw [List.getElem?_set_ne (Ne.symm q)] at e
   obtain ⟨b,h1,h2,h3⟩:=rp.ow j d' hj e
   have nb:b≠a:=fun z=>by subst z; exact q (rp.dis j i b hj hi h1 ha)
   exact ⟨b,h1,h2,h3.grow (Same.refl _) fun o z=>by rw [qo nb]; exact z⟩
 ·by_cases q:j=i
  ·subst q; exact ⟨d,List.getElem?_set_self hl⟩
  ·rw [List.getElem?_set_ne (Ne.symm q)]; exact rp.opn j hj
 ·have nb:b≠a:=fun z=>n (by rw [z]; exact ⟨i,hi,ha⟩)
  rw [qo nb]; exact e
 ·by_cases q:b=a
  ·rw [q,qm]; simp
  ·rw [qo q]; exact e
theorem Vx {o:Option (Option D)} (h:gu o=true):∃ xs,o=some (some (.lst xs)):=by
 unfold gu at h
 split at h
 ·exact ⟨_,rfl⟩
 ·cases h
theorem Zz {i:Nat} {g:List D->D->Out (List D)} {R:V->V->Hp->VK->Prop} {σ:St} {H:Hp} {Q:VK} (ho:i∈own) (hm:m≠.any)
  (hR:∀ (a:Addr) (xs:List V) (ds ys:List D) (v:V) (d:D) (F H:Hp),Same F H->H a=some (.lst xs)->F a=none->IsL C.K F xs ds->Is C.K F v d->g ds d=.ok ys->(∀ zs,IsL C.K F zs ys->Q .non (upd H a (.lst zs)))->R (.ref a) v H Q)
  (h:tE C own .sh (UZ i g fe) σ H Q):∃ a xs,σ[i]?=some (some (V.ref a))/\H a=some (.lst xs)/\tE C own .sh fe σ H fun v H1=>R (.ref a) v H1 Q:=by
 obtain ⟨F,ρ,rp,h⟩:=h
 unfold UZ at h
 by_cases q:gu ρ[i]?=true
 ·rw [if_pos q] at h
  obtain ⟨ds,hd⟩:=Vx q
  obtain ⟨a,h1,h2,xs,h3,h4⟩:=rp.ow i _ ho hd
  refine ⟨a,xs,h1,h3,F,ρ,rp,Po.bind h fun v F1 H1 d ρ1 rp1 c1 mo1 po=>?_⟩
  cases q1:ρ1[i]? with
  | none=>simp only [q1] at po; exact po.elim
  | some o=>
   cases o with
   | none=>simp only [q1] at po; exact po.elim
   | some dd=>
    simp only [q1] at po
    cases dd with
    | lst es=>
     simp only at po
     cases q2:g es d with
     | ok ys=>
      simp only [q2] at po
      obtain ⟨a',e1,e2,vs,e3,e4⟩:=rp1.ow i _ ho q1
      rw [h1] at e1; cases e1
      refine hR a vs es ys v d F1 H1 rp1.sub e3 e2 e4 mo1 q2 fun zs iz=>?_
      obtain ⟨r2,c2⟩:=rp1.write (u:=.lst zs) (d:=.lst ys) ho h1 ⟨zs,qm,iz⟩
      exact po .non F1 _ r2 c2 .non
     | exc c o=>simp only [q2] at po; exact po.elim
     | bad=>simp only [q2] at po; exact po.elim
    | _=>exact po.elim
 ·rw [if_neg q] at h; exact h.elim
theorem QN {i:Nat} {x:Str} {px apos cpos:Pos} (hK:C.K=X.K) (hN:X.N[i]?=some x) (hv:Vis X.env.scope x) (ho:i∈own) (he:PE X e (tE C own m fe)) (hm:m≠.any:=by decide)
  (hd:(x == ("__debug__":Str))=false:=by decide) (hcd:(x == ("__classdict__":Str))=false:=by decide)
  (hbase:attributeBase (.Name x px) "append" X.env (eval (.Name x px) X.env)=eval (.Name x px) X.env:=by rfl)
  (hfew:((backTo cpos (starEach [e] X.env)).all (fun x=>!x.1)&&(backToKw cpos (keywordEach [] X.env)).all (fun x=>x.1.isSome)
   && decide ([e].length+([]:List Keyword).length+(if ([]:List Keyword).isEmpty then 0 else 1) < 30))=true:=by exact wG rfl)
  (hline:(apos.endLine == cpos.line)=true:=by rfl) (hs:starEach [e] X.env=[(false,eval e X.env)]:=by exact qM rfl) :
  PE X (.Call (.Attribute (.Name x px) "append" apos) [e] [] cpos) (tE C own .sh (UZ i GW fe)):=by
 refine jn (Wx PySem.F.plainAttrs_list PySem.F.slot_list_append PySem.F.type_list_append uA (vZ hN hv hd hcd) (qS (vd he hm) jR hs) hbase hfew hline hs rfl) fun σ H Q h=>?_
 have hR:∀ (a:Addr) (xs:List V) (ds ys:List D) (v:V) (d:D) (F H:Hp),Same F H->H a=some (.lst xs)->F a=none->IsL C.K F xs ds->Is C.K F v d->GW ds d=.ok ys->(∀ zs,IsL C.K F zs ys->Q .non (upd H a (.lst zs)))->JL (.ref a) [v] H Q:=fun a xs ds ys v d F H sb ea ef ix iv eg k=>by
  unfold GW at eg
  split at eg
  ·cases eg
   exact ⟨a,xs,v,rfl,rfl,ea,by rw [ix.length]; assumption,k _ (ix.append (.cons iv .nil))⟩
  ·cases eg
 obtain ⟨a,xs,h1,h2,k⟩:=Zz (R:=fun x v H Q=>JL x [v] H Q) ho hm hR h
 exact ⟨.ref a,h1,.inl ⟨rfl,xs,.inl (.inl h2)⟩,k⟩
theorem Yb {i:Nat} {x:Str} {px apos cpos:Pos} (hN:X.N[i]?=some x) (hv:Vis X.env.scope x) (ho:i∈own) (he:PE X e (tE C own .fr fe))
  (hd:(x == ("__debug__":Str))=false:=by decide) (hcd:(x == ("__classdict__":Str))=false:=by decide)
  (hbase:attributeBase (.Name x px) "extend" X.env (eval (.Name x px) X.env)=eval (.Name x px) X.env:=by rfl)
  (hfew:((backTo cpos (starEach [e] X.env)).all (fun x=>!x.1)&&(backToKw cpos (keywordEach [] X.env)).all (fun x=>x.1.isSome)
   && decide ([e].length+([]:List Keyword).length+(if ([]:List Keyword).isEmpty then 0 else 1) < 30))=true:=by exact wG rfl)
  (hline:(apos.endLine == cpos.line)=true:=by rfl) (hs:starEach [e] X.env=[(false,eval e X.env)]:=by exact qM rfl) :
  PE X (.Call (.Attribute (.Name x px) "extend" apos) [e] [] cpos) (tE C own .sh (UZ i qdr fe)):=by
 refine jn (Wx PySem.F.plainAttrs_list PySem.F.slot_list_extend PySem.F.type_list_extend Ut (vZ hN hv hd hcd) (qS he jR hs) hbase hfew hline hs rfl) fun σ H Q ⟨F,ρ,rp,h⟩=>?_
 unfold UZ at h
 by_cases q:gu ρ[i]?=true
 ·rw [if_pos q] at h
  obtain ⟨ds,hd⟩:=Vx q
  obtain ⟨a,h1,h2,xs,h3,h4⟩:=rp.ow i _ ho hd
  refine ⟨.ref a,h1,.inl ⟨rfl,xs,.inl (.inl h3)⟩,F,ρ,rp,Po.bind h fun v F1 H1 d ρ1 rp1 c1 mo1 po=>?_⟩
  obtain ⟨b,rfl,hb0,hbF,ob⟩:=mo1
  cases q1:ρ1[i]? with
  | none=>simp only [q1] at po; exact po.elim
  | some o=>
   cases o with
   | none=>simp only [q1] at po; exact po.elim
   | some dd=>
    simp only [q1] at po
    cases dd with
    | lst es=>
     simp only at po
     obtain ⟨a',e1,e2,vs,e3,e4⟩:=rp1.ow i _ ho q1
     rw [h1] at e1; cases e1
     cases d with
     | lst ys=>
      obtain ⟨zs,hz,iz⟩:=ob
      have po:Po C own .sh σ F1 H1 (match (if es.length+ys.length<=sizeLine then .ok (es++ys) else .bad:Out (List D)) with | .ok ys=>.ok (.non,ρ1.set i (some (.lst ys))) | _=>.bad) Q:=po
      by_cases qz:es.length+ys.length<=sizeLine
      ·rw [if_pos qz] at po
       refine ⟨a,b,vs,zs,rfl,rfl,e3,hz,by rw [e4.length,iz.length]; exact qz,?_⟩
       obtain ⟨r2,c2⟩:=rp1.write (u:=.lst (vs++zs)) (d:=.lst (es++ys)) ho h1 ⟨_,qm,e4.append iz⟩
       exact po .non F1 _ r2 c2 .non
      ·rw [if_neg qz] at po; exact po.elim
     | dct ys=>
      exact po.elim
     | ins _ _=>exact po.elim
     | at_ _ _=>exact po.elim
     | _=>exact ob.elim
    | _=>exact po.elim
 ·rw [if_neg q] at h; exact h.elim
end
noncomputable def scB (names:List (Str×NameKind)) (scope:Scope):Bool:=decide (scope.kind=.function)&&scope.names.all fun y=>decide (y.2≠.cell)&&(!decide (y.2=.local)||decide (scope.names.lookup y.1=some .local)) &&
 (!decide (y.2=.free)||((decide (names.lookup y.1=some .cell)||decide (names.lookup y.1=some .free))&&decide (scope.names.lookup y.1=some .free)))
theorem vG {X:Cx} {scope:Scope} {names:List (Str×NameKind)} (hX:X.env.scope.names=names) (b:scB names scope=true):ScOk X scope:=by
 subst hX
 unfold scB at b
 rw [Bool.and_eq_true,List.all_eq_true] at b
 obtain ⟨b0,b1⟩:=b
 refine ⟨of_decide_eq_true b0,fun y hy=>?_,fun y hy e=>?_,fun y hy e=>?_,fun y hy e=>?_⟩
 all_goals
  have q:=b1 y hy
  simp only [Bool.and_eq_true,Bool.or_eq_true,Bool.not_eq_true',decide_eq_true_eq,decide_eq_false_iff_not] at q
 ·exact q.1.1
 ·exact q.1.2.resolve_left fun z=>z e
 ·exact (q.2.resolve_left fun z=>z e).1
 ·exact (q.2.resolve_left fun z=>z e).2
noncomputable def qeD (names:List (Str×NameKind)) (N:List Str) (scope:Scope) (Nc:List Str) (nt:Nat) (cap:List Nat):Bool:=decide cap.Nodup&&decide (Nc.length=nt+cap.length)&&(List.range cap.length).all fun j=>match cap[j]? with
 | some k=>match Nc[nt+j]? with
  | some x=>decide (N[k]?=some x)&&(((decide (names.lookup x=some .local)||decide (names.lookup x=some .cell)||decide (names.lookup x=some .free))&&decide ((x,NameKind.free)∈scope.names))||scope.names.all fun y=>decide (y.1≠x))
  | none=>false
 | none=>false
theorem jL {X:Cx} {scope:Scope} {names:List (Str×NameKind)} {N Nc:List Str} {nt:Nat} {cap:List Nat} (hX:X.env.scope.names=names) (hN:X.N=N) (b:qeD names N scope Nc nt cap=true):CapOk X scope Nc nt cap:=by
 subst hX hN
 unfold qeD at b
 rw [Bool.and_eq_true,Bool.and_eq_true,List.all_eq_true] at b
 obtain ⟨⟨b0,b1⟩,b2⟩:=b
 refine ⟨of_decide_eq_true b0,of_decide_eq_true b1,fun j k hj=>?_⟩
 have q:=b2 j (List.mem_range.mpr (List.getElem?_eq_some_iff.mp hj).1)
 rw [hj] at q
 cases e:Nc[nt+j]? with
 | none=>simp only [e] at q; cases q
 | some x=>
  simp only [e,Bool.and_eq_true,Bool.or_eq_true,decide_eq_true_eq] at q
  refine ⟨x,rfl,q.1,?_⟩
  rcases q.2 with ⟨z,q2⟩ | z
  ·refine .inl ⟨?_,q2⟩
   rcases z with (z | z) | z
   ·exact .inl z
   ·exact .inr (.inl z)
   ·exact .inr (.inr z)
  ·refine .inr fun k' hk'=>?_
   rw [List.all_eq_true] at z
   exact of_decide_eq_true (z (x,k') hk') rfl
theorem uV {P:Program} {w:World} {X:Cx}:kb (CXk P w) X (fun _ _ _=>False):=fun _ _ _ _ _ _ _ h=>by
 obtain ⟨_,_,_,_,_,_,_,_,_,_,_,_,_,_,hE⟩:=h
 exact hE.elim
noncomputable def qd6 (f:Sl->Out (D×Sl)):Sl->Out (D×Sl):=fun ρ=>(jG f ρ).bind fun p=>.ok (.bl (!p.1),p.2)
section
variable {X:Cx} {C:Ct} {own:List Nat} {e:Expr} {x:Str} {pos:Pos} {i:Int}
theorem uI (h:∃ t,X.mg x=some (.int i t)) (hg:Gl X x) (hd:(x == ("__debug__":Str))=false:=by decide):PE X (.Name x pos) (tE C own .sh (dC (.int i))):=by
 obtain ⟨t,h⟩:=h
 exact qaL (v:=.int i) hg h ⟨t,rfl⟩ (fun _=>.int i) hd
end
section
variable {X:Cx} {C:Ct} {own:List Nat} {a b e:Expr} {f fa fb:Sl->Out (D×Sl)} {m ma mb:Mo} {pos:Pos}
noncomputable def uJ:D->Out D
 | .lst xs=>.ok (.tup xs)
 | .tup xs=>.ok (.tup xs)
 | _=>.bad
noncomputable def WD:D->Out D
 | .lst xs=>.ok (.lst xs)
 | .tup xs=>.ok (.lst xs)
 | _=>.bad
theorem yU (hK:C.K=X.K):JP X C .sh (.type "tuple") uJ:=by
 intro pins s σ H xs us Q I r h
 obtain ⟨x,F,dx,rfl,sb,tx,po⟩:=h
 cases dx with
 | lst ds=>
  obtain ⟨p,vs,rfl,hq,t⟩:=tx.lst sb
  refine uz pins s σ H _ us Q I r ⟨p,vs,rfl,.inl ⟨by rw [<-hK]; exact hq,fun l hl=>?_⟩⟩
  obtain ⟨s2,c2⟩:=uR (u:=.tup vs) sb hl
  exact po _ _ _ s2 c2 (.tup (.inl (.inl qm)) (t.mono c2.grow))
 | tup ds=>
  rcases tx with tx | ⟨_,_,tx⟩
  ·have tx0:=tx
   cases tx with
   | tup hq t=>exact uz pins s σ H _ us Q I r ⟨_,_,rfl,.inr ⟨by rw [<-hK]; exact qC sb hq,po _ F H sb .refl tx0⟩⟩
  ·exact tx.elim
 | _=>exact po.elim
theorem Yc (hK:C.K=X.K):JP X C .fr (.type "list") WD:=by
 intro pins s σ H xs us Q I r h
 obtain ⟨x,F,dx,rfl,sb,tx,po⟩:=h
 cases dx with
 | lst ds=>
  obtain ⟨p,vs,rfl,hq,t⟩:=tx.lst sb
  refine yr pins s σ H _ us Q I r ⟨p,vs,rfl,.inl (by rw [<-hK]; exact hq),fun l hl=>?_⟩
  obtain ⟨s2,c2,hF⟩:=wc (u:=.lst vs) sb hl
  exact po _ _ _ s2 c2 ⟨l,rfl,hl,hF,vs,qm,t⟩
 | tup ds=>
  obtain ⟨p,vs,rfl,hq,t⟩:=tx.tup sb
  refine yr pins s σ H _ us Q I r ⟨p,vs,rfl,.inr (by rw [<-hK]; exact hq),fun l hl=>?_⟩
  obtain ⟨s2,c2,hF⟩:=wc (u:=.lst vs) sb hl
  exact po _ _ _ s2 c2 ⟨l,rfl,hl,hF,vs,qm,t⟩
 | _=>exact po.elim
def Yd (X:Cx) (C:Ct) (m:Mo) (f:Value) (g:D->D->Out D):Prop:=wV X f (fun xs H Q=>∃ x y F dx dy,xs=[x,y]/\Same F H/\TopIs C.K F H x dx/\TopIs C.K F H y dy/\PoV C m F H (g dx dy) Q)
theorem ZA {σ:St} {H:Hp} {Q:VK} {g:D->D->Out D} (hma:ma≠.any) (h:tE C own m (d2 g fa fb) σ H Q):Zd (tE C own ma fa) (Zd (tE C own mb fb) qdl) σ H fun xs H1=>∃ x y F dx dy,xs=[x,y]/\Same F H1/\TopIs C.K F H1 x dx/\TopIs C.K F H1 y dy/\PoV C m F H1 (g dx dy) Q:=by
 obtain ⟨F,ρ,rp,h⟩:=Qw (mb:=mb) hma h
 refine ⟨F,ρ,rp,?_⟩
 cases q:fa ρ with
 | ok p=>
  rw [q] at h
  obtain ⟨d,ρ1⟩:=p
  intro v F1 H1 rp1 c1 mo1
  obtain ⟨F2,ρ2,rp2,h2⟩:=h v F1 H1 rp1 c1 mo1
  refine ⟨F2,ρ2,rp2,?_⟩
  cases q2:fb ρ2 with
  | ok p=>
   rw [q2] at h2
   obtain ⟨d',ρ3⟩:=p
   intro w F3 H3 rp3 c3 mo3
   obtain ⟨F4,dx,dy,z⟩:=h2 w F3 H3 rp3 c3 mo3
   exact ⟨v,w,F4,dx,dy,rfl,z⟩
  | exc c=>rw [q2] at h2; exact h2
  | bad=>rw [q2] at h2; exact h2.elim
 | exc c=>rw [q] at h; exact h
 | bad=>rw [q] at h; exact h.elim
theorem QO {x:Str} {id:String} {p:Pos} {g:D->D->Out D} (hc:Yd X C m (.builtin id) g) (hg:Gl X x) (hm:X.mg x=none) (hv:bootBuiltins x=some (.builtin id)) (ha:PE X a (tE C own ma fa)) (hb:PE X b (tE C own mb fb)) (hma:ma≠.any:=by decide) (hn:x ≠ "__name__":=by decide) (hdb:(x == ("__debug__":Str))=false:=by decide)
  (h1:starEach [a,b] X.env=(false,eval a X.env)::starEach [b] X.env:=by rfl) (h2:starEach [b] X.env=[(false,eval b X.env)]:=by exact qM rfl):PE X (.Call (.Name x p) [a,b] [] pos) (tE C own m (d2 g fa fb)):=
 jn (wE hc hg hm hv (qS ha (qS hb jR h2) h1) hn hdb (by rw [h1]) (by rw [h2]; rfl)) fun _ _ _ h=>ZA hma h
noncomputable def qds:D->D->Out D:=Qj fun i j=>.ok (.int (if j > i then j else i))
noncomputable def qdt:D->D->Out D:=Qj fun i j=>.ok (.int (if j < i then j else i))
theorem qcw (hc:X.calm=true):Yd X C .sh (.builtin "max") qds:=by
 intro pins s σ H xs us Q I r h
 obtain ⟨x,y,F,dx,dy,rfl,sb,tx,ty,po⟩:=h
 cases dx <;> try exact po.elim
 cases dy <;> try exact po.elim
 obtain rfl:=tx.int
 obtain rfl:=ty.int
 exact Ui hc pins s σ H _ us Q I r ⟨_,_,rfl,po _ F H sb .refl (.int _)⟩
theorem qcx (hc:X.calm=true):Yd X C .sh (.builtin "min") qdt:=by
 intro pins s σ H xs us Q I r h
 obtain ⟨x,y,F,dx,dy,rfl,sb,tx,ty,po⟩:=h
 cases dx <;> try exact po.elim
 cases dy <;> try exact po.elim
 obtain rfl:=tx.int
 obtain rfl:=ty.int
 exact Uj hc pins s σ H _ us Q I r ⟨_,_,rfl,po _ F H sb .refl (.int _)⟩
noncomputable def jS (a T:String):Option Bool:=if (Value.type a == Value.type T)=true then some true else if PySem.W.kitMeta T=true then (fastBuiltinMro a).map (·.contains (.type T)) else none
theorem ZB (K:Frag) (a T:String):PySem.W.kitOne K (.type a) (.type T)=jS a T:=rfl
noncomputable def tyN:D->Option String
 | .non=>some "NoneType"
 | .bl _=>some "bool"
 | .int _=>some "int"
 | .str _=>some "str"
 | .tup _=>some "tuple"
 | .lst _=>some "list"
 | .dct _=>some "dict"
 | _=>none
noncomputable def xz (T:String) (d:D):Out D:=match tyN d with
 | some a=>match jS a T with
  | some b=>.ok (.bl b)
  | none=>.bad
 | none=>.bad
theorem ZC {T:String} (hK:C.K=X.K):wV X (.builtin "isinstance") (fun xs H Q=>∃ x F d,xs=[x,.ty T]/\Same F H/\TopIs C.K F H x d/\PoV C .sh F H (xz T d) Q):=by
 intro pins s σ H xs us Q I r h
 obtain ⟨x,F,d,rfl,sb,tx,po⟩:=h
 obtain ⟨u,c,rfl,ru,rc⟩:=Za r
 cases rc
 cases q:tyN d with
 | none=>unfold xz at po; rw [q] at po; exact po.elim
 | some a=>
  cases q2:jS a T with
  | none=>unfold xz at po; rw [q] at po; simp only [q2] at po; exact po.elim
  | some b=>
   have po:PoV C .sh F H (.ok (.bl b)) Q:=by unfold xz at po; rw [q] at po; simp only [q2] at po; exact po
   have fin:∀ tk,EP X pins σ Q (.bool b) { s with toks:=tk }:=fun tk=>⟨.bl b,H,I.tok tk,rfl,po _ F H sb .refl (.bl b)⟩
   have e:PySem.W.kitOne X.K (.type a) (.type T)=some b:=(ZB X.K a T).trans q2
   cases d with
   | non=>obtain rfl:=tx.non; cases ru; cases q; exact PySem.W.kia_one PySem.W.kitx_none I.kIn True.intro e (fun z=>nomatch z) fin
   | bl y=>obtain rfl:=tx.bl; cases ru; cases q; exact PySem.W.kia_one PySem.W.kitx_bool I.kIn True.intro e (fun z=>nomatch z) fin
   | int y=>obtain rfl:=tx.int; obtain ⟨t,rfl⟩:=ru; cases q; exact PySem.W.kia_one PySem.W.kitx_int I.kIn True.intro e (fun z=>nomatch z) fin
   | str y=>obtain ⟨rfl,_⟩:=tx.str; obtain ⟨t,rfl⟩:=ru; cases q; exact PySem.W.kia_one PySem.W.kitx_str I.kIn True.intro e (fun z=>nomatch z) fin
   | tup y=>
    obtain ⟨p,vs,rfl,hq,t⟩:=tx.tup sb
    cases ru; cases q
    obtain ⟨its,_,⟨o,h1,h2,_⟩,_⟩:=I.tuple (show SqT X.K H p vs by rw [<-hK]; exact hq)
    exact PySem.W.kia_one PySem.W.kitx_tuple I.kIn ⟨o,h1,h2⟩ e (fun z=>nomatch z) fin
   | lst y=>
    obtain ⟨p,vs,rfl,hq,t⟩:=tx.lst sb
    cases ru; cases q
    obtain ⟨its,_,⟨o,n,h1,h2,_⟩,_⟩:=I.list (show SqL X.K H p vs by rw [<-hK]; exact hq)
    exact PySem.W.kia_one PySem.W.kitx_list I.kIn ⟨o,h1,h2⟩ e (fun z=>nomatch z) fin
   | dct y=>
    obtain ⟨p,vs,rfl,hq,t⟩:=tx.dct sb
    cases ru; cases q
    obtain ⟨_,_,ws,_,o,es,ep,h1,h2,_⟩:=(show ObjOk X.prog X.w H s.heap p (.dK vs) from I.hok p _ hq)
    exact PySem.W.kia_one PySem.W.kitx_dict I.kIn ⟨o,h1,h2.1⟩ e (fun z=>nomatch z) fin
   | _=>cases q
theorem yv {T:String} {tn:Str} {p tp:Pos} (hK:C.K=X.K) (hg:Gl X "isinstance") (hm:X.mg "isinstance"=none) (hv:bootBuiltins "isinstance"=some (.builtin "isinstance")) (ht:Gl X tn) (htm:X.mg tn=none) (htv:bootBuiltins tn=some (.type T)) (ha:PE X a (tE C own ma fa)) (hn:tn ≠ "__name__":=by decide) (hdb:(tn == ("__debug__":Str))=false:=by decide)
  (h1:starEach [a,.Name tn tp] X.env=(false,eval a X.env)::starEach [.Name tn tp] X.env:=by rfl) (h2:starEach [.Name tn tp] X.env=[(false,eval (.Name tn tp) X.env)]:=by rfl):PE X (.Call (.Name "isinstance" p) [a,.Name tn tp] [] pos) (tE C own .sh (d1 (xz T) fa)):=by
 refine jn (wE (ZC (T:=T) hK) hg hm hv (qS ha (qS (qav (v:=.ty T) ht htm htv rfl hn hdb) jR h2) h1) (by decide) (by decide) (by rw [h1]) (by rw [h2]; rfl)) fun σ H Q h=>?_
 obtain ⟨F,ρ,rp,h⟩:=UA (ma:=ma) h
 refine ⟨F,ρ,rp,?_⟩
 cases q:fa ρ with
 | ok p=>
  rw [q] at h
  obtain ⟨d,ρ1⟩:=p
  intro v F1 H1 rp1 c1 mo1
  obtain ⟨F2,dx,z⟩:=h v F1 H1 rp1 c1 mo1
  exact ⟨v,F2,dx,rfl,z⟩
 | exc c=>rw [q] at h; exact h
 | bad=>rw [q] at h; exact h.elim
noncomputable def yw:List D->Option (List Bool)
 | []=>some []
 | .bl b::ds=>(yw ds).map (b::·)
 | _::_=>none
noncomputable def XI:D->Out D
 | .lst ds=>match yw ds with
  | some bs=>.ok (.bl (bs.all id))
  | none=>.bad
 | _=>.bad
theorem Vy {K:Frag} {F:Hp}:∀ {vs:List V} {us:List Value} {ds:List D} {bs:List Bool},IsL K F vs ds->Vals vs us->yw ds=some bs->us=bs.map Value.bool
 | _,_,_,_,.nil,.nil,e=>by cases e; rfl
 | _,_,_,_,.cons (d:=d) h t,.cons r rs,e=>by
  cases d with
  | bl b=>
   unfold yw at e
   obtain ⟨bs',e1,e2⟩:=Option.map_eq_some_iff.mp e
   subst e2
   cases h
   cases r
   rw [Vy t rs e1]; rfl
  | _=>cases e
theorem QP (hK:C.K=X.K) (hc:X.calm=true):JP X C .sh (.builtin "all") XI:=by
 intro pins s σ H xs us Q I r h
 obtain ⟨x,F,dx,rfl,sb,tx,po⟩:=h
 cases dx <;> try exact po.elim
 rename_i ds
 obtain ⟨p,vs,rfl,hq,t⟩:=tx.lst sb
 obtain ⟨u,rfl,ru⟩:=xg r
 cases ru
 unfold XI at po
 cases q:yw ds with
 | none=>simp only [q] at po; exact po.elim
 | some bs=>
  simp only [q] at po
  obtain ⟨its,rv,pl,hz⟩:=I.list (show SqL X.K H p vs by rw [<-hK]; exact hq)
  have eb:=Vy t rv q
  subst eb
  have hp:p < s.heap.objs.size:=let ⟨o,h1,_⟩:=pl.isList; Heap.lt_size h1
  refine call_all_walk (wpAny_pyIter_list pl.isList ?_)
  have W:Walks X.prog X.w X.A.in1 s.heap.objs.size [s.heap.objs.size,p] [s.heap.objs.size] (bs.map Value.bool).toArray.size (fun i v=>(bs.map Value.bool).toArray[i]?=some v) (fun i h=>h.IsListIter s.heap.objs.size p i/\h.IsList p (bs.map Value.bool).toArray):=Walks.list (A:=X.A.in1) (show X.A.in1.handled=none from I.ok.hd hc) s.heap.objs.size p (Nat.ne_of_lt hp) _
  have st:(s.heap.push { cls:=.type "list_iterator",data:=.fields #[.ref p,.int 0 0] }).IsListIter s.heap.objs.size p 0/\(s.heap.push { cls:=.type "list_iterator",data:=.fields #[.ref p,.int 0 0] }).IsList p (bs.map Value.bool).toArray:=⟨⟨_,Heap.get?_push_size _ rfl,rfl,rfl⟩,let ⟨o,h1,h2⟩:=pl.isList; ⟨o,Heap.get?_push_of_some _ h1,h2⟩⟩
  refine ⟨_,_,_,_,_,_,fun i=>(bs[i]?).getD false,rfl,W,st,fun i v s' Q' E' hP hQ'=>?_,fun h' tk kp=>?_⟩
  ·have hP:(bs.map Value.bool).toArray[i]?=some v:=hP
   rw [List.getElem?_toArray,List.getElem?_map] at hP
   cases qi:bs[i]? with
   | none=>rw [qi] at hP; cases hP
   | some b=>
    have hQ2:Q' ((bs[i]?).getD false) s':=hQ'
    rw [qi] at hP hQ2
    cases hP
    exact wpAny_truthy_bool hQ2
  ·have e:(List.range (bs.map Value.bool).toArray.size).all (fun i=>(bs[i]?).getD false)=bs.all id:=by
    rw [List.size_toArray,List.length_map,Bool.eq_iff_iff,List.all_eq_true,List.all_eq_true]
    constructor
    ·intro h b hb
     obtain ⟨i,hi,e⟩:=List.mem_iff_getElem.mp hb
     have:=h i (List.mem_range.mpr hi)
     rw [List.getElem?_eq_getElem hi,e] at this
     exact this
    ·intro h i hi
     have hi:=List.mem_range.mp hi
     rw [List.getElem?_eq_getElem hi]
     exact h _ (List.getElem_mem hi)
   rw [e]
   refine ⟨.bl (bs.all id),H,?_,rfl,po _ F H sb .refl (.bl _)⟩
   have k2:∀ b o,s.heap.get? b=some o->h'.get? b=some o:=fun b o eb=>kp b o (by simp; exact Nat.ne_of_lt (Heap.lt_size eb)) (Heap.get?_push_of_some _ eb)
   exact I.kept (t':=tk) k2
end
noncomputable def Its (x:Str):It:=⟨fun i _=>i < x.cps.size,fun i H v H'=>H'=H/\∃ c,x.cps[i]?=some c/\v=.str ⟨#[c]⟩,fun i _=>x.cps.size<=i⟩
noncomputable def QQ (x:Str):List D:=x.cps.toList.map fun c=>.str ⟨#[c]⟩
theorem Vz {P:Program} {w:World} {K:Frag} {tg:Expr} (it:Addr) (x:Str) (t:Tok) (ty:String) (hn:["enumerate", "zip", "dict_itemiterator", "dict_reverseitemiterator", "odict_iterator", "itertools.zip_longest", "itertools.pairwise"].contains ty=false)
  (W:∀ A:Around,A.handled=none->Walks P w A it [it] [it] x.cps.size (SignAt x) (fun i h=>h.IsStrIter it ty x t i)) (sf:∀ (A:Around) (i:Nat) (s:Shared) (Q:Value->Shared->Prop) (E:Value->Shared->Prop),s.heap.IsStrIter it ty x t i->Q (.ref it) s->wpAny (model P w) A (pyIter (.ref it)) Q E s) :
  Turn P w K tg (Its x) [it] it (fun i h=>h.IsStrIter it ty x t i/\i<=x.cps.size) where
 mem:=by simp
 obj:=fun i h st b hb=>by
  have e:b=it:=by simpa using hb
  subst e
  obtain ⟨o,e,c,d⟩:=st.1
  exact ⟨o,e,fun v z=>by rw [d] at z; cases z⟩
 keep:=fun i h h' st k=>by
  obtain ⟨⟨o,e,r⟩,hi⟩:=st
  exact ⟨⟨o,k it (by simp) o e,r⟩,hi⟩
 item:=by
  intro X hP hw hK hc i pins s σ H E I hf st hg
  subst hP hw hK
  obtain ⟨f0,f1,f2,f3,f4,f5⟩:=hf it (by simp)
  refine (W X.A (I.ok.hd hc)).item i s _ _ hg st.1 fun v h' tk hP st' kp=>?_
  have I1:Inv X pins σ H { s with heap:=h',toks:=tk }:=I.turned (t':=tk) (fun b o hb e=>kp b o (by simpa using hb) e) f0 f1 f3 f4 f5
  obtain ⟨o,e,c,d⟩:=id st'
  obtain ⟨c',u,h1,h2⟩:∃ c' u,x.cps[i]?=some c'/\v=Value.str ⟨#[c']⟩ u:=by
   unfold SignAt at hP
   first
    | exact hP
    | (obtain ⟨c',u,h1,h2⟩:=hP; exact ⟨c',u,h1,h2⟩)
    | (obtain ⟨c',h1,u,h2⟩:=hP; exact ⟨c',u,h1,h2⟩)
    | (obtain ⟨u,c',h1,h2⟩:=hP; exact ⟨c',u,h1,h2⟩)
  subst h2
  exact ⟨_,rfl,XV (s:={ s with heap:=h',toks:=tk }) e c d hn ⟨.str ⟨#[c']⟩,H,I1,⟨u,rfl⟩,⟨rfl,c',h1,rfl⟩,⟨st',hg⟩,fun b hb=>(hf b hb).1⟩⟩
 done:=by
  intro X hP hw hK hc i pins s σ H E I hf st hg
  subst hP hw hK
  obtain ⟨f0,f1,f2,f3,f4,f5⟩:=hf it (by simp)
  have hi:i=x.cps.size:=Nat.le_antisymm st.2 hg
  subst hi
  exact (W X.A (I.ok.hd hc)).done s _ _ st.1 fun h' tk kp=>⟨rfl,I.turned (t':=tk) (fun b o hb e=>kp b o (by simpa using hb) e) f0 f1 f3 f4 f5⟩
 self:=fun A i s Q E st h=>sf A i s Q E st.1 h
theorem qcy {K:Frag} {F:Hp} {x:Str}:ItIs K F (Its x) (QQ x) where
 go:=fun i H hi _=>by
  have:i < x.cps.size:=by simpa [QQ] using hi
  exact this
 yld:=fun i Fi H v H' d e s1 s2 y=>by
  obtain ⟨rfl,c,h1,rfl⟩:=y
  have e:d=.str ⟨#[c]⟩:=by
   unfold QQ at e
   rw [List.getElem?_map] at e
   have h1:x.cps.toList[i]?=some c:=by simpa using h1
   rw [h1] at e
   exact (Option.some.inj e).symm
  subst e
  exact ⟨Fi,.refl,s2,.str (Vr c)⟩
 stop:=fun i H hi _=>by
  have:x.cps.size<=i:=by simpa [QQ] using hi
  exact this
noncomputable def ke:D->Out (List D)
 | .lst xs=>.ok xs
 | .tup xs=>.ok xs
 | .str x=>.ok (QQ x)
 | _=>.bad
noncomputable def vp (f:Sl->Out (D×Sl)):Sl->Out (List D×Sl):=fun ρ=>(f ρ).bind fun p=>(ke p.1).bind fun ds=>.ok (ds,p.2)
section
variable {X:Cx} {C:Ct} {own:List Nat} {tg e:Expr} {f:Sl->Out (D×Sl)} {m:Mo} {pos:Pos}
theorem qcz {l:Expr} {tl:TE} (hl:PE X l tl):PI X tg l (fun σ H R=>tl σ H fun x H1=>(∃ a,x=.ref a/\(((∃ xs,SqL X.K H1 a xs)/\R (Itl X.K a) H1)\/((∃ xs,SqT X.K H1 a xs)/\R (Itt X.K a) H1)))\/∃ z,x=.str z/\R (Its z) H1):=by
 refine ⟨?_⟩
 intro pins s σ H R I h
 refine thn (hl pins s σ H _ I h) fun v s1 ⟨x,H1,I1,r1,q1⟩=>?_
 have fp:∀ b∈[s1.heap.objs.size],JA X pins H1 b:=fun b hb=>by
  have e:b=s1.heap.objs.size:=by simpa using hb
  subst e
  exact I1.fpOk (Nat.le_refl _) (I1.hok.fresh (Nat.le_refl _))
 rcases q1 with ⟨a,rfl,q⟩ | ⟨z,rfl,q⟩
 ·cases r1
  rcases q with ⟨⟨xs,hq⟩,q⟩ | ⟨⟨xs,hq⟩,q⟩
  ·obtain ⟨its,rv,p,hz⟩:=I1.list hq
   refine wpAny_pyIter_list p.isList ?_
   exact ⟨s1.heap.objs.size,[s1.heap.objs.size],_,_,H1,rfl,I1.kept (t':=s1.toks) fun b o e=>Heap.get?_push_of_some _ e,Uc a _,⟨_,Heap.get?_push_size _ rfl,rfl,rfl⟩,fp,q⟩
  ·obtain ⟨its,rv,p,hz⟩:=I1.tuple hq
   refine wpAny_pyIter_tuple (show s1.heap.IsTuple a its.toArray from p) ?_
   exact ⟨s1.heap.objs.size,[s1.heap.objs.size],_,_,H1,rfl,I1.kept (t':=s1.toks) fun b o e=>Heap.get?_push_of_some _ e,Wo a _,⟨_,Heap.get?_push_size _ rfl,rfl,rfl⟩,fp,q⟩
 ·obtain ⟨t,rfl⟩:=r1
  cases ha:z.cps.all (· < 128) with
  | true=>
   refine wpAny_pyIter_ascii ha ?_
   exact ⟨s1.heap.objs.size,[s1.heap.objs.size],_,_,H1,rfl,I1.kept (t':=s1.toks) fun b o e=>Heap.get?_push_of_some _ e,Vz _ z t "str_ascii_iterator" (by decide) (fun A hA=>Walks.strAscii hA _ z t) (fun A i s Q E st h=>wpAny_pyIter_striter_ascii st h),⟨⟨_,Heap.get?_push_size _ rfl,rfl,rfl⟩,Nat.zero_le _⟩,fp,q⟩
  | false=>
   refine wpAny_pyIter_wide ha ?_
   exact ⟨s1.heap.objs.size,[s1.heap.objs.size],_,_,H1,rfl,I1.kept (t':=s1.toks) fun b o e=>Heap.get?_push_of_some _ e,Vz _ z t "str_iterator" (by decide) (fun A hA=>Walks.strWide hA _ z t) (fun A i s Q E st h=>wpAny_pyIter_striter_wide st h),⟨⟨_,Heap.get?_push_size _ rfl,rfl,rfl⟩,Nat.zero_le _⟩,fp,q⟩
theorem je (hK:C.K=X.K) (h:PE X e (tE C own m f)) (hm:m≠.any:=by decide):PI X tg e (tIt C own (vp f)):=by
 refine qaV (qcz (vd h hm)) fun σ H R ⟨F,ρ,rp,h⟩=>⟨F,ρ,rp,PoI.bindV h fun v F1 H1 d ρ1 rp1 c1 mo1 h1=>?_⟩
 have mo1:Is C.K F1 v d:=mo1
 cases mo1 with
 | lst p t=>exact .inl ⟨_,rfl,.inl ⟨⟨_,by rw [<-hK]; exact rp1.sub.seq p⟩,by rw [<-hK]; exact h1 _ F1 H1 rp1 c1 (qcq p t)⟩⟩
 | tup p t=>exact .inl ⟨_,rfl,.inr ⟨⟨_,by rw [<-hK]; exact qC rp1.sub p⟩,by rw [<-hK]; exact h1 _ F1 H1 rp1 c1 (qcr p t)⟩⟩
 | str hz=>exact .inr ⟨_,rfl,h1 _ F1 H1 rp1 c1 qcy⟩
 | _=>exact h1.elim
end
end L2.D2
namespace L2.D2
open PySem PySem.Spec PySem.Calls PyProof.Rows PySem.W Builtin Builtin.ObjectAttr Builtin.Getset_descriptor
noncomputable def xcB (K:Frag) (C:Addr):Bool:=decide (subIn K (.ref C) (.type "BaseException")=some true)&&decide (findIn K (.ref C) "__getattribute__"=some (some (.builtin "BaseException.__getattribute__")))&&decide (findIn K (.ref C) "__getattr__"=some none) &&
 decide (findIn K (.ref C) "__class__"=some (some (.builtin "object.__class__")))&&decide (mroIn K C (.type "object")=some true)&&(clsIn K C).isSome
end L2.D2
namespace L2.D2
open PySem PySem.Spec PyProof.Rows
theorem xA {P:Program} {w:World} {K:Frag} {mg:Str->Option Value} {base:Heap} {N:List Str} {qual:Str} {scope:Scope} {f:Addr} {cd:Value} {A:Around} {outer:List Env} {s0:Shared} {H0:Hp} {E:XK} {C:Ct} (h:C.E=E):UW (cxk P w K mg base N qual scope f cd A outer s0 H0 E) C:=by
 subst h
 exact qcv
noncomputable def qcA (ca:Str->Addr) (cs:List Str) (c:Str):Option Addr:=if c∈cs then some (ca c) else none
noncomputable def qeE (ca:Str->Addr) (cs:List Str) (x:Str) (C:Addr):Option Bool:=if C∈cs.map ca then some (decide (C=ca x)) else none
structure Xs (K:Frag) (cv:Str->Value) (ca:Str->Addr) (cs:List Str) (top:Str):Prop where
 val:∀ c∈cs,cv c=.ref (ca c)
 own:∀ c∈cs,PySem.W.exmOne K (.ref (ca c)) (cv top)=some true
 cls:∀ c∈cs,xcB K (ca c)=true
 kit:∀ c∈cs,∀ d∈cs,PySem.W.kitOne K (.ref (ca c)) (.ref (ca d))=some (decide (ca c=ca d))
 ve:∀ c∈cs,PySem.W.kitOne K (.ref (ca c)) (.type "ValueError")=some true
section
variable {K:Frag} {cv:Str->Value} {ca:Str->Addr} {cs:List Str} {top:Str}
theorem Xs.hit (z:Xs K cv ca cs top):∀ c Cc,qcA ca cs c=some Cc->cv c=.ref Cc/\PySem.W.exmOne K (.ref Cc) (cv top)=some true:=fun c Cc h=>by
 unfold qcA at h
 split at h
 ·cases h
  exact ⟨z.val c (by assumption),z.own c (by assumption)⟩
 ·cases h
theorem Xs.ans (z:Xs K cv ca cs top) {x:Str} (hx:x∈cs):∀ Cc b,qeE ca cs x Cc=some b->xcB K Cc=true/\PySem.W.kitOne K (.ref Cc) (.ref (ca x))=some b:=fun Cc b h=>by
 unfold qeE at h
 split at h
 ·rename_i hm
  obtain ⟨c,hc,rfl⟩:=List.mem_map.mp hm
  cases h
  exact ⟨z.cls c hc,z.kit c hc x hx⟩
 ·cases h
end
section
variable {prog:Program} {w:World} {A:Around} {E:Value->Shared->Prop} {s:Shared}
theorem WE:typeLookup (.type "tuple") "keys"=pure none:=by rw [typeLookup_type,builtinLookup_eq_fast]; kernel_rfl
theorem zq {a:Addr} {o:Obj} {xs:Array Value} {k:Nat} {Q:Option Value->Shared->Prop} (hh:A.handled=none) (hx:s.heap.get? a=some o) (hc:o.cls=.type "tuple") (hdat:o.data=.seq xs k) (hd:o.dict=none)
  (h:∀ h' tk,(∀ b ob,s.heap.get? b=some ob->h'.get? b=some ob)->Q none { s with heap:=h',toks:=tk }):wpAny (model prog w) A (getAttr? (.ref a) "keys") Q E s:=by
 obtain ⟨c,dct,dat,sl⟩:=o
 simp only at hc hdat hd
 subst hc hdat hd
 obtain ⟨hp,g,d,tk,os⟩:=s
 have hT:∀ tk',(⟨hp,g,d,tk',os⟩:Shared).TypeIs (.ref a) "tuple":=fun _=>⟨_,hx,rfl⟩
 have f1:=sub_AttributeError
 have f3:=F.slot_tuple_getattribute.lookup
 have f4:=F.slot_tuple_getattribute.bind (.ref a)
 have f5:=am_tuple_getattr_none
 have f6:=WE
 have hnm:(["__module__", "__name__", "__qualname__", "__doc__", "__annotations__"]:List Str).contains ("keys":Str)=false:=by decide +kernel
 have hsz:("keys":Str).length+100<=sizeLine:=by rw [sizeLine_eq]; decide +kernel
 unfold getAttr? getAttrBy?
 refine wpAny_bind (wpAny_mkText (wpAny_bind (wpAny_attempt ?_)))
 unfold getAttrBy
 repeat (any_goals (first | assumption | exact hT _ | ((with_reducible show wpAny _ _ (call (Value.builtin "tuple.__getattribute__") _ _) _ _ _); refine call_meets F.slot_tuple_getattribute (hT _) am_entry_tuple_getattribute (F.args_tuple_getattribute_2 _ _) (meets_getattribute_miss_tuple a xs k sl "keys" _ f6 hnm hsz) ⟨hx,hh,fun h' tk' e hx'=>?_⟩) | wp_step))
 obtain ⟨t',u',he⟩:=hx'.there
 show wpAny _ _ (getattributeRaised _ _ _ _ _ _ _) _ _ _
 unfold getattributeRaised
 repeat (any_goals (first | assumption | wp_step))
 exact h h' tk' hx'.keeps
theorem yx:entryFor table "dict.update.loop"=some Builtin.«dict.update.loop»:=entryFor_of_tree (by kernel_rfl)
theorem jY:plainId "dict.update.loop"=true:=by decide +kernel
def Ye (h:Heap) (v key val:Value):Prop:=∃ p o n,v=.ref p/\h.get? p=some o/\o.cls=.type "tuple"/\o.data=.seq #[key,val] n
theorem ZD {R:Result->Shared->Prop} {d it t:Addr} {items:Array Value} (hh:A.in1.handled=none) (hdt:d≠t) (hdi:d≠it) (hti:t≠it):∀ (n i:Nat) (s:Shared) (kvs:List (Key×Value)) (ps:List (Key×Value×Value)),items.size - i=n->i<=items.size ->
  s.heap.IsTupleIter it t i->s.heap.IsTuple t items->s.heap.DictOf (jb prog w) d kvs->ps.length=n->(∀ j p,ps[j]?=some p->∃ v,items[i+j]?=some v/\zn p.1 p.2.1=true/\Ye s.heap v p.2.1 p.2.2)->kvs.length+n<=sizeLine ->
  (∀ h' tk,h'.DictOf (jb prog w) d (ps.foldl (fun l p=>stored l p.1 p.2.2) kvs)->(∀ b o,b≠d->b≠it->s.heap.get? b=some o->h'.get? b=some o)->R (.ok (.ret .none)) { s with heap:=h',toks:=tk }) ->
  codeAny (model prog w) A (.builtin "dict.update.loop" ⟨[.ref d,.ref it,rawInt i,.none],[]⟩) R s:=by
 intro n
 induction n with
 | zero=>
  intro i s kvs ps hn hi st ht hd hl hp hz hR
  have e:ps=[]:=List.length_eq_zero_iff.mp hl
  subst e
  refine codeAny_builtin yx ?_
  rw [Around.under_plainId jY _]
  show wpAny _ A.in1 (pyNext (.ref it) >>= _) _ _ s
  refine wpAny_bind (wpAny_pyNext_tuple_end hh st ht (by simp; omega) fun h' eb=>?_)
  show wpAny _ A.in1 (ret Value.none) _ _ _
  refine wpAny_pure (hR h' s.toks ?_ fun b o _ h2 e=>eb b o h2 e)
  obtain ⟨o,es,ep,ho,r⟩:=hd
  exact ⟨o,es,ep,eb d o hdi ho,r⟩
 | succ n ih=>
  intro i s kvs ps hn hi st ht hd hl hp hz hR
  cases ps with
  | nil=>simp at hl
  | cons p ps=>
   obtain ⟨v,hv,hk,q,oq,nq,rfl,hq,hqc,hqd⟩:=hp 0 p rfl
   obtain ⟨od,es,ep,hod,hdx,hrest⟩:=id hd
   have nqd:q≠d:=fun z=>by
    subst z
    rw [hq] at hod; cases hod
    rw [hrest.1] at hqd; cases hqd
   obtain ⟨oi,hoi,hic,hid⟩:=id st
   have nqi:q≠it:=fun z=>by
    subst z
    rw [hq] at hoi; cases hoi
    rw [hid] at hqd; cases hqd
   refine codeAny_builtin yx ?_
   rw [Around.under_plainId jY _]
   show wpAny _ A.in1 (pyNext (.ref it) >>= _) _ _ s
   refine wpAny_bind (wpAny_pyNext_tuple_item st ht (x:=.ref q) (by simpa using hv) fun h' st' sb=>?_)
   have hq':h'.get? q=some oq:=(sb.2 q nqi).trans hq
   have hTq:Shared.TypeIs { s with heap:=h' } (.ref q) "tuple":=⟨oq,hq',hqc⟩
   have hd':h'.DictOf (jb prog w) d kvs:=by
    obtain ⟨o,es,ep,ho,r⟩:=hd
    exact ⟨o,es,ep,(sb.2 d hdi).trans ho,r⟩
   have ht':h'.IsTuple t items:=by
    obtain ⟨o,ho,r⟩:=ht
    exact ⟨o,(sb.2 t hti).trans ho,r⟩
   dsimp only
   refine wpAny_bind (wpAny_holding (wpAny_bind ?_))
   refine wpAny_tryCatch ?_
   unfold Builtin.Dict.pairItems
   refine wpAny_bind (wpAny_typeOf hTq ?_)
   rw [if_pos (by decide)]
   refine wpAny_bind (wpAny_seqItems hq' hqd (wpAny_pure ?_))
   show wpAny _ A.in1 (holding [p.2.1,p.2.2] (dictSet d p.2.1 p.2.2)) _ _ _
   refine wpAny_holding (wpAny_dictSet_pairs (knd:=jb prog w) hk hd' (fun h2 hd2 sb2=>?_) (by omega))
   have keep:∀ b o,b≠d->b≠it->s.heap.get? b=some o->h2.get? b=some o:=fun b o n1 n2 e=>(sb2.2 b n1).trans ((sb.2 b n2).trans e)
   have hlen:(stored kvs p.1 p.2.2).length<=kvs.length+1:=by
    unfold stored
    split <;> simp
   refine wpAny_pure ⟨plainId_quiet jY _,?_⟩
   have ec:rawInt ((i:Int)+1)=rawInt ((i+1:Nat):Int):=by push_cast; rfl
   rw [ec]
   refine ih (i+1) _ (stored kvs p.1 p.2.2) ps (by omega) (by omega) ?_ ?_ hd2 (by simpa using hl) (fun j p' e=>?_) (by omega) fun h3 tk hd3 k3=>?_
   ·obtain ⟨o,e,r⟩:=st'
    exact ⟨o,(sb2.2 it (Ne.symm hdi)).trans e,r⟩
   ·obtain ⟨o,e,r⟩:=ht'
    exact ⟨o,(sb2.2 t (Ne.symm hdt)).trans e,r⟩
   ·obtain ⟨v',hv',hk',q',oq',nq',rfl,hq2,hqc2,hqd2⟩:=hp (j+1) p' (by simpa using e)
    refine ⟨.ref q',by rw [show i+1+j=i+(j+1) by omega]; exact hv',hk',q',oq',nq',rfl,keep q' oq' (fun z=>?_) (fun z=>?_) hq2,hqc2,hqd2⟩
    ·subst z
     rw [hq2] at hod; cases hod
     rw [hrest.1] at hqd2; cases hqd2
    ·subst z
     rw [hq2] at hoi; cases hoi
     rw [hid] at hqd2; cases hqd2
   ·exact hR h3 tk hd3 fun b o n1 n2 e=>k3 b o n1 n2 (keep b o n1 n2 e)
theorem xB {t:Addr} {items:Array Value} {ps:List (Key×Value×Value)} {Q:Value->Shared->Prop} (hh:A.handled=none) {ot:Obj} {nt:Nat} (hot:s.heap.get? t=some ot) (hotc:ot.cls=.type "tuple") (hotd:ot.dict=none) (hots:ot.data=.seq items nt)
  (hl:ps.length=items.size) (hp:∀ (j:Nat) (p:Key×Value×Value),ps[j]?=some p->∃ v,items[j]?=some v/\zn p.1 p.2.1=true/\Ye s.heap v p.2.1 p.2.2) (hz:items.size<=sizeLine)
  (h:∀ h' tk,h'.DictOf (jb prog w) s.heap.objs.size (ps.foldl (fun l p=>stored l p.1 p.2.2) [])->(∀ b o,s.heap.get? b=some o->h'.get? b=some o)->Q (.ref s.heap.objs.size) { s with heap:=h',toks:=tk }) :
  wpAny (model prog w) A (call (.type "dict") [.ref t]) Q E s:=by
 refine callType_codes (Q₁:=fun obj s₁=>obj=.ref s.heap.objs.size/\s₁={ s with heap:=s.heap.push { cls:=.type "dict",data:=.dict #[] } }) F.kt_called_dict (F.kt_typeCall_dict_1 _) F.entry_dict_init (kt_code_dict_new _ ⟨rfl,rfl⟩) ?_
 rintro obj s₁ ⟨rfl,rfl⟩
 have hnew:(s.heap.push { cls:=.type "dict",data:=.dict #[] }).DictOf (jb prog w) s.heap.objs.size []:=Heap.DictOf.new s.heap
 refine ⟨hnew.typeIs,F.args_dict_init_2 _ _,?_⟩
 unfold Builtin.«dict.__init__»
 refine wpAny_bind ?_
 unfold Builtin.Dict.selfAndRest
 refine wpAny_bind (wpAny_notOrdered_dict hnew.typeIs ?_)
 show wpAny _ _ (pure (s.heap.objs.size,[Value.ref t])) _ _ _
 refine wpAny_pure ?_
 show wpAny _ _ (Builtin.Dict.updateFrom "dict.__init__" s.heap.objs.size (.ref t) [] .none) _ _ _
 unfold Builtin.Dict.updateFrom
 have hot':(s.heap.push { cls:=.type "dict",data:=.dict #[] }).get? t=some ot:=Heap.get?_push_of_some _ hot
 have hlt:t < s.heap.objs.size:=Heap.lt_size hot
 refine wpAny_bind (wpAny_typeOf (T := "tuple") ⟨ot,hot',hotc⟩ ?_)
 rw [if_pos (by decide)]
 refine wpAny_bind (zq (by exact hh) hot' hotc hots hotd fun h1 tk1 k1=>?_)
 rw [if_pos (show (none:Option Value).isNone=true from rfl)]
 refine wpAny_bind (wpAny_rule ?_)
 have ht1:h1.get? t=some ot:=k1 _ _ hot'
 have hd1:h1.DictOf (jb prog w) s.heap.objs.size []:=by
  obtain ⟨o,es,ep,ho,r⟩:=hnew
  exact ⟨o,es,ep,k1 _ _ ho,r⟩
 have htup:h1.IsTuple t items:=⟨ot,ht1,hotc,nt,hots⟩
 refine wpAny_bind (wpAny_pyIter_tuple (s:={ s with heap:=h1,toks:=tk1 }) htup ?_)
 have hs1:s.heap.objs.size < h1.objs.size:=let ⟨o,es,ep,ho,r⟩:=hd1; Heap.lt_size ho
 have up:∀ b o,s.heap.get? b=some o->(h1.push { cls:=.type "tuple_iterator",data:=.fields #[.ref t,.int 0 0] }).get? b=some o:=fun b o e=>Heap.get?_push_of_some _ (k1 _ _ (Heap.get?_push_of_some _ e))
 refine wpAny_pure ⟨plainId_quiet jY _,?_⟩
 refine ZD (items:=items) (t:=t) (A:=A.in1) (show A.in1.in1.handled=none from hh) (Nat.ne_of_gt hlt) (Nat.ne_of_lt hs1) (Nat.ne_of_lt (Nat.lt_trans hlt hs1)) items.size 0 _ [] ps (by omega) (Nat.zero_le _) ⟨_,Heap.get?_push_size _ rfl,rfl,rfl⟩ ?_ ?_ hl (fun j p e=>?_) (by simpa using hz) fun h2 tk2 hd2 k2=>⟨rfl,h h2 tk2 hd2 fun b o e=>?_⟩
 ·exact ⟨ot,Heap.get?_push_of_some _ ht1,hotc,nt,hots⟩
 ·obtain ⟨o,es,ep,ho,r⟩:=hd1
  exact ⟨o,es,ep,Heap.get?_push_of_some _ ho,r⟩
 ·obtain ⟨v,hv,hk,q,oq,nq,rfl,hq,r⟩:=hp j p e
  exact ⟨.ref q,by simpa using hv,hk,q,oq,nq,rfl,up q oq hq,r⟩
 ·have hb:=Heap.lt_size e
  exact k2 b o (Nat.ne_of_lt hb) (Nat.ne_of_lt (Nat.lt_trans hb hs1)) (up b o e)
end
noncomputable def ZE:D->Option Key
 | .int i=>some (.inl i)
 | .str x=>some (.inr x)
 | _=>none
noncomputable def ZF (kvs:List (Key×D)) (k:Key) (d:D):List (Key×D):=if kvs.any (fun p=>decide (p.1=k)) then kvs.map fun p=>if p.1=k then (p.1,d) else p else kvs++[(k,d)]
noncomputable def ZG:D->Option (Key×D)
 | .tup [k,v]=>(ZE k).map fun k=>(k,v)
 | _=>none
noncomputable def yy:List D->Option (List (Key×D))
 | []=>some []
 | d::ds=>match ZG d,yy ds with
  | some p,some ps=>some (p::ps)
  | _,_=>none
noncomputable def xC:D->Out D
 | .tup ds=>match yy ds with
  | some ps=>.ok (.dct (ps.foldl (fun l p=>ZF l p.1 p.2) []))
  | none=>.bad
 | _=>.bad
theorem IsK.any {K:Frag} {F:Hp} {k:Key}:∀ {kv:List (Key×V)} {ks:List (Key×D)},IsK K F kv ks->(kv.any fun p=>decide (p.1=k))=(ks.any fun p=>decide (p.1=k))
 | _,_,.nil=>rfl
 | _,_,.cons h t=>by rw [List.any_cons,List.any_cons,IsK.any t]
theorem IsK.repl {K:Frag} {F:Hp} {k:Key} {v:V} {d:D} (i:Is K F v d):∀ {kv:List (Key×V)} {ks:List (Key×D)},IsK K F kv ks->IsK K F (kv.map fun p=>if p.1=k then (p.1,v) else p) (ks.map fun p=>if p.1=k then (p.1,d) else p)
 | _,_,.nil=>.nil
 | _,_,.cons (k:=k') h t=>by
  rw [List.map_cons,List.map_cons]
  by_cases e:k'=k
  ·simp only [e,if_true]; exact .cons i (IsK.repl i t)
  ·simp only [e,if_false]; exact .cons h (IsK.repl i t)
theorem IsK.snoc {K:Frag} {F:Hp} {k:Key} {v:V} {d:D} (i:Is K F v d):∀ {kv:List (Key×V)} {ks:List (Key×D)},IsK K F kv ks->IsK K F (kv++[(k,v)]) (ks++[(k,d)])
 | _,_,.nil=>.cons i .nil
 | _,_,.cons h t=>.cons h (IsK.snoc i t)
theorem IsK.put {K:Frag} {F:Hp} {k:Key} {v:V} {d:D} {kv:List (Key×V)} {ks:List (Key×D)} (h:IsK K F kv ks) (i:Is K F v d):IsK K F (JB kv k v) (ZF ks k d):=by
 unfold JB ZF
 rw [h.any]
 by_cases e:(ks.any fun p=>decide (p.1=k))=true
 ·rw [if_pos e,if_pos e]; exact IsK.repl i h
 ·rw [if_neg e,if_neg e]; exact IsK.snoc i h
theorem VA {K:Frag} {F:Hp}:∀ {pv:List (Key×V)} {ps:List (Key×D)} {kv:List (Key×V)} {ks:List (Key×D)},IsK K F pv ps->IsK K F kv ks->IsK K F (pv.foldl (fun l p=>JB l p.1 p.2) kv) (ps.foldl (fun l p=>ZF l p.1 p.2) ks)
 | _,_,_,_,.nil,h=>h
 | _,_,_,_,.cons i t,h=>by
  rw [List.foldl_cons,List.foldl_cons]
  exact VA t (h.put i)
def qeF (p:Key×V) (q:Key×Value×Value):Prop:=p.1=q.1/\RelV p.2 q.2.2
theorem Yg:∀ {pv:List (Key×V)} {tr:List (Key×Value×Value)} {kv:List (Key×V)} {vs:List (Key×Value)},Paired qeF pv tr->KV kv vs->KV (pv.foldl (fun l p=>JB l p.1 p.2) kv) (tr.foldl (fun l p=>stored l p.1 p.2.2) vs)
 | _,_,_,_,.nil,h=>h
 | _,_,_,_,.cons r t,h=>by
  rw [List.foldl_cons,List.foldl_cons]
  refine Yg t ?_
  rw [r.1]
  exact h.put _ r.2
theorem VB:∀ {pv:List (Key×V)} {kv:List (Key×V)},(pv.foldl (fun l p=>JB l p.1 p.2) kv).length<=kv.length+pv.length
 | [],kv=>Nat.le_refl _
 | p::pv,kv=>by
  have h1:=@VB pv (JB kv p.1 p.2)
  have h2:=JM kv p.1 p.2
  rw [List.foldl_cons,List.length_cons]
  omega
section
variable {X:Cx} {C:Ct} {pins:List (Addr×Obj)} {σ:St} {F H:Hp} {s:Shared}
theorem zG {v:V} {u:Value} {d:D} {k:Key} (i:Is C.K F v d) (r:RelV v u) (e:ZE d=some k):zn k u=true:=by
 cases d with
 | int z=>cases i; cases e; obtain ⟨t,rfl⟩:=r; exact Ql z t
 | str z=>cases i; cases e; obtain ⟨t,rfl⟩:=r; exact Qm z t
 | _=>cases e
theorem VC (hK:C.K=X.K) (I:Inv X pins σ H s) (sb:Same F H):∀ {vs:List V} {us:List Value} {ds:List D} {ps:List (Key×D)},IsL C.K F vs ds->Vals vs us->yy ds=some ps ->
  ∃ (pv:List (Key×V)) (tr:List (Key×Value×Value)),IsK C.K F pv ps/\Paired qeF pv tr/\tr.length=us.length/\pv.length=us.length/\∀ (j:Nat) (p:Key×Value×Value),tr[j]?=some p->∃ v,us[j]?=some v/\zn p.1 p.2.1=true/\Ye s.heap v p.2.1 p.2.2
 | _,_,_,_,.nil,.nil,e=>by cases e; exact ⟨[],[],.nil,.nil,rfl,rfl,fun j p e=>by simp at e⟩
 | _,_,_,_,.cons (d:=d) (ds:=ds) i t,.cons (b:=u) r rs,e=>by
  unfold yy at e
  cases q1:ZG d with
  | none=>rw [q1] at e; cases e
  | some kd=>
   cases q2:yy ds with
   | none=>rw [q1,q2] at e; cases e
   | some rest=>
    rw [q1,q2] at e
    cases e
    obtain ⟨pv,tr,h1,h2,h3,h3',h4⟩:=VC hK I sb t rs q2
    unfold ZG at q1
    split at q1
    ·rename_i dk dv
     obtain ⟨k,hk,rfl⟩:=Option.map_eq_some_iff.mp q1
     cases i with
     | @tup a xs _ hq il=>
      cases il with
      | @cons xk _ xr _ ik il2=>
       cases il2 with
       | @cons xv _ xr2 _ iv il3=>
        cases il3
        cases r
        obtain ⟨its,rv,⟨o,ho,hc,n,hd⟩,_⟩:=I.tuple (show SqT X.K H a [xk,xv] by rw [<-hK]; exact qC sb hq)
        cases rv with
        | @cons _ uk _ _ rk rv2=>
         cases rv2 with
         | @cons _ uv _ _ rv3 rv4=>
          cases rv4
          refine ⟨(k,xv)::pv,(k,uk,uv)::tr,.cons iv h1,.cons ⟨rfl,rv3⟩ h2,by simp [h3],by simp [h3'],fun j p e=>?_⟩
          cases j with
          | zero=>
           simp at e
           subst e
           exact ⟨_,rfl,zG ik rk hk,a,o,n,rfl,ho,hc,hd⟩
          | succ j=>simpa using h4 j p (by simpa using e)
    ·cases q1
theorem JW (hK:C.K=X.K) (hc:X.calm=true):JP X C .fr (.type "dict") xC:=by
 intro pins s σ H xs us Q I r h
 obtain ⟨x,F,dx,rfl,sb,tx,po⟩:=h
 cases dx <;> try exact po.elim
 rename_i ds
 unfold xC at po
 cases q:yy ds with
 | none=>simp only [q] at po; exact po.elim
 | some ps=>
  simp only [q] at po
  obtain ⟨a,vs,rfl,hq,t⟩:=tx.tup sb
  obtain ⟨u,rfl,ru⟩:=xg r
  cases ru
  have hq':SqT X.K H a vs:=by rw [<-hK]; exact hq
  obtain ⟨its,rv,⟨o,ho,hcl,n,hd⟩,hz⟩:=I.tuple hq'
  obtain ⟨o2,ho2,hdn⟩:=I.tupleN hq'
  rw [ho] at ho2; cases ho2
  obtain ⟨pv,tr,h1,h2,h3,h3',h4⟩:=VC hK I sb t rv q
  have hlen:=rv.length
  refine xB (ps:=tr) (I.ok.hd hc) ho hcl hdn hd (by simp [h3]) (fun j p e=>?_) (by simp; omega) fun h' tk hd' kp=>?_
  ·obtain ⟨v,e1,e2⟩:=h4 j p e
   exact ⟨v,by simpa using e1,e2⟩
  ·have hp:H s.heap.objs.size=none:=I.hok.fresh (Nat.le_refl _)
   obtain ⟨s2,c2,hF⟩:=wc (u:=.dK (pv.foldl (fun l p=>JB l p.1 p.2) [])) sb hp
   have hl:(pv.foldl (fun l p=>JB l p.1 p.2) ([]:List (Key×V))).length<=sizeLine:=by
    have:=@VB pv []
    simp at this
    omega
   have hsys:(s.heap.objs.size == sysModules)=false:=beq_eq_false_iff_ne.mpr (Nat.ne_of_gt I.big)
   refine ⟨.ref s.heap.objs.size,_,I.laid (o:=.dK (pv.foldl (fun l p=>JB l p.1 p.2) [])) (t':=tk) kp (Nat.le_refl _) (qcf hl hsys (Yg h2 .nil) hd'),rfl,po _ F _ s2 c2 ⟨_,rfl,hp,hF,_,qm,VA h1 .nil⟩⟩
noncomputable def qcB (kvs:List (Key×D)) (k:Key):Bool:=kvs.any fun p=>decide (p.1=k)
noncomputable def inA:D->D->Out D
 | x,.dct kvs=>match ZE x with
  | some k=>.ok (.bl (qcB kvs k))
  | none=>.bad
 | x,y=>qdm x y
noncomputable def GX:D->D->Out D
 | x,.dct kvs=>match ZE x with
  | some k=>.ok (.bl (!qcB kvs k))
  | none=>.bad
 | x,y=>Wy x y
theorem VD {K:Frag} {kv:List (Key×V)} {ks:List (Key×D)} {k:Key} (h:IsK K F kv ks):(Vh kv k).isSome=qcB ks k:=by
 rw [<-Vi,h.any]; rfl
theorem qeG {v:V} {d:D} {k:Key} (h:TopIs C.K F H v d) (e:ZE d=some k):v=kV k:=by
 cases d with
 | int z=>cases e; exact h.int
 | str z=>cases e; exact h.str.1
 | _=>cases e
theorem qcC (hK:C.K=X.K) (hu:X.A.units+64 < cLine):OpD X C .sh (compareOp .In) inA:=by
 intro pins s σ H x y v u Q I rx ry h
 obtain ⟨F,dx,dy,sb,tx,ty,po⟩:=h
 by_cases hd:∃ kvs,dy=.dct kvs
 ·obtain ⟨kvs,rfl⟩:=hd
  cases q:ZE dx with
  | none=>unfold inA at po; simp only [q] at po; exact po.elim
  | some k=>
   unfold inA at po
   simp only [q] at po
   obtain ⟨a,kv,rfl,hH,ik⟩:=ty.dct sb
   cases ry
   have ex:=qeG tx q
   subst ex
   refine qe6 (by omega) I (DGet.k (k:=k) hH) rx fun s' I'=>⟨.bl _,H,I',rfl,?_⟩
   rw [VD ik]
   exact po _ F H sb .refl (.bl _)
 ·have e:inA dx dy=qdm dx dy:=by
   cases dy <;> first | rfl | exact absurd ⟨_,rfl⟩ hd
  rw [e] at po
  exact qd0 hK hu pins s σ H x y v u Q I rx ry ⟨F,dx,dy,sb,tx,ty,po⟩
theorem Yh (hK:C.K=X.K) (hu:X.A.units+64 < cLine):OpD X C .sh (compareOp .NotIn) GX:=by
 intro pins s σ H x y v u Q I rx ry h
 obtain ⟨F,dx,dy,sb,tx,ty,po⟩:=h
 by_cases hd:∃ kvs,dy=.dct kvs
 ·obtain ⟨kvs,rfl⟩:=hd
  cases q:ZE dx with
  | none=>unfold GX at po; simp only [q] at po; exact po.elim
  | some k=>
   unfold GX at po
   simp only [q] at po
   obtain ⟨a,kv,rfl,hH,ik⟩:=ty.dct sb
   cases ry
   have ex:=qeG tx q
   subst ex
   refine qaK (by omega) I (DGet.k (k:=k) hH) rx fun s' I'=>⟨.bl _,H,I',rfl,?_⟩
   rw [VD ik]
   exact po _ F H sb .refl (.bl _)
 ·have e:GX dx dy=Wy dx dy:=by
   cases dy <;> first | rfl | exact absurd ⟨_,rfl⟩ hd
  rw [e] at po
  exact Zp hK hu pins s σ H x y v u Q I rx ry ⟨F,dx,dy,sb,tx,ty,po⟩
end
theorem qa3 (t:SetTable) (es:Array (Int×Value)) (h:Int) (x:Value):(layNew t es h x).2.1.led=t.led:=by
 unfold layNew
 cases t.freeSlot h with
 | none=>rfl
 | some p=>
  obtain ⟨sl,wd⟩:=p
  show (SetTable.orStandIn (t.put sl).1 _).led=t.led
  unfold SetTable.orStandIn
  split <;> rfl
theorem Yi {t:SetTable} (es:Array (Int×Value)) (h:Int) (x:Value) (e:t.plain=false):(layNew t es h x).2.1.plain=false:=by
 unfold layNew
 cases t.freeSlot h with
 | none=>rfl
 | some p=>
  obtain ⟨sl,wd⟩:=p
  show (SetTable.orStandIn (t.put sl).1 _).plain=false
  unfold SetTable.orStandIn
  split
  ·exact e
  ·rfl
theorem qa4 {m f v:Nat} {l p:Bool} {hs:Array Int} {t:SetTable} {o:Array Nat} (h:SetTable.laid m f v l p hs=some (t,o)):t.led=l/\t.plain=p:=by
 unfold SetTable.laid at h
 cases e:SetTable.layClean m hs with
 | none=>
  rw [e] at h
  cases h
 | some ow=>
  rw [e] at h
  have h2:=congrArg Prod.fst (Option.some.inj h)
  subst h2
  exact ⟨rfl,rfl⟩
theorem JX (t:SetTable) (es:Array (Int×Value)) (n:Nat):(relayAll t es n).2.1.led=t.led/\(t.plain=false->(relayAll t es n).2.1.plain=false):=by
 unfold relayAll
 cases e:t.relaid (es.map (·.1)) n with
 | none=>exact ⟨rfl,fun _=>rfl⟩
 | some q=>
  obtain ⟨t',o⟩:=q
  have hk:=qa4 (show SetTable.laid _ _ _ _ _ _=some (t',o) from e)
  dsimp only
  split
  ·exact ⟨hk.1,fun z=>hk.2.trans z⟩
  ·exact ⟨rfl,fun _=>rfl⟩
noncomputable def jI (ks:List Str) (x:Str):List Str:=if x∈ks then ks else ks++[x]
noncomputable def jv (es:Array (Int×Value)) (ep:Nat) (t:SetTable):Obj:={ cls:=.type "set",dict:=none,data:=.set es ep t,slots:=#[] }
structure SetD (prog:Program) (w:World) (es:Array (Int×Value)) (t:SetTable) (ks:List Str):Prop where
 el:ElemsOf (PySem.strKind prog w) es.toList
 perm:(es.toList.map fun e=>strOf e.2).Perm ks
 nd:ks.Nodup
 bd:es.size < scanBound
 fits:t.fits es.size=true
 led:t.led=!(w.params.followText "set-order")
 plain:ks≠[]->t.plain=false
def SetS (prog:Program) (w:World) (h:Heap) (a:Addr) (ks:List Str):Prop:=∃ es ep t,h.get? a=some (jv es ep t)/\SetD prog w es t ks
section
variable {prog:Program} {w:World} {A:Around} {E:Value->Shared->Prop} {s:Shared}
theorem Yj {l:List (Int×Value)} (h:ElemsOf (PySem.strKind prog w) l) {e:Int×Value} (he:e∈l):∃ x t,e.2=.str x t:=by
 obtain ⟨⟨k,hk,_⟩,_⟩:=h e he
 obtain ⟨t,ht⟩:=Value.isStrOf_shape hk
 exact ⟨k,t,ht⟩
theorem isS {x y:Str} {t:Tok}:(PySem.strKind prog w).is x (.str y t)=decide (x=y):=by
 have h:(PySem.strKind prog w).is y (.str y t)=true:=by
  show Value.isStrOf y (.str y t)=true
  simp [Value.isStrOf]
 exact KeyKind.is_eq_decide h x
theorem SetD.mem {es:Array (Int×Value)} {t:SetTable} {ks:List Str} (h:SetD prog w es t ks) {x:Str}:x∈ks↔∃ e∈es.toList,(PySem.strKind prog w).is x e.2=true:=by
 rw [<-h.perm.mem_iff,List.mem_map]
 constructor
 ·rintro ⟨e,he,z⟩
  obtain ⟨y,t,hy⟩:=Yj h.el he
  refine ⟨e,he,?_⟩
  rw [hy] at z ⊢
  rw [isS]
  exact decide_eq_true z.symm
 ·rintro ⟨e,he,z⟩
  obtain ⟨y,t,hy⟩:=Yj h.el he
  refine ⟨e,he,?_⟩
  rw [hy] at z ⊢
  rw [isS] at z
  exact (of_decide_eq_true z).symm
theorem SetD.size {es:Array (Int×Value)} {t:SetTable} {ks:List Str} (h:SetD prog w es t ks):es.size=ks.length:=by
 have e:=h.perm.length_eq
 simpa using e
theorem VE {h:Heap} {a:Addr} {es es':Array (Int×Value)} {ep:Nat} {t t':SetTable} (ho:h.get? a=some (jv es ep t)):(h.update a (Obj.putSet es' t')).get? a=some (jv es' (ep+1) t'):=by
 have e:=Heap.get?_update_self (Obj.putSet es' t') ho (by rw [putSet_of (o:=jv es ep t) es' t' rfl]; rfl)
 rw [putSet_of (o:=jv es ep t) es' t' rfl] at e
 exact e
theorem SetD.more {es es1:Array (Int×Value)} {t t1:SetTable} {ks:List Str} {x:Str} {tk:Tok} (h:SetD prog w es t ks) (nx:x∉ks) (hr:ks.length+1 < scanBound)
  (hp:es1.toList.Perm (es.toList++[((PySem.strKind prog w).hash x,.str x tk)])) (hf:t1.fits es1.size=true) (hl:t1.led=t.led) (hq:t1.plain=false):SetD prog w es1 t1 (jI ks x):=by
 have ex:jI ks x=ks++[x]:=if_neg nx
 have hz:es1.size=ks.length+1:=by
  rw [<-Array.length_toList,hp.length_eq,List.length_append,Array.length_toList,h.size]
  rfl
 rw [ex]
 refine ⟨(h.el.push (by rw [isS]; exact decide_eq_true rfl) rfl).perm hp,?_,?_,?_,hf,hl.trans h.led,fun _=>hq⟩
 ·refine (hp.map _).trans ?_
  rw [List.map_append]
  exact h.perm.append (List.Perm.refl _)
 ·exact List.nodup_append.mpr ⟨h.nd,by simp,fun a ha b hb=>by rw [List.mem_singleton.mp hb]; exact fun z=>nx (z ▸ ha)⟩
 ·rw [hz]
  exact hr
theorem qa5 {a:Addr} {ks:List Str} {x:Str} {tk:Tok} {Q:Bool->Shared->Prop} (hS:SetS prog w s.heap a ks) (hr:ks.length+1 < scanBound)
  (h:∀ h' b,Heap.SameBut a s.heap h'->SetS prog w h' a (jI ks x)->Q b { s with heap:=h' }):wpAny (model prog w) A (setAddHashed a (.str x tk) ((PySem.strKind prog w).hash x)) Q E s:=by
 obtain ⟨es,ep,t,ho,d⟩:=hS
 have hk:(PySem.strKind prog w).is x (.str x tk)=true:=by rw [isS]; exact decide_eq_true rfl
 unfold setAddHashed setAddHashedIn
 refine wpAny_holding (wpAny_bind (wpAny_setState_of ho rfl d.fits ?_))
 dsimp only
 rw [byScan_of rfl d.bd d.el,if_pos rfl]
 unfold setAddByScan
 refine wpAny_bind (wpAny_bind (wpAny_rule (wpAny_bind (wpAny_setScan_of hk ho rfl d.fits d.el ?_))))
 cases hq:es.toList.findIdx? (fun e=>(PySem.strKind prog w).is x e.2) with
 | some j=>
  obtain ⟨hj,hp,_⟩:=List.findIdx?_eq_some_iff_getElem.mp hq
  have hx:x∈ks:=d.mem.mpr ⟨_,List.getElem_mem hj,hp⟩
  have q:=h s.heap false (Heap.SameBut.refl a s.heap) ⟨es,ep,t,ho,by rw [show jI ks x=ks from if_pos hx]; exact d⟩
  dsimp only
  exact wpAny_pure (wpAny_pure q)
 | none=>
  have hx:x∉ks:=fun z=>by
   obtain ⟨e,he,q⟩:=d.mem.mp z
   have:=List.findIdx?_eq_none_iff.mp hq e he
   rw [q] at this
   cases this
  dsimp only
  have hp:=layNew_perm t es ((PySem.strKind prog w).hash x) (.str x tk)
  have hf:=layNew_fits t es ((PySem.strKind prog w).hash x) (.str x tk)
  have hl:=qa3 t es ((PySem.strKind prog w).hash x) (.str x tk)
  have hn:=fun e=>Yi (t:=t) es ((PySem.strKind prog w).hash x) (.str x tk) e
  generalize layNew t es ((PySem.strKind prog w).hash x) (.str x tk)=L at hp hf hl hn ⊢
  obtain ⟨es1,t1,wd,gv⟩:=L
  dsimp only at hp hf hl hn ⊢
  rw [Array.toList_push] at hp
  have tail:∀ t2:SetTable,t2.fits es1.size=true->t2.led=t.led->t2.plain=false->wpAny (model prog w) A (do
    storeSet a es1 t2
    if (!wd&&t2.tooFull)=true then do
      (match (relayAll t2 es1 (SetTable.grown es1.size)).2.2 with | true=>rule "set.scan.the-table-gave-way" | false=>pure ())
      storeSet a (relayAll t2 es1 (SetTable.grown es1.size)).1 (relayAll t2 es1 (SetTable.grown es1.size)).2.1
      pure (some true)
     else pure (some true)) (fun r s'=>∃ h',s'={ s with heap:=h' }/\r=some true/\Heap.SameBut a s.heap h'/\SetS prog w h' a (jI ks x)) E s:=by
   intro t2 f2 l2 p2
   have d2:=d.more hx hr hp f2 l2 p2
   refine wpAny_bind (wpAny_storeSet_of ho rfl ?_ (fits_of_scanBound d2.bd))
   have ho1:=VE (es':=es1) (t':=t2) ho
   have sb:=Heap.SameBut.update s.heap a (Obj.putSet es1 t2)
   split
   ·have rp:=relayAll_perm t2 es1 (SetTable.grown es1.size)
    have rf:=relayAll_fits t2 es1 (SetTable.grown es1.size)
    have rk:=JX t2 es1 (SetTable.grown es1.size)
    generalize relayAll t2 es1 (SetTable.grown es1.size)=R at rp rf rk ⊢
    obtain ⟨es2,t3,g2⟩:=R
    dsimp only at rp rf rk ⊢
    have d3:=d.more hx hr (rp.trans hp) rf (rk.1.trans l2) (rk.2 p2)
    refine wpAny_bind ?_
    have go:wpAny (model prog w) A (storeSet a es2 t3 >>= fun _=>pure (some true)) (fun r s'=>∃ h',s'={ s with heap:=h' }/\r=some true/\Heap.SameBut a s.heap h'/\SetS prog w h' a (jI ks x)) E { s with heap:=s.heap.update a (Obj.putSet es1 t2) }:=
     wpAny_bind (wpAny_storeSet_of ho1 rfl (wpAny_pure ⟨_,rfl,rfl,sb.trans (Heap.SameBut.update _ a _),es2,_,t3,VE ho1,d3⟩) (fits_of_scanBound d3.bd))
    cases g2
    ·exact wpAny_pure go
    ·exact wpAny_rule go
   ·exact wpAny_pure ⟨_,rfl,rfl,sb,es1,_,t2,ho1,d2⟩
  have fin:∀ (r:Option Bool) (s':Shared),(∃ h',s'={ s with heap:=h' }/\r=some true/\Heap.SameBut a s.heap h'/\SetS prog w h' a (jI ks x)) ->
    wpAny (model prog w) A (match r with | some added=>pure added | none=>setAddHashedIn a (.str x tk) ((PySem.strKind prog w).hash x) 99999) Q E s':=by
   rintro r s' ⟨h',rfl,rfl,sb,hS⟩
   exact wpAny_pure (h h' true sb hS)
  have gw:∀ (b:Bool) {s₁:Shared} {Q':Unit->Shared->Prop},Q' () s₁->wpAny (model prog w) A (match b with | true=>rule "set.scan.the-table-gave-way" | false=>pure ()) Q' E s₁:=fun b s₁ Q' q=>by
   cases b
   ·exact wpAny_pure q
   ·exact wpAny_rule q
  refine wpAny_bind (gw _ ?_)
  cases e1:t1.plain with
  | true=>
   rw [if_pos rfl,hashByValue_scannable 8 (x:=.str x tk) rfl]
   refine wpAny_bind (wpAny_pure ?_)
   show wpAny _ _ (storeSet a es1 { t1 with plain:=false } >>= _) _ _ _
   exact wpAny_mono (tail { t1 with plain:=false } (SetTable.fits_plain_off hf) hl rfl) fin fun _ _ z=>z
  | false=>
   rw [if_neg (by simp)]
   refine wpAny_bind (wpAny_pure ?_)
   show wpAny _ _ (storeSet a es1 t1 >>= _) _ _ _
   exact wpAny_mono (tail t1 hf hl e1) fin fun _ _ z=>z
end
theorem ZH (ks:List Str) (x:Str):(jI ks x).length<=ks.length+1:=by
 unfold jI
 split
 ·omega
 ·rw [List.length_append]
  exact Nat.le_refl _
theorem vt:∀ (l ks:List Str),(l.foldl jI ks).length<=ks.length+l.length
 | [],ks=>Nat.le_refl _
 | x::l,ks=>by
  have h1:=vt l (jI ks x)
  have h2:=ZH ks x
  rw [List.foldl_cons,List.length_cons]
  omega
theorem SetS.at {prog:Program} {w:World} {h h':Heap} {a:Addr} {ks:List Str} (hS:SetS prog w h a ks) (k:∀ o,h.get? a=some o->h'.get? a=some o):SetS prog w h' a ks:=
 let ⟨es,ep,t,ho,d⟩:=hS; ⟨es,ep,t,k _ ho,d⟩
section
variable {prog:Program} {w:World} {A:Around} {R:Result->Shared->Prop} {I:Addr} {fp wr:List Addr} {n:Nat} {P:Nat->Value->Prop} {St:Nat->Shared->Prop}
theorem VF {G:Array GenState->Array GenState->Prop} (W:WalksS prog w A.in1 I fp wr G n P St) (S:Addr) (hSf:S∉fp) (ss:List Str) (hn:ss.length=n) (hv:∀ i v,P i v->∃ x t,ss[i]?=some x/\v=.str x t) (hb:n+1 < scanBound) :
  ∀ (k i:Nat) (s:Shared),n - i=k->i<=n->St i s->SetS prog w s.heap S ((ss.take i).foldl jI []) ->
   (∀ s',Moved (S::wr) G s s'->SetS prog w s'.heap S (ss.foldl jI [])->R (.ok (.ret .none)) s')->codeAny (model prog w) A (.builtin "set.update.loop" ⟨[.ref S,.ref I],[]⟩) R s:=by
 have nw:S∉wr:=fun h=>hSf (W.sub _ h)
 have up:∀ b∈wr,b∈S::wr:=fun b hb=>List.mem_cons_of_mem _ hb
 intro k
 induction k with
 | zero=>
  intro i s hk hi hst hS hR
  have hin:i=n:=by omega
  subst hin
  refine codeAny_builtin F.entry_set_update_loop ?_
  rw [Around.under_plainId F.plain_set_update_loop _]; show wpAny _ A.in1 (pyNext (.ref I) >>= _) _ _ s
  refine wpAny_bind (W.done s _ _ hst fun s' hm=>wpAny_pure (hR s' (hm.mono up) ?_))
  rw [List.take_of_length_le (Nat.le_of_eq hn)] at hS
  exact hS.at fun o e=>hm.heap S o nw e
 | succ k ih=>
  intro i s hk hi hst hS hR
  have hlt:i < n:=by omega
  refine codeAny_builtin F.entry_set_update_loop ?_
  rw [Around.under_plainId F.plain_set_update_loop _]; show wpAny _ A.in1 (pyNext (.ref I) >>= _) _ _ s
  refine wpAny_bind (W.item i s _ _ hlt hst fun v s' hP hst' hm=>?_)
  obtain ⟨x,t,hx,rfl⟩:=hv i v hP
  have hS':SetS prog w s'.heap S ((ss.take i).foldl jI []):=hS.at fun o e=>hm.heap S o nw e
  show wpAny _ A.in1 (holding [Value.str x t] (setAdd S (.str x t)) >>= _) _ _ s'
  refine wpAny_bind (wpAny_holding ?_)
  unfold setAdd
  refine wpAny_holding (wpAny_bind ((PySem.strKind prog w).pyHash (k:=x) (by rw [isS]; exact decide_eq_true rfl) ?_))
  have hroom:((ss.take i).foldl jI []).length+1 < scanBound:=by
   have h1:=vt (ss.take i) []
   rw [List.length_take,List.length_nil] at h1
   omega
  refine qa5 (s:={ s' with toks:=s'.toks+1 }) hS' hroom fun h' b sb hS2=>?_
  have e2:jI ((ss.take i).foldl jI []) x=(ss.take (i+1)).foldl jI []:=by
   rw [List.take_add_one,hx,List.foldl_append]
   rfl
  rw [e2] at hS2
  refine wpAny_pure ⟨plainId_quiet F.plain_set_update_loop _,ih (i+1) _ (by omega) hlt (W.frame _ s' _ _ hst' (Nat.le_succ _) fun b hb o e=>?_) hS2 fun s'' hm'' hS''=>?_⟩
  ·rw [sb.2 b fun z:b=S=>hSf (z ▸ hb)]
   exact e
  ·refine hR s'' (Moved.trans W.gtrans ((hm.mono up).then_heap (Nat.le_succ _) fun b o hb e=>?_) hm'') hS''
   rw [sb.2 b fun z:b=S=>hb (z ▸ List.mem_cons_self)]
   exact e
end
section
variable {prog:Program} {w:World} {A:Around} {E:Value->Shared->Prop} {s:Shared}
abbrev ZI (w:World):Obj:=jv #[] 0 (.fresh 0 0 (!(w.params.followText "set-order")))
theorem QR {h:Heap} {a:Addr} (e:h.get? a=some (ZI w)):SetS prog w h a []:=
 ⟨_,_,_,e,⟨fun e he=>by simp at he,by simp,List.nodup_nil,by decide,by rfl,rfl,fun z=>absurd rfl z⟩⟩
theorem Yk (a:Value) {Q₁:Value->Shared->Prop} (h:Q₁ (.ref s.heap.objs.size) { s with heap:=s.heap.push (ZI w) }) :
  codeAny (model prog w) A (.call (.builtin "set.__new__") ⟨[.type "set",a],[]⟩) (wants Q₁ E) s:=by
 refine codeAny_of_tree ?_; show wpAny _ A.in1 (do checkBuiltinCall "set.__new__" ⟨[.type "set",a],[]⟩; again (.builtin "set.__new__" ⟨[.type "set",a],[]⟩)) _ _ s
 refine wpAny_bind (wpAny_of_eq (PySem.F.newCall_set_1 a) (wpAny_pure ⟨plainId_quiet PySem.F.plain_set_new _,codeAny_builtin PySem.F.entry_set_new ?_⟩)); rw [Around.under_plainId PySem.F.plain_set_new _]
 unfold Builtin.«set.__new__» Builtin.Frozenset.newClass; have hsub:=sub_set_self; obtain ⟨hp,g,d,tk,os⟩:=s; dsimp only; wp_walk
 refine wpAny_askSetting (wpAny_pure ?_); dsimp only; simp only [newObj]
 exact wpAny_bind (wpAny_alloc (wpAny_pure (wpAny_pure h)))
theorem xD:isSubtype (.type "tuple") (.type "set")=pure false:=by rw [isSubtype_type]; kernel_rfl
theorem wY:isSubtype (.type "tuple") (.type "frozenset")=pure false:=by rw [isSubtype_type]; kernel_rfl
theorem Yl {vs:List Value} {ss:List Str} (h:StrsAre vs ss) {i:Nat} {v:Value} (e:vs[i]?=some v):∃ x t,ss[i]?=some x/\v=.str x t:=by
 obtain ⟨y,t,e1,e2⟩:=h.item i v e
 exact ⟨y,t,e2,e1⟩
theorem ZJ {S l:Addr} {items:Array Value} {ss:List Str} {Q:Unit->Shared->Prop} (hh:A.handled=none) (hS:SetS prog w s.heap S []) (hl:s.heap.IsList l items) (hi:StrsAre items.toList ss) (hb:items.size+1 < scanBound) (hne:l≠S)
  (h:∀ h' tk,SetS prog w h' S (ss.foldl jI [])->(∀ b o,b≠S->s.heap.get? b=some o->h'.get? b=some o)->Q () { s with heap:=h',toks:=tk }) :
  wpAny (model prog w) A (Builtin.Frozenset.updateFrom "set.__init__" S (.ref l)) Q E s:=by
 have hT:s.TypeIs (.ref l) "list":=let ⟨o,e,c,_⟩:=hl; ⟨o,e,c⟩
 unfold Builtin.Frozenset.updateFrom
 refine wpAny_bind (m:=Builtin.Frozenset.isAnySet _) ?_
 unfold Builtin.Frozenset.isAnySet
 refine wpAny_bind (wpAny_isInstance hT PySem.F.sub_list_set ?_)
 refine wpAny_isInstance hT PySem.F.sub_list_frozenset ?_
 rw [if_neg (by decide)]
 refine wpAny_bind (wpAny_typeOf hT ?_)
 rw [if_neg (by decide)]
 refine wpAny_bind (wpAny_pyIter_list hl ?_)
 have hz:s.heap.objs.size≠S:=fun z=>by
  obtain ⟨es,ep,t,ho,_⟩:=hS
  exact Nat.lt_irrefl _ (z ▸ Heap.lt_size ho)
 have hzl:l≠s.heap.objs.size:=by
  obtain ⟨o,e,_⟩:=hl
  exact Nat.ne_of_lt (Heap.lt_size e)
 refine wpAny_bind (wpAny_runValue (VF ((Walks.list (A:=A.in1) hh _ l hzl items).toS) S ?_ ss (by rw [<-hi.length]; simp) (fun i v e=>Yl hi (by rw [Array.getElem?_toList]; exact e)) hb items.size 0 _ (by omega) (Nat.zero_le _) ⟨⟨_,Heap.get?_push_size _ rfl,rfl,rfl⟩,hl.push _⟩ ?_ ?_))
 ·intro z
  rcases List.mem_cons.mp z with z | z
  ·exact hz z.symm
  ·exact hne (List.mem_singleton.mp z).symm
 ·exact hS.at fun o e=>Heap.get?_push_of_some _ e
 ·intro s' hm hS'
  obtain ⟨h',g',d',tk',os'⟩:=s'
  have eg:g'=s.gens:=hm.gens
  have ed:d'=s.drawn:=hm.drawn
  have eo:os'=s.os:=hm.os
  subst eg ed eo
  refine wpAny_pure (h h' tk' hS' fun b o hb e=>hm.heap b o ?_ (Heap.get?_push_of_some _ e))
  intro z
  rcases List.mem_cons.mp z with z | z
  ·exact hb z
  ·rw [List.mem_singleton.mp z] at e
   exact Nat.lt_irrefl _ (Heap.lt_size e)
theorem Ym {S l:Addr} {items:Array Value} {ss:List Str} {Q:Unit->Shared->Prop} (hh:A.handled=none) (hS:SetS prog w s.heap S []) (hl:s.heap.IsTuple l items) (hi:StrsAre items.toList ss) (hb:items.size+1 < scanBound) (hne:l≠S)
  (h:∀ h' tk,SetS prog w h' S (ss.foldl jI [])->(∀ b o,b≠S->s.heap.get? b=some o->h'.get? b=some o)->Q () { s with heap:=h',toks:=tk }) :
  wpAny (model prog w) A (Builtin.Frozenset.updateFrom "set.__init__" S (.ref l)) Q E s:=by
 have hT:s.TypeIs (.ref l) "tuple":=let ⟨o,e,c,_⟩:=hl; ⟨o,e,c⟩
 unfold Builtin.Frozenset.updateFrom
 refine wpAny_bind (m:=Builtin.Frozenset.isAnySet _) ?_
 unfold Builtin.Frozenset.isAnySet
 refine wpAny_bind (wpAny_isInstance hT xD ?_)
 refine wpAny_isInstance hT wY ?_
 rw [if_neg (by decide)]
 refine wpAny_bind (wpAny_typeOf hT ?_)
 rw [if_neg (by decide)]
 refine wpAny_bind (wpAny_pyIter_tuple hl ?_)
 have hz:s.heap.objs.size≠S:=fun z=>by
  obtain ⟨es,ep,t,ho,_⟩:=hS
  exact Nat.lt_irrefl _ (z ▸ Heap.lt_size ho)
 have hzl:l≠s.heap.objs.size:=by
  obtain ⟨o,e,_⟩:=hl
  exact Nat.ne_of_lt (Heap.lt_size e)
 refine wpAny_bind (wpAny_runValue (VF ((Walks.tuple (A:=A.in1) hh _ l hzl items).toS) S ?_ ss (by rw [<-hi.length]; simp) (fun i v e=>Yl hi (by rw [Array.getElem?_toList]; exact e)) hb items.size 0 _ (by omega) (Nat.zero_le _) ⟨⟨_,Heap.get?_push_size _ rfl,rfl,rfl⟩,?_⟩ ?_ ?_))
 ·intro z
  rcases List.mem_cons.mp z with z | z
  ·exact hz z.symm
  ·exact hne (List.mem_singleton.mp z).symm
 ·obtain ⟨o,e,c⟩:=hl
  exact ⟨o,Heap.get?_push_of_some _ e,c⟩
 ·exact hS.at fun o e=>Heap.get?_push_of_some _ e
 ·intro s' hm hS'
  obtain ⟨h',g',d',tk',os'⟩:=s'
  have eg:g'=s.gens:=hm.gens
  have ed:d'=s.drawn:=hm.drawn
  have eo:os'=s.os:=hm.os
  subst eg ed eo
  refine wpAny_pure (h h' tk' hS' fun b o hb e=>hm.heap b o ?_ (Heap.get?_push_of_some _ e))
  intro z
  rcases List.mem_cons.mp z with z | z
  ·exact hb z
  ·rw [List.mem_singleton.mp z] at e
   exact Nat.lt_irrefl _ (Heap.lt_size e)
set_option maxHeartbeats 3200000 in
theorem QS {l:Addr} {ks:List Str} {Q:Value->Shared->Prop}
  (hup:∀ (A1:Around) (Q1:Unit->Shared->Prop) (E1:Value->Shared->Prop),A1.handled=A.handled->(∀ h' tk,SetS prog w h' s.heap.objs.size ks->(∀ b o,s.heap.get? b=some o->h'.get? b=some o)->Q1 () { s with heap:=h',toks:=tk }) ->
   wpAny (model prog w) A1 (Builtin.Frozenset.updateFrom "set.__init__" s.heap.objs.size (.ref l)) Q1 E1 { s with heap:=s.heap.push (ZI w) })
  (h:∀ h' tk,SetS prog w h' s.heap.objs.size ks->(∀ b o,s.heap.get? b=some o->h'.get? b=some o)->Q (.ref s.heap.objs.size) { s with heap:=h',toks:=tk }) :
  wpAny (model prog w) A (call (.type "set") [.ref l]) Q E s:=by
 have hnew:∀ {Q₁:Value->Shared->Prop},Q₁ (.ref s.heap.objs.size) { s with heap:=s.heap.push (ZI w) }->codeAny (model prog w) A.in1 (.call (.builtin "set.__new__") ⟨[.type "set",.ref l],[]⟩) (wants Q₁ E) s:=fun h=>Yk (.ref l) h
 unfold ZI jv at hnew hup
 generalize (!(w.params.followText "set-order"))=led at hnew hup
 obtain ⟨c,tl,hmro⟩:=PySem.F.called_set.mro
 have hmade:=PySem.F.called_set.made
 have hsub:=PySem.F.called_set.sub
 refine wpAny_call (codeAny_of_tree ?_); show wpAny _ _ (callAny (.type "set") _) _ _ _
 refine wpAny_pure ⟨Code.quiet_builtin _ (by decide +kernel),codeAny_builtin PySem.F.entry_type_call ?_⟩; rw [Around.under_plain (weight_type_call_type "set" [.ref l] []) rfl]
 have h1:=PySem.F.called_set.notType
 have h2:=PySem.F.called_set.canCreate
 have hct:=PySem.F.typeCall_set_1 (.ref l)
 repeat (any_goals (first | assumption | wp_step))
 refine codeAny_mono (hnew (Q₁:=fun obj s₁=>obj=.ref s.heap.objs.size/\s₁={ s with heap:=s.heap.push { cls:=.type "set",dict:=none,data:=.set #[] 0 (.fresh 0 0 led) } }) ⟨rfl,rfl⟩) fun r s₁ hr=>?_
 cases r with
 | error e=>exact hr
 | ok fl=>
  cases fl with
  | ret obj=>
   obtain ⟨rfl,rfl⟩:=hr
   have hS:(s.heap.push { cls:=.type "set",dict:=none,data:=.set #[] 0 (.fresh 0 0 led) }).get? s.heap.objs.size=some { cls:=.type "set",dict:=none,data:=.set #[] 0 (.fresh 0 0 led) }:=Heap.get?_push_size _ rfl
   have hT:Shared.TypeIs { s with heap:=s.heap.push { cls:=.type "set",dict:=none,data:=.set #[] 0 (.fresh 0 0 led) } } (.ref s.heap.objs.size) "set":=⟨_,hS,rfl⟩
   have hli:=PySem.F.called_set.init.lookup
   have hbi:=PySem.F.called_set.init.bind (.ref s.heap.objs.size)
   repeat (any_goals (first | assumption | wp_step))
   refine codeAny_mono (codeAny_call_builtin (R:=wants (fun r s₂=>r=.none/\∃ h' tk,s₂={ s with heap:=h',toks:=tk }/\SetS prog w h' s.heap.objs.size ks/\(∀ b o,s.heap.get? b=some o->h'.get? b=some o)) E) PySem.F.called_set.init.plain PySem.F.entry_set_init (check_set_init_1 hT ?_)) fun r₂ s₂ hr₂=>?_
   ·unfold Builtin.«set.__init__» noKeywords
    generalize hU:Builtin.Frozenset.updateFrom=U
    wp_walk
    subst hU
    refine hup _ _ _ rfl fun h' tk hS' hk=>?_
    exact wpAny_pure ⟨rfl,h',tk,rfl,hS',hk⟩
   ·cases r₂ with
    | error e=>exact hr₂
    | ok fl₂=>
     cases fl₂ with
     | ret r=>
      obtain ⟨rfl,h',tk,rfl,hS',hk'⟩:=hr₂
      repeat (any_goals (first | assumption | wp_step))
      exact h _ _ hS' hk'
     | _=>exact hr₂.elim
  | _=>exact hr.elim
end
theorem uW {α:Type}:∀ {xs:List α} {i:Nat} (h:i < xs.length),(xs[i]::xs.eraseIdx i).Perm xs
 | [],_,h=>absurd h (Nat.not_lt_zero _)
 | x::xs,0,h=>List.Perm.refl _
 | x::xs,i+1,h=>(List.Perm.swap _ _ _).trans ((uW (xs:=xs) (i:=i) (Nat.lt_of_succ_lt_succ h)).cons x)
theorem WF {M:Model} {A:Around} {E:Value->Shared->Prop} {s:Shared} {src:Source} {n:Nat} {Q:Nat->Shared->Prop} (hn:n≠0) (h:∀ i d',i < n->Q i { s with drawn:=d' }):wpAny M A (choose src n) Q E s:=
 fun _ _ _=>⟨hn,h _ _ (Nat.mod_lt _ (Nat.pos_of_ne_zero hn))⟩
theorem Yn {M:Model} {A:Around} {E:Value->Shared->Prop} {α:Type}:∀ (n:Nat) (xs:List α) (s:Shared) {Q:List α->Shared->Prop},n=xs.length->(∀ ys d',ys.Perm xs->Q ys { s with drawn:=d' })->wpAny M A (drawOrder n xs) Q E s
 | 0,xs,s,Q,hn,h=>by
  cases xs with
  | nil=>exact wpAny_pure (h [] s.drawn (List.Perm.refl _))
  | cons x l=>cases hn
 | n+1,[],s,Q,hn,h=>by cases hn
 | n+1,x::l,s,Q,hn,h=>by
  show wpAny M A (choose .order (x::l).length >>= _) Q E s
  refine wpAny_bind (WF (by simp) fun i d' hi=>?_)
  have e:(x::l)[i]?=some (x::l)[i]:=List.getElem?_eq_getElem hi
  rw [e]
  refine wpAny_bind (Yn n _ _ (by rw [List.length_eraseIdx_of_lt hi]; simp only [List.length_cons] at hn ⊢; omega) fun ys d2 hp=>wpAny_pure (h _ d2 ?_))
  exact (hp.cons _).trans (uW hi)
theorem Yo {α:Type} (next:Nat->Nat):∀ (f k:Nat) (left:List α) (out:Array α),f=left.length->(pickOrder.go next f k left out).toList.Perm (out.toList++left)
 | 0,k,left,out,hf=>by
  cases left with
  | nil=>
   rw [List.append_nil]
   exact List.Perm.refl _
  | cons x l=>cases hf
 | f+1,k,left,out,hf=>by
  have hlt:next k % left.length < left.length:=Nat.mod_lt _ (by omega)
  have e:left[next k % left.length]?=some left[next k % left.length]:=List.getElem?_eq_getElem hlt
  unfold pickOrder.go
  rw [e]
  refine (Yo next f (k+1) _ _ (by rw [List.length_eraseIdx_of_lt hlt]; omega)).trans ?_
  rw [Array.toList_push,List.append_assoc]
  exact List.Perm.append_left _ (uW hlt)
theorem xE {α:Type} (next:Nat->Nat) (xs:Array α):(pickOrder next xs).toList.Perm xs.toList:=by
 unfold pickOrder
 exact Yo next _ _ _ _ (by simp)
noncomputable def wm (first:Value) (i:Nat) (a:Addr) (n ep:Nat):Obj:={ cls:=.type "set_iterator",data:=.fields #[first,rawInt i,.ref a,rawInt n,rawInt ep] }
theorem slot_si_next:Slot "set_iterator" "__next__" "set_iterator.__next__":=
 .of (owner := "set_iterator") (n := "__next__") (by rw [typeLookup_type,builtinLookup_eq_fast]; kernel_rfl) (by decide +kernel) (by decide +kernel) (by decide +kernel) (by first | exact .inl (by decide +kernel) | exact .inr (by decide +kernel)) (by rw [isSubtype_type]; kernel_rfl)
theorem yz:Slot "set_iterator" "__iter__" "set_iterator.__iter__":=
 .of (owner := "set_iterator") (n := "__iter__") (by rw [typeLookup_type,builtinLookup_eq_fast]; kernel_rfl) (by decide +kernel) (by decide +kernel) (by decide +kernel) (by first | exact .inl (by decide +kernel) | exact .inr (by decide +kernel)) (by rw [isSubtype_type]; kernel_rfl)
theorem kU (a:Value):argsOk "set_iterator.__next__" ⟨[a],[]⟩:=by unfold argsOk; kernel_rfl
theorem QT (a:Value):argsOk "set_iterator.__iter__" ⟨[a],[]⟩:=by unfold argsOk; kernel_rfl
theorem km:entryFor table "set_iterator.__next__"=some Builtin.«set_iterator.__next__»:=entryFor_of_tree (by kernel_rfl)
theorem gx:entryFor table "set_iterator.__iter__"=some Builtin.«dict_keyiterator.__iter__»:=entryFor_alias (id' := "dict_keyiterator.__iter__") (by kernel_rfl) rfl (by decide +kernel) (by kernel_rfl)
theorem QU:entryFor table "set.__iter__"=some Builtin.«frozenset.__iter__»:=entryFor_alias (id' := "frozenset.__iter__") (by kernel_rfl) rfl (by decide +kernel) (by kernel_rfl)
section
variable {prog:Program} {w:World} {A:Around} {E:Value->Shared->Prop} {s:Shared}
theorem kI {b:Bool} (hb:w.params.followText "set-order"=b):({ program:=(model prog w).prog,params:=(model prog w).w.params }:Setting).params.followText "set-order"=b:=hb
theorem QV {it a:Addr} {sl i n ep nx:Nat} {es:Array (Int×Value)} {t:SetTable} {x:Value} {Q:Option Value->Shared->Prop} (hi:s.heap.get? it=some (wm (rawInt sl) i a n ep)) (ha:s.heap.get? a=some (jv es ep t)) (hf:t.fits es.size=true) (hz:es.size=n)
  (hn:∀ (A1:Around) (Q1:Option (Value×Nat)->Shared->Prop) (E1:Value->Shared->Prop),Q1 (some (x,nx)) s->wpAny (model prog w) A1 (setNext a sl i ep) Q1 E1 s)
  (hQ:∀ h',h'.get? it=some (wm (rawInt nx) (i+1) a n ep)->Heap.SameBut it s.heap h'->Q (some x) { s with heap:=h' }):wpAny (model prog w) A (pyNext (.ref it)) Q E s:=by
 have hT:s.TypeIs (.ref it) "set_iterator":=⟨_,hi,rfl⟩
 unfold pyNext
 refine wpAny_bind (wpAny_attempt (wpAny_callSpecial?_slot (name:=Str.ofString "__next__") hT slot_si_next (wpAny_call_entry slot_si_next hT km ?_ (kU _))))
 show wpAny _ _ (fieldsOf (.ref it) >>= _) _ _ s
 refine wpAny_bind (wpAny_fieldsOf hi rfl ?_)
 show wpAny _ _ (setEntries a >>= _) _ _ s
 refine wpAny_bind (wpAny_setEntries_of ha rfl hf ?_)
 rw [if_neg (by rw [hz]; simp)]
 show wpAny _ _ (setNext a sl i ep >>= _) _ _ s
 refine wpAny_bind (hn _ _ _ ?_)
 show wpAny _ _ (setField (.ref it) 0 (rawInt nx) >>= _) _ _ s
 refine wpAny_bind (wpAny_setField hi rfl (by simp) ?_)
 have h1:(s.heap.update it (Obj.mapFields (·.setIfInBounds 0 (rawInt nx)))).get? it=some (wm (rawInt nx) i a n ep):=Heap.get?_update_self _ hi rfl
 refine wpAny_bind (wpAny_setField h1 rfl (by simp) (wpAny_pure ⟨x,rfl,wpAny_pure (hQ _ ?_ ((Heap.SameBut.update ..).trans (Heap.SameBut.update ..)))⟩))
 exact Heap.get?_update_self _ h1 rfl
theorem QW {it a:Addr} {sl i n ep:Nat} {es:Array (Int×Value)} {t:SetTable} {Q:Option Value->Shared->Prop} (hh:A.handled=none) (hi:s.heap.get? it=some (wm (rawInt sl) i a n ep)) (ha:s.heap.get? a=some (jv es ep t)) (hf:t.fits es.size=true) (hz:es.size=n)
  (hn:∀ (A1:Around) (Q1:Option (Value×Nat)->Shared->Prop) (E1:Value->Shared->Prop),Q1 none s->wpAny (model prog w) A1 (setNext a sl i ep) Q1 E1 s)
  (hQ:∀ h',Heap.ExtBut it s.heap h'->Q none { s with heap:=h' }):wpAny (model prog w) A (pyNext (.ref it)) Q E s:=by
 have hT:s.TypeIs (.ref it) "set_iterator":=⟨_,hi,rfl⟩
 unfold pyNext
 refine wpAny_bind (wpAny_attempt (wpAny_callSpecial?_slot (name:=Str.ofString "__next__") hT slot_si_next (wpAny_call_entry slot_si_next hT km ?_ (kU _))))
 show wpAny _ _ (fieldsOf (.ref it) >>= _) _ _ s
 refine wpAny_bind (wpAny_fieldsOf hi rfl ?_)
 show wpAny _ _ (setEntries a >>= _) _ _ s
 refine wpAny_bind (wpAny_setEntries_of ha rfl hf ?_)
 rw [if_neg (by rw [hz]; simp)]
 show wpAny _ _ (setNext a sl i ep >>= _) _ _ s
 refine wpAny_bind (hn _ _ _ ?_)
 show wpAny _ _ (setField (.ref it) 2 Value.none >>= _) _ _ s
 refine wpAny_bind (wpAny_setField hi rfl (by simp) ?_); show wpAny _ _ (newExc (.type "StopIteration") [] >>= _) _ _ _
 refine wpAny_bind ?_; simp only [newExc,newTuple]; refine wpAny_bind (wpAny_newObj_type ?_ (by size_fits))
 refine wpAny_bind (m:=firstArgMember _ _) (wpAny_of_eq (a:=Value.none) (by first | rfl | (simp only [firstArgMember]; rfl)) ?_); refine wpAny_newObj_type ?_ (by size_fits); simp only [raiseNew]
 refine wpAny_bind (wpAny_handled ?_); first | rw [show A.in1.handled=none from hh] | rw [hh]
 refine wpAny_bind (wpAny_pure (wpAny_throw ?_)); refine wpAny_bind (wpAny_isInstance (T := "StopIteration") (b:=true) ⟨_,Heap.get?_push_size _ rfl,rfl⟩ isSubtype_stop ?_)
 exact wpAny_pure (hQ _ (((Heap.SameBut.update ..).extBut.push _).push _))
theorem WG {it a p:Addr} {i n ep pl m:Nat} {es:Array (Int×Value)} {t:SetTable} {hx:Int} {x:Value} {ps:Array Value} {Q:Option Value->Shared->Prop} (hi:s.heap.get? it=some (wm (.ref p) i a n ep)) (ha:s.heap.get? a=some (jv es ep t)) (hf:t.fits es.size=true) (hz:es.size=n)
  (hp:s.heap.get? p=some { cls:=.type "tuple",data:=.seq ps m }) (hpl:ps[i]?=some (rawInt pl)) (hx:es[pl]?=some (hx,x))
  (hQ:∀ h',h'.get? it=some (wm (.ref p) (i+1) a n ep)->Heap.SameBut it s.heap h'->Q (some x) { s with heap:=h' }):wpAny (model prog w) A (pyNext (.ref it)) Q E s:=by
 have hT:s.TypeIs (.ref it) "set_iterator":=⟨_,hi,rfl⟩
 unfold pyNext
 refine wpAny_bind (wpAny_attempt (wpAny_callSpecial?_slot (name:=Str.ofString "__next__") hT slot_si_next (wpAny_call_entry slot_si_next hT km ?_ (kU _))))
 show wpAny _ _ (fieldsOf (.ref it) >>= _) _ _ s
 refine wpAny_bind (wpAny_fieldsOf hi rfl ?_)
 show wpAny _ _ (setEntries a >>= _) _ _ s
 refine wpAny_bind (wpAny_setEntries_of ha rfl hf ?_)
 rw [if_neg (by rw [hz]; simp)]
 show wpAny _ _ (seqItems? (.ref p) >>= _) _ _ s
 refine wpAny_bind (wpAny_seqItems hp rfl ?_)
 dsimp only
 rw [show ps[Int.toNat (i:Int)]?=some (rawInt pl) from hpl]
 show wpAny _ _ (setNextDrawn a pl ep >>= _) _ _ s
 refine wpAny_bind ?_
 unfold setNextDrawn
 refine wpAny_bind (wpAny_setState_of ha rfl hf ?_)
 dsimp only
 rw [if_neg (by simp),hx]
 refine wpAny_pure ?_
 show wpAny _ _ (setField (.ref it) 1 (rawInt (i+1)) >>= _) _ _ s
 refine wpAny_bind (wpAny_setField hi rfl (by simp) (wpAny_pure ⟨x,rfl,wpAny_pure (hQ _ ?_ (Heap.SameBut.update ..))⟩))
 exact Heap.get?_update_self _ hi rfl
theorem Yp {it a p:Addr} {i n ep m:Nat} {es:Array (Int×Value)} {t:SetTable} {ps:Array Value} {Q:Option Value->Shared->Prop} (hh:A.handled=none) (hi:s.heap.get? it=some (wm (.ref p) i a n ep)) (ha:s.heap.get? a=some (jv es ep t)) (hf:t.fits es.size=true) (hz:es.size=n)
  (hp:s.heap.get? p=some { cls:=.type "tuple",data:=.seq ps m }) (hpl:ps[i]?=none)
  (hQ:∀ h',Heap.ExtBut it s.heap h'->Q none { s with heap:=h' }):wpAny (model prog w) A (pyNext (.ref it)) Q E s:=by
 have hT:s.TypeIs (.ref it) "set_iterator":=⟨_,hi,rfl⟩
 unfold pyNext
 refine wpAny_bind (wpAny_attempt (wpAny_callSpecial?_slot (name:=Str.ofString "__next__") hT slot_si_next (wpAny_call_entry slot_si_next hT km ?_ (kU _))))
 show wpAny _ _ (fieldsOf (.ref it) >>= _) _ _ s
 refine wpAny_bind (wpAny_fieldsOf hi rfl ?_)
 show wpAny _ _ (setEntries a >>= _) _ _ s
 refine wpAny_bind (wpAny_setEntries_of ha rfl hf ?_)
 rw [if_neg (by rw [hz]; simp)]
 show wpAny _ _ (seqItems? (.ref p) >>= _) _ _ s
 refine wpAny_bind (wpAny_seqItems hp rfl ?_)
 dsimp only
 rw [show ps[Int.toNat (i:Int)]?=none from hpl]
 show wpAny _ _ (setField (.ref it) 0 (rawInt 0) >>= _) _ _ s
 refine wpAny_bind (wpAny_setField hi rfl (by simp) ?_)
 have h1:(s.heap.update it (Obj.mapFields (·.setIfInBounds 0 (rawInt 0)))).get? it=some (wm (rawInt 0) i a n ep):=Heap.get?_update_self _ hi rfl
 refine wpAny_bind (wpAny_setField h1 rfl (by simp) ?_); show wpAny _ _ (newExc (.type "StopIteration") [] >>= _) _ _ _
 refine wpAny_bind ?_; simp only [newExc,newTuple]; refine wpAny_bind (wpAny_newObj_type ?_ (by size_fits))
 refine wpAny_bind (m:=firstArgMember _ _) (wpAny_of_eq (a:=Value.none) (by first | rfl | (simp only [firstArgMember]; rfl)) ?_); refine wpAny_newObj_type ?_ (by size_fits); simp only [raiseNew]
 refine wpAny_bind (wpAny_handled ?_); first | rw [show A.in1.handled=none from hh] | rw [hh]
 refine wpAny_bind (wpAny_pure (wpAny_throw ?_)); refine wpAny_bind (wpAny_isInstance (T := "StopIteration") (b:=true) ⟨_,Heap.get?_push_size _ rfl,rfl⟩ isSubtype_stop ?_)
 exact wpAny_pure (hQ _ (((((Heap.SameBut.update ..).trans (Heap.SameBut.update ..))).extBut.push _).push _))
theorem xF {it:Addr} {o:Obj} {Q:Value->Shared->Prop} (hi:s.heap.get? it=some o) (hc:o.cls=.type "set_iterator") (h:Q (.ref it) s):wpAny (model prog w) A (pyIter (.ref it)) Q E s:=by
 have hT:s.TypeIs (.ref it) "set_iterator":=⟨_,hi,hc⟩
 refine wpAny_pyIter_slot hT yz (wpAny_call_entry yz hT gx ?_ (QT _)); show wpAny _ _ (ret (.ref it)) _ _ s
 exact wpAny_pure ⟨_,rfl, "set_iterator",_,hT,slot_si_next.lookup,h⟩
theorem Yq {it a:Addr} {ep:Nat} {es:Array (Int×Value)} {t:SetTable} (hh:A.handled=none) (hb:w.params.followText "set-order"=true) (hf:t.fits es.size=true) (hne:a≠it) :
  Walks prog w A it [it,a] [it] es.size (fun i v=>((pickOrder (w.params.setOrder a ep) es).toList.map (·.2))[i]?=some v) (fun i h=>h.get? it=some (wm (rawInt 0) i a es.size ep)/\h.get? a=some (jv es ep t)) where
 sub:=fun b hb=>by simp at hb; simp [hb]
 frame:=fun _ _ _ st hk=>⟨hk it (by simp) _ st.1,hk a (by simp) _ st.2⟩
 item:=fun i s Q E hi st hQ=>by
  have hlen:(pickOrder (w.params.setOrder a ep) es).size=es.size:=by
   have:=(xE (w.params.setOrder a ep) es).length_eq
   simpa using this
  have hlt:i < (pickOrder (w.params.setOrder a ep) es).size:=by omega
  obtain ⟨e,he⟩:∃ e,(pickOrder (w.params.setOrder a ep) es)[i]?=some e:=⟨_,Array.getElem?_eq_getElem hlt⟩
  refine QV (x:=e.2) (nx:=0) st.1 st.2 hf rfl (fun A1 Q1 E1 q=>?_) fun h' hi' sb=>hQ e.2 h' s.toks ?_ ⟨hi',?_⟩ fun b o nb eo=>?_
  ·unfold setNext
   refine wpAny_bind (wpAny_setState_of st.2 rfl hf ?_)
   dsimp only
   refine wpAny_bind (m:=setsByText) (wpAny_bind (wpAny_askSetting (wpAny_pure ?_)))
   rw [kI hb,if_pos rfl,if_neg (by simp)]
   refine wpAny_bind ?_
   unfold setWalk
   refine wpAny_bind (wpAny_setState_of st.2 rfl hf ?_)
   dsimp only
   refine wpAny_bind (m:=setsByText) (wpAny_bind (wpAny_askSetting (wpAny_pure ?_)))
   rw [kI hb,if_pos rfl]
   refine wpAny_bind (wpAny_askSetting (wpAny_pure ?_))
   refine wpAny_pure ?_
   rw [show (pickOrder ((⟨(model prog w).prog,(model prog w).w.params⟩:Setting).params.setOrder a ep) es)[i]?=some e from he]
   exact q
  ·rw [List.getElem?_map,Array.getElem?_toList,he]
   rfl
  ·rw [sb.2 a hne]
   exact st.2
  ·rw [sb.2 b (fun z=>nb (by simp [z]))]
   exact eo
 done:=fun s Q E st hQ=>by
  have hlen:(pickOrder (w.params.setOrder a ep) es).size=es.size:=by
   have:=(xE (w.params.setOrder a ep) es).length_eq
   simpa using this
  refine QW hh st.1 st.2 hf rfl (fun A1 Q1 E1 q=>?_) fun h' eb=>hQ h' s.toks fun b o nb eo=>eb b o (fun z=>nb (by simp [z])) eo
  unfold setNext
  refine wpAny_bind (wpAny_setState_of st.2 rfl hf ?_)
  dsimp only
  refine wpAny_bind (m:=setsByText) (wpAny_bind (wpAny_askSetting (wpAny_pure ?_)))
  rw [kI hb,if_pos rfl,if_neg (by simp)]
  refine wpAny_bind ?_
  unfold setWalk
  refine wpAny_bind (wpAny_setState_of st.2 rfl hf ?_)
  dsimp only
  refine wpAny_bind (m:=setsByText) (wpAny_bind (wpAny_askSetting (wpAny_pure ?_)))
  rw [kI hb,if_pos rfl]
  refine wpAny_bind (wpAny_askSetting (wpAny_pure ?_))
  refine wpAny_pure ?_
  rw [show (pickOrder ((⟨(model prog w).prog,(model prog w).w.params⟩:Setting).params.setOrder a ep) es)[es.size]?=none from Array.getElem?_eq_none (Nat.le_of_eq hlen)]
  exact q
 self:=fun i s Q E st hQ=>xF st.1 rfl hQ
noncomputable def uq (t:SetTable) (i:Nat):Nat:=if i=0 then 0 else t.place.getD 0 0+1
theorem QX (j k:Nat):SetTable.below #[j] k=if j < k then 1 else 0:=by
 unfold SetTable.below
 show SetTable.below.go #[j] k 1 0 1=_
 unfold SetTable.below.go
 rw [if_pos (by omega)]
 show (if (#[j]:Array Nat).getD 0 k < k then SetTable.below.go #[j] k 0 1 1 else SetTable.below.go #[j] k 0 0 0)=_
 show (if j < k then SetTable.below.go #[j] k 0 1 1 else SetTable.below.go #[j] k 0 0 0)=_
 split <;> rfl
theorem VG {a:Addr} {ep i:Nat} {es:Array (Int×Value)} {t:SetTable} {Q:Option (Value×Nat)->Shared->Prop} (hb:w.params.followText "set-order"=false) (hf:t.fits es.size=true) (hl:t.led=true) (hz:es.size<=1) (ha:s.heap.get? a=some (jv es ep t)) (hi:i<=es.size)
  (q:Q (match es[i]? with | some e=>some (e.2,uq t (i+1)) | none=>none) s):wpAny (model prog w) A (setNext a (uq t i) i ep) Q E s:=by
 have hps:t.place.size=es.size:=by
  have:=hf
  simp only [SetTable.fits,Bool.and_eq_true,beq_iff_eq] at this
  exact this.1
 unfold setNext
 refine wpAny_bind (wpAny_setState_of ha rfl hf ?_)
 dsimp only
 refine wpAny_bind (m:=setsByText) (wpAny_bind (wpAny_askSetting (wpAny_pure ?_)))
 rw [kI hb,if_neg (by simp)]
 show wpAny _ _ (if (!t.plain&&decide (es.size > 1))=true then _ else _) _ _ _
 rw [if_neg (by simp; intro _; omega)]
 refine wpAny_bind ?_
 show wpAny _ _ (if (!t.led&&!es.isEmpty)=true then _ else _) _ _ _
 rw [hl,if_neg (by simp)]
 refine wpAny_pure (wpAny_pure ?_)
 have e:(match es[SetTable.below t.place (uq t i)]?,t.place[SetTable.below t.place (uq t i)]? with | some (_,x),some j=>some (x,j+1) | _,_=>none)=(match es[i]? with | some e=>some (e.2,uq t (i+1)) | none=>none:Option (Value×Nat)):=by
  obtain ⟨l⟩:=es
  obtain ⟨mask,⟨pl⟩,du,fi,le,mo,pn⟩:=t
  cases l with
  | nil=>simp
  | cons e0 l=>
   cases l with
   | cons _ _=>exact absurd hz (by simp)
   | nil=>
    cases pl with
    | nil=>exact absurd hps (by simp)
    | cons j pl=>
     cases pl with
     | cons _ _=>exact absurd hps (by simp)
     | nil=>
      have hi1:i=0\/i=1:=by simp at hi; omega
      rcases hi1 with rfl | rfl
      ·show (match (#[e0]:Array (Int×Value))[SetTable.below #[j] 0]?,(#[j]:Array Nat)[SetTable.below #[j] 0]? with | some (_,x),some j=>some (x,j+1) | _,_=>none)=some (e0.2,j+1)
       rw [QX,if_neg (by omega)]
       rfl
      ·show (match (#[e0]:Array (Int×Value))[SetTable.below #[j] (j+1)]?,(#[j]:Array Nat)[SetTable.below #[j] (j+1)]? with | some (_,x),some j=>some (x,j+1) | _,_=>none)=none
       rw [QX,if_pos (by omega)]
       rfl
 exact Eq.mp (congrArg (fun z=>Q z s) e.symm) q
theorem ZK {it a:Addr} {ep:Nat} {es:Array (Int×Value)} {t:SetTable} (hh:A.handled=none) (hb:w.params.followText "set-order"=false) (hf:t.fits es.size=true) (hl:t.led=true) (hz:es.size<=1) (hne:a≠it) :
  Walks prog w A it [it,a] [it] es.size (fun i v=>(es.toList.map (·.2))[i]?=some v) (fun i h=>h.get? it=some (wm (rawInt (uq t i)) i a es.size ep)/\h.get? a=some (jv es ep t)) where
 sub:=fun b hb=>by simp at hb; simp [hb]
 frame:=fun _ _ _ st hk=>⟨hk it (by simp) _ st.1,hk a (by simp) _ st.2⟩
 item:=fun i s Q E hi st hQ=>by
  have he:es[i]?=some es[i]:=Array.getElem?_eq_getElem hi
  refine QV (x:=es[i].2) (nx:=uq t (i+1)) st.1 st.2 hf rfl (fun A1 Q1 E1 q=>VG hb hf hl hz st.2 (Nat.le_of_lt hi) (by rw [he]; exact q)) fun h' hi' sb=>hQ es[i].2 h' s.toks ?_ ⟨hi',?_⟩ fun b o nb eo=>?_
  ·rw [List.getElem?_map,Array.getElem?_toList,he]
   rfl
  ·rw [sb.2 a hne]
   exact st.2
  ·rw [sb.2 b (fun z=>nb (by simp [z]))]
   exact eo
 done:=fun s Q E st hQ=>QW hh st.1 st.2 hf rfl (fun A1 Q1 E1 q=>VG hb hf hl hz st.2 (Nat.le_refl _) (by rw [Array.getElem?_eq_none (Nat.le_refl _)]; exact q)) fun h' eb=>hQ h' s.toks fun b o nb eo=>eb b o (fun z=>nb (by simp [z])) eo
 self:=fun i s Q E st hQ=>xF st.1 rfl hQ
noncomputable def qcD (es:Array (Int×Value)) (ps:List Nat):List Value:=ps.map fun k=>(es[k]?.map (·.2)).getD .none
theorem Yr {es:Array (Int×Value)} {ps:List Nat} (h:ps.Perm (List.range es.size)):(qcD es ps).Perm (es.toList.map (·.2)):=by
 have e:qcD es (List.range es.size)=es.toList.map (·.2):=by
  apply List.ext_getElem?
  intro i
  unfold qcD
  rw [List.getElem?_map,List.getElem?_map,show es.toList[i]?=es[i]? from Array.getElem?_toList]
  by_cases hi:i < es.size
  ·rw [List.getElem?_range hi,Array.getElem?_eq_getElem hi]
   simp [hi]
  ·rw [List.getElem?_eq_none (by rw [List.length_range]; omega),Array.getElem?_eq_none (by omega)]
   rfl
 rw [<-e]
 exact h.map _
theorem WH {it a p:Addr} {ep m:Nat} {es:Array (Int×Value)} {t:SetTable} {ps:List Nat} (hh:A.handled=none) (hf:t.fits es.size=true) (hp:ps.Perm (List.range es.size)) (hne:a≠it) (hpe:p≠it) :
  Walks prog w A it [it,a,p] [it] es.size (fun i v=>(qcD es ps)[i]?=some v) (fun i h=>h.get? it=some (wm (.ref p) i a es.size ep)/\h.get? a=some (jv es ep t)/\h.get? p=some { cls:=.type "tuple",data:=.seq (ps.map fun (i:Nat)=>rawInt i).toArray m }) where
 sub:=fun b hb=>by simp at hb; simp [hb]
 frame:=fun _ _ _ st hk=>⟨hk it (by simp) _ st.1,hk a (by simp) _ st.2.1,hk p (by simp) _ st.2.2⟩
 item:=fun i s Q E hi st hQ=>by
  have hlen:ps.length=es.size:=by rw [hp.length_eq,List.length_range]
  have hil:i < ps.length:=by omega
  have hk:ps[i] < es.size:=List.mem_range.mp (hp.mem_iff.mp (List.getElem_mem hil))
  have he:es[ps[i]]?=some es[ps[i]]:=Array.getElem?_eq_getElem hk
  refine WG (x:=es[ps[i]].2) (hx:=es[ps[i]].1) (pl:=ps[i]) st.1 st.2.1 hf rfl st.2.2 ?_ he fun h' hi' sb=>hQ es[ps[i]].2 h' s.toks ?_ ⟨hi',?_,?_⟩ fun b o nb eo=>?_
  ·rw [List.getElem?_toArray,List.getElem?_map,List.getElem?_eq_getElem hil]
   rfl
  ·unfold qcD
   rw [List.getElem?_map,List.getElem?_eq_getElem hil]
   simp [he]
  ·rw [sb.2 a hne]
   exact st.2.1
  ·rw [sb.2 p hpe]
   exact st.2.2
  ·rw [sb.2 b (fun z=>nb (by simp [z]))]
   exact eo
 done:=fun s Q E st hQ=>by
  have hlen:ps.length=es.size:=by rw [hp.length_eq,List.length_range]
  refine Yp hh st.1 st.2.1 hf rfl st.2.2 ?_ fun h' eb=>hQ h' s.toks fun b o nb eo=>eb b o (fun z=>nb (by simp [z])) eo
  rw [List.getElem?_toArray,List.getElem?_eq_none (by simp; omega)]
 self:=fun i s Q E st hQ=>xF st.1 rfl hQ
theorem ZL {a:Addr} {ep:Nat} {es:Array (Int×Value)} {t:SetTable} {ks:List Str} {A1:Around} {Q:Value->Shared->Prop} (hh:A1.handled=none) (ha:s.heap.get? a=some (jv es ep t)) (d:SetD prog w es t ks)
  (hQ:∀ (it:Addr) (h':Heap) (dr:Drawn) (ord:List Value) (fp:List Addr) (St:Nat->Heap->Prop),(∀ b o,s.heap.get? b=some o->h'.get? b=some o)->ord.Perm (es.toList.map (·.2))->Walks prog w A1 it fp [it] es.size (fun i v=>ord[i]?=some v) St->St 0 h' ->
   (∀ b∈fp,b=a\/s.heap.objs.size<=b)->s.heap.objs.size<=it->Q (.ref it) { s with heap:=h',drawn:=dr }):wpAny (model prog w) A (pyIter (.ref a)) Q E s:=by
 have hT:s.TypeIs (.ref a) "set":=⟨_,ha,rfl⟩
 have hlt:a < s.heap.objs.size:=Heap.lt_size ha
 refine wpAny_pyIter_slot hT PySem.F.slot_set_iter (wpAny_call_entry PySem.F.slot_set_iter hT QU ?_ (PySem.F.args_set_iter_1 _))
 show wpAny _ _ (Builtin.Frozenset.sizeOf a >>= _) _ _ s
 refine wpAny_bind (m:=Builtin.Frozenset.sizeOf a) (wpAny_bind (wpAny_setEntries_of ha rfl d.fits (wpAny_pure ?_)))
 refine wpAny_bind (m:=setDrawn a) ?_
 unfold setDrawn
 refine wpAny_bind (wpAny_setState_of ha rfl d.fits ?_)
 dsimp only
 refine wpAny_bind (m:=setsByText) (wpAny_bind (wpAny_askSetting (wpAny_pure ?_)))
 refine wpAny_pure ?_
 cases hb:w.params.followText "set-order" with
 | true=>
  rw [kI hb,if_neg (by simp)]
  refine wpAny_bind (wpAny_pure ?_)
  refine wpAny_bind (m:=setEpoch a) (wpAny_setEpoch_of ha rfl d.fits ?_)
  refine wpAny_bind (wpAny_newObj_type (wpAny_pure ⟨_,rfl, "set_iterator",_,⟨_,Heap.get?_push_size _ rfl,rfl⟩,slot_si_next.lookup,?_⟩))
  refine hQ _ _ s.drawn _ _ _ (fun b o e=>Heap.get?_push_of_some _ e) ((xE (w.params.setOrder a ep) es).map _) (Yq hh hb d.fits (Nat.ne_of_lt hlt)) ⟨Heap.get?_push_size _ rfl,Heap.get?_push_of_some _ ha⟩ ?_ (Nat.le_refl _)
  intro b hb
  rcases List.mem_cons.mp hb with z | z
  ·exact .inr (z ▸ Nat.le_refl _)
  ·exact .inl (List.mem_singleton.mp z)
 | false=>
  have hled:t.led=true:=by rw [d.led,hb]; rfl
  rw [kI hb]
  show wpAny _ _ (if (!false&&(!t.plain&&decide (es.size > 1)))=true then _ else _) _ _ _
  by_cases hn:es.size<=1
  ·rw [if_neg (by simp; intro _; omega)]
   refine wpAny_bind (wpAny_pure ?_)
   refine wpAny_bind (m:=setEpoch a) (wpAny_setEpoch_of ha rfl d.fits ?_)
   refine wpAny_bind (wpAny_newObj_type (wpAny_pure ⟨_,rfl, "set_iterator",_,⟨_,Heap.get?_push_size _ rfl,rfl⟩,slot_si_next.lookup,?_⟩))
   refine hQ _ _ s.drawn _ _ _ (fun b o e=>Heap.get?_push_of_some _ e) (List.Perm.refl _) (ZK hh hb d.fits hled hn (Nat.ne_of_lt hlt)) ⟨Heap.get?_push_size _ rfl,Heap.get?_push_of_some _ ha⟩ ?_ (Nat.le_refl _)
   intro b hb
   rcases List.mem_cons.mp hb with z | z
   ·exact .inr (z ▸ Nat.le_refl _)
   ·exact .inl (List.mem_singleton.mp z)
  ·have hpl:t.plain=false:=d.plain fun z=>by
    have h0:=d.size
    rw [z,List.length_nil] at h0
    omega
   rw [if_pos (by rw [hpl]; simp; omega)]
   refine wpAny_bind (Yn es.size (List.range es.size) s (by simp) fun ps dr hp=>?_)
   have hpl2:ps.length=es.size:=by rw [hp.length_eq,List.length_range]
   have hsz:(ps.map fun (i:Nat)=>rawInt i).length<=sizeLine:=by rw [List.length_map,hpl2]; exact fits_of_scanBound d.bd
   refine wpAny_bind (wpAny_newTuple ?_ hsz)
   refine wpAny_bind (m:=setEpoch a) (wpAny_setEpoch_of (Heap.get?_push_of_some _ ha) rfl d.fits ?_)
   refine wpAny_bind (wpAny_newObj_type (wpAny_pure ⟨_,rfl, "set_iterator",_,⟨_,Heap.get?_push_size _ rfl,rfl⟩,slot_si_next.lookup,?_⟩))
   have hp1:s.heap.objs.size < (s.heap.push ({ cls:=.type "tuple",data:=.seq (ps.map fun (i:Nat)=>rawInt i).toArray }:Obj)).objs.size:=by rw [Heap.size_push]; exact Nat.lt_succ_self _
   refine hQ _ _ dr _ _ _ (fun b o e=>Heap.get?_push_of_some _ (Heap.get?_push_of_some _ e)) (Yr hp) (WH (p:=s.heap.objs.size) hh d.fits hp (Nat.ne_of_lt (Nat.lt_trans hlt hp1)) (Nat.ne_of_lt hp1)) ⟨Heap.get?_push_size _ rfl,Heap.get?_push_of_some _ (Heap.get?_push_of_some _ ha),Heap.get?_push_of_some _ (Heap.get?_push_size _ rfl)⟩ ?_ (Nat.le_of_lt hp1)
   intro b hb
   rcases List.mem_cons.mp hb with z | z
   ·exact .inr (z ▸ Nat.le_of_lt hp1)
   ·rcases List.mem_cons.mp z with z | z
    ·exact .inl z
    ·exact .inr (Nat.le_of_eq (List.mem_singleton.mp z).symm)
end
section
variable {prog:Program} {w:World} {A:Around} {E:Value->Shared->Prop} {s:Shared}
theorem ZM {ord:List Value} {acc:Array Value} {n:Nat} (hl:ord.length=n) (h:ItemsOf (fun i v=>ord[i]?=some v) acc n):acc.toList=ord:=by
 apply List.ext_getElem?
 intro i
 rw [show acc.toList[i]?=acc[i]? from Array.getElem?_toList]
 by_cases hi:i < acc.size
 ·rw [Array.getElem?_eq_getElem hi]
  exact (h.2 i _ (Array.getElem?_eq_getElem hi)).symm
 ·rw [Array.getElem?_eq_none (by omega),List.getElem?_eq_none (by have:=h.1; omega)]
theorem JY {a:Addr} {ep:Nat} {es:Array (Int×Value)} {t:SetTable} {ks:List Str} {Q:List Value->Shared->Prop} (hh:A.handled=none) (ha:s.heap.get? a=some (jv es ep t)) (d:SetD prog w es t ks)
  (hQ:∀ h' dr tk ord,(∀ b o,s.heap.get? b=some o->h'.get? b=some o)->ord.Perm (es.toList.map (·.2))->Q ord { s with heap:=h',drawn:=dr,toks:=tk }):wpAny (model prog w) A (collect (.ref a)) Q E s:=by
 have hlt:a < s.heap.objs.size:=Heap.lt_size ha
 unfold collect
 refine wpAny_bind (wpAny_runValue (codeAny_builtin PySem.F.entry_proto_collect ?_)); rw [Around.under_plainId PySem.F.plain_proto_collect _]
 show wpAny _ A.in1 (newList [] >>= fun l=>again (.builtin "list.__iadd__" ⟨[l,.ref a],[]⟩)) _ _ s; refine wpAny_bind (wpAny_newObj_type ?_)
 refine wpAny_pure ⟨plainId_quiet PySem.F.plain_list_iadd _,codeAny_builtin PySem.F.entry_list_iadd ?_⟩; rw [Around.under_plainId PySem.F.plain_list_iadd _]
 have ha1:(s.heap.push { cls:=.type "list",data:=.seq ([]:List Value).toArray }).get? a=some (jv es ep t):=Heap.get?_push_of_some _ ha
 have hT:Shared.TypeIs { s with heap:=s.heap.push { cls:=.type "list",data:=.seq ([]:List Value).toArray } } (.ref a) "set":=⟨_,ha1,rfl⟩
 show wpAny _ A.in1 (Builtin.List.listExtendWith (.ref s.heap.objs.size) (.ref a) (.ref s.heap.objs.size)) _ _ _; unfold Builtin.List.listExtendWith
 refine wpAny_bind (wpAny_typeOf hT ?_)
 have h1:Builtin.List.listSameRef (.ref s.heap.objs.size) (.ref a)=false:=by simp [Builtin.List.listSameRef,Nat.ne_of_gt hlt]
 rw [if_neg (by rw [h1]; decide)]
 refine wpAny_bind (ZL (A1:=A.in1) hh ha1 d fun it h2 dr ord fp St k2 hp W hst hfp hit=>?_)
 have hS1:h2.get? s.heap.objs.size=some { cls:=.type "list",data:=.seq ([]:List Value).toArray }:=k2 _ _ (Heap.get?_push_size _ rfl)
 have ha2:h2.get? a=some (jv es ep t):=k2 _ _ ha1
 refine wpAny_bind (wpAny_holding ?_)
 unfold Builtin.List.listLengthHint
 have hT2:Shared.TypeIs { s with heap:=h2,drawn:=dr } (.ref a) "set":=⟨_,ha2,rfl⟩
 refine wpAny_bind (wpAny_specialOf hT2 PySem.F.slot_set_len.lookup ?_)
 (generalize hid:("set.__len__":String)=id0; (fail_if_success (clear hid id0)); wp_delta; rw [show splitId id0=some ("set", "__len__") from by subst hid; decide +kernel]; subst hid)
 refine wpAny_bind (wpAny_isInstance (b:=true) hT2 (by rw [isSubtype_type]; kernel_rfl) ?_)
 refine wpAny_bind (m:=typeOf (.ref a)) (wpAny_typeOf hT2 ?_)
 refine wpAny_pure ?_
 show wpAny _ A.in1 (rule "list.extend.makes-room" >>= fun _=>Builtin.List.listTouch (.ref s.heap.objs.size) >>= fun _=>again (.builtin "list.extend.loop" ⟨[.ref s.heap.objs.size,.ref it,.ref s.heap.objs.size],[]⟩)) _ _ _
 refine wpAny_bind (wpAny_rule (wpAny_bind ?_)); show wpAny _ A.in1 (updateSeq s.heap.objs.size (·.push .none) >>= fun _=>updateSeq s.heap.objs.size (·.pop)) _ _ _
 refine wpAny_bind (wpAny_updateSeq hS1 rfl ?_); have hS₂:=Heap.get?_update_self (Obj.mapSeq (·.push Value.none)) hS1 rfl
 refine wpAny_updateSeq hS₂ rfl ?_; have hS₃:=Heap.get?_update_self (Obj.mapSeq (·.pop)) hS₂ rfl
 have hzs:(s.heap.push ({ cls:=.type "list",data:=.seq ([]:List Value).toArray }:Obj)).objs.size=s.heap.objs.size+1:=Heap.size_push ..
 have oth:∀ b o,b≠s.heap.objs.size->h2.get? b=some o->((h2.update s.heap.objs.size (Obj.mapSeq (·.push Value.none))).update s.heap.objs.size (Obj.mapSeq (·.pop))).get? b=some o:=fun b o hb e=>(Heap.get?_update_other _ _ (Ne.symm hb)).trans ((Heap.get?_update_other _ _ (Ne.symm hb)).trans e)
 have nf:s.heap.objs.size∉fp:=fun z=>by
  rcases hfp _ z with q | q
  ·exact Nat.ne_of_gt hlt q
  ·exact Nat.not_succ_le_self _ (hzs ▸ q)
 have hlen:ord.length=es.size:=by
  rw [hp.length_eq]
  simp
 refine wpAny_pure ⟨plainId_quiet PySem.F.plain_extend_loop _,codeAny_extend_loopS W.toS (fits_of_scanBound d.bd) _ nf _ es.size 0 _ _ _ rfl (Nat.zero_le _) (W.frame 0 h2 _ hst fun b hb o e=>oth b o (fun z=>nf (z ▸ hb)) e) hS₃ (ItemsOf.nil _) fun s' acc' c' hm hS' hacc=>?_⟩
 show wpAny _ A (load s.heap.objs.size >>= _) _ _ s'
 refine wpAny_bind (wpAny_load hS' (wpAny_pure ?_))
 rw [ZM hlen hacc]
 obtain ⟨h',g',d',tk',os'⟩:=s'
 have eg:g'=s.gens:=hm.gens
 have ed:d'=dr:=hm.drawn
 have eo:os'=s.os:=hm.os
 subst eg ed eo
 refine hQ h' d' tk' ord (fun b o e=>?_) hp
 have hb:=Heap.lt_size e
 refine hm.heap b o (fun z=>?_) (oth b o (Nat.ne_of_lt hb) (k2 b o (Heap.get?_push_of_some _ e)))
 rcases List.mem_cons.mp z with z | z
 ·exact Nat.ne_of_lt hb z
 ·have h3:s.heap.objs.size+1<=it:=hzs ▸ hit
  rw [<-List.mem_singleton.mp z] at h3
  exact Nat.lt_irrefl _ (Nat.lt_trans hb h3)
theorem WI {a:Addr} {ks:List Str} {Q:Value->Shared->Prop} (hh:A.handled=none) (hS:SetS prog w s.heap a ks) (h64:ks.length < 64)
  (hQ:∀ (h1 h':Heap) dr tk vs e ss,(∀ b o,s.heap.get? b=some o->h1.get? b=some o)->(∀ b o,h1.get? b=some o->h'.get? b=some o)->h'.get? h1.objs.size=some (seqObj "list" vs e)->StrsAre vs.toList ss->ss.Perm ks->sortedS ss=true->Q (.ref h1.objs.size) { s with heap:=h',drawn:=dr,toks:=tk }) :
  wpAny (model prog w) A (call (.builtin "sorted") [.ref a]) Q E s:=by
 obtain ⟨es,ep,t,ha,d⟩:=hS
 refine Calls.call_function_entry kind_sorted plain_sorted entry_sorted (args_sorted1 _) ?_; unfold Builtin.«sorted»
 refine wpAny_bind (m:=checkCount "sorted" 1 1 _) (wpAny_pure ?_)
 refine wpAny_bind (JY (by exact hh) ha d fun h1 dr tk ord k1 hp=>?_)
 have hst:StrsAre ord (ord.map strOf):=strsAre_map ord fun v hv=>by
  obtain ⟨e,he,rfl⟩:=List.mem_map.mp (hp.mem_iff.mp hv)
  exact Yj d.el he
 have hpk:(ord.map strOf).Perm ks:=(hp.map strOf).trans (by rw [List.map_map]; exact d.perm)
 have hlen:ord.length=ks.length:=by
  have:=hpk.length_eq
  rwa [List.length_map] at this
 refine wpAny_bind (wpAny_newList ?_ (by rw [hlen,sizeLine_eq]; omega))
 have hoL:(h1.push (seqObj "list" ord.toArray 0)).get? h1.objs.size=some (seqObj "list" ord.toArray 0):=Heap.get?_push_size _ rfl
 refine wpAny_bind (wpAny_holding (wpAny_call_entry slot_list_sort (s:={ s with heap:=h1.push (seqObj "list" ord.toArray 0),drawn:=dr,toks:=tk }) ⟨_,hoL,rfl⟩ entry_list_sort (list_sort_treeK strKind_oneLt hoL hst.keysOf (fun v₁ v₂ rest e=>keyKind_strs (by rw [<-e]; exact hst)) (by rw [hlen]; exact h64) fun st' a1 a2=>⟨_,rfl,?_⟩) (args_list_sort _)))
 obtain ⟨ss',b1,b2,b3⟩:=sorted_out_str hst a1 a2
 obtain ⟨e,he⟩:=sortedHeap_at (out:=(arrOf st').map (·.2)) hoL
 refine wpAny_pure ⟨_,rfl,hQ h1 _ dr tk _ e ss' k1 (fun b o eb=>?_) he b1 (b2.trans hpk) b3⟩
 have hb:=Heap.lt_size eb
 rw [sortedHeap_old (Nat.ne_of_lt hb) (by rw [Heap.size_push]; exact Nat.lt_succ_of_lt hb)]
 exact Heap.get?_push_of_some _ eb
end
section
variable {prog:Program} {w:World} {A:Around} {E:Value->Shared->Prop} {s:Shared}
theorem QY {it l:Addr} {i:Nat} {items:Array Value} {x:Value} {Q:Value->Shared->Prop} (hit:s.heap.IsTupleIter it l i) (hl:s.heap.IsTuple l items) (hx:items[i]?=some x)
  (hQ:∀ h',h'.IsTupleIter it l (i+1)->Heap.SameBut it s.heap h'->Q x { s with heap:=h' }):wpAny (model prog w) A (Builtin.SmallTypes.nextOf (.ref it)) Q E s:=by
 obtain ⟨o,ho,hc,hd⟩:=id hit
 obtain ⟨ol,hol,_,nl,hdl⟩:=hl
 unfold Builtin.SmallTypes.nextOf
 refine wpAny_bind (wpAny_callSpecial?_slot (name:=Str.ofString "__next__") hit.typeIs PySem.F.slot_tuple_iterator_next (wpAny_call_entry PySem.F.slot_tuple_iterator_next hit.typeIs PySem.F.entry_tuple_iterator_next ?_ (PySem.F.args_tuple_iterator_next_1 _))); show wpAny _ _ (field (.ref it) 0 >>= _) _ _ s
 refine wpAny_bind (wpAny_field ho hd (x:=.ref l) rfl ?_); show wpAny _ _ (if (Value.ref l == Value.none)=true then _ else _) _ _ s
 rw [if_neg (show ¬((Value.ref l == Value.none)=true) from Bool.false_ne_true)]; show wpAny _ _ (field (.ref it) 1 >>= _) _ _ s
 refine wpAny_bind (wpAny_field ho hd (x:=.int i 0) rfl ?_); show wpAny _ _ (seqItems? (.ref l) >>= _) _ _ s
 refine wpAny_bind (wpAny_seqItems hol hdl ?_); simp only [Int.toNat_natCast,hx]
 refine wpAny_bind (wpAny_setField ho hd (by simp) (wpAny_pure ⟨x,rfl,wpAny_pure (hQ _ ?_ (Heap.SameBut.update ..))⟩)); exact ⟨_,Heap.get?_update_self _ ho (Obj.isFreed_of_fields (Obj.data_mapFields hd _)),(Obj.cls_mapFields ..).trans hc,by rw [Obj.data_mapFields hd]; simp [rawInt]⟩
theorem yK {it l:Addr} {i:Nat} {items:Array Value} {Q:Value->Shared->Prop} (hh:A.handled=none) (hit:s.heap.IsTupleIter it l i) (hl:s.heap.IsTuple l items) (hx:items[i]?=none)
  (hE:∀ h' e,Heap.ExtBut it s.heap h'->(∃ o,h'.get? e=some o/\o.cls=.type "StopIteration")->E (.ref e) { s with heap:=h' }):wpAny (model prog w) A (Builtin.SmallTypes.nextOf (.ref it)) Q E s:=by
 obtain ⟨o,ho,hc,hd⟩:=id hit
 obtain ⟨ol,hol,_,nl,hdl⟩:=hl
 unfold Builtin.SmallTypes.nextOf
 refine wpAny_bind (wpAny_callSpecial?_slot (name:=Str.ofString "__next__") hit.typeIs PySem.F.slot_tuple_iterator_next (wpAny_call_entry PySem.F.slot_tuple_iterator_next hit.typeIs PySem.F.entry_tuple_iterator_next ?_ (PySem.F.args_tuple_iterator_next_1 _))); show wpAny _ _ (field (.ref it) 0 >>= _) _ _ s
 refine wpAny_bind (wpAny_field ho hd (x:=.ref l) rfl ?_); show wpAny _ _ (if (Value.ref l == Value.none)=true then _ else _) _ _ s
 rw [if_neg (show ¬((Value.ref l == Value.none)=true) from Bool.false_ne_true)]; show wpAny _ _ (field (.ref it) 1 >>= _) _ _ s
 refine wpAny_bind (wpAny_field ho hd (x:=.int i 0) rfl ?_); show wpAny _ _ (seqItems? (.ref l) >>= _) _ _ s
 refine wpAny_bind (wpAny_seqItems hol hdl ?_); simp only [Int.toNat_natCast,hx]
 refine wpAny_bind (wpAny_rule (wpAny_bind (wpAny_setField ho hd (by simp) ?_))); show wpAny _ _ (newExc (.type "StopIteration") [] >>= _) _ _ _
 refine wpAny_bind ?_; simp only [newExc,newTuple]; refine wpAny_bind (wpAny_newObj_type ?_ (by size_fits))
 refine wpAny_bind (m:=firstArgMember _ _) (wpAny_of_eq (a:=Value.none) (by first | rfl | (simp only [firstArgMember]; rfl)) ?_); refine wpAny_newObj_type ?_ (by size_fits); simp only [raiseNew]
 refine wpAny_bind (wpAny_handled ?_); first | rw [show A.in1.handled=none from hh] | rw [hh]
 refine wpAny_bind (wpAny_pure (wpAny_throw ?_)); exact hE _ _ (((Heap.SameBut.update ..).extBut.push _).push _) ⟨_,Heap.get?_push_size _ rfl,rfl⟩
theorem JZ (hh:A.handled=none) (it l:Addr) (hne:l≠it) (items:Array Value):Draws prog w A it [it,l] items.size (fun i v=>items[i]?=some v) (fun i h=>h.IsTupleIter it l i/\h.IsTuple l items) where
 live:=fun _ _ st=>let ⟨o,ho,_⟩:=st.1; ⟨o,ho⟩
 frame:=fun _ _ _ st hk=>⟨st.1.at fun o e=>hk it (by simp) o e,let ⟨o,e,c⟩:=st.2; ⟨o,hk l (by simp) o e,c⟩⟩
 item:=fun i s Q E hi st hQ=>by
  refine QY st.1 st.2 (x:=items[i]) (by simp [hi]) fun h' hit' hs'=>hQ _ h' s.toks (by simp [hi]) ⟨hit',?_⟩ hs'
  obtain ⟨o,e,c⟩:=st.2
  exact ⟨o,(hs'.2 l hne).trans e,c⟩
 done:=fun s Q E st hE=>yK hh st.1 st.2 (by simp) hE
structure Apart2 (z TI TO i1 i2:Addr) (fp1 fp2:List Addr):Prop where
 TIz:TI≠z
 TOz:TO≠z
 i1z:i1≠z
 i2z:i2≠z
 TITO:TI≠TO
 TIi1:TI≠i1
 TIi2:TI≠i2
 TOi1:TO≠i1
 TOi2:TO≠i2
 i12:i1≠i2
 z1:z∉fp1
 z2:z∉fp2
 o1:TO∉fp1
 o2:TO∉fp2
 a12:i1∉fp2
 a21:i2∉fp1
variable {z TI TO i1 i2:Addr} {fp1 fp2:List Addr} {n1 n2 i:Nat} {P1 P2:Nat->Value->Prop} {S1 S2:Nat->Heap->Prop} {a b:Value}
theorem ZN {Q:Value->Shared->Prop} (D:Apart2 z TI TO i1 i2 fp1 fp2) (D1:Draws prog w A i1 fp1 n1 P1 S1) (D2:Draws prog w A i2 fp2 n2 P2 S2)
  (hz:IsZip s.heap z TI TO .none) (hTI:IsPair s.heap TI (.ref i1) (.ref i2)) (hTO:IsPair s.heap TO a b) (h1:S1 i s.heap) (h2:S2 i s.heap) (l1:i < n1) (l2:i < n2)
  (hQ:∀ x y h' tk,P1 i x->P2 i y->IsZip h' z TI TO (rawInt s.heap.objs.size)->IsPair h' TO x y->S1 (i+1) h'->S2 (i+1) h'->IsPair h' s.heap.objs.size x y ->
   (∀ c o,c≠z->c≠TO->c≠i1->c≠i2->s.heap.get? c=some o->h'.get? c=some o)->Q (.ref s.heap.objs.size) { s with heap:=h',toks:=tk }) :
  wpAny (model prog w) A (Builtin.«zip.__next__» ⟨[.ref z],[]⟩) (fun fin s'=>∃ v,fin=.done (.ret v)/\Q v s') E s:=by
 show wpAny _ _ (field (.ref z) 2 >>= _) _ _ _; refine wpAny_bind (wpAny_field hz rfl (x:=.bool false) rfl ?_)
 show wpAny _ _ (field (.ref z) 3 >>= _) _ _ _; refine wpAny_bind (wpAny_field hz rfl (x:=.ref TI) rfl ?_); refine wpAny_bind (wpAny_seqItems hTI rfl ?_)
 show wpAny _ _ (Builtin.SmallTypes.ownedTupleIsFree (.ref z) >>= _) _ _ _; refine wpAny_bind ?_; unfold Builtin.SmallTypes.ownedTupleIsFree
 refine wpAny_bind (wpAny_field hz rfl (x:=.none) rfl (wpAny_pure ?_)); simp only [if_true]
 refine wpAny_bind (wpAny_rule ?_); refine wpAny_bind (wpAny_field hz rfl (x:=.ref TO) rfl ?_)
 refine wpAny_bind (wpAny_setField_rec hz (by simp) fun h₁ hz₁ hs₁=>?_); replace hz₁:IsZip h₁ z TI TO .ellipsis:=hz₁
 refine wpAny_bind ?_; simp only [List.zipIdx_cons,List.zipIdx_nil,List.forIn_cons,List.forIn_nil]
 refine wpAny_bind (wpAny_bind (wpAny_onRaise ?_)); show wpAny _ _ (Builtin.SmallTypes.nextOf (.ref i1) >>= _) _ _ _
 refine wpAny_bind (D1.item i _ _ _ l1 (D1.frame _ _ _ h1 fun c hc o e=>hs₁.extBut _ _ (fun q=>D.z1 (q ▸ hc)) e) fun x h₂ tk₂ hx s1₂ hs₂=>wpAny_pure ?_)
 have hTO₂:IsPair h₂ TO a b:=(hs₂.2 _ D.TOi1).trans (hs₁.extBut _ _ D.TOz hTO)
 refine wpAny_bind (wpAny_seqItems hTO₂ rfl ?_); refine wpAny_bind (wpAny_updateSeq_pair hTO₂ fun h₃ hTO₃ hs₃=>?_)
 replace hTO₃:IsPair h₃ TO x b:=hTO₃; refine wpAny_bind (wpAny_letGo (wpAny_pure ?_))
 refine wpAny_bind (wpAny_bind (wpAny_onRaise ?_)); show wpAny _ _ (Builtin.SmallTypes.nextOf (.ref i2) >>= _) _ _ _
 refine wpAny_bind (D2.item i _ _ _ l2 (D2.frame _ _ _ h2 fun c hc o e=>(hs₃.extBut _ _ (fun q=>D.o2 (q ▸ hc)) ((hs₂.2 _ (fun q=>D.a12 (q ▸ hc))).trans (hs₁.extBut _ _ (fun q=>D.z2 (q ▸ hc)) e)))) fun y h₄ tk₄ hy s2₄ hs₄=>wpAny_pure ?_)
 have hTO₄:IsPair h₄ TO x b:=(hs₄.2 _ D.TOi2).trans hTO₃
 refine wpAny_bind (wpAny_seqItems hTO₄ rfl ?_); refine wpAny_bind (wpAny_updateSeq_pair hTO₄ fun h₅ hTO₅ hs₅=>?_)
 replace hTO₅:IsPair h₅ TO x y:=hTO₅; refine wpAny_bind (wpAny_letGo (wpAny_pure (wpAny_pure ?_)))
 refine wpAny_bind (wpAny_seqItems hTO₅ rfl ?_); refine wpAny_bind (wpAny_newTuple ?_)
 have hsz:h₅.objs.size=s.heap.objs.size:=by rw [hs₅.1,hs₄.1,hs₃.1,hs₂.1,hs₁.1]
 have hz₅:IsZip h₅ z TI TO .ellipsis:=hs₅.extBut _ _ D.TOz.symm ((hs₄.2 _ D.i2z.symm).trans (hs₃.extBut _ _ D.TOz.symm ((hs₂.2 _ D.i1z.symm).trans hz₁)))
 have hk₅:∀ c o,c≠z->c≠TO->c≠i1->c≠i2->s.heap.get? c=some o->h₅.get? c=some o:=fun c o c1 c2 c3 c4 e=>hs₅.extBut _ _ c2 ((hs₄.2 _ c4).trans (hs₃.extBut _ _ c2 ((hs₂.2 _ c3).trans (hs₁.extBut _ _ c1 e))))
 have hzlt:z < h₅.objs.size:=Heap.lt_size hz₅
 show wpAny _ _ (Builtin.SmallTypes.ownedTupleHandOut (.ref z) (.ref h₅.objs.size) >>= _) _ _ _; refine wpAny_bind ?_; unfold Builtin.SmallTypes.ownedTupleHandOut
 have hz₆:IsZip (h₅.push { cls:=.type "tuple",data:=.seq #[x,y] }) z TI TO .ellipsis:=Heap.get?_push_of_some _ hz₅
 refine wpAny_bind (wpAny_setField_rec hz₆ (by simp) fun h₇ hz₇ hs₇=>?_); replace hz₇:IsZip h₇ z TI TO (rawInt h₅.objs.size):=hz₇
 refine wpAny_setField_rec hz₇ (by simp) fun h₈ hz₈ hs₈=>?_; replace hz₈:IsZip h₈ z TI TO (rawInt h₅.objs.size):=hz₈
 have up:∀ c o,c≠z->h₅.get? c=some o->h₈.get? c=some o:=fun c o c1 e=>hs₈.extBut _ _ c1 (hs₇.extBut _ _ c1 (Heap.get?_push_of_some _ e))
 have hT₈:IsPair h₈ h₅.objs.size x y:=hs₈.extBut _ _ (Nat.ne_of_gt hzlt) (hs₇.extBut _ _ (Nat.ne_of_gt hzlt) (Heap.get?_push_size _ rfl))
 rw [hsz] at hz₈ hT₈
 refine wpAny_pure ⟨_,rfl,?_⟩
 show Q (.ref h₅.objs.size) _
 rw [hsz]
 refine hQ x y h₈ tk₄ hx hy hz₈ (up _ _ D.TOz hTO₅) (D1.frame _ _ _ s1₂ fun c hc o e=>up _ _ (fun q=>D.z1 (q ▸ hc)) (hs₅.extBut _ _ (fun q=>D.o1 (q ▸ hc)) ((hs₄.2 _ (fun q=>D.a21 (q ▸ hc))).trans (hs₃.extBut _ _ (fun q=>D.o1 (q ▸ hc)) e))))
  (D2.frame _ _ _ s2₄ fun c hc o e=>up _ _ (fun q=>D.z2 (q ▸ hc)) (hs₅.extBut _ _ (fun q=>D.o2 (q ▸ hc)) e)) hT₈ fun c o c1 c2 c3 c4 e=>up c o c1 (hk₅ c o c1 c2 c3 c4 e)
theorem qa6 {Q:Fin->Shared->Prop} (D:Apart2 z TI TO i1 i2 fp1 fp2) (D1:Draws prog w A i1 fp1 n1 P1 S1) (D2:Draws prog w A i2 fp2 n2 P2 S2)
  (hz:IsZip s.heap z TI TO .none) (hTI:IsPair s.heap TI (.ref i1) (.ref i2)) (hTO:IsPair s.heap TO a b) (h1:S1 i s.heap) (h2:S2 i s.heap) (hend:i=n1\/(i < n1/\i=n2))
  (hE:∀ h' tk e,(∀ c o,c≠z->c≠TO->c≠i1->c≠i2->s.heap.get? c=some o->h'.get? c=some o)->(∃ o,h'.get? e=some o/\o.cls=.type "StopIteration")->E (.ref e) { s with heap:=h',toks:=tk }) :
  wpAny (model prog w) A (Builtin.«zip.__next__» ⟨[.ref z],[]⟩) Q E s:=by
 show wpAny _ _ (field (.ref z) 2 >>= _) _ _ _; refine wpAny_bind (wpAny_field hz rfl (x:=.bool false) rfl ?_)
 show wpAny _ _ (field (.ref z) 3 >>= _) _ _ _; refine wpAny_bind (wpAny_field hz rfl (x:=.ref TI) rfl ?_); refine wpAny_bind (wpAny_seqItems hTI rfl ?_)
 show wpAny _ _ (Builtin.SmallTypes.ownedTupleIsFree (.ref z) >>= _) _ _ _; refine wpAny_bind ?_; unfold Builtin.SmallTypes.ownedTupleIsFree
 refine wpAny_bind (wpAny_field hz rfl (x:=.none) rfl (wpAny_pure ?_)); simp only [if_true]
 refine wpAny_bind (wpAny_rule ?_); refine wpAny_bind (wpAny_field hz rfl (x:=.ref TO) rfl ?_)
 refine wpAny_bind (wpAny_setField_rec hz (by simp) fun h₁ hz₁ hs₁=>?_); replace hz₁:IsZip h₁ z TI TO .ellipsis:=hz₁
 refine wpAny_bind ?_; simp only [List.zipIdx_cons,List.zipIdx_nil,List.forIn_cons,List.forIn_nil]
 refine wpAny_bind (wpAny_bind (wpAny_onRaise ?_)); show wpAny _ _ (Builtin.SmallTypes.nextOf (.ref i1) >>= _) _ _ _
 have f1:S1 i h₁:=D1.frame _ _ _ h1 fun c hc o e=>hs₁.extBut _ _ (fun q=>D.z1 (q ▸ hc)) e
 rcases hend with rfl | ⟨hlt,rfl⟩
 ·refine wpAny_bind (D1.done _ _ _ f1 fun h₂ e hs₂ he=>?_)
  obtain ⟨oe,hoe,hce⟩:=he
  have hz₂:IsZip h₂ z TI TO .ellipsis:=hs₂ _ _ D.i1z.symm hz₁
  have hez:e≠z:=fun x=>by subst x; rw [hz₂] at hoe; cases hoe; simp at hce
  exact wpAny_setField_rec hz₂ (by simp) fun h₃ _ hs₃=>hE h₃ s.toks e (fun c o c1 _ c3 _ x=>hs₃.extBut _ _ c1 (hs₂ _ _ c3 (hs₁.extBut _ _ c1 x))) ⟨oe,hs₃.extBut _ _ hez hoe,hce⟩
 ·refine wpAny_bind (D1.item i _ _ _ hlt f1 fun x h₂ tk₂ hx s1₂ hs₂=>wpAny_pure ?_)
  have hTO₂:IsPair h₂ TO a b:=(hs₂.2 _ D.TOi1).trans (hs₁.extBut _ _ D.TOz hTO)
  refine wpAny_bind (wpAny_seqItems hTO₂ rfl ?_); refine wpAny_bind (wpAny_updateSeq_pair hTO₂ fun h₃ hTO₃ hs₃=>?_)
  refine wpAny_bind (wpAny_letGo (wpAny_pure ?_)); refine wpAny_bind (wpAny_bind (wpAny_onRaise ?_)); show wpAny _ _ (Builtin.SmallTypes.nextOf (.ref i2) >>= _) _ _ _
  refine wpAny_bind (D2.done _ _ _ (D2.frame _ _ _ h2 fun c hc o e=>(hs₃.extBut _ _ (fun q=>D.o2 (q ▸ hc)) ((hs₂.2 _ (fun q=>D.a12 (q ▸ hc))).trans (hs₁.extBut _ _ (fun q=>D.z2 (q ▸ hc)) e)))) fun h₄ e hs₄ he=>?_)
  obtain ⟨oe,hoe,hce⟩:=he
  have hz₄:IsZip h₄ z TI TO .ellipsis:=hs₄ _ _ D.i2z.symm (hs₃.extBut _ _ D.TOz.symm ((hs₂.2 _ D.i1z.symm).trans hz₁))
  have hez:e≠z:=fun x=>by subst x; rw [hz₄] at hoe; cases hoe; simp at hce
  exact wpAny_setField_rec hz₄ (by simp) fun h₅ _ hs₅=>hE h₅ tk₂ e (fun c o c1 c2 c3 c4 x=>hs₅.extBut _ _ c1 (hs₄ _ _ c4 (hs₃.extBut _ _ c2 ((hs₂.2 _ c3).trans (hs₁.extBut _ _ c1 x))))) ⟨oe,hs₅.extBut _ _ hez hoe,hce⟩
theorem Ka {Q:Option Value->Shared->Prop} (D:Apart2 z TI TO i1 i2 fp1 fp2) (D1:Draws prog w A.in1 i1 fp1 n1 P1 S1) (D2:Draws prog w A.in1 i2 fp2 n2 P2 S2)
  (hz:IsZip s.heap z TI TO .none) (hTI:IsPair s.heap TI (.ref i1) (.ref i2)) (hTO:IsPair s.heap TO a b) (h1:S1 i s.heap) (h2:S2 i s.heap) (l1:i < n1) (l2:i < n2)
  (hQ:∀ x y h' tk,P1 i x->P2 i y->IsZip h' z TI TO (rawInt s.heap.objs.size)->IsPair h' TO x y->S1 (i+1) h'->S2 (i+1) h'->IsPair h' s.heap.objs.size x y ->
   (∀ c o,c≠z->c≠TO->c≠i1->c≠i2->s.heap.get? c=some o->h'.get? c=some o)->Q (some (.ref s.heap.objs.size)) { s with heap:=h',toks:=tk }):wpAny (model prog w) A (pyNext (.ref z)) Q E s:=by
 have hT:s.TypeIs (.ref z) "zip":=⟨_,hz,rfl⟩
 unfold pyNext
 exact wpAny_bind (wpAny_attempt (wpAny_callSpecial?_slot (name:=Str.ofString "__next__") hT PySem.F.slot_zip_next (wpAny_call_entry PySem.F.slot_zip_next hT PySem.F.entry_zip_next
  (ZN D D1 D2 hz hTI hTO h1 h2 l1 l2 fun x y h' tk a1 a2 a3 a4 a5 a6 a7 a8=>wpAny_pure (hQ x y h' tk a1 a2 a3 a4 a5 a6 a7 a8)) (PySem.F.args_zip_next_1 _))))
theorem WJ {Q:Option Value->Shared->Prop} (D:Apart2 z TI TO i1 i2 fp1 fp2) (D1:Draws prog w A.in1 i1 fp1 n1 P1 S1) (D2:Draws prog w A.in1 i2 fp2 n2 P2 S2)
  (hz:IsZip s.heap z TI TO .none) (hTI:IsPair s.heap TI (.ref i1) (.ref i2)) (hTO:IsPair s.heap TO a b) (h1:S1 i s.heap) (h2:S2 i s.heap) (hend:i=n1\/(i < n1/\i=n2))
  (hQ:∀ h' tk,(∀ c o,c≠z->c≠TO->c≠i1->c≠i2->s.heap.get? c=some o->h'.get? c=some o)->Q none { s with heap:=h',toks:=tk }):wpAny (model prog w) A (pyNext (.ref z)) Q E s:=by
 have hT:s.TypeIs (.ref z) "zip":=⟨_,hz,rfl⟩
 unfold pyNext
 refine wpAny_bind (wpAny_attempt (wpAny_callSpecial?_slot (name:=Str.ofString "__next__") hT PySem.F.slot_zip_next (wpAny_call_entry PySem.F.slot_zip_next hT PySem.F.entry_zip_next (qa6 D D1 D2 hz hTI hTO h1 h2 hend fun h' tk e hk he=>?_) (PySem.F.args_zip_next_1 _))))
 obtain ⟨o,ho,hc⟩:=he
 refine wpAny_bind (wpAny_isInstance (T := "StopIteration") (b:=true) ⟨o,ho,hc⟩ isSubtype_stop ?_)
 exact wpAny_pure (hQ _ _ hk)
end
inductive SK where
 | l | t
noncomputable def SK.itc:SK->String
 | .l => "list_iterator"
 | .t => "tuple_iterator"
def SeqK (h:Heap) (a:Addr):SK->Array Value->Prop
 | .l,xs=>h.IsList a xs
 | .t,xs=>h.IsTuple a xs
def ItK (h:Heap) (it a:Addr):SK->Nat->Prop
 | .l,i=>h.IsListIter it a i
 | .t,i=>h.IsTupleIter it a i
def SqK (K:Frag) (H:Hp) (a:Addr):SK->List V->Prop
 | .l,xs=>SqL K H a xs
 | .t,xs=>SqT K H a xs
theorem SeqK.at {h h':Heap} {a:Addr} {xs:Array Value}:∀ {k:SK},SeqK h a k xs->(∀ o,h.get? a=some o->h'.get? a=some o)->SeqK h' a k xs
 | .l,⟨o,e,c⟩,k=>⟨o,k _ e,c⟩
 | .t,⟨o,e,c⟩,k=>⟨o,k _ e,c⟩
theorem SeqK.lt {h:Heap} {a:Addr} {xs:Array Value}:∀ {k:SK},SeqK h a k xs->a < h.objs.size
 | .l,⟨o,e,c⟩=>Heap.lt_size e
 | .t,⟨o,e,c⟩=>Heap.lt_size e
theorem ItK.obj {h:Heap} {it a:Addr} {i:Nat}:∀ {k:SK},ItK h it a k i->∃ o,h.get? it=some o/\o.cls=.type k.itc/\o.data=.fields #[.ref a,.int i 0]
 | .l,⟨o,e,c,d⟩=>⟨o,e,c,d⟩
 | .t,⟨o,e,c,d⟩=>⟨o,e,c,d⟩
theorem ItK.of {h:Heap} {it a:Addr} {i:Nat}:∀ {k:SK},(∃ o,h.get? it=some o/\o.cls=.type k.itc/\o.data=.fields #[.ref a,.int i 0])->ItK h it a k i
 | .l,⟨o,e,c,d⟩=>⟨o,e,c,d⟩
 | .t,⟨o,e,c,d⟩=>⟨o,e,c,d⟩
section
variable {prog:Program} {w:World} {A:Around} {E:Value->Shared->Prop} {s:Shared}
theorem qcE {k:SK} {a:Addr} {xs:Array Value} {Q:Value->Shared->Prop} (h:SeqK s.heap a k xs) (hQ:Q (.ref s.heap.objs.size) { s with heap:=s.heap.push { cls:=.type k.itc,data:=.fields #[.ref a,.int 0 0] } }):wpAny (model prog w) A (pyIter (.ref a)) Q E s:=by
 cases k with
 | l=>exact wpAny_pyIter_list h hQ
 | t=>exact wpAny_pyIter_tuple h hQ
theorem VH (hh:A.handled=none) (k:SK) (it l:Addr) (hne:l≠it) (items:Array Value):Draws prog w A it [it,l] items.size (fun i v=>items[i]?=some v) (fun i h=>ItK h it l k i/\SeqK h l k items):=by
 cases k with
 | l=>exact Draws.list hh it l hne items
 | t=>exact JZ hh it l hne items
end
abbrev zH1 (k1:SK) (h:Heap) (l1:Addr):Heap:=h.push { cls:=.type k1.itc,data:=.fields #[.ref l1,.int 0 0] }
abbrev zH2 (k1 k2:SK) (h:Heap) (l1 l2:Addr):Heap:=(zH1 k1 h l1).push { cls:=.type k2.itc,data:=.fields #[.ref l2,.int 0 0] }
abbrev zH3 (k1 k2:SK) (h:Heap) (l1 l2:Addr):Heap:=(zH2 k1 k2 h l1 l2).push { cls:=.type "tuple",data:=.seq #[.ref h.objs.size,.ref (zH1 k1 h l1).objs.size] }
abbrev zH4 (k1 k2:SK) (h:Heap) (l1 l2:Addr):Heap:=(zH3 k1 k2 h l1 l2).push { cls:=.type "tuple",data:=.seq #[.none,.none] }
abbrev zH5 (k1 k2:SK) (h:Heap) (l1 l2:Addr):Heap:=(zH4 k1 k2 h l1 l2).push { cls:=.type "zip",data:=.fields #[.none,.bool false,.bool false,.ref (zH2 k1 k2 h l1 l2).objs.size,.ref (zH3 k1 k2 h l1 l2).objs.size] }
theorem Ys (k1 k2:SK) (l1 l2:Addr) (xs ys:Array Value):Meets (Builtin.«zip.__new__» ⟨[.type "zip",.ref l1,.ref l2],[]⟩) (fun _ R s=>SeqK s.heap l1 k1 xs/\SeqK s.heap l2 k2 ys/\R (.ok (.ret (.ref (zH4 k1 k2 s.heap l1 l2).objs.size))) { s with heap:=zH5 k1 k2 s.heap l1 l2 }):=
 .of_wp fun prog w A R s h=>by
  obtain ⟨hp,g,d,tk,os⟩:=s; obtain ⟨hl1,hl2,h⟩:=h
  have hsub:=sub_zip
  have hL1:SeqK (Shared.heap ⟨hp,g,d,tk,os⟩) l1 k1 xs:=hl1
  have hL2:SeqK (Shared.heap ⟨hp.push { cls:=.type k1.itc,data:=.fields #[.ref l1,.int 0 0] },g,d,tk,os⟩) l2 k2 ys:=SeqK.at hl2 fun o e=>Heap.get?_push_of_some _ e
  wp_walk using qcE hL1,qcE hL2
  exact ⟨_,rfl,h⟩
section
variable {prog:Program} {w:World} {A:Around} {E:Value->Shared->Prop} {s:Shared}
theorem Yt {k1 k2:SK} {l1 l2:Addr} {xs ys:Array Value} {Q:Value->Shared->Prop} (hl1:SeqK s.heap l1 k1 xs) (hl2:SeqK s.heap l2 k2 ys)
  (h:∀ h',IsZip h' (s.heap.objs.size+4) (s.heap.objs.size+2) (s.heap.objs.size+3) .none->IsPair h' (s.heap.objs.size+2) (.ref s.heap.objs.size) (.ref (s.heap.objs.size+1)) ->
   IsPair h' (s.heap.objs.size+3) .none .none->ItK h' s.heap.objs.size l1 k1 0->ItK h' (s.heap.objs.size+1) l2 k2 0->(∀ c o,s.heap.get? c=some o->h'.get? c=some o)->Q (.ref (s.heap.objs.size+4)) { s with heap:=h' }) :
  wpAny (model prog w) A (call (.type "zip") [.ref l1,.ref l2]) Q E s:=by
 refine callType_new PySem.F.called_zip (by decide) (PySem.F.typeCall_zip_2 _ _) (PySem.F.newCall_zip_2 _ _) (fun obj=>PySem.F.args_object_init_3 obj _ _) PySem.F.entry_zip_new (Ys k1 k2 l1 l2 xs ys) ⟨hl1,hl2,?_⟩
 have z1:(zH1 k1 s.heap l1).objs.size=s.heap.objs.size+1:=Heap.size_push ..
 have z2:(zH2 k1 k2 s.heap l1 l2).objs.size=s.heap.objs.size+2:=by rw [Heap.size_push,z1]
 have z3:(zH3 k1 k2 s.heap l1 l2).objs.size=s.heap.objs.size+3:=by rw [Heap.size_push,z2]
 have z4:(zH4 k1 k2 s.heap l1 l2).objs.size=s.heap.objs.size+4:=by rw [Heap.size_push,z3]
 have g5:(zH5 k1 k2 s.heap l1 l2).get? (zH4 k1 k2 s.heap l1 l2).objs.size=some _:=Heap.get?_push_size _ rfl
 have g4:(zH5 k1 k2 s.heap l1 l2).get? (zH3 k1 k2 s.heap l1 l2).objs.size=some _:=Heap.get?_push_of_some _ (Heap.get?_push_size _ rfl)
 have g3:(zH5 k1 k2 s.heap l1 l2).get? (zH2 k1 k2 s.heap l1 l2).objs.size=some _:=Heap.get?_push_of_some _ (Heap.get?_push_of_some _ (Heap.get?_push_size _ rfl))
 have g2:(zH5 k1 k2 s.heap l1 l2).get? (zH1 k1 s.heap l1).objs.size=some _:=Heap.get?_push_of_some _ (Heap.get?_push_of_some _ (Heap.get?_push_of_some _ (Heap.get?_push_size _ rfl)))
 have g1:(zH5 k1 k2 s.heap l1 l2).get? s.heap.objs.size=some _:=Heap.get?_push_of_some _ (Heap.get?_push_of_some _ (Heap.get?_push_of_some _ (Heap.get?_push_of_some _ (Heap.get?_push_size _ rfl))))
 show _/\_
 rw [z2,z3,z4] at g5
 rw [z1,z2] at g3
 rw [z3] at g4
 rw [z1] at g2
 rw [z4]
 exact ⟨⟨_,g5,rfl⟩,h _ g5 g3 g4 (.of ⟨_,g1,rfl,rfl⟩) (.of ⟨_,g2,rfl,rfl⟩) fun c o x=>Heap.get?_push_of_some _ (Heap.get?_push_of_some _ (Heap.get?_push_of_some _ (Heap.get?_push_of_some _ (Heap.get?_push_of_some _ x))))⟩
end
section
variable {X:Cx} {pins:List (Addr×Obj)} {σ:St} {H:Hp} {s:Shared} {h':Heap}
theorem Yu {t':Nat} {ch:List Addr} (I:Inv X pins σ H s) (k:∀ b o,b∉ch->s.heap.get? b=some o->h'.get? b=some o) (hf:∀ b∈ch,JA X pins H b):Inv X pins σ H { s with heap:=h',toks:=t' }:=by
 have nit:∀ b u,H b=some u->b∉ch:=fun b u e z=>by
  rw [(hf b z).1] at e
  cases e
 refine I.step (g':=s.gens) (d':=s.drawn) (ch:=ch) (fun b hb=>?_) (fun b o _ _ hc e _=>k b o hc e) (fun b o _ _ hc e _=>⟨o.slots,k b o hc e⟩) (fun _ _ _ _ n=>n) (fun b o hc e=>⟨o,k b o hc e⟩) (fun _ _ e=>e) (fun _ _ _ e=>e) (fun b ps e=>⟨#[],by rw [e]; simp⟩) (fun m hm=>?_) (fun b u e=>?_) I.bare
 ·obtain ⟨f0,f1,f2,f3,f4,f5⟩:=hf b hb
  exact ⟨f3,f1,f4,f5⟩
 ·obtain ⟨o,es,ep,ho,r⟩:=hm
  exact ⟨o,es,ep,k _ o (fun z=>(hf _ z).2.1 rfl) ho,r⟩
 ·refine (I.hok b u e).stay (fun c v hc q=>k c v ?_ q) (fun _ q=>q) fun _ _ q=>q
  rcases hc with z | z
  ·rw [z]
   exact nit b u e
  ·exact nit c _ z
theorem qe9 {t':Nat} {d':Drawn} (I:Inv X pins σ H s) (k:∀ b u,s.heap.get? b=some u->h'.get? b=some u):Inv X pins σ H { s with heap:=h',drawn:=d',toks:=t' }:=by
 refine I.step (g':=s.gens) (d':=d') (ch:=[]) (fun _ z=>nomatch z) (fun b o _ _ _ e _=>k b o e) (fun b o _ _ _ e _=>⟨o.slots,k b o e⟩) (fun _ _ _ _ n=>n) (fun b o _ e=>⟨o,k b o e⟩) (fun _ _ e=>e) (fun _ _ _ e=>e) (fun b ps e=>⟨#[],by rw [e]; simp⟩) (fun m hm=>?_) (I.hok.kept k) I.bare
 obtain ⟨o,es,ep,ho,r⟩:=hm
 exact ⟨o,es,ep,k _ o ho,r⟩
theorem uX {a:Addr} {xs:List V} (I:Inv X pins σ H s):∀ {k:SK},SqK X.K H a k xs->∃ its:List Value,Vals xs its/\SeqK s.heap a k its.toArray
 | .l,h=>let ⟨its,r,p,_⟩:=I.list h; ⟨its,r,p.isList⟩
 | .t,h=>let ⟨its,r,p,_⟩:=I.tuple h; ⟨its,r,p⟩
end
noncomputable def Itz (K:Frag) (a1 a2:Addr) (k1 k2:SK) (xs ys:List V):It:=
 ⟨fun i H=>i < xs.length/\i < ys.length/\SqK K H a1 k1 xs/\SqK K H a2 k2 ys,fun i H v H'=>∃ x y p,xs[i]?=some x/\ys[i]?=some y/\H p=none/\v=.ref p/\H'=upd H p (.tup [x,y]),fun i H=>(xs.length<=i\/ys.length<=i)/\SqK K H a1 k1 xs/\SqK K H a2 k2 ys⟩
theorem QZ {xs:List V} {us:List Value} (r:Vals xs us) {i:Nat} {u:Value} (h:us[i]?=some u):∃ x,xs[i]?=some x/\RelV x u:=by
 have hi:i < us.length:=(List.getElem?_eq_some_iff.mp h).1
 have hx:i < xs.length:=by rw [r.length]; exact hi
 obtain ⟨u',h1,h2⟩:=r.get (List.getElem?_eq_getElem hx)
 rw [h] at h1
 cases h1
 exact ⟨xs[i],List.getElem?_eq_getElem hx,h2⟩
theorem Ja (b a1 a2:Nat) (h1:a1 < b) (h2:a2 < b):Apart2 (b+4) (b+2) (b+3) b (b+1) [b,a1] [b+1,a2]:=by
 have ne:∀ x y:Nat,x≠y->x≠y:=fun _ _ h=>h
 have nin:∀ x a c:Nat,x≠a->x≠c->x∉[a,c]:=fun x a c n1 n2 h=>(List.mem_cons.mp h).elim n1 fun h=>n2 (List.mem_singleton.mp h)
 exact ⟨ne _ _ (by omega),ne _ _ (by omega),ne _ _ (by omega),ne _ _ (by omega),ne _ _ (by omega),ne _ _ (by omega),ne _ _ (by omega),ne _ _ (by omega),ne _ _ (by omega),ne _ _ (by omega),nin _ _ _ (by omega) (by omega),nin _ _ _ (by omega) (by omega),nin _ _ _ (by omega) (by omega),nin _ _ _ (by omega) (by omega),nin _ _ _ (by omega) (by omega),nin _ _ _ (by omega) (by omega)⟩
theorem ZO {P:Program} {w:World} {K:Frag} {elts:List Expr} {x1} {pos:Pos} {k1 k2:SK} (b a1 a2:Nat) (xs ys:List V) (h1:a1 < b) (h2:a2 < b) :
  Turn P w K (.Tuple elts x1 pos) (Itz K a1 a2 k1 k2 xs ys) [b+4,b+2,b+3,b,b+1] (b+4)
   (fun i h=>IsZip h (b+4) (b+2) (b+3) .none/\IsPair h (b+2) (.ref b) (.ref (b+1))/\(∃ a c,IsPair h (b+3) a c)/\ItK h b a1 k1 i/\ItK h (b+1) a2 k2 i/\i<=xs.length/\i<=ys.length) where
 mem:=by simp
 obj:=fun i h st c hc=>by
  obtain ⟨hz,hi,⟨a,c',ho⟩,t1,t2,_⟩:=st
  simp only [List.mem_cons,List.not_mem_nil,or_false] at hc
  rcases hc with rfl | rfl | rfl | rfl | rfl
  ·exact ⟨_,hz,fun v z=>by cases z⟩
  ·exact ⟨_,hi,fun v z=>by cases z⟩
  ·exact ⟨_,ho,fun v z=>by cases z⟩
  ·obtain ⟨o,e,_,d⟩:=t1.obj
   exact ⟨o,e,fun v z=>by rw [d] at z; cases z⟩
  ·obtain ⟨o,e,_,d⟩:=t2.obj
   exact ⟨o,e,fun v z=>by rw [d] at z; cases z⟩
 keep:=fun i h h' st k=>by
  obtain ⟨hz,hi,⟨a,c',ho⟩,t1,t2,n⟩:=st
  refine ⟨k _ (by simp) _ hz,k _ (by simp) _ hi,⟨a,c',k _ (by simp) _ ho⟩,?_,?_,n⟩
  ·obtain ⟨o,e,c,d⟩:=t1.obj
   exact .of ⟨o,k _ (by simp) _ e,c,d⟩
  ·obtain ⟨o,e,c,d⟩:=t2.obj
   exact .of ⟨o,k _ (by simp) _ e,c,d⟩
 item:=by
  intro X hP hw hK hc i pins s σ H E I hf st hg
  subst hP hw hK
  obtain ⟨hz,hTI,⟨oa,ob,hTO⟩,t1,t2,n1,n2⟩:=st
  obtain ⟨l1,l2,q1,q2⟩:=hg
  obtain ⟨is1,r1,p1⟩:=uX I q1
  obtain ⟨is2,r2,p2⟩:=uX I q2
  have e1:is1.toArray.size=xs.length:=by rw [List.size_toArray,r1.length]
  have e2:is2.toArray.size=ys.length:=by rw [List.size_toArray,r2.length]
  have D:=Ja b a1 a2 h1 h2
  have hh:X.A.in1.handled=none:=I.ok.hd hc
  refine Ka (A:=X.A) D (VH (prog:=X.prog) (w:=X.w) (A:=X.A.in1) hh k1 b a1 (Nat.ne_of_lt h1) is1.toArray) (VH (prog:=X.prog) (w:=X.w) (A:=X.A.in1) hh k2 (b+1) a2 (Nat.ne_of_lt (Nat.lt_succ_of_lt h2)) is2.toArray) hz hTI hTO ⟨t1,p1⟩ ⟨t2,p2⟩ (by rw [e1]; exact l1) (by rw [e2]; exact l2) fun u v h' tk hu hv z' to' s1 s2 tp kp=>?_
  refine ⟨_,rfl,wpAny_letOwnedTupleGo_zip z' fun hq z2 sb2=>?_⟩
  obtain ⟨x,hx,rx⟩:=QZ r1 (by simpa using hu)
  obtain ⟨y,hy,ry⟩:=QZ r2 (by simpa using hv)
  have hT:H s.heap.objs.size=none:=I.hok.fresh (Nat.le_refl _)
  have lt4:b+4 < s.heap.objs.size:=Heap.lt_size hz
  have fT:∀ c∈[b+4,b+2,b+3,b,b+1],c≠s.heap.objs.size:=fun c hc=>by
   simp only [List.mem_cons,List.not_mem_nil,or_false] at hc
   have lt4':b+4 < s.heap.objs.size:=lt4
   generalize s.heap.objs.size=m at lt4'
   intro z
   omega
  have I1:Inv X pins σ (upd H s.heap.objs.size (.tup [x,y])) { s with heap:=s.heap.push { cls:=.type "tuple",data:=.seq #[u,v] } }:=
   I.laid (t':=s.toks) (fun _ _ e=>Heap.get?_push_of_some _ e) (Nat.le_refl _) ⟨⟨by simp only [List.length_cons,List.length_nil]; rw [sizeLine_eq]; decide,_,Heap.get?_push_size _ rfl,rfl⟩,[u,v],.cons rx (.cons ry .nil),⟨_,Heap.get?_push_size _ rfl,rfl,_,rfl⟩⟩
  have I2:Inv X pins σ (upd H s.heap.objs.size (.tup [x,y])) { s with heap:=hq,toks:=tk }:=by
   refine Yu (s:={ s with heap:=s.heap.push { cls:=.type "tuple",data:=.seq #[u,v] } }) (ch:=[b+4,b+2,b+3,b,b+1]) I1 (fun c o nc e=>?_) fun c hc=>⟨by rw [qo (fT c hc)]; exact (hf c hc).1,(hf c hc).2⟩
   simp only [List.mem_cons,List.not_mem_nil,or_false,not_or] at nc
   rw [sb2.2 c nc.1]
   by_cases ec:c=s.heap.objs.size
   ·subst ec
    have e3:(s.heap.push ({ cls:=.type "tuple",data:=.seq #[u,v] }:Obj)).get? s.heap.objs.size=some { cls:=.type "tuple",data:=.seq #[u,v] }:=Heap.get?_push_size _ rfl
    rw [show (s.heap.push ({ cls:=.type "tuple",data:=.seq #[u,v] }:Obj)).get? s.heap.objs.size=some o from e] at e3
    rw [e3]
    exact tp
   ·have e4:s.heap.get? c=some o:=by
     have:=e
     rwa [show (s.heap.push ({ cls:=.type "tuple",data:=.seq #[u,v] }:Obj)).get? c=s.heap.get? c from Heap.get?_push_ne _ _ _ ec] at this
    exact kp c o nc.1 nc.2.2.1 nc.2.2.2.1 nc.2.2.2.2 e4
  refine ⟨.ref s.heap.objs.size,_,I2,rfl,⟨x,y,_,hx,hy,hT,rfl,rfl⟩,⟨z2,?_,⟨u,v,?_⟩,?_,?_,l1,l2⟩,fun c hc=>by rw [qo (fT c hc)]; exact (hf c hc).1⟩
  ·exact (sb2.2 _ D.TIz).trans (kp _ _ D.TIz D.TITO D.TIi1 D.TIi2 hTI)
  ·exact (sb2.2 _ D.TOz).trans to'
  ·obtain ⟨o,e,c,d⟩:=s1.1.obj
   exact .of ⟨o,(sb2.2 _ D.i1z).trans e,c,d⟩
  ·obtain ⟨o,e,c,d⟩:=s2.1.obj
   exact .of ⟨o,(sb2.2 _ D.i2z).trans e,c,d⟩
 done:=by
  intro X hP hw hK hc i pins s σ H E I hf st hg
  subst hP hw hK
  obtain ⟨hz,hTI,⟨oa,ob,hTO⟩,t1,t2,n1,n2⟩:=st
  obtain ⟨l1,q1,q2⟩:=hg
  obtain ⟨is1,r1,p1⟩:=uX I q1
  obtain ⟨is2,r2,p2⟩:=uX I q2
  have e1:is1.toArray.size=xs.length:=by rw [List.size_toArray,r1.length]
  have e2:is2.toArray.size=ys.length:=by rw [List.size_toArray,r2.length]
  have D:=Ja b a1 a2 h1 h2
  have hh:X.A.in1.handled=none:=I.ok.hd hc
  refine WJ (A:=X.A) D (VH (prog:=X.prog) (w:=X.w) (A:=X.A.in1) hh k1 b a1 (Nat.ne_of_lt h1) is1.toArray) (VH (prog:=X.prog) (w:=X.w) (A:=X.A.in1) hh k2 (b+1) a2 (Nat.ne_of_lt (Nat.lt_succ_of_lt h2)) is2.toArray) hz hTI hTO ⟨t1,p1⟩ ⟨t2,p2⟩ (by rw [e1,e2]; omega) fun h' tk kp=>⟨rfl,Yu (ch:=[b+4,b+2,b+3,b,b+1]) I (fun c o nc e=>?_) hf⟩
  simp only [List.mem_cons,List.not_mem_nil,or_false,not_or] at nc
  exact kp c o nc.1 nc.2.2.1 nc.2.2.2.1 nc.2.2.2.2 e
 self:=fun _ _ _ _ _ st h=>wpAny_pyIter_zip st.1 h
theorem Yv:bootBuiltins "zip"=some (.type "zip"):=by decide +kernel
section
variable {X:Cx} {C:Ct} {own:List Nat} {a c:Expr} {fa fb:Sl->Out (D×Sl)} {ma mb:Mo} {pos:Pos}
theorem qcF {ta:TA} {p tpos:Pos} {elts:List Expr} {x1} (hg:Gl X "zip") (hm:X.mg "zip"=none) (ha:PA X [a,c] ta) (hs:starEach [a,c] X.env=[(false,eval a X.env),(false,eval c X.env)]) (hs2:starEach [c] X.env=[(false,eval c X.env)]) :
  PI X (.Tuple elts x1 tpos) (.Call (.Name "zip" p) [a,c] [] pos) (fun σ H R=>ta σ H fun vs H1=>∃ a1 a2 k1 k2 xs ys,vs=[.ref a1,.ref a2]/\SqK X.K H1 a1 k1 xs/\SqK X.K H1 a2 k2 ys/\R (Itz X.K a1 a2 k1 k2 xs ys) H1):=by
 refine ⟨?_⟩
 intro pins s σ H R I h
 refine Call_ (Qo I hg hm Yv (PyProof.Rows.callWith_type1 (thn (ha pos pins s σ H _ I h) fun us s1 ⟨vs,H1,I1,r1,q1⟩=>?_) (by rw [hs,hs2]) (by rw [hs2]; rfl)))
 obtain ⟨a1,a2,k1,k2,xs,ys,rfl,w1,w2,q⟩:=q1
 obtain ⟨u1,u2,rfl,e1,e2⟩:=Za r1
 cases e1
 cases e2
 obtain ⟨is1,v1,p1⟩:=uX I1 w1
 obtain ⟨is2,v2,p2⟩:=uX I1 w2
 refine Yt p1 p2 fun h' hz hTI hTO t1 t2 kp=>?_
 refine wpAny_pyIter_zip hz ?_
 refine ⟨s1.heap.objs.size+4,_,_,Itz X.K a1 a2 k1 k2 xs ys,H1,rfl,I1.kept (t':=s1.toks) kp,ZO s1.heap.objs.size a1 a2 xs ys p1.lt p2.lt,⟨hz,hTI,⟨_,_,hTO⟩,t1,t2,Nat.zero_le _,Nat.zero_le _⟩,fun b hb=>?_,q⟩
 have hle:s1.heap.objs.size<=b:=by
  simp only [List.mem_cons,List.not_mem_nil,or_false] at hb
  rcases hb with rfl | rfl | rfl | rfl | rfl
  ·exact Nat.le_add_right _ _
  ·exact Nat.le_add_right _ _
  ·exact Nat.le_add_right _ _
  ·exact Nat.le_refl _
  ·exact Nat.le_add_right _ _
 exact I1.fpOk hle (I1.hok.fresh hle)
theorem PoI.bindA {as:List AK} {σ:St} {F H:Hp} {o:Out (List D×Sl)} {k:List D×Sl->Out (List D×Sl)} {R:It->Hp->Prop} {Q:List V->Hp->Prop} (hp:PoI C own σ F H (o.bind k) R)
  (h:∀ vs F1 H1 ds ρ1,Rep C.K own F1 H1 σ ρ1->Chg (OA own σ) F H F1 H1->ArgV C.K H F1 H1 σ as vs ds->PoI C own σ F H (k (ds,ρ1)) R->Q vs H1):PoA C own as σ F H o Q:=by
 cases o with
 | ok p=>
  obtain ⟨ds,ρ1⟩:=p
  exact fun vs F1 H1 rp c av=>h vs F1 H1 ds ρ1 rp c av hp
 | exc e=>exact hp
 | bad=>exact hp.elim
noncomputable def GY (xs ys:List D):List D:=List.zipWith (fun x y=>.tup [x,y]) xs ys
noncomputable def qcG (fr:Sl->Out (List D×Sl)):Sl->Out (List D×Sl):=fun ρ=>(fr ρ).bind fun p=>match p.1 with
 | [x,y]=>(xx x).bind fun xs=>(xx y).bind fun ys=>.ok (GY xs ys,p.2)
 | _=>.bad
theorem GZ {K:Frag} {F:Hp} {v:V} {d:D} {ds:List D} (h:Is K F v d) (e:xx d=.ok ds):∃ a k xs,v=.ref a/\(∀ H,Same F H->SqK K H a k xs)/\IsL K F xs ds:=by
 cases h with
 | @lst a xs ds' p t=>
  cases e
  exact ⟨_,.l,_,rfl,fun H s=>s.seq p,t⟩
 | @tup a xs ds' p t=>
  cases e
  exact ⟨_,.t,_,rfl,fun H s=>qC s p,t⟩
 | _=>cases e
theorem qcH {K:Frag} {F:Hp} {a1 a2:Addr} {k1 k2:SK} {xs ys:List V} {ds es:List D} (p1:∀ H,Same F H->SqK K H a1 k1 xs) (p2:∀ H,Same F H->SqK K H a2 k2 ys) (t1:IsL K F xs ds) (t2:IsL K F ys es):ItIs K F (Itz K a1 a2 k1 k2 xs ys) (GY ds es) where
 go:=fun i H hi s=>by
  unfold GY at hi
  rw [List.length_zipWith] at hi
  exact ⟨by rw [t1.length]; omega,by rw [t2.length]; omega,p1 H s,p2 H s⟩
 yld:=fun i Fi H v H' d e s1 s2 y=>by
  obtain ⟨x,y,p,hx,hy,hn,rfl,rfl⟩:=y
  obtain ⟨d1,e1,i1⟩:=t1.get hx
  obtain ⟨d2,e2,i2⟩:=t2.get hy
  have ed:d=.tup [d1,d2]:=by
   unfold GY at e
   rw [List.getElem?_zipWith,e1,e2] at e
   exact (Option.some.inj e).symm
  subst ed
  obtain ⟨g1,g2⟩:=uR (u:=.tup [x,y]) s2 hn
  exact ⟨_,g2,g1,.tup (.of qm) (.cons ((i1.mono s1).mono g2.grow) (.cons ((i2.mono s1).mono g2.grow) .nil))⟩
 stop:=fun i H hi s=>by
  unfold GY at hi
  rw [List.length_zipWith] at hi
  exact ⟨by rw [t1.length,t2.length]; omega,p1 H s,p2 H s⟩
theorem Yw {p tpos:Pos} {elts:List Expr} {x1} (hK:C.K=X.K) (hg:Gl X "zip") (hm:X.mg "zip"=none) (ha:PE X a (tE C own ma fa)) (hb:PE X c (tE C own mb fb)) (h1:ma≠.any:=by decide) (h2:mb≠.any:=by decide) (hs:starEach [a,c] X.env=[(false,eval a X.env),(false,eval c X.env)]:=by exact Zk rfl rfl) (hs2:starEach [c] X.env=[(false,eval c X.env)]:=by exact qM rfl) :
  PI X (.Tuple elts x1 tpos) (.Call (.Name "zip" p) [a,c] [] pos) (tIt C own (qcG (qe fa (qe fb qJ)))):=by
 refine qaV (qcF hg hm (qc ha (qc hb ql h2 (by rw [hs2]; rfl)) h1 (by rw [hs,hs2])) hs hs2) fun σ H R ⟨F,ρ,rp,h⟩=>⟨F,ρ,rp,PoI.bindA h fun vs F1 H1 ds ρ1 rp1 c1 av h1=>?_⟩
 have il:=ArgV.isL (by decide) av
 cases il with
 | nil=>exact h1.elim
 | @cons v d vs ds i1 il=>
  cases il with
  | nil=>exact h1.elim
  | @cons v2 d2 vs ds i2 il=>
   cases il with
   | cons=>exact h1.elim
   | nil=>
    have h1:PoI C own σ F H ((xx d).bind fun xs=>(xx d2).bind fun ys=>.ok (GY xs ys,ρ1)) R:=h1
    cases e1:xx d with
    | bad=>rw [e1] at h1; exact h1.elim
    | exc c=>cases d <;> cases e1
    | ok xs=>
     cases e2:xx d2 with
     | bad=>rw [e1,e2] at h1; exact h1.elim
     | exc c=>cases d2 <;> cases e2
     | ok ys=>
      rw [e1,e2] at h1
      obtain ⟨a1,k1,ws,rfl,p1,t1⟩:=GZ i1 e1
      obtain ⟨a2,k2,ws2,rfl,p2,t2⟩:=GZ i2 e2
      refine ⟨a1,a2,k1,k2,ws,ws2,rfl,hK ▸ p1 H1 rp1.sub,hK ▸ p2 H1 rp1.sub,?_⟩
      rw [<-hK]
      exact h1 _ F1 H1 rp1 c1 (qcH p1 p2 t1 t2)
end
def leS (x y:Str):Prop:=¬y.cps.toList < x.cps.toList
noncomputable def qbF (x:Str):List Str->List Str
 | []=>[x]
 | y::l=>if kR y x=true then y::qbF x l else x::y::l
noncomputable def jT:List Str->List Str
 | []=>[]
 | x::l=>qbF x (jT l)
theorem xG {x y z:Str} (a:leS x y) (b:leS y z):leS x z:=List.le_trans (α:=Nat) a b
theorem Yx (x y:Str):leS x y\/leS y x:=List.le_total (α:=Nat) x.cps.toList y.cps.toList
theorem gy {x y:Str} (a:leS x y) (b:leS y x):x=y:=by
 have e:=List.le_antisymm (α:=Nat) (as:=x.cps.toList) (bs:=y.cps.toList) a b
 obtain ⟨⟨l⟩⟩:=x
 obtain ⟨⟨m⟩⟩:=y
 simp at e
 rw [e]
theorem strLt_false {x y:Str}:kR y x=false↔leS x y:=by
 unfold kR leS
 exact decide_eq_false_iff_not
theorem xH (x:Str):∀ l,(qbF x l).Perm (x::l)
 | []=>List.Perm.refl _
 | y::l=>by
  unfold qbF
  split
  ·exact ((xH x l).cons y).trans (List.Perm.swap _ _ _)
  ·exact List.Perm.refl _
theorem qG:∀ l,(jT l).Perm l
 | []=>List.Perm.refl _
 | x::l=>(xH x _).trans ((qG l).cons x)
theorem xI (x:Str):∀ l,l.Pairwise leS->(qbF x l).Pairwise leS
 | [],_=>List.pairwise_singleton _ _
 | y::l,h=>by
  have h0:=List.pairwise_cons.mp h
  unfold qbF
  split
  ·rename_i hlt
   have hyx:leS y x:=by
    rcases Yx y x with q | q
    ·exact q
    ·rw [<-strLt_false] at q
     rw [q] at hlt
     cases hlt
   refine List.pairwise_cons.mpr ⟨fun z hz=>?_,xI x l h0.2⟩
   rcases List.mem_cons.mp ((xH x l).mem_iff.mp hz) with rfl | hz
   ·exact hyx
   ·exact h0.1 z hz
  ·rename_i hlt
   have hxy:leS x y:=strLt_false.mp (by cases e:kR y x with | true=>exact absurd e hlt | false=>rfl)
   refine List.pairwise_cons.mpr ⟨fun z hz=>?_,h⟩
   rcases List.mem_cons.mp hz with rfl | hz
   ·exact hxy
   ·exact xG hxy (h0.1 z hz)
theorem qY:∀ l,(jT l).Pairwise leS
 | []=>List.Pairwise.nil
 | x::l=>xI x _ (qY l)
theorem wn:∀ {l m:List Str},l.Perm m->l.Pairwise leS->m.Pairwise leS->l=m
 | [],m,p,_,_=>p.nil_eq
 | x::l,[],p,_,_=>absurd p.length_eq (by simp)
 | x::l,y::m,p,hl,hm=>by
  have a:=List.pairwise_cons.mp hl
  have b:=List.pairwise_cons.mp hm
  have exy:x=y:=by
   have h1:y∈x::l:=p.mem_iff.mpr (List.mem_cons_self ..)
   have h2:x∈y::m:=p.mem_iff.mp (List.mem_cons_self ..)
   rcases List.mem_cons.mp h1 with e | e
   ·exact e.symm
   ·rcases List.mem_cons.mp h2 with e' | e'
    ·exact e'
    ·exact gy (a.1 y e) (b.1 x e')
  subst exy
  rw [wn p.cons_inv a.2 b.2]
theorem zQ:∀ (x:Str) (l:List Str),risingS x l=true->(x::l).Pairwise leS
 | x,[],_=>List.pairwise_singleton _ _
 | x,y::l,h=>by
  have h:(!ltCps y.cps.toList x.cps.toList&&risingS y l)=true:=h
  rw [Bool.and_eq_true] at h
  have ih:=zQ y l h.2
  have hxy:leS x y:=by
   have h1:=h.1
   rw [ltCps_eq] at h1
   unfold leS
   simpa using h1
  refine List.pairwise_cons.mpr ⟨fun z hz=>?_,ih⟩
  rcases List.mem_cons.mp hz with rfl | hz
  ·exact hxy
  ·exact xG hxy ((List.pairwise_cons.mp ih).1 z hz)
theorem Kb:∀ (l:List Str),sortedS l=true->l.Pairwise leS
 | [],_=>List.Pairwise.nil
 | x::l,h=>zQ x l h
theorem Yy {ss ks:List Str} (p:ss.Perm ks) (h:sortedS ss=true):ss=jT ks:=wn (p.trans (qG ks).symm) (Kb ss h) (qY ks)
noncomputable def xJ:List D->Option (List Str)
 | []=>some []
 | .str x::l=>(xJ l).map (x::·)
 | _::_=>none
noncomputable def wZ:D->Option (List Str)
 | .lst ds=>xJ ds
 | .tup ds=>xJ ds
 | _=>none
noncomputable def qbG (P:Program) (w:World) (p:Addr) (ks:List Str):HO:=.ext fun h=>SetS P w h p ks
theorem qa7 {P:Program} {w:World} {H:Hp} {h:Heap} {p:Addr} {ks:List Str} (x:SetS P w h p ks):ObjOk P w H h p (qbG P w p ks):=
 ⟨x,let ⟨_,_,_,e,_⟩:=x; ⟨_,e⟩,fun _ _ a k=>a.at k⟩
theorem gz {K:Frag} {F:Hp}:∀ {vs:List V} {us:List Value} {ds:List D} {ss:List Str},IsL K F vs ds->Vals vs us->xJ ds=some ss->StrsAre us ss/\∀ x∈ss,x.length<=sizeLine
 | [],[],[],ss,_,_,e=>by cases e; exact ⟨.nil,fun x h=>by cases h⟩
 | v::vs,u::us,d::ds,ss,.cons i il,.cons r rl,e=>by
  cases d with
  | str x=>
   cases q:xJ ds with
   | none=>
    have e:(xJ ds).map (x::·)=some ss:=e
    rw [q] at e
    cases e
   | some sl=>
    have e:(xJ ds).map (x::·)=some ss:=e
    rw [q] at e
    cases e
    cases i with
    | str hz=>
     obtain ⟨t,rfl⟩:=r
     have ih:=gz il rl q
     refine ⟨.cons x t ih.1,fun y hy=>?_⟩
     rcases List.mem_cons.mp hy with rfl | hy
     ·exact hz
     ·exact ih.2 y hy
  | _=>cases e
section
variable {X:Cx} {C:Ct} {own:List Nat} {e:Expr} {fa:Sl->Out (D×Sl)} {ma:Mo} {pos:Pos}
theorem Jb:∀ (l ks:List Str) {x:Str},x∈l.foldl jI ks->x∈ks\/x∈l
 | [],ks,x,h=>.inl h
 | y::l,ks,x,h=>by
  rcases Jb l (jI ks y) h with q | q
  ·unfold jI at q
   split at q
   ·exact .inl q
   ·rcases List.mem_append.mp q with q | q
    ·exact .inl q
    ·exact .inr (by rw [List.mem_singleton.mp q]; exact List.mem_cons_self ..)
  ·exact .inr (List.mem_cons_of_mem _ q)
theorem qaa (hK:C.K=X.K) (hc:X.calm=true):wV X (.type "set") (fun xs H Q=>∃ x F dx ss,xs=[x]/\Same F H/\TopIs C.K F H x dx/\wZ dx=some ss/\ss.length < 4000/\((∀ y∈ss,y.length<=sizeLine)->∀ p,H p=none->Q (.ref p) (upd H p (qbG X.prog X.w p (ss.foldl jI []))))):=by
 intro pins s σ H xs us Q I r h
 obtain ⟨x,F,dx,ss,rfl,sb,tx,es,hl,q⟩:=h
 obtain ⟨u,rfl,ru⟩:=xg r
 have fin:(∀ y∈ss,y.length<=sizeLine)->∀ h' tk,SetS X.prog X.w h' s.heap.objs.size (ss.foldl jI [])->(∀ b o,s.heap.get? b=some o->h'.get? b=some o)->EP X pins σ Q (.ref s.heap.objs.size) { s with heap:=h',toks:=tk }:=fun hy h' tk hS kp=>
  ⟨.ref s.heap.objs.size,_,I.laid (t':=tk) kp (Nat.le_refl _) (qa7 hS),rfl,q hy _ (I.hok.fresh (Nat.le_refl _))⟩
 cases dx with
 | lst ds=>
  obtain ⟨a,vs,rfl,hq,il⟩:=tx.lst sb
  cases ru
  rw [hK] at hq
  obtain ⟨its,rv,pl,hz⟩:=I.list hq
  obtain ⟨st,hy⟩:=gz il rv es
  have hlt:a < s.heap.objs.size:=let ⟨o,_,e,_⟩:=pl; Heap.lt_size e
  have hn:its.length=ss.length:=st.length
  refine QS (fun A1 Q1 E1 hA k=>?_) (fin hy)
  refine ZJ (items:=its.toArray) (hA.trans (I.ok.hd hc)) (QR (Heap.get?_push_size _ rfl)) (pl.isList.push _) (by simpa using st) (by rw [List.size_toArray,hn]; unfold scanBound; omega) (Nat.ne_of_lt hlt) fun h' tk hS kp=>k h' tk hS fun b o eb=>kp b o (Nat.ne_of_lt (Heap.lt_size eb)) (Heap.get?_push_of_some _ eb)
 | tup ds=>
  obtain ⟨a,vs,rfl,hq,il⟩:=tx.tup sb
  cases ru
  rw [hK] at hq
  obtain ⟨its,rv,pl,hz⟩:=I.tuple hq
  obtain ⟨st,hy⟩:=gz il rv es
  have hlt:a < s.heap.objs.size:=pl.lt
  have hn:its.length=ss.length:=st.length
  refine QS (fun A1 Q1 E1 hA k=>?_) (fin hy)
  refine Ym (items:=its.toArray) (hA.trans (I.ok.hd hc)) (QR (Heap.get?_push_size _ rfl)) (by obtain ⟨o,e,c⟩:=pl; exact ⟨o,Heap.get?_push_of_some _ e,c⟩) (by simpa using st) (by rw [List.size_toArray,hn]; unfold scanBound; omega) (Nat.ne_of_lt hlt) fun h' tk hS kp=>k h' tk hS fun b o eb=>kp b o (Nat.ne_of_lt (Heap.lt_size eb)) (Heap.get?_push_of_some _ eb)
 | _=>cases es
theorem Jc:∀ {us:List Value} {ss:List Str},StrsAre us ss->Vals (ss.map V.str) us
 | _,_,.nil=>.nil
 | _,_,.cons y t h=>.cons ⟨t,rfl⟩ (Jc h)
theorem Yz (hc:X.calm=true):wV X (.builtin "sorted") (fun xs H Q=>∃ a ks,xs=[.ref a]/\H a=some (qbG X.prog X.w a ks)/\ks.length < 64/\∀ p,H p=none->Q (.ref p) (upd H p (.lst ((jT ks).map V.str)))):=by
 intro pins s σ H xs us Q I r h
 obtain ⟨a,ks,rfl,ha,h64,q⟩:=h
 obtain ⟨u,rfl,ru⟩:=xg r
 cases ru
 have hS:SetS X.prog X.w s.heap a ks:=(I.hok a _ ha).1
 refine WI (I.ok.hd hc) hS h64 fun h1 h' dr tk vs e ss k1 k2 hp st pm so=>?_
 rw [Yy pm so] at st
 have I1:Inv X pins σ H { s with heap:=h1,drawn:=dr,toks:=tk }:=qe9 I k1
 have hz:(jT ks).length<=sizeLine:=by
  rw [(qG ks).length_eq,sizeLine_eq]
  omega
 refine ⟨.ref h1.objs.size,_,I1.laid (t':=tk) (o:=.lst ((jT ks).map V.str)) k2 (Nat.le_refl _) ⟨by rw [List.length_map]; exact hz,vs.toList,e,Jc st,by simpa [seqObj] using hp⟩,rfl,q _ (I1.hok.fresh (Nat.le_refl _))⟩
theorem qa8:wV X (.builtin "len") (fun xs H Q=>∃ a ks,xs=[.ref a]/\H a=some (qbG X.prog X.w a ks)/\Q (.int ks.length) H):=by
 intro pins s σ H xs us Q I r h
 obtain ⟨a,ks,rfl,ha,q⟩:=h
 obtain ⟨u,rfl,ru⟩:=xg r
 cases ru
 obtain ⟨es,ep,t,ho,d⟩:SetS X.prog X.w s.heap a ks:=(I.hok a _ ha).1
 have hb:=d.bd
 refine call_len_set ho ⟨rfl,rfl,rfl⟩ rfl d.fits (by unfold scanBound at hb; omega) ?_
 exact ⟨.int ks.length,H,I.tok _,⟨_,by rw [d.size]⟩,q⟩
theorem gA {m:Mo} {f:Sl->Out (D×Sl)} {σ:St} {H:Hp} {Q R:VK} (h:tE C own m f σ H Q) (i:∀ v H1,Q v H1->R v H1):tE C own m f σ H R:=by
 obtain ⟨F,ρ,rp,po⟩:=h
 refine ⟨F,ρ,rp,?_⟩
 cases q:f ρ with
 | ok p=>
  rw [q] at po
  obtain ⟨d,ρ1⟩:=p
  exact fun v F1 H1 a b c=>i _ _ (po v F1 H1 a b c)
 | exc c ρ1=>
  rw [q] at po
  exact po
 | bad=>
  rw [q] at po
  exact po.elim
noncomputable def jM (d:D):Out D:=match wZ d with
 | some ss=>if ss.length < 64 then .ok (.lst ((jT (ss.foldl jI [])).map D.str)) else .bad
 | none=>.bad
noncomputable def gB (d:D):Out D:=match wZ d with
 | some ss=>if ss.length < 4000 then .ok (.int (ss.foldl jI []).length) else .bad
 | none=>.bad
theorem VI {K:Frag} {F:Hp}:∀ {ss:List Str},(∀ x∈ss,x.length<=sizeLine)->IsL K F (ss.map V.str) (ss.map D.str)
 | [],_=>.nil
 | x::l,h=>.cons (.str (h x (List.mem_cons_self ..))) (VI fun y hy=>h y (List.mem_cons_of_mem _ hy))
theorem wM {p p2 pos2:Pos} (hK:C.K=X.K) (hc:X.calm=true) (hg:Gl X "sorted") (hm:X.mg "sorted"=none) (hv:bootBuiltins "sorted"=some (.builtin "sorted")) (hg2:Gl X "set") (hm2:X.mg "set"=none) (hv2:bootBuiltins "set"=some (.type "set")) (ha:PE X e (tE C own ma fa))
  (he:starEach [e] X.env=[(false,eval e X.env)]:=by exact qM rfl) (he2:starEach [.Call (.Name "set" p2) [e] [] pos2] X.env=[(false,eval (.Call (.Name "set" p2) [e] [] pos2) X.env)]:=by exact qM rfl) :
  PE X (.Call (.Name "sorted" p) [.Call (.Name "set" p2) [e] [] pos2] [] pos) (tE C own .fr (d1 jM fa)):=by
 refine jn (wE (Yz hc) hg hm hv (qS (uy (qaa hK hc) hg2 hm2 hv2 (qS ha jR he) (by decide) (by decide) (by rw [he]; rfl) rfl) jR he2) (by decide) (by decide) (by rw [he2]; rfl) rfl) fun σ H Q h=>?_
 refine gA (xu (ma:=ma) h) fun x H1 ⟨x',F,dx,ex,sb,tx,po⟩=>?_
 cases ex
 unfold jM at po
 cases es:wZ dx with
 | none=>
  rw [es] at po
  exact po.elim
 | some ss=>
  rw [es] at po
  by_cases hl:ss.length < 64
  ·have po:PoV C .fr F H1 (if ss.length < 64 then .ok (.lst ((jT (ss.foldl jI [])).map D.str)) else .bad) Q:=po
   rw [if_pos hl] at po
   refine ⟨x,F,dx,ss,rfl,sb,tx,es,by omega,fun hy q hq=>⟨q,_,rfl,qm,?_,fun l hl2=>?_⟩⟩
   ·have:=vt ss []
    rw [List.length_nil] at this
    omega
   ·obtain ⟨s1,c1,f1⟩:=wc (u:=qbG X.prog X.w q (ss.foldl jI [])) sb hq
    obtain ⟨s2,c2,f2⟩:=wc (u:=.lst ((jT (ss.foldl jI [])).map V.str)) s1 hl2
    have hl1:H1 l=none:=by
     by_cases z:l=q
     ·rw [z] at hl2
      rw [qm] at hl2
      cases hl2
     ·rwa [qo z] at hl2
    refine po _ _ _ s2 (c1.trans' c2) ⟨l,rfl,hl1,f2,_,qm,VI fun y hy2=>hy y ?_⟩
    rcases Jb ss [] ((qG _).mem_iff.mp hy2) with z | z
    ·cases z
    ·exact z
  ·have po:PoV C .fr F H1 (if ss.length < 64 then .ok (.lst ((jT (ss.foldl jI [])).map D.str)) else .bad) Q:=po
   rw [if_neg hl] at po
   exact po.elim
theorem YA {p p2 pos2:Pos} (hK:C.K=X.K) (hc:X.calm=true) (hg:Gl X "len") (hm:X.mg "len"=none) (hv:bootBuiltins "len"=some (.builtin "len")) (hg2:Gl X "set") (hm2:X.mg "set"=none) (hv2:bootBuiltins "set"=some (.type "set")) (ha:PE X e (tE C own ma fa))
  (he:starEach [e] X.env=[(false,eval e X.env)]:=by exact qM rfl) (he2:starEach [.Call (.Name "set" p2) [e] [] pos2] X.env=[(false,eval (.Call (.Name "set" p2) [e] [] pos2) X.env)]:=by exact qM rfl) :
  PE X (.Call (.Name "len" p) [.Call (.Name "set" p2) [e] [] pos2] [] pos) (tE C own .sh (d1 gB fa)):=by
 refine jn (wE qa8 hg hm hv (qS (uy (qaa hK hc) hg2 hm2 hv2 (qS ha jR he) (by decide) (by decide) (by rw [he]; rfl) rfl) jR he2) (by decide) (by decide) (by rw [he2]; rfl) rfl) fun σ H Q h=>?_
 refine gA (xu (ma:=ma) h) fun x H1 ⟨x',F,dx,ex,sb,tx,po⟩=>?_
 cases ex
 unfold gB at po
 cases es:wZ dx with
 | none=>
  rw [es] at po
  exact po.elim
 | some ss=>
  rw [es] at po
  have po:PoV C .sh F H1 (if ss.length < 4000 then .ok (.int (ss.foldl jI []).length) else .bad) Q:=po
  by_cases hl:ss.length < 4000
  ·rw [if_pos hl] at po
   refine ⟨x,F,dx,ss,rfl,sb,tx,es,hl,fun hy q hq=>⟨q,_,rfl,qm,?_⟩⟩
   obtain ⟨s1,c1,f1⟩:=wc (u:=qbG X.prog X.w q (ss.foldl jI [])) sb hq
   exact po _ _ _ s1 c1 (.int _)
  ·rw [if_neg hl] at po
   exact po.elim
end
@[simp] theorem qT {α β:Type} {a:α} {k:α->Out β}:(Out.ok a).bind k=k a:=rfl
@[simp] theorem qeH {α β:Type} {c:Str} {o:Sl} {k:α->Out β}:(Out.exc c o:Out α).bind k=.exc c o:=rfl
@[simp] theorem qeI {α β:Type} {k:α->Out β}:(Out.bad:Out α).bind k=.bad:=rfl
@[simp] theorem vu {α:Type} {a:α}:(Out.ok a).plain=.ok a:=rfl
@[simp] theorem qeJ {α:Type}:(Out.bad:Out α).plain=.bad:=rfl
@[simp] theorem qeK {α β:Type} {c:Prop} [Decidable c] {a b:Out α} {k:α->Out β}:(if c then a else b).bind k=if c then a.bind k else b.bind k:=by split <;> rfl
@[simp] theorem qeL {α:Type} {c:Prop} [Decidable c] {a b:Out α}:(if c then a else b).plain=if c then a.plain else b.plain:=by split <;> rfl
noncomputable def YB {α:Type} (d:D) (A B:Out α):Out α:=match d with
 | .bl b=>if b=true then A else B
 | _=>.bad
@[simp] theorem qdu {α:Type} {b:Bool} {A B:Out α}:YB (.bl b) A B=if b=true then A else B:=rfl
noncomputable def qab (p:D×Sl):Out (Bool×Sl):=match p.1 with
 | .bl b=>.ok (b,p.2)
 | _=>.bad
@[simp] theorem qd7 {b:Bool} {ρ:Sl}:qab (.bl b,ρ)=.ok (b,ρ):=rfl
noncomputable def XJ (ms:List PM):Out (Fl×Sl)->Out (D×List D)
 | .ok (.nx,ρ)=>.ok (.non,qy ρ 0 ms)
 | .ok (.rt d,ρ)=>.ok (d,qy ρ 0 ms)
 | .ok _=>.bad
 | .exc c ρ=>.exc c ((qy ρ 0 ms).map some)
 | .bad=>.bad
theorem runD_ap {N:List Str} {ms:List PM} {f:Sl->Out (Fl×Sl)} {ds:List D}:vg N ms f ds=XJ ms (f (qv N ds)):=by
 unfold vg XJ
 rfl
@[simp] theorem qeM {ms:List PM} {d:D} {ρ:Sl}:XJ ms (.ok (.rt d,ρ))=.ok (d,qy ρ 0 ms):=rfl
@[simp] theorem qeN {ms:List PM} {ρ:Sl}:XJ ms (.ok (.nx,ρ))=.ok (.non,qy ρ 0 ms):=rfl
@[simp] theorem qd8 {ms:List PM} {c:Str} {ρ:Sl}:XJ ms (.exc c ρ)=.exc c ((qy ρ 0 ms).map some):=rfl
@[simp] theorem qd9 {ms:List PM} {c:Prop} [Decidable c] {a b:Out (Fl×Sl)}:XJ ms (if c then a else b)=if c then XJ ms a else XJ ms b:=by split <;> rfl
noncomputable def WK (as:List AK) (ρ:Sl):Out (D×List D)->Out (D×Sl)
 | .ok q=>.ok (q.1,jQ as q.2 ρ)
 | .exc c o=>.exc c (jQ as (o.map (·.getD .non)) ρ)
 | .bad=>.bad
@[simp] theorem gC {as:List AK} {ρ:Sl} {q:D×List D}:WK as ρ (.ok q)=.ok (q.1,jQ as q.2 ρ):=rfl
@[simp] theorem qcI {as:List AK} {ρ:Sl} {c:Str} {o:Sl}:WK as ρ (.exc c o)=.exc c (jQ as (o.map (·.getD .non)) ρ):=rfl
@[simp] theorem qcJ {as:List AK} {ρ:Sl} {c:Prop} [Decidable c] {a b:Out (D×List D)}:WK as ρ (if c then a else b)=if c then WK as ρ a else WK as ρ b:=by split <;> rfl
variable {ρ:Sl}
@[simp] theorem qL {i:Nat}:qg i ρ=match ρ[i]? with | some (some d)=>.ok (d,ρ) | _=>.bad:=rfl
@[simp] theorem qa9 {d:D}:dC d ρ=.ok (d,ρ):=rfl
section
variable {g g':D->D->Out D} {g1:D->Out D} {fa fb fc f:Sl->Out (D×Sl)} {ft fu:Sl->Out (Bool×Sl)} {fr:Sl->Out (List D×Sl)} {fs ft1:Sl->Out (Fl×Sl)} {fi:Sl->Out (List D×Sl)} {n i:Nat} {as:List AK} {G:List D->Out (D×List D)}
@[simp] theorem vh:d1 g1 fa ρ=(fa ρ).bind fun p=>(g1 p.1).plain.bind fun d=>.ok (d,p.2):=rfl
@[simp] theorem yL:d2 g fa fb ρ=(fa ρ).bind fun p=>(fb p.2).bind fun q=>(g p.1 q.1).plain.bind fun d=>.ok (d,q.2):=rfl
@[simp] theorem qea:JC f ρ=(f ρ).bind fun p=>(yt p.1).bind fun b=>.ok (b,p.2):=rfl
@[simp] theorem wN:jG f ρ=(f ρ).bind qab:=rfl
@[simp] theorem qeb:Qz ft ρ=(ft ρ).bind fun p=>.ok (!p.1,p.2):=rfl
@[simp] theorem qdv:qd6 f ρ=(jG f ρ).bind fun p=>.ok (.bl (!p.1),p.2):=rfl
@[simp] theorem qec:qe7 ft fu ρ=(ft ρ).bind fun p=>if p.1=true then fu p.2 else .ok (false,p.2):=rfl
@[simp] theorem qeO:dOr ft fu ρ=(ft ρ).bind fun p=>if p.1=true then .ok (true,p.2) else fu p.2:=rfl
@[simp] theorem ZP:QA fa fb ρ=(fa ρ).bind fun p=>YB p.1 (fb p.2) (.ok (.bl false,p.2)):=by
 unfold QA
 cases fa ρ with
 | ok p=>
  obtain ⟨d,r⟩:=p
  cases d <;> try rfl
  rename_i b
  cases b <;> rfl
 | exc c o=>rfl
 | bad=>rfl
@[simp] theorem qed:qez fa fb ρ=(fa ρ).bind fun p=>YB p.1 (.ok (.bl true,p.2)) (fb p.2):=by
 unfold qez
 cases fa ρ with
 | ok p=>
  obtain ⟨d,r⟩:=p
  cases d <;> try rfl
  rename_i b
  cases b <;> rfl
 | exc c o=>rfl
 | bad=>rfl
@[simp] theorem qcK:dIf ft fa fb ρ=(ft ρ).bind fun p=>if p.1=true then fa p.2 else fb p.2:=rfl
@[simp] theorem qcL:uB g g' fa fb fc ρ=(fa ρ).bind fun p=>(fb p.2).bind fun q=>(g p.1 q.1).plain.bind fun z=>YB z ((fc q.2).bind fun r=>(g' q.1 r.1).plain.bind fun d=>.ok (d,r.2)) (.ok (.bl false,q.2)):=by
 unfold uB
 congr 1
 funext p
 congr 1
 funext q
 congr 1
 funext z
 cases z <;> try rfl
 rename_i b
 cases b <;> rfl
@[simp] theorem vi:qJ ρ=.ok ([],ρ):=rfl
@[simp] theorem jZ:qe fa fr ρ=(fa ρ).bind fun p=>(fr p.2).bind fun q=>.ok (p.1::q.1,q.2):=rfl
@[simp] theorem qdw:vf fr ρ=(fr ρ).bind fun q=>.ok (D.non::q.1,q.2):=rfl
@[simp] theorem ur:yQ fr ρ=(fr ρ).bind fun p=>if p.1.length<=sizeLine then .ok (.tup p.1,p.2) else .bad:=rfl
@[simp] theorem qee:JD fr ρ=(fr ρ).bind fun p=>if p.1.length<=sizeLine then .ok (.lst p.1,p.2) else .bad:=rfl
@[simp] theorem yV:kl ρ=.ok (.nx,ρ):=rfl
@[simp] theorem Kc:jx fs ft1 ρ=(fs ρ).bind fun p=>match p.1 with | .nx=>ft1 p.2 | _=>.ok p:=by
 show _=_
 unfold jx
 cases fs ρ with
 | ok p=>obtain ⟨fl,r⟩:=p; cases fl <;> rfl
 | exc c o=>rfl
 | bad=>rfl
@[simp] theorem Jd:sIf ft fs ft1 ρ=(ft ρ).bind fun p=>if p.1=true then fs p.2 else ft1 p.2:=rfl
@[simp] theorem VJ:uC f ρ=(f ρ).bind fun p=>.ok (.nx,p.2):=rfl
@[simp] theorem vj:kx f ρ=(f ρ).bind fun p=>.ok (.rt p.1,p.2):=rfl
@[simp] theorem uY:wI i f ρ=(f ρ).bind fun p=>if i < p.2.length then .ok (.nx,p.2.set i (some p.1)) else .bad:=rfl
@[simp] theorem gD:qB as G fr ρ=(fr ρ).bind fun p=>match qF as p.1 p.2 with | some ds=>WK as p.2 (G ds) | none=>.bad:=rfl
@[simp] theorem qef:qe8 f ρ=(f ρ).bind fun p=>(xx p.1).bind fun ds=>.ok (ds,p.2):=rfl
@[simp] theorem Kd:vp f ρ=(f ρ).bind fun p=>(ke p.1).bind fun ds=>.ok (ds,p.2):=rfl
@[simp] theorem qac {d:D}:gNm i d ρ=if i < ρ.length then .ok (ρ.set i (some d)) else .bad:=rfl
@[simp] theorem YC {gg:D->Sl->Out Sl}:qaW fi gg fs ρ=(fi ρ).bind fun p=>yS gg fs p.1 p.2:=rfl
@[simp] theorem qeg {gg:D->Sl->Out Sl}:qdp f gg ρ=(f ρ).bind fun p=>match gg p.1 p.2 with | .ok ρ'=>.ok (.nx,ρ') | _=>.bad:=rfl
@[simp] theorem qeh {gg:List D->D->Out (List D)}:UZ i gg f ρ=if gu ρ[i]?=true then (f ρ).bind fun p=>(match p.2[i]? with | some (some (.lst xs))=>(match gg xs p.1 with | .ok ys=>.ok (.non,p.2.set i (some (.lst ys))) | _=>.bad) | _=>.bad) else .bad:=rfl
@[simp] theorem qcM:ftT ρ=.ok (true,ρ):=rfl
end
end L2.D2
namespace L2.D2
open PySem PySem.Spec PyProof.Rows
def qbC (i j:Int):Prop:=(0<=j/\j<=64)/\-4611686018427387904 < i/\i < 4611686018427387904
instance:∀ i j,Decidable (qbC i j):=fun i j=>inferInstanceAs (Decidable (_/\_))
section
variable {X:Cx} {C:Ct}
theorem GN:OpR X (binaryOp .Pow) (rI qbC fun i j=>.int (i ^ j.toNat)):=opI fun i j _ _ _ _ _ hc q=>by
 obtain ⟨⟨h0,h1⟩,h2,h3⟩:=hc
 exact pow_int_small h0 (by omega) (by omega) q
noncomputable def qei:D->D->Out D:=Qj fun i j=>if qbC i j then .ok (.int (i ^ j.toNat)) else .bad
theorem qcN:OpD X C .sh (binaryOp .Pow) qei:=UB GN fun _ _ _=>.int _
end
noncomputable def YD (sep:Str):D->Out D
 | .lst ds=>match xJ ds with
  | some ss=>if (ss.map (·.length)).sum+ss.length * sep.length<=16777216/\(Txt.join sep ss).length<=sizeLine then .ok (.str (Txt.join sep ss)) else .bad
  | none=>.bad
 | _=>.bad
section
variable {X:Cx} {C:Ct} {own:List Nat} {e:Expr} {fe:Sl->Out (D×Sl)} {m:Mo} {apos cpos:Pos} {sep:Str}
theorem qba:MtR X "str.join" (fun x vs H Q=>∃ (sep:Str) (a:Addr) (xs:List V) (ss:List Str),x=.str sep/\vs=[.ref a]/\SqL X.K H a xs/\(∀ us,Vals xs us->StrsAre us ss)/\(ss.map (·.length)).sum+ss.length * sep.length<=16777216/\Q (.str (Txt.join sep ss)) H):=by
 intro pins s σ H x vs v us Q I rx rv h
 obtain ⟨sep,a,xs,ss,rfl,rfl,hq,hb,hz,q⟩:=h
 obtain ⟨t,rfl⟩:=rx
 obtain ⟨u,rfl,ru⟩:=rv.one
 cases ru
 obtain ⟨its,r,pl,_⟩:=I.list hq
 obtain ⟨o,n,ho,hc,hd,hdt⟩:=pl
 exact join_list ⟨o,ho,hc,n,hdt⟩ (by simpa using hb its r) hz fun t' k=>⟨.str (Txt.join sep ss),H,I.tok _,⟨_,rfl⟩,q⟩
theorem qbb {c1 c2} (hK:C.K=X.K) (he:PE X e (tE C own m fe))
  (hbase:attributeBase (.Constant (.str sep) c1 c2) "join" X.env (eval (.Constant (.str sep) c1 c2) X.env)=eval (.Constant (.str sep) c1 c2) X.env:=by rfl)
  (hfew:((backTo cpos (starEach [e] X.env)).all (fun x=>!x.1)&&(backToKw cpos (keywordEach [] X.env)).all (fun x=>x.1.isSome)
   && decide ([e].length+([]:List Keyword).length+(if ([]:List Keyword).isEmpty then 0 else 1) < 30))=true:=by exact wG rfl)
  (hline:(apos.endLine == cpos.line)=true:=by rfl) (hs:starEach [e] X.env=[(false,eval e X.env)]:=by exact qM rfl) :
  PE X (.Call (.Attribute (.Constant (.str sep) c1 c2) "join" apos) [e] [] cpos) (tE C own .sh (d1 (YD sep) fe)):=by
 refine jn (Wx PySem.F.plainAttrs_str PySem.F.slot_str_join PySem.F.type_str_join qba GK (qS he jR hs) hbase hfew hline hs rfl) fun σ H Q h=>?_
 refine ⟨rfl,?_⟩
 obtain ⟨F,ρ,rp,h⟩:=UA (ma:=m) h
 refine ⟨F,ρ,rp,?_⟩
 cases q:fe ρ with
 | ok p=>
  rw [q] at h
  obtain ⟨d,ρ1⟩:=p
  intro v F1 H1 rp1 c1 mo1
  obtain ⟨F2,dx,sb,tx,po⟩:=h v F1 H1 rp1 c1 mo1
  cases dx <;> try exact po.elim
  rename_i ds
  unfold YD at po
  cases q2:xJ ds with
  | none=>simp only [q2] at po; exact po.elim
  | some ss=>
   simp only [q2] at po
   by_cases hz:(ss.map (·.length)).sum+ss.length * sep.length<=16777216/\(Txt.join sep ss).length<=sizeLine
   ·rw [if_pos hz] at po
    obtain ⟨a,vs,rfl,hq,t⟩:=tx.lst sb
    have hq':SqL X.K H1 a vs:=by rw [<-hK]; exact hq
    exact ⟨sep,a,vs,ss,rfl,rfl,hq',fun us r=>(gz t r q2).1,hz.1,po _ F2 H1 sb .refl (.str hz.2)⟩
   ·rw [if_neg hz] at po
    exact po.elim
 | exc c=>rw [q] at h; exact h
 | bad=>rw [q] at h; exact h.elim
end
noncomputable def dM (k:D->Bool) (g:D->D->Out D) (fo fa:Sl->Out (D×Sl)):Sl->Out (D×Sl):=fun ρ=>(fo ρ).bind fun p=>if k p.1 then (fa p.2).bind fun q=>(g p.1 q.1).plain.bind fun d=>.ok (d,q.2) else .bad
section
variable {X:Cx} {C:Ct} {own:List Nat} {a b:Expr} {fa fb:Sl->Out (D×Sl)} {m ma mb:Mo} {pos:Pos}
theorem Po.imp {σ:St} {F H:Hp} {r:Out (D×Sl)} {Q R:VK} (h:Po C own m σ F H r Q) (i:∀ v H',Q v H'->R v H'):Po C own m σ F H r R:=by
 cases r with
 | ok p=>exact fun v F' H' rp c mo=>i v H' (h v F' H' rp c mo)
 | exc x=>exact h
 | bad=>exact h.elim
theorem qbc {k:D->Bool} {g:D->D->Out D} {σ:St} {H:Hp} {Q:VK} (hma:ma≠.any) (h:tE C own m (dM k g fa fb) σ H Q) :
  tE C own ma fa σ H fun x H1=>(∃ F dx,Same F H1/\TopIs C.K F H1 x dx/\k dx=true)/\tE C own mb fb σ H1 fun y H2=>∃ F dx dy,Same F H2/\TopIs C.K F H2 x dx/\TopIs C.K F H2 y dy/\PoV C m F H2 (g dx dy) Q:=by
 obtain ⟨F,ρ,rp,h⟩:=h
 refine ⟨F,ρ,rp,Po.bind h fun v F1 H1 d ρ1 rp1 c1 mo1 h1=>?_⟩
 cases hk:k d with
 | false=>simp only [hk] at h1; exact h1.elim
 | true=>
  simp only [hk,if_true] at h1
  exact ⟨⟨F1,d,rp1.sub,mo1.top,hk⟩,F1,ρ1,rp1,Po.bind h1 fun w F2 H2 e ρ2 rp2 c2 mo2 h2=>⟨F2,d,e,rp2.sub,(mo1.grow hma c2 fun x z=>(rp.OA_there z).1).top,mo2.top,PoV.of rp2 h2⟩⟩
def MtD (X:Cx) (C:Ct) (m:Mo) (id:String) (g:D->D->Out D):Prop:=
 MtR X id (fun x vs H Q=>∃ y F dx dy,vs=[y]/\Same F H/\TopIs C.K F H x dx/\TopIs C.K F H y dy/\PoV C m F H (g dx dy) Q)
noncomputable def qbH:D->Bool
 | .lst _=>true
 | _=>false
theorem VL {name:Str} {id:String} {g:D->D->Out D} {apos cpos:Pos} (slot:Slot "list" name id) (hty:typeOf (.builtin id)=pure (.type "method_descriptor")) (hm:MtD X C m id g) (hK:C.K=X.K)
  (ha:PE X a (tE C own ma fa)) (hb:PE X b (tE C own mb fb)) (hma:ma≠.any:=by decide)
  (hbase:attributeBase a name X.env (eval a X.env)=eval a X.env:=by rfl)
  (hfew:((backTo cpos (starEach [b] X.env)).all (fun x=>!x.1)&&(backToKw cpos (keywordEach [] X.env)).all (fun x=>x.1.isSome)
   && decide ([b].length+([]:List Keyword).length+(if ([]:List Keyword).isEmpty then 0 else 1) < 30))=true:=by exact wG rfl)
  (hline:(apos.endLine == cpos.line)=true:=by rfl) (hs:starEach [b] X.env=[(false,eval b X.env)]:=by exact qM rfl) :
  PE X (.Call (.Attribute a name apos) [b] [] cpos) (tE C own m (dM qbH g fa fb)):=by
 refine jn (Wx PySem.F.plainAttrs_list slot hty hm ha (qS hb jR hs) hbase hfew hline hs rfl) fun σ H Q h=>?_
 obtain ⟨F,ρ,rp,h⟩:=qbc (ma:=ma) (mb:=mb) hma h
 refine ⟨F,ρ,rp,Po.imp h fun x H1 h1=>?_⟩
 obtain ⟨⟨F1,dx,sb,tx,hk⟩,h2⟩:=h1
 refine ⟨?_,?_⟩
 ·cases dx <;> try (cases hk; done)
  obtain ⟨a,vs,rfl,hq,t⟩:=tx.lst sb
  exact .inl ⟨rfl,vs,by rw [<-hK]; exact hq⟩
 ·obtain ⟨F2,ρ2,rp2,h2⟩:=h2
  exact ⟨F2,ρ2,rp2,Po.imp h2 fun y H2 q=>⟨y,q.choose,q.choose_spec.choose,q.choose_spec.choose_spec.choose,rfl,q.choose_spec.choose_spec.choose_spec⟩⟩
end
theorem YE {X:Cx} {pins:List (Addr×Obj)} {σ:St} {F H:Hp} {s:Shared} (I:Inv X pins σ H s) (sb:Same F H) {n:Nat} {e:D}:∀ {vs:List V} {ds:List D} {us:List Value} {b:Bool},IsL X.K F vs ds->Vals vs us->zo n e ds=some b ->
  us.map (WW X F n e)=ds.map fun d=>eqN n d e == some true
 | _,_,_,b,.nil,.nil,h=>rfl
 | _,_,_,b,.cons i t,.cons r rs,h=>by
  obtain ⟨a,c,q1,q2,rfl⟩:=Qx h
  rw [List.map_cons,List.map_cons,YE I sb t rs q2,UJ I sb i r q1,q1]
  cases a <;> rfl
noncomputable def ua:D->D->Out D
 | .lst ds,e=>match zo 7 e ds with
  | some _=>match (ds.map fun d=>eqN 7 d e == some true).findIdx? id with
   | some j=>.ok (.int (j:Nat))
   | none=>.bad
  | none=>.bad
 | _,_=>.bad
section
variable {X:Cx} {C:Ct}
theorem VM (hK:C.K=X.K) (hu:X.A.units+64 < cLine):MtD X C .sh "list.index" ua:=by
 intro pins s σ H x vs v us Q I rx rv h
 obtain ⟨y,F,dx,dy,rfl,sb,tx,ty,po⟩:=h
 rw [hK] at tx ty
 obtain ⟨u,rfl,ru⟩:=rv.one
 unfold ua at po
 cases dx <;> try exact po.elim
 rename_i ds
 cases e:zo 7 dy ds with
 | none=>simp only [e] at po; exact po.elim
 | some b=>
  simp only [e] at po
  cases hj:(ds.map fun d=>eqN 7 d dy == some true).findIdx? id with
  | none=>simp only [hj] at po; exact po.elim
  | some j=>
   simp only [hj] at po
   obtain ⟨F',g',sb',iy⟩:=ty.is sb
   obtain ⟨a,xs,rfl,p,il⟩:=tx.lst sb
   cases rx
   obtain ⟨its,r,pl,hz⟩:=I.list p
   obtain ⟨h1,h2⟩:=Qy (A:=X.A) (y:=.non) (a:=a) (u:=.none) I hu sb' iy ru (il.mono g') r e
   have hh:=YE I sb' (il.mono g') r e
   rw [<-hh] at hj
   obtain ⟨⟨cls,dd,data,sl⟩,n,ho,hc,hd,hdt⟩:=pl
   simp only at hc hd hdt
   subst hc hdt
   obtain ⟨hj1,hj2,hj3⟩:=List.findIdx?_eq_some_iff_getElem.mp hj
   have hlen:its.length<=sizeLine:=by have:=r.length; omega
   have hj1':j < its.length:=by simpa using hj1
   refine call_meets PySem.F.slot_list_index ⟨_,ho,rfl⟩ PySem.F.entry_list_index (PySem.F.args_list_index_2 _ _) (SeqAt.list_indexAt a _ n dd sl u (WW X F' 7 dy) j (by simpa using hj1') (by rw [sizeLine_eq] at hlen; omega) (by simpa using hj2) fun m hm h1=>?_) ⟨ho,fun w hw=>h2 w hw,?_⟩
   ·have:=hj3 m h1
    simpa using this
   ·exact ⟨.int (j:Nat),H,I.tok _,⟨_,rfl⟩,po _ F H sb .refl (.int _)⟩
end
theorem VN {xs:List V} {us:List Value} (r:Vals xs us):∀ n:Nat,Vals (List.replicate n xs).flatten (List.replicate n us).flatten
 | 0=>.nil
 | n+1=>by
  rw [List.replicate_succ,List.replicate_succ,List.flatten_cons,List.flatten_cons]
  exact r.append (VN r n)
theorem YF {K:Frag} {F:Hp} {vs:List V} {ds:List D} (r:IsL K F vs ds):∀ n:Nat,IsL K F (List.replicate n vs).flatten (List.replicate n ds).flatten
 | 0=>.nil
 | n+1=>by
  rw [List.replicate_succ,List.replicate_succ,List.flatten_cons,List.flatten_cons]
  exact r.append (YF r n)
theorem YG {α:Type} (l:List α):∀ n:Nat,(List.replicate n l).flatten.length=l.length * n
 | 0=>by simp
 | n+1=>by rw [List.replicate_succ,List.flatten_cons,List.length_append,YG l n,Nat.mul_succ,Nat.add_comm]
noncomputable def qbI:D->D->Out D
 | .lst ds,.int n=>if (0<=n/\n<=100000)/\ds.length * n.toNat<=1000000 then .ok (.lst (List.replicate n.toNat ds).flatten) else .bad
 | _,_=>.bad
section
variable {X:Cx} {C:Ct}
theorem YH (hK:C.K=X.K):OpD X C .fr (binaryOp .Mult) qbI:=by
 intro pins s σ H x y v u Q I rx ry h
 obtain ⟨F,dx,dy,sb,tx,ty,po⟩:=h
 cases dx <;> try exact po.elim
 cases dy <;> try exact po.elim
 rename_i ds n
 unfold qbI at po
 by_cases hz:(0<=n/\n<=100000)/\ds.length * n.toNat<=1000000
 ·simp only [if_pos hz] at po
  obtain ⟨a,xs,rfl,p,il⟩:=tx.lst sb
  obtain rfl:=ty.int
  cases rx
  obtain ⟨t,rfl⟩:=ry
  rw [hK] at p
  obtain ⟨its,r,pl,_⟩:=I.list p
  have hlen:its.length=ds.length:=by rw [<-r.length,il.length]
  obtain ⟨⟨cls,d,data,sl⟩,k,ho,hc,hd,hdt⟩:=pl
  simp only at hc hd hdt
  subst hc hdt
  have hq:H s.heap.objs.size=none:=I.hok.fresh (Nat.le_refl _)
  obtain ⟨s2,c2,f2⟩:=wc (u:=.lst (List.replicate n.toNat xs).flatten) sb hq
  have hw:(List.replicate n.toNat xs).flatten.length<=sizeLine:=by rw [YG,il.length,sizeLine_eq]; omega
  refine wpAny_binaryOp_repeat_ref (T := "list") (U := "int") (by decide) ⟨_,ho,rfl⟩ (fun s'=>typeIs_int s' n t) noFill_list_mul PySem.F.fills_int_mul PySem.F.slot_int_rmul repeat_list PySem.F.slot_int_index.lookup
   (call_meets PySem.F.slot_int_rmul (typeIs_int s n t) PySem.F.entry_int_rmul (PySem.F.args_int_rmul_2 _ _) (lm_int_rmul_list_any n t a its.toArray k d sl)
    ⟨ho,rfl,⟨_,ho,rfl⟩,call_meets PySem.F.slot_list_mul ⟨_,ho,rfl⟩ PySem.F.entry_list_mul (PySem.F.args_list_mul_2 _ _)
     (lm_list_mul_any a its.toArray k d sl n t (by simp [Builtin.List.listFitsIndex]; omega) (by rw [List.size_toArray,hlen]; omega) (by simp [Builtin.List.listTooLong,sizeLine]; rw [hlen]; omega))
     ⟨ho,?_⟩⟩)
  refine ⟨.ref s.heap.objs.size,_,I.laid (t':=s.toks) (o:=.lst (List.replicate n.toNat xs).flatten) (fun b o e=>Heap.get?_push_of_some _ e) (Nat.le_refl _) ⟨hw,(List.replicate n.toNat its).flatten,0,VN r _,?_⟩,rfl,po _ _ _ s2 c2 ⟨_,rfl,hq,f2,_,qm,YF il _⟩⟩
  rw [listMul_foldl_if]
  exact Heap.get?_push_size _ rfl
 ·simp only [if_neg hz] at po
  exact po.elim
end
def qfa (i j:Int):Prop:=(-(2 ^ 62)<=i/\i < 2 ^ 62)/\-(2 ^ 62)<=j/\j < 2 ^ 62
instance:∀ i j,Decidable (qfa i j):=fun i j=>inferInstanceAs (Decidable (_/\_))
mutual
def qcO:Nat->Expr->Option D
 | 0,_=>none
 | n+1,e=>match e with
  | .Constant c _ _=>match c with
   | .none=>some .non
   | .bool b=>some (.bl b)
   | .int i=>some (.int i)
   | .str x=>if x.length<=sizeLine then some (.str x) else none
   | _=>none
  | .UnaryOp .USub (.Constant (.int i) _ _) _=>some (.int (-i))
  | .List es _=>(qbJ n es).bind fun ds=>if ds.length<=sizeLine then some (.lst ds) else none
  | .Tuple es _ _=>(qbJ n es).bind fun ds=>if ds.length<=sizeLine then some (.tup ds) else none
  | _=>none
def qbJ:Nat->List Expr->Option (List D)
 | _,[]=>some []
 | 0,_::_=>none
 | n+1,e::es=>(qcO n e).bind fun d=>(qbJ n es).bind fun ds=>some (d::ds)
end
theorem VO {α:Type}:∀ l:List α,((l.map fun _=>AK.vl).all fun a=>decide (a=.vl))=true
 | []=>rfl
 | _::l=>by rw [List.map_cons,List.all_cons,VO l]; rfl
theorem YI {n:Nat} {e:Expr} {d:D} (h:qcO n e=some d):JO e=true:=by
 cases n with
 | zero=>cases h
 | succ n=>cases e <;> first | rfl | (simp [qcO] at h)
section
variable {X:Cx} {C:Ct} {own:List Nat}
mutual
theorem qcP:∀ (n:Nat) {e:Expr} {d:D},qcO n e=some d->PE X e (tE C own .sh (dC d))
 | 0,_,_,h=>by cases h
 | n+1,e,d,h=>by
  unfold qcO at h
  split at h
  ·split at h
   ·cases h; exact zJ
   ·cases h; exact gj
   ·cases h; exact qA
   ·split at h
    ·rename_i hz
     cases h
     exact wb hz
    ·cases h
   ·cases h
  ·cases h
   exact jn (qcg GV qA) fun σ H Q h=>h
  ·obtain ⟨ds,h1,h2⟩:=Option.bind_eq_some_iff.mp h
   split at h2
   ·rename_i hz
    cases h2
    have e2:JD (fun ρ=>.ok (ds,ρ))=dC (.lst ds):=by
     funext ρ
     unfold JD dC
     rw [Out.ok_bind,if_pos hz]
    rw [<-e2]
    exact vd (wX (gE n h1) (VO _)) (by decide)
   ·cases h2
  ·obtain ⟨ds,h1,h2⟩:=Option.bind_eq_some_iff.mp h
   split at h2
   ·rename_i hz
    cases h2
    have e2:yQ (fun ρ=>.ok (ds,ρ))=dC (.tup ds):=by
     funext ρ
     unfold yQ dC
     rw [Out.ok_bind,if_pos hz]
    rw [<-e2]
    exact kS (gE n h1) (VO _)
   ·cases h2
  ·cases h
theorem gE:∀ (n:Nat) {es:List Expr} {ds:List D},qbJ n es=some ds->PA X es (tAr C own (es.map fun _=>.vl) fun ρ=>.ok (ds,ρ))
 | 0,[],ds,h=>by
  cases h
  exact ql
 | _+1,[],ds,h=>by
  cases h
  exact ql
 | 0,_::_,ds,h=>by cases h
 | n+1,e::es,ds,h=>by
  unfold qbJ at h
  obtain ⟨d,h1,h⟩:=Option.bind_eq_some_iff.mp h
  obtain ⟨ds',h2,h⟩:=Option.bind_eq_some_iff.mp h
  cases h
  have e2:qe (dC d) (fun ρ=>.ok (ds',ρ))=fun ρ=>.ok (d::ds',ρ):=rfl
  rw [<-e2]
  exact qc (qcP n h1) (gE n h2) (by decide) (ji (YI h1))
end
theorem YJ {es:List Expr} {ds:List D} {pos:Pos} (n:Nat) (h:qbJ n es=some ds):PE X (.List es pos) (tE C own .fr (JD fun ρ=>.ok (ds,ρ))):=wX (gE n h) (VO _)
end
noncomputable def txI (i:Int):Str:=toString i
def CTx (i:Int):Prop:=i.natAbs.log2 < 1920/\(txI i).length<=sizeLine
instance:∀ i,Decidable (CTx i):=fun i=>inferInstanceAs (Decidable (_/\_))
end L2.D2
namespace PySem
open Builtin Builtin.Str
end PySem
namespace L2.D2
open PySem PySem.Spec PyProof.Rows
def qfb (x y:Str):Prop:=(y.length == 0)=false/\(Txt.split x y).length<=sizeLine/\∀ z∈Txt.split x y,z.length<=sizeLine
instance:∀ x y,Decidable (qfb x y):=fun x y=>inferInstanceAs (Decidable (_/\_))
inductive IntsAre:List Value->List Int->Prop
 | nil:IntsAre [] []
 | cons (y:Int) (t:Tok) {vs:List Value} {ys:List Int} (h:IntsAre vs ys):IntsAre (Value.int y t::vs) (y::ys)
theorem IntsAre.length:∀ {vs:List Value} {ys:List Int},IntsAre vs ys->vs.length=ys.length
 | _,_,.nil=>rfl
 | _,_,.cons _ _ h=>congrArg (·+1) h.length
theorem IntsAre.item:∀ {vs:List Value} {ys:List Int},IntsAre vs ys->∀ (i:Nat) (v:Value),vs[i]?=some v->∃ y t,v=Value.int y t/\ys[i]?=some y
 | _,_,.nil,i,v,e=>by simp at e
 | _,_,.cons y t h,0,v,e=>by simp at e; subst e; exact ⟨y,t,rfl,rfl⟩
 | _,_,.cons y t h,i+1,v,e=>by
  obtain ⟨z,t',e1,e2⟩:=h.item i v (by simpa using e)
  exact ⟨z,t',e1,by simpa using e2⟩
noncomputable def zOf:Value->Int
 | .int i _=>i
 | _=>0
theorem YK {x:Int} {v:Value} (h:Value.isInt x v=true):∃ t,v=Value.int x t:=by
 cases v <;> first | (cases h; done) | skip
 rename_i i t
 have:i=x:=by simpa [Value.isInt] using h
 subst this
 exact ⟨t,rfl⟩
noncomputable def vY (ks:List Int) (x:Int):List Int:=if x∈ks then ks else ks++[x]
structure SetDZ (prog:Program) (w:World) (es:Array (Int×Value)) (t:SetTable) (ks:List Int):Prop where
 el:ElemsOf (PySem.intKind prog w) es.toList
 perm:(es.toList.map fun e=>zOf e.2).Perm ks
 nd:ks.Nodup
 bd:es.size < scanBound
 fits:t.fits es.size=true
def SetZ (prog:Program) (w:World) (h:Heap) (a:Addr) (ks:List Int):Prop:=∃ es ep t,h.get? a=some (jv es ep t)/\SetDZ prog w es t ks
section
variable {prog:Program} {w:World} {A:Around} {E:Value->Shared->Prop} {s:Shared}
theorem qad {l:List (Int×Value)} (h:ElemsOf (PySem.intKind prog w) l) {e:Int×Value} (he:e∈l):∃ x t,e.2=.int x t:=by
 obtain ⟨⟨k,hk,_⟩,_⟩:=h e he
 obtain ⟨t,ht⟩:=YK hk
 exact ⟨k,t,ht⟩
theorem isZ {x y:Int} {t:Tok}:(PySem.intKind prog w).is x (.int y t)=decide (x=y):=by
 have h:(PySem.intKind prog w).is y (.int y t)=true:=by
  show Value.isInt y (.int y t)=true
  simp [Value.isInt]
 exact KeyKind.is_eq_decide h x
theorem SetDZ.mem {es:Array (Int×Value)} {t:SetTable} {ks:List Int} (h:SetDZ prog w es t ks) {x:Int}:x∈ks↔∃ e∈es.toList,(PySem.intKind prog w).is x e.2=true:=by
 rw [<-h.perm.mem_iff,List.mem_map]
 constructor
 ·rintro ⟨e,he,z⟩
  obtain ⟨y,t,hy⟩:=qad h.el he
  refine ⟨e,he,?_⟩
  rw [hy] at z ⊢
  rw [isZ]
  exact decide_eq_true z.symm
 ·rintro ⟨e,he,z⟩
  obtain ⟨y,t,hy⟩:=qad h.el he
  refine ⟨e,he,?_⟩
  rw [hy] at z ⊢
  rw [isZ] at z
  exact (of_decide_eq_true z).symm
theorem SetDZ.size {es:Array (Int×Value)} {t:SetTable} {ks:List Int} (h:SetDZ prog w es t ks):es.size=ks.length:=by
 have e:=h.perm.length_eq
 simpa using e
theorem SetDZ.more {es es1:Array (Int×Value)} {t t1:SetTable} {ks:List Int} {x:Int} {tk:Tok} (h:SetDZ prog w es t ks) (nx:x∉ks) (hr:ks.length+1 < scanBound)
  (hp:es1.toList.Perm (es.toList++[((PySem.intKind prog w).hash x,.int x tk)])) (hf:t1.fits es1.size=true):SetDZ prog w es1 t1 (vY ks x):=by
 have ex:vY ks x=ks++[x]:=if_neg nx
 have hz:es1.size=ks.length+1:=by
  rw [<-Array.length_toList,hp.length_eq,List.length_append,Array.length_toList,h.size]
  rfl
 rw [ex]
 refine ⟨(h.el.push (by rw [isZ]; exact decide_eq_true rfl) rfl).perm hp,?_,?_,?_,hf⟩
 ·refine (hp.map _).trans ?_
  rw [List.map_append]
  exact h.perm.append (List.Perm.refl _)
 ·exact List.nodup_append.mpr ⟨h.nd,by simp,fun a ha b hb=>by rw [List.mem_singleton.mp hb]; exact fun z=>nx (z ▸ ha)⟩
 ·rw [hz]
  exact hr
theorem ZQ {a:Addr} {ks:List Int} {x:Int} {tk:Tok} {Q:Bool->Shared->Prop} (hS:SetZ prog w s.heap a ks) (hr:ks.length+1 < scanBound)
  (h:∀ h' b,Heap.SameBut a s.heap h'->SetZ prog w h' a (vY ks x)->Q b { s with heap:=h' }):wpAny (model prog w) A (setAddHashed a (.int x tk) ((PySem.intKind prog w).hash x)) Q E s:=by
 obtain ⟨es,ep,t,ho,d⟩:=hS
 have hk:(PySem.intKind prog w).is x (.int x tk)=true:=by rw [isZ]; exact decide_eq_true rfl
 unfold setAddHashed setAddHashedIn
 refine wpAny_holding (wpAny_bind (wpAny_setState_of ho rfl d.fits ?_))
 dsimp only
 rw [byScan_of rfl d.bd d.el,if_pos rfl]
 unfold setAddByScan
 refine wpAny_bind (wpAny_bind (wpAny_rule (wpAny_bind (wpAny_setScan_of hk ho rfl d.fits d.el ?_))))
 cases hq:es.toList.findIdx? (fun e=>(PySem.intKind prog w).is x e.2) with
 | some j=>
  obtain ⟨hj,hp,_⟩:=List.findIdx?_eq_some_iff_getElem.mp hq
  have hx:x∈ks:=d.mem.mpr ⟨_,List.getElem_mem hj,hp⟩
  have q:=h s.heap false (Heap.SameBut.refl a s.heap) ⟨es,ep,t,ho,by rw [show vY ks x=ks from if_pos hx]; exact d⟩
  dsimp only
  exact wpAny_pure (wpAny_pure q)
 | none=>
  have hx:x∉ks:=fun z=>by
   obtain ⟨e,he,q⟩:=d.mem.mp z
   have:=List.findIdx?_eq_none_iff.mp hq e he
   rw [q] at this
   cases this
  dsimp only
  have hp:=layNew_perm t es ((PySem.intKind prog w).hash x) (.int x tk)
  have hf:=layNew_fits t es ((PySem.intKind prog w).hash x) (.int x tk)
  generalize layNew t es ((PySem.intKind prog w).hash x) (.int x tk)=L at hp hf ⊢
  obtain ⟨es1,t1,wd,gv⟩:=L
  dsimp only at hp hf ⊢
  rw [Array.toList_push] at hp
  have tail:∀ t2:SetTable,t2.fits es1.size=true->wpAny (model prog w) A (do
    storeSet a es1 t2
    if (!wd&&t2.tooFull)=true then do
      (match (relayAll t2 es1 (SetTable.grown es1.size)).2.2 with | true=>rule "set.scan.the-table-gave-way" | false=>pure ())
      storeSet a (relayAll t2 es1 (SetTable.grown es1.size)).1 (relayAll t2 es1 (SetTable.grown es1.size)).2.1
      pure (some true)
     else pure (some true)) (fun r s'=>∃ h',s'={ s with heap:=h' }/\r=some true/\Heap.SameBut a s.heap h'/\SetZ prog w h' a (vY ks x)) E s:=by
   intro t2 f2
   have d2:=d.more hx hr hp f2
   refine wpAny_bind (wpAny_storeSet_of ho rfl ?_ (fits_of_scanBound d2.bd))
   have ho1:=VE (es':=es1) (t':=t2) ho
   have sb:=Heap.SameBut.update s.heap a (Obj.putSet es1 t2)
   split
   ·have rp:=relayAll_perm t2 es1 (SetTable.grown es1.size)
    have rf:=relayAll_fits t2 es1 (SetTable.grown es1.size)
    generalize relayAll t2 es1 (SetTable.grown es1.size)=R at rp rf ⊢
    obtain ⟨es2,t3,g2⟩:=R
    dsimp only at rp rf ⊢
    have d3:=d.more hx hr (rp.trans hp) rf
    refine wpAny_bind ?_
    have go:wpAny (model prog w) A (storeSet a es2 t3 >>= fun _=>pure (some true)) (fun r s'=>∃ h',s'={ s with heap:=h' }/\r=some true/\Heap.SameBut a s.heap h'/\SetZ prog w h' a (vY ks x)) E { s with heap:=s.heap.update a (Obj.putSet es1 t2) }:=
     wpAny_bind (wpAny_storeSet_of ho1 rfl (wpAny_pure ⟨_,rfl,rfl,sb.trans (Heap.SameBut.update _ a _),es2,_,t3,VE ho1,d3⟩) (fits_of_scanBound d3.bd))
    cases g2
    ·exact wpAny_pure go
    ·exact wpAny_rule go
   ·exact wpAny_pure ⟨_,rfl,rfl,sb,es1,_,t2,ho1,d2⟩
  have fin:∀ (r:Option Bool) (s':Shared),(∃ h',s'={ s with heap:=h' }/\r=some true/\Heap.SameBut a s.heap h'/\SetZ prog w h' a (vY ks x)) ->
    wpAny (model prog w) A (match r with | some added=>pure added | none=>setAddHashedIn a (.int x tk) ((PySem.intKind prog w).hash x) 99999) Q E s':=by
   rintro r s' ⟨h',rfl,rfl,sb,hS⟩
   exact wpAny_pure (h h' true sb hS)
  have gw:∀ (b:Bool) {s₁:Shared} {Q':Unit->Shared->Prop},Q' () s₁->wpAny (model prog w) A (match b with | true=>rule "set.scan.the-table-gave-way" | false=>pure ()) Q' E s₁:=fun b s₁ Q' q=>by
   cases b
   ·exact wpAny_pure q
   ·exact wpAny_rule q
  refine wpAny_bind (gw _ ?_)
  cases e1:t1.plain with
  | true=>
   rw [if_pos rfl,hashByValue_scannable 8 (x:=.int x tk) rfl]
   refine wpAny_bind (wpAny_pure ?_)
   exact wpAny_mono (tail (if plainKind (Value.int x tk)=true then t1 else { t1 with plain:=false }) (by split; exact hf; exact SetTable.fits_plain_off hf)) fin fun _ _ z=>z
  | false=>
   rw [if_neg (by simp)]
   refine wpAny_bind (wpAny_pure ?_)
   exact wpAny_mono (tail t1 hf) fin fun _ _ z=>z
end
theorem VP (ks:List Int) (x:Int):(vY ks x).length<=ks.length+1:=by
 unfold vY
 split
 ·omega
 ·rw [List.length_append]
  exact Nat.le_refl _
theorem xK:∀ (l ks:List Int),(l.foldl vY ks).length<=ks.length+l.length
 | [],ks=>Nat.le_refl _
 | x::l,ks=>by
  have h1:=xK l (vY ks x)
  have h2:=VP ks x
  rw [List.foldl_cons,List.length_cons]
  omega
theorem SetZ.at {prog:Program} {w:World} {h h':Heap} {a:Addr} {ks:List Int} (hS:SetZ prog w h a ks) (k:∀ o,h.get? a=some o->h'.get? a=some o):SetZ prog w h' a ks:=
 let ⟨es,ep,t,ho,d⟩:=hS; ⟨es,ep,t,k _ ho,d⟩
section
variable {prog:Program} {w:World} {A:Around} {R:Result->Shared->Prop} {I:Addr} {fp wr:List Addr} {n:Nat} {P:Nat->Value->Prop} {St:Nat->Shared->Prop}
theorem Je {G:Array GenState->Array GenState->Prop} (W:WalksS prog w A.in1 I fp wr G n P St) (S:Addr) (hSf:S∉fp) (ss:List Int) (hn:ss.length=n) (hv:∀ i v,P i v->∃ x t,ss[i]?=some x/\v=.int x t) (hb:n+1 < scanBound) :
  ∀ (k i:Nat) (s:Shared),n - i=k->i<=n->St i s->SetZ prog w s.heap S ((ss.take i).foldl vY []) ->
   (∀ s',Moved (S::wr) G s s'->SetZ prog w s'.heap S (ss.foldl vY [])->R (.ok (.ret .none)) s')->codeAny (model prog w) A (.builtin "set.update.loop" ⟨[.ref S,.ref I],[]⟩) R s:=by
 have nw:S∉wr:=fun h=>hSf (W.sub _ h)
 have up:∀ b∈wr,b∈S::wr:=fun b hb=>List.mem_cons_of_mem _ hb
 intro k
 induction k with
 | zero=>
  intro i s hk hi hst hS hR
  have hin:i=n:=by omega
  subst hin
  refine codeAny_builtin F.entry_set_update_loop ?_
  rw [Around.under_plainId F.plain_set_update_loop _]; show wpAny _ A.in1 (pyNext (.ref I) >>= _) _ _ s
  refine wpAny_bind (W.done s _ _ hst fun s' hm=>wpAny_pure (hR s' (hm.mono up) ?_))
  rw [List.take_of_length_le (Nat.le_of_eq hn)] at hS
  exact hS.at fun o e=>hm.heap S o nw e
 | succ k ih=>
  intro i s hk hi hst hS hR
  have hlt:i < n:=by omega
  refine codeAny_builtin F.entry_set_update_loop ?_
  rw [Around.under_plainId F.plain_set_update_loop _]; show wpAny _ A.in1 (pyNext (.ref I) >>= _) _ _ s
  refine wpAny_bind (W.item i s _ _ hlt hst fun v s' hP hst' hm=>?_)
  obtain ⟨x,t,hx,rfl⟩:=hv i v hP
  have hS':SetZ prog w s'.heap S ((ss.take i).foldl vY []):=hS.at fun o e=>hm.heap S o nw e
  show wpAny _ A.in1 (holding [Value.int x t] (setAdd S (.int x t)) >>= _) _ _ s'
  refine wpAny_bind (wpAny_holding ?_)
  unfold setAdd
  refine wpAny_holding (wpAny_bind ((PySem.intKind prog w).pyHash (k:=x) (by rw [isZ]; exact decide_eq_true rfl) ?_))
  have hroom:((ss.take i).foldl vY []).length+1 < scanBound:=by
   have h1:=xK (ss.take i) []
   rw [List.length_take,List.length_nil] at h1
   omega
  refine ZQ (s:={ s' with toks:=s'.toks+1 }) hS' hroom fun h' b sb hS2=>?_
  have e2:vY ((ss.take i).foldl vY []) x=(ss.take (i+1)).foldl vY []:=by
   rw [List.take_add_one,hx,List.foldl_append]
   rfl
  rw [e2] at hS2
  refine wpAny_pure ⟨plainId_quiet F.plain_set_update_loop _,ih (i+1) _ (by omega) hlt (W.frame _ s' _ _ hst' (Nat.le_succ _) fun b hb o e=>?_) hS2 fun s'' hm'' hS''=>?_⟩
  ·rw [sb.2 b fun z:b=S=>hSf (z ▸ hb)]
   exact e
  ·refine hR s'' (Moved.trans W.gtrans ((hm.mono up).then_heap (Nat.le_succ _) fun b o hb e=>?_) hm'') hS''
   rw [sb.2 b fun z:b=S=>hb (z ▸ List.mem_cons_self)]
   exact e
end
section
variable {prog:Program} {w:World} {A:Around} {E:Value->Shared->Prop} {s:Shared}
theorem zR {h:Heap} {a:Addr} (e:h.get? a=some (ZI w)):SetZ prog w h a []:=
 ⟨_,_,_,e,⟨fun e he=>by simp at he,by simp,List.nodup_nil,by decide,by rfl⟩⟩
theorem YL {vs:List Value} {ss:List Int} (h:IntsAre vs ss) {i:Nat} {v:Value} (e:vs[i]?=some v):∃ x t,ss[i]?=some x/\v=.int x t:=by
 obtain ⟨y,t,e1,e2⟩:=h.item i v e
 exact ⟨y,t,e2,e1⟩
theorem YM {S l:Addr} {items:Array Value} {ss:List Int} {Q:Unit->Shared->Prop} (hh:A.handled=none) (hS:SetZ prog w s.heap S []) (hl:s.heap.IsList l items) (hi:IntsAre items.toList ss) (hb:items.size+1 < scanBound) (hne:l≠S)
  (h:∀ h' tk,SetZ prog w h' S (ss.foldl vY [])->(∀ b o,b≠S->s.heap.get? b=some o->h'.get? b=some o)->Q () { s with heap:=h',toks:=tk }) :
  wpAny (model prog w) A (Builtin.Frozenset.updateFrom "set.__init__" S (.ref l)) Q E s:=by
 have hT:s.TypeIs (.ref l) "list":=let ⟨o,e,c,_⟩:=hl; ⟨o,e,c⟩
 unfold Builtin.Frozenset.updateFrom
 refine wpAny_bind (m:=Builtin.Frozenset.isAnySet _) ?_
 unfold Builtin.Frozenset.isAnySet
 refine wpAny_bind (wpAny_isInstance hT PySem.F.sub_list_set ?_)
 refine wpAny_isInstance hT PySem.F.sub_list_frozenset ?_
 rw [if_neg (by decide)]
 refine wpAny_bind (wpAny_typeOf hT ?_)
 rw [if_neg (by decide)]
 refine wpAny_bind (wpAny_pyIter_list hl ?_)
 have hz:s.heap.objs.size≠S:=fun z=>by
  obtain ⟨es,ep,t,ho,_⟩:=hS
  exact Nat.lt_irrefl _ (z ▸ Heap.lt_size ho)
 have hzl:l≠s.heap.objs.size:=by
  obtain ⟨o,e,_⟩:=hl
  exact Nat.ne_of_lt (Heap.lt_size e)
 refine wpAny_bind (wpAny_runValue (Je ((Walks.list (A:=A.in1) hh _ l hzl items).toS) S ?_ ss (by rw [<-hi.length]; simp) (fun i v e=>YL hi (by rw [Array.getElem?_toList]; exact e)) hb items.size 0 _ (by omega) (Nat.zero_le _) ⟨⟨_,Heap.get?_push_size _ rfl,rfl,rfl⟩,hl.push _⟩ ?_ ?_))
 ·intro z
  rcases List.mem_cons.mp z with z | z
  ·exact hz z.symm
  ·exact hne (List.mem_singleton.mp z).symm
 ·exact hS.at fun o e=>Heap.get?_push_of_some _ e
 ·intro s' hm hS'
  obtain ⟨h',g',d',tk',os'⟩:=s'
  have eg:g'=s.gens:=hm.gens
  have ed:d'=s.drawn:=hm.drawn
  have eo:os'=s.os:=hm.os
  subst eg ed eo
  refine wpAny_pure (h h' tk' hS' fun b o hb e=>hm.heap b o ?_ (Heap.get?_push_of_some _ e))
  intro z
  rcases List.mem_cons.mp z with z | z
  ·exact hb z
  ·rw [List.mem_singleton.mp z] at e
   exact Nat.lt_irrefl _ (Heap.lt_size e)
theorem WL {S l:Addr} {items:Array Value} {ss:List Int} {Q:Unit->Shared->Prop} (hh:A.handled=none) (hS:SetZ prog w s.heap S []) (hl:s.heap.IsTuple l items) (hi:IntsAre items.toList ss) (hb:items.size+1 < scanBound) (hne:l≠S)
  (h:∀ h' tk,SetZ prog w h' S (ss.foldl vY [])->(∀ b o,b≠S->s.heap.get? b=some o->h'.get? b=some o)->Q () { s with heap:=h',toks:=tk }) :
  wpAny (model prog w) A (Builtin.Frozenset.updateFrom "set.__init__" S (.ref l)) Q E s:=by
 have hT:s.TypeIs (.ref l) "tuple":=let ⟨o,e,c,_⟩:=hl; ⟨o,e,c⟩
 unfold Builtin.Frozenset.updateFrom
 refine wpAny_bind (m:=Builtin.Frozenset.isAnySet _) ?_
 unfold Builtin.Frozenset.isAnySet
 refine wpAny_bind (wpAny_isInstance hT xD ?_)
 refine wpAny_isInstance hT wY ?_
 rw [if_neg (by decide)]
 refine wpAny_bind (wpAny_typeOf hT ?_)
 rw [if_neg (by decide)]
 refine wpAny_bind (wpAny_pyIter_tuple hl ?_)
 have hz:s.heap.objs.size≠S:=fun z=>by
  obtain ⟨es,ep,t,ho,_⟩:=hS
  exact Nat.lt_irrefl _ (z ▸ Heap.lt_size ho)
 have hzl:l≠s.heap.objs.size:=by
  obtain ⟨o,e,_⟩:=hl
  exact Nat.ne_of_lt (Heap.lt_size e)
 refine wpAny_bind (wpAny_runValue (Je ((Walks.tuple (A:=A.in1) hh _ l hzl items).toS) S ?_ ss (by rw [<-hi.length]; simp) (fun i v e=>YL hi (by rw [Array.getElem?_toList]; exact e)) hb items.size 0 _ (by omega) (Nat.zero_le _) ⟨⟨_,Heap.get?_push_size _ rfl,rfl,rfl⟩,?_⟩ ?_ ?_))
 ·intro z
  rcases List.mem_cons.mp z with z | z
  ·exact hz z.symm
  ·exact hne (List.mem_singleton.mp z).symm
 ·obtain ⟨o,e,c⟩:=hl
  exact ⟨o,Heap.get?_push_of_some _ e,c⟩
 ·exact hS.at fun o e=>Heap.get?_push_of_some _ e
 ·intro s' hm hS'
  obtain ⟨h',g',d',tk',os'⟩:=s'
  have eg:g'=s.gens:=hm.gens
  have ed:d'=s.drawn:=hm.drawn
  have eo:os'=s.os:=hm.os
  subst eg ed eo
  refine wpAny_pure (h h' tk' hS' fun b o hb e=>hm.heap b o ?_ (Heap.get?_push_of_some _ e))
  intro z
  rcases List.mem_cons.mp z with z | z
  ·exact hb z
  ·rw [List.mem_singleton.mp z] at e
   exact Nat.lt_irrefl _ (Heap.lt_size e)
set_option maxHeartbeats 3200000 in
theorem Jf {l:Addr} {ks:List Int} {Q:Value->Shared->Prop}
  (hup:∀ (A1:Around) (Q1:Unit->Shared->Prop) (E1:Value->Shared->Prop),A1.handled=A.handled->(∀ h' tk,SetZ prog w h' s.heap.objs.size ks->(∀ b o,s.heap.get? b=some o->h'.get? b=some o)->Q1 () { s with heap:=h',toks:=tk }) ->
   wpAny (model prog w) A1 (Builtin.Frozenset.updateFrom "set.__init__" s.heap.objs.size (.ref l)) Q1 E1 { s with heap:=s.heap.push (ZI w) })
  (h:∀ h' tk,SetZ prog w h' s.heap.objs.size ks->(∀ b o,s.heap.get? b=some o->h'.get? b=some o)->Q (.ref s.heap.objs.size) { s with heap:=h',toks:=tk }) :
  wpAny (model prog w) A (call (.type "set") [.ref l]) Q E s:=by
 have hnew:∀ {Q₁:Value->Shared->Prop},Q₁ (.ref s.heap.objs.size) { s with heap:=s.heap.push (ZI w) }->codeAny (model prog w) A.in1 (.call (.builtin "set.__new__") ⟨[.type "set",.ref l],[]⟩) (wants Q₁ E) s:=fun h=>Yk (.ref l) h
 unfold ZI jv at hnew hup
 generalize (!(w.params.followText "set-order"))=led at hnew hup
 obtain ⟨c,tl,hmro⟩:=PySem.F.called_set.mro
 have hmade:=PySem.F.called_set.made
 have hsub:=PySem.F.called_set.sub
 refine wpAny_call (codeAny_of_tree ?_); show wpAny _ _ (callAny (.type "set") _) _ _ _
 refine wpAny_pure ⟨Code.quiet_builtin _ (by decide +kernel),codeAny_builtin PySem.F.entry_type_call ?_⟩; rw [Around.under_plain (weight_type_call_type "set" [.ref l] []) rfl]
 have h1:=PySem.F.called_set.notType
 have h2:=PySem.F.called_set.canCreate
 have hct:=PySem.F.typeCall_set_1 (.ref l)
 repeat (any_goals (first | assumption | wp_step))
 refine codeAny_mono (hnew (Q₁:=fun obj s₁=>obj=.ref s.heap.objs.size/\s₁={ s with heap:=s.heap.push { cls:=.type "set",dict:=none,data:=.set #[] 0 (.fresh 0 0 led) } }) ⟨rfl,rfl⟩) fun r s₁ hr=>?_
 cases r with
 | error e=>exact hr
 | ok fl=>
  cases fl with
  | ret obj=>
   obtain ⟨rfl,rfl⟩:=hr
   have hS:(s.heap.push { cls:=.type "set",dict:=none,data:=.set #[] 0 (.fresh 0 0 led) }).get? s.heap.objs.size=some { cls:=.type "set",dict:=none,data:=.set #[] 0 (.fresh 0 0 led) }:=Heap.get?_push_size _ rfl
   have hT:Shared.TypeIs { s with heap:=s.heap.push { cls:=.type "set",dict:=none,data:=.set #[] 0 (.fresh 0 0 led) } } (.ref s.heap.objs.size) "set":=⟨_,hS,rfl⟩
   have hli:=PySem.F.called_set.init.lookup
   have hbi:=PySem.F.called_set.init.bind (.ref s.heap.objs.size)
   repeat (any_goals (first | assumption | wp_step))
   refine codeAny_mono (codeAny_call_builtin (R:=wants (fun r s₂=>r=.none/\∃ h' tk,s₂={ s with heap:=h',toks:=tk }/\SetZ prog w h' s.heap.objs.size ks/\(∀ b o,s.heap.get? b=some o->h'.get? b=some o)) E) PySem.F.called_set.init.plain PySem.F.entry_set_init (check_set_init_1 hT ?_)) fun r₂ s₂ hr₂=>?_
   ·unfold Builtin.«set.__init__» noKeywords
    generalize hU:Builtin.Frozenset.updateFrom=U
    wp_walk
    subst hU
    refine hup _ _ _ rfl fun h' tk hS' hk=>?_
    exact wpAny_pure ⟨rfl,h',tk,rfl,hS',hk⟩
   ·cases r₂ with
    | error e=>exact hr₂
    | ok fl₂=>
     cases fl₂ with
     | ret r=>
      obtain ⟨rfl,h',tk,rfl,hS',hk'⟩:=hr₂
      repeat (any_goals (first | assumption | wp_step))
      exact h _ _ hS' hk'
     | _=>exact hr₂.elim
  | _=>exact hr.elim
end
noncomputable def gF:List D->Option (List Int)
 | []=>some []
 | .int x::l=>(gF l).map (x::·)
 | _::_=>none
noncomputable def Jg:D->Option (List Int)
 | .lst ds=>gF ds
 | .tup ds=>gF ds
 | _=>none
noncomputable def ZR (P:Program) (w:World) (p:Addr) (ks:List Int):HO:=.ext fun h=>SetZ P w h p ks
theorem ZS {P:Program} {w:World} {H:Hp} {h:Heap} {p:Addr} {ks:List Int} (x:SetZ P w h p ks):ObjOk P w H h p (ZR P w p ks):=
 ⟨x,let ⟨_,_,_,e,_⟩:=x; ⟨_,e⟩,fun _ _ a k=>a.at k⟩
theorem Ke {K:Frag} {F:Hp}:∀ {vs:List V} {us:List Value} {ds:List D} {ss:List Int},IsL K F vs ds->Vals vs us->gF ds=some ss->IntsAre us ss
 | [],[],[],ss,_,_,e=>by cases e; exact .nil
 | v::vs,u::us,d::ds,ss,.cons i il,.cons r rl,e=>by
  cases d with
  | int x=>
   cases q:gF ds with
   | none=>
    have e:(gF ds).map (x::·)=some ss:=e
    rw [q] at e
    cases e
   | some sl=>
    have e:(gF ds).map (x::·)=some ss:=e
    rw [q] at e
    cases e
    cases i
    obtain ⟨t,rfl⟩:=r
    exact .cons x t (Ke il rl q)
  | _=>cases e
section
variable {X:Cx} {C:Ct} {own:List Nat} {e:Expr} {fa:Sl->Out (D×Sl)} {ma:Mo} {pos:Pos}
theorem qbd (hK:C.K=X.K) (hc:X.calm=true):wV X (.type "set") (fun xs H Q=>∃ x F dx ss,xs=[x]/\Same F H/\TopIs C.K F H x dx/\Jg dx=some ss/\ss.length < 4000/\∀ p,H p=none->Q (.ref p) (upd H p (ZR X.prog X.w p (ss.foldl vY [])))):=by
 intro pins s σ H xs us Q I r h
 obtain ⟨x,F,dx,ss,rfl,sb,tx,es,hl,q⟩:=h
 obtain ⟨u,rfl,ru⟩:=xg r
 have fin:∀ h' tk,SetZ X.prog X.w h' s.heap.objs.size (ss.foldl vY [])->(∀ b o,s.heap.get? b=some o->h'.get? b=some o)->EP X pins σ Q (.ref s.heap.objs.size) { s with heap:=h',toks:=tk }:=fun h' tk hS kp=>
  ⟨.ref s.heap.objs.size,_,I.laid (t':=tk) kp (Nat.le_refl _) (ZS hS),rfl,q _ (I.hok.fresh (Nat.le_refl _))⟩
 cases dx with
 | lst ds=>
  obtain ⟨a,vs,rfl,hq,il⟩:=tx.lst sb
  cases ru
  rw [hK] at hq
  obtain ⟨its,rv,pl,hz⟩:=I.list hq
  have st:=Ke il rv es
  have hlt:a < s.heap.objs.size:=let ⟨o,_,e,_⟩:=pl; Heap.lt_size e
  have hn:its.length=ss.length:=st.length
  refine Jf (fun A1 Q1 E1 hA k=>?_) fin
  refine YM (items:=its.toArray) (hA.trans (I.ok.hd hc)) (zR (Heap.get?_push_size _ rfl)) (pl.isList.push _) (by simpa using st) (by rw [List.size_toArray,hn]; unfold scanBound; omega) (Nat.ne_of_lt hlt) fun h' tk hS kp=>k h' tk hS fun b o eb=>kp b o (Nat.ne_of_lt (Heap.lt_size eb)) (Heap.get?_push_of_some _ eb)
 | tup ds=>
  obtain ⟨a,vs,rfl,hq,il⟩:=tx.tup sb
  cases ru
  rw [hK] at hq
  obtain ⟨its,rv,pl,hz⟩:=I.tuple hq
  have st:=Ke il rv es
  have hlt:a < s.heap.objs.size:=pl.lt
  have hn:its.length=ss.length:=st.length
  refine Jf (fun A1 Q1 E1 hA k=>?_) fin
  refine WL (items:=its.toArray) (hA.trans (I.ok.hd hc)) (zR (Heap.get?_push_size _ rfl)) (by obtain ⟨o,e,c⟩:=pl; exact ⟨o,Heap.get?_push_of_some _ e,c⟩) (by simpa using st) (by rw [List.size_toArray,hn]; unfold scanBound; omega) (Nat.ne_of_lt hlt) fun h' tk hS kp=>k h' tk hS fun b o eb=>kp b o (Nat.ne_of_lt (Heap.lt_size eb)) (Heap.get?_push_of_some _ eb)
 | _=>cases es
theorem qbe:wV X (.builtin "len") (fun xs H Q=>∃ a ks,xs=[.ref a]/\H a=some (ZR X.prog X.w a ks)/\Q (.int ks.length) H):=by
 intro pins s σ H xs us Q I r h
 obtain ⟨a,ks,rfl,ha,q⟩:=h
 obtain ⟨u,rfl,ru⟩:=xg r
 cases ru
 obtain ⟨es,ep,t,ho,d⟩:SetZ X.prog X.w s.heap a ks:=(I.hok a _ ha).1
 have hb:=d.bd
 refine call_len_set ho ⟨rfl,rfl,rfl⟩ rfl d.fits (by unfold scanBound at hb; omega) ?_
 exact ⟨.int ks.length,H,I.tok _,⟨_,by rw [d.size]⟩,q⟩
noncomputable def kn (d:D):Out D:=match Jg d with
 | some ss=>if ss.length < 4000 then .ok (.int (ss.foldl vY []).length) else .bad
 | none=>.bad
theorem zS {p p2 pos2:Pos} (hK:C.K=X.K) (hc:X.calm=true) (hg:Gl X "len") (hm:X.mg "len"=none) (hv:bootBuiltins "len"=some (.builtin "len")) (hg2:Gl X "set") (hm2:X.mg "set"=none) (hv2:bootBuiltins "set"=some (.type "set")) (ha:PE X e (tE C own ma fa))
  (he:starEach [e] X.env=[(false,eval e X.env)]:=by exact qM rfl) (he2:starEach [.Call (.Name "set" p2) [e] [] pos2] X.env=[(false,eval (.Call (.Name "set" p2) [e] [] pos2) X.env)]:=by exact qM rfl) :
  PE X (.Call (.Name "len" p) [.Call (.Name "set" p2) [e] [] pos2] [] pos) (tE C own .sh (d1 kn fa)):=by
 refine jn (wE qbe hg hm hv (qS (uy (qbd hK hc) hg2 hm2 hv2 (qS ha jR he) (by decide) (by decide) (by rw [he]; rfl) rfl) jR he2) (by decide) (by decide) (by rw [he2]; rfl) rfl) fun σ H Q h=>?_
 refine gA (xu (ma:=ma) h) fun x H1 ⟨x',F,dx,ex,sb,tx,po⟩=>?_
 cases ex
 unfold kn at po
 cases es:Jg dx with
 | none=>
  rw [es] at po
  exact po.elim
 | some ss=>
  rw [es] at po
  have po:PoV C .sh F H1 (if ss.length < 4000 then .ok (.int (ss.foldl vY []).length) else .bad) Q:=po
  by_cases hl:ss.length < 4000
  ·rw [if_pos hl] at po
   refine ⟨x,F,dx,ss,rfl,sb,tx,es,hl,fun q hq=>⟨q,_,rfl,qm,?_⟩⟩
   obtain ⟨s1,c1,f1⟩:=wc (u:=ZR X.prog X.w q (ss.foldl vY [])) sb hq
   exact po _ _ _ s1 c1 (.int _)
  ·rw [if_neg hl] at po
   exact po.elim
end
noncomputable def vH (f:Str) (d:D):List (Str×D)->List (Str×D)
 | []=>[(f,d)]
 | (g,x)::r=>if g=f then (g,d)::r else (g,x)::vH f d r
section
variable {K:Frag} {F:Hp}
theorem IsF.put {f:Str} {v:V} {d:D} (h:Is K F v d):∀ {fv:List (Str×V)} {fs:List (Str×D)},IsF K F fv fs->IsF K F (yJ f v fv) (vH f d fs)
 | _,_,.nil=>.cons h .nil
 | _,_,.cons (k:=k) q t=>by
  unfold yJ vH
  by_cases z:k=f
  ·rw [if_pos z,if_pos z]; exact .cons h t
  ·rw [if_neg z,if_neg z]; exact .cons q (IsF.put h t)
theorem IsF.get {f:Str} {d:D}:∀ {fv:List (Str×V)} {fs:List (Str×D)},IsF K F fv fs->fs.lookup f=some d->∃ v,fv.lookup f=some v/\Is K F v d
 | _,_,.nil,e=>by cases e
 | _,_,.cons (k:=k) q t,e=>by
  rw [List.lookup_cons] at e ⊢
  cases z:f == k with
  | true=>rw [z] at e; cases e; exact ⟨_,rfl,q⟩
  | false=>rw [z] at e; exact IsF.get t e
theorem IsF.non {f:Str}:∀ {fv:List (Str×V)} {fs:List (Str×D)},IsF K F fv fs->fs.lookup f=none->fv.lookup f=none
 | _,_,.nil,e=>rfl
 | _,_,.cons (k:=k) q t,e=>by
  rw [List.lookup_cons] at e ⊢
  cases z:f == k with
  | true=>rw [z] at e; cases e
  | false=>rw [z] at e; exact IsF.non t e
theorem IsF.length:∀ {fv:List (Str×V)} {fs:List (Str×D)},IsF K F fv fs->fv.length=fs.length
 | _,_,.nil=>rfl
 | _,_,.cons _ t=>congrArg (·+1) t.length
theorem TopIs.ins {H:Hp} {v:V} {c:Addr} {fs:List (Str×D)} (s:Same F H) (h:TopIs K F H v (.ins c fs)):∃ a dx fv,v=.ref a/\H a=some (.ins c dx fv)/\IsF K F fv fs:=by
 rcases h with h | ⟨a,rfl,dx,fv,e,t⟩
 ·cases h with
  | ins e t=>exact ⟨_,_,_,rfl,s _ _ e,t⟩
 ·exact ⟨a,dx,fv,rfl,e,t⟩
end
noncomputable def JF (c:Addr) (f:Str):D->Out D
 | .ins k fs=>if k=c then (match fs.lookup f with | some d=>.ok d | none=>.bad) else .bad
 | _=>.bad
noncomputable def YN (c:Addr) (i:Nat) (f:Str) (fe:Sl->Out (D×Sl)):Sl->Out (Fl×Sl):=fun ρ=>(fe ρ).bind fun p=>match p.2[i]? with
 | some (some (.ins k fs))=>if k=c/\fs.length < 1000 then .ok (.nx,p.2.set i (some (.ins k (vH f p.1 fs)))) else .bad
 | _=>.bad
section
variable {X:Cx} {C:Ct} {own:List Nat} {m mo:Mo} {e o:Expr} {es:List Expr} {fa fe fo:Sl->Out (D×Sl)} {f:Str} {pos p1 p2:Pos} {c:Addr}
theorem ub (hK:C.K=X.K) (hc:Cls X.K c) (hn:NoAttr X.K c f) (he:PE X e (tE C own m fa)) (hb:attributeBase e f X.env (eval e X.env)=eval e X.env:=by rfl):PE X (.Attribute e f pos) (tE C own .sh (d1 (JF c f) fa)):=by
 refine jn (GP he hb) fun σ H Q h=>gA (UA (ma:=m) h) fun x H1 ⟨F,dx,sb,tx,po⟩=>?_
 cases dx with
 | ins k fs=>
  replace po:PoV C .sh F H1 (if k=c then (match fs.lookup f with | some d=>.ok d | none=>.bad) else .bad) Q:=po
  by_cases z:k=c
  ·subst z
   rw [if_pos rfl] at po
   cases q:fs.lookup f with
   | none=>rw [q] at po; exact po.elim
   | some d=>
    rw [q] at po
    obtain ⟨a,dx,fv,rfl,ea,t⟩:=tx.ins sb
    obtain ⟨v,l,is⟩:=t.get q
    exact ⟨a,k,dx,fv,v,rfl,ea,hc,hn,l,po v F H1 sb .refl is⟩
  ·rw [if_neg z] at po; exact po.elim
 | _=>exact po.elim
theorem Kf {i:Nat} {x:Str} (hK:C.K=X.K) (hc:Cls X.K c) (hn:NoAttr X.K c f) (hi:X.N[i]?=some x) (hv:Vis X.env.scope x) (ho:i∈own) (he:PE X e (tE C own m fe)) (hm:m≠.any:=by decide) (hd:(x == ("__debug__":Str))=false:=by decide) (hcd:(x == ("__classdict__":Str))=false:=by decide)
  (hs:swapsWith e (some (.Attribute (.Name x p1) f p2)) pos.line X.env=pure false:=by rfl):PS X (.Assign [.Attribute (.Name x p1) f p2] e pos) (tSt C own own (YN c i f fe)):=by
 refine gk (Um (vZ hi hv hd hcd) (vd he hm) hs) fun D σ H ⟨F,ρ,rp,h⟩=>⟨F,ρ,rp,PoS.bindE h fun v F1 H1 d ρ1 rp1 c1 mo1 h1=>?_⟩
 obtain ⟨d0,hd0⟩:=rp1.opn i ho
 obtain ⟨a,e1,hF,o0⟩:=rp1.ow i d0 ho hd0
 simp only [hd0] at h1
 cases d0 with
 | ins k fs=>
  by_cases z:k=c/\fs.length < 1000
  ·simp only [if_pos z] at h1
   obtain ⟨rfl,hl⟩:=z
   obtain ⟨dx,fv,ea,t⟩:=o0
   obtain ⟨rw1,cw1⟩:=rp1.write (u:=.ins k dx (yJ f v fv)) (d:=.ins k (vH f d fs)) ho e1 ⟨dx,_,qm,t.put mo1⟩
   exact ⟨_,e1,a,k,dx,fv,rfl,ea,hc,hn,by rw [t.length]; exact hl,h1 σ F1 _ ⟨rw1,cw1,fun _ z=>.inl z,fun _ _=>rfl⟩⟩
  ·simp only [if_neg z] at h1; exact h1.elim
 | _=>exact h1.elim
def Jh (P:Program) (w:World) (K:Frag) (mg:Str->Option Value) (base:Heap) (cv:Str->Value) (k:Nat) (c:Addr) (x:Str) (ps:List Str) (ms:List PM) (mr:Mo) (G:List D->Out (D×List D)):Prop:=
 ∃ f fd,FnOk P w K mg base (CXk P w) k f fd ps (spD K cv ms mr G)/\Meth K c x f/\Binds K fd ps []
noncomputable def XM:List AK->Bool
 | []=>true
 | .vl::l=>XM l
 | _::_=>false
theorem qcQ {K:Frag} {H0 F F' H H':Hp} {σ:St} (g:Same F F'):∀ {as:List AK} {vs:List V} {ds:List D},XM as=true->ArgV K H0 F H σ as vs ds->ArgsIs K F' H' (as.map wf) vs ds/\we (as.map wf) vs=[]
 | [],[],[],_,_=>⟨trivial,rfl⟩
 | .vl::as,v::vs,d::ds,h,a=>by
  have ih:=qcQ (H':=H') g (as:=as) h a.2
  exact ⟨⟨a.1.mono g,ih.1⟩,ih.2⟩
 | [],_::_,_,_,a=>a.elim
 | [],[],_::_,_,a=>a.elim
 | .vl::_,[],_,_,a=>a.elim
 | .vl::_,_::_,[],_,a=>a.elim
 | .sl _::_,_,_,h,_=>by cases h
 | .fr::_,_,_,h,_=>by cases h
noncomputable def zT (c:Addr) (n:Str) (G:List D->Out (D×List D)) (fo:Sl->Out (D×Sl)):Sl->Out (D×Sl):=fun ρ=>(fo ρ).bind fun p=>match p.1 with
 | .ins k fs=>if k=c/\(fs.lookup n).isNone=true then (match G [.ins k fs] with
  | .ok q=>.ok (q.1,p.2)
  | .exc x _=>.exc x p.2
  | .bad=>.bad) else .bad
 | _=>.bad
theorem gG {ps:List Str} {k j:Nat} {cv:Str->Value} {n:Str} {apos:Pos} {mr:Mo} {G:List D->Out (D×List D)} {pl:Sem Bool} (hc:Cls X.K c) (MF:Jh X.prog X.w X.K X.mg X.base cv j c n ps [.val] mr G) (hr:Room k X.A) (hj:j<=k) (hx:kb (CXk X.prog X.w) X C.E) (ho:PE X o (tE C own mo fo)) (hmo:mo≠.any:=by decide) (hcv:C.cv=cv:=by rfl) (hK:C.K=X.K:=by rfl) (hio:∀ i∈C.ox,i∈own:=by exact vS rfl)
  (ht:eval (.Call (.Attribute o n apos) [] [] pos) X.env=(do
   let ov <-eval o X.env
   standAt apos.atName
   let (f,first) <-holding [ov] (getMethod ov n pl)
   callWith pos f first (backTo pos (starEach [] X.env)) (backToKw pos (keywordEach [] X.env))):=by rfl):PE X (.Call (.Attribute o n apos) [] [] pos) (tE C own mr (zT c n G fo)):=by
 subst hcv
 obtain ⟨f,fd,F0,M,hb⟩:=MF
 refine jn (Ve (pl:=pl) (vd ho hmo) hc M F0 (hr.mono hj) hb .nil hx ht) fun σ H Q ⟨F,ρ,rp,h⟩=>⟨F,ρ,rp,Po.bind h fun v F1 H1 d ρ1 rp1 c1 mo1 h1=>?_⟩
 have mo1:Is C.K F1 v d:=mo1
 cases mo1 with
 | @ins a k dx fv fs ea t=>
  replace h1:Po C own mr σ F1 H1 (if k=c/\(fs.lookup n).isNone=true then (match G [.ins k fs] with | .ok q=>.ok (q.1,ρ1) | .exc x _=>.exc x ρ1 | .bad=>.bad) else .bad) Q:=h1
  by_cases z:k=c/\(fs.lookup n).isNone=true
  ·rw [if_pos z] at h1
   obtain ⟨rfl,hn⟩:=z
   refine ⟨a,dx,fv,rfl,rp1.sub _ _ ea,t.non (by cases q:fs.lookup n with | none=>rfl | some y=>rw [q] at hn; cases hn),?_⟩
   refine ⟨F1,[.ins k fs],rp1.sub,⟨by rw [<-hK]; exact .ins ea t,trivial⟩,List.nodup_nil,?_⟩
   have near:∀ {F' H':Hp},Chg (LA [PM.val] [V.ref a]) F1 H1 F' H'->Chg No F1 H1 F' H':=fun cc=>cc.mono fun z hz=>by
    have hz:z∈([]:List Addr):=hz
    cases hz
   cases q1:G [.ins k fs] with
   | bad=>rw [q1] at h1; exact h1.elim
   | exc y o=>rw [q1] at h1; exact fun F' H' sb cc _=>h1 F' H' sb ((rp1.grow (near cc) sb).ioIs hio) (near cc).ofNo
   | ok pq=>
    rw [q1] at h1
    obtain ⟨d,outs⟩:=pq
    exact fun v F' H' sb cc _ mo=>h1 v F' H' (rp1.grow (near cc) sb) (near cc).ofNo (by rw [hK]; exact mo)
  ·rw [if_neg z] at h1; exact h1.elim
 | _=>exact h1.elim
end
section
variable {K:Frag} {own own1:List Nat} {F H:Hp} {σ:St} {ρ:Sl} {i:Nat}
theorem Rep.blind (rp:Rep K own F H σ ρ) (h1:∀ j,j∈own1↔j∈own/\j≠i):Rep K own1 F H σ (ρ.set i none) where
 sub:=rp.sub
 len:=by simp [rp.len]
 val:=fun j d hj e=>by
  by_cases q:j=i
  ·subst q
   by_cases z:j < ρ.length
   ·rw [List.getElem?_set_self z] at e; cases e
   ·rw [List.getElem?_eq_none (by simpa using z)] at e; cases e
  ·rw [List.getElem?_set_ne (Ne.symm q)] at e
   exact rp.val j d (fun z=>hj ((h1 j).mpr ⟨z,q⟩)) e
 ow:=fun j d hj e=>by
  have hj':=(h1 j).mp hj
  rw [List.getElem?_set_ne (Ne.symm hj'.2)] at e
  exact rp.ow j d hj'.1 e
 opn:=fun j hj=>by
  have hj':=(h1 j).mp hj
  rw [List.getElem?_set_ne (Ne.symm hj'.2)]
  exact rp.opn j hj'.1
 dis:=fun j k a hj hk=>rp.dis j k a ((h1 j).mp hj).1 ((h1 k).mp hk).1
theorem Rep.see {a:Addr} {d:D} (rp:Rep K own1 F H σ ρ) (h1:∀ j,j∈own1↔j∈own/\j≠i) (hi:i∈own) (ea:σ[i]?=some (some (V.ref a))) (hF:F a=none) (nA:¬OA own1 σ a) (ow:OwnIs K F H a d):Rep K own F H σ (ρ.set i (some d)):=by
 have hl:i < ρ.length:=by rw [<-rp.len]; exact (List.getElem?_eq_some_iff.mp ea).1
 refine ⟨rp.sub,by simp [rp.len],fun j d' hj e=>?_,fun j d' hj e=>?_,fun j hj=>?_,fun j k b hj hk e1 e2=>?_⟩
 ·have q:j≠i:=fun z=>hj (by rw [z]; exact hi)
  rw [List.getElem?_set_ne (Ne.symm q)] at e
  exact rp.val j d' (fun z=>hj ((h1 j).mp z).1) e
 ·by_cases q:j=i
  ·subst q
   rw [List.getElem?_set_self hl] at e
   cases e
   exact ⟨a,ea,hF,ow⟩
  ·rw [List.getElem?_set_ne (Ne.symm q)] at e
   exact rp.ow j d' ((h1 j).mpr ⟨hj,q⟩) e
 ·by_cases q:j=i
  ·subst q; exact ⟨d,List.getElem?_set_self hl⟩
  ·rw [List.getElem?_set_ne (Ne.symm q)]
   exact rp.opn j ((h1 j).mpr ⟨hj,q⟩)
 ·by_cases qj:j=i
  ·by_cases qk:k=i
   ·rw [qj,qk]
   ·rw [qj,ea] at e1
    cases e1
    exact absurd ⟨k,(h1 k).mpr ⟨hk,qk⟩,e2⟩ nA
  ·by_cases qk:k=i
   ·rw [qk,ea] at e2
    cases e2
    exact absurd ⟨j,(h1 j).mpr ⟨hj,qj⟩,e1⟩ nA
   ·exact rp.dis j k b ((h1 j).mpr ⟨hj,qj⟩) ((h1 k).mpr ⟨hk,qk⟩) e1 e2
theorem Rep.off {x:Addr} {u:HO} (rp:Rep K own F H σ ρ) (hF:F x=none) (nA:¬OA own σ x):Rep K own F (upd H x u) σ ρ where
 sub:=fun b o e=>by rw [qo (qx e hF)]; exact rp.sub b o e
 len:=rp.len
 val:=rp.val
 ow:=fun j d hj e=>by
  obtain ⟨a,h1,h2,h3⟩:=rp.ow j d hj e
  exact ⟨a,h1,h2,h3.grow (Same.refl _) fun o q=>by rw [qo (fun z=>nA ⟨j,hj,by rw [<-z]; exact h1⟩)]; exact q⟩
 opn:=rp.opn
 dis:=rp.dis
theorem Rep.frz {b:Addr} {o:HO} (rp:Rep K own F H σ ρ) (hb:H b=some o) (hF:F b=none) (nA:¬OA own σ b):Rep K own (upd F b o) H σ ρ:=by
 have gr:Same F (upd F b o):=fun c w e=>by rw [qo (qx e hF)]; exact e
 refine ⟨fun c w e=>?_,rp.len,fun j d hj e=>?_,fun j d hj e=>?_,rp.opn,rp.dis⟩
 ·by_cases q:c=b
  ·subst q; rw [qm] at e; cases e; exact hb
  ·rw [qo q] at e; exact rp.sub c w e
 ·obtain ⟨v,h1,h2⟩:=rp.val j d hj e
  exact ⟨v,h1,h2.mono gr⟩
 ·obtain ⟨a,h1,h2,h3⟩:=rp.ow j d hj e
  exact ⟨a,h1,by rw [qo (fun z=>nA ⟨j,hj,by rw [<-z]; exact h1⟩)]; exact h2,h3.grow gr fun _ q=>q⟩
theorem Chg.put {A:Addr->Prop} {F H:Hp} {b:Addr} {u:HO} (hA:A b):Chg A F H F (upd H b u):=
 ⟨fun c o e n=>by rw [qo (fun z=>n (by rw [z]; exact hA))]; exact e,fun c h=>by
  by_cases q:c=b
  ·rw [q,qm]; simp
  ·rw [qo q]; exact h,Same.refl _,fun _ h=>.inl h⟩
end
noncomputable def zr (g:D->Sl->Out Sl) (fw fx:Sl->Out (D×Sl)):List D->List D->Sl->Out (List D×Sl)
 | [],ds,ρ=>.ok (ds,ρ)
 | d::l,ds,ρ=>match g d ρ with
  | .ok ρ1=>match fw ρ1 with
   | .ok (w,ρ2)=>match fx ρ2 with
    | .ok (.int k,ρ3)=>match ixN ds.length k with
     | some j=>zr g fw fx l (ds.set j w) ρ3
     | none=>.bad
    | _=>.bad
   | _=>.bad
  | _=>.bad
theorem WM {g:D->Sl->Out Sl} {fw fx:Sl->Out (D×Sl)} {d:D} {l ds dE:List D} {ρ ρE:Sl} (h:zr g fw fx (d::l) ds ρ=.ok (dE,ρE)) :
  ∃ ρ1 w ρ2 k ρ3 j,g d ρ=.ok ρ1/\fw ρ1=.ok (w,ρ2)/\fx ρ2=.ok (.int k,ρ3)/\ixN ds.length k=some j/\zr g fw fx l (ds.set j w) ρ3=.ok (dE,ρE):=by
 unfold zr at h
 split at h
 ·rename_i ρ1 e1
  split at h
  ·rename_i w ρ2 e2
   split at h
   ·rename_i k ρ3 e3
    split at h
    ·rename_i j e4
     exact ⟨ρ1,w,ρ2,k,ρ3,j,e1,e2,e3,e4,h⟩
    ·cases h
   ·cases h
  ·cases h
 ·cases h
noncomputable def ctB (C:Ct):Ct:={ C with ox:=[],oxs:=fun _ h=>by cases h }
structure FillW (C:Ct) (own1:List Nat) (σ:St) (F1 H2 F3:Hp) (b:Addr) (g:D->Sl->Out Sl) (fw fx:Sl->Out (D×Sl)) (items dE:List D) (ρE:Sl) (j:Nat) (σ':St) (F' H':Hp) (ρ':Sl) (xs:List V) (dk:List D):Prop where
 rep:Rep C.K own1 F' H' σ' ρ'
 chg:Chg (fun z=>OA own1 σ z\/z=b) F1 H2 F' H'
 oa:∀ z,OA own1 σ' z->OA own1 σ z\/H2 z=none
 io:∀ j∈C.io,σ'[j]?=σ[j]?
 hb:H' b=some (.lst xs)
 fb:F' b=none
 is:IsL C.K F' xs dk
 gr:Same F3 F'
 run:zr g fw fx (items.drop j) dk ρ'=.ok (dE,ρE)
theorem qej {i:Nat} {b:List Nat} (h:decide (i∈b)=true):i∈b:=of_decide_eq_true h
def zt (K:Frag) (c:Addr) (x qual:Str) (st:Stmt) (ps:List Str):Prop:=∃ f fd,Fun K x qual st f fd/\Meth K c x f/\Binds K fd ps []
def qbf (K:Frag) (c:Addr) (qual:Str) (st:Stmt) (ps:List Str):Prop:=∃ f fd,Fun K "__init__" qual st f fd/\Mk K c f/\Binds K fd ps []
section
variable {P:Program} {w:World} {K:Frag} {mg:Str->Option Value} {base:Heap} {cv:Str->Value} {x qual:Str} {st:Stmt} {N ps:List Str} {k:Nat} {ms:List PM} {mr:Mo} {own':List Nat} {fb:Sl->Out (Fl×Sl)} {c:Addr}
theorem YO (T:zt K c x qual st ps) (S:FnScope N ps (qd st))
  (hbody:∀ (cdv:Value) (f:Addr) (A:Around) (outer:List Env) (s:Shared) (H:Hp) (E:XK),Room k (A.deeper (envOfC qual (qd st) s.heap.objs.size f cdv)) ->
   PSs (cxk P w K mg base N qual (qd st) f cdv A outer s H E) (js st) (tSt (JE K cv E ms mr) (jo 0 ms) own' fb))
  (hl:ms.length=ps.length:=by rfl) (hsub:∀ i∈QG 0 ms,i∈own':=by exact vS rfl) (hmr:mr=.sh\/∀ ds ρ,(fb (qv N ds))≠.ok (.nx,ρ):=by exact .inl rfl):Jh P w K mg base cv (k+1) c x ps ms mr (vg N ms fb):=by
 obtain ⟨f,fd,F,hm,hb⟩:=T
 exact ⟨f,fd,qeB F S hl hsub hmr (fun cdv A outer s H E hr=>hbody cdv f A outer s H E hr) fun _=>.inr rfl,hm,hb⟩
end
section
variable {X:Cx} {C:Ct} {own:List Nat} {pos:Pos}
theorem vr (i:Nat) {x:Str} (hN:X.N[i]?=some x:=by rfl) (hv:Vis X.env.scope x:=by first | exact Or.inl rfl | exact Or.inr (Or.inl rfl) | exact Or.inr (Or.inr rfl)) (ho:i∉own:=by decide) (hd:(x == ("__debug__":Str))=false:=by decide) (hcd:(x == ("__classdict__":Str))=false:=by decide):PE X (.Name x pos) (tE C own .sh (qg i)):=qch hN hv ho hd hcd
end
noncomputable def Ji (c:Addr) (i:Nat) (fl:Str) (fe:Sl->Out (D×Sl)) (fi:Sl->Out (List D×Sl)) (g:D->Sl->Out Sl) (fw fx:Sl->Out (D×Sl)):Sl->Out (Fl×Sl):=fun ρ=>(fe ρ).bind fun p=>match p.1,p.2[i]? with
 | .lst ds,some (some (.ins k fs))=>if k=c/\fs.length < 1000 then (match fi (p.2.set i none) with
  | .ok q=>(match zr g fw fx q.1 ds q.2 with
   | .ok r=>.ok (.nx,r.2.set i (some (.ins k (vH fl (.lst r.1) fs))))
   | _=>.bad)
  | _=>.bad) else .bad
 | _,_=>.bad
section
variable {X:Cx} {C:Ct} {own own1 own':List Nat} {mw mx:Mo} {e w ix tg iter:Expr} {rest:List Stmt} {fe fw fx:Sl->Out (D×Sl)} {fi:Sl->Out (List D×Sl)} {g:D->Sl->Out Sl} {fr:Sl->Out (Fl×Sl)} {fl:Str} {p1 p2 p3 p4 p5 p6 p7 p8:Pos} {c:Addr} {i:Nat} {x:Str}
theorem YQ {u:TS} (hK:C.K=X.K) (h1:∀ j,j∈own1↔j∈own/\j≠i) (hc:Cls X.K c) (hn:NoAttr X.K c fl) (hN:X.N[i]?=some x) (hv:Vis X.env.scope x) (ho:i∈own) (hio:i∈C.io) (hp:PassesOwn (model X.prog X.w) X.A X.env X.xe) (hcalm:X.calm=true)
  (he:PE X e (tE C own .fr fe)) (hi:PI X tg iter (tIt (ctB C) own1 fi)) (hg:PG X tg (tGd (ctB C) own1 g)) (hw:PE X w (tE (ctB C) own1 mw fw)) (hx:PE X ix (tE (ctB C) own1 mx fx)) (hrest:PSs X rest u) (hmw:mw≠.any:=by decide)
  (hd:(x == ("__debug__":Str))=false:=by decide) (hcd:(x == ("__classdict__":Str))=false:=by decide)
  (hs:swapsWith e (some (.Attribute (.Name x p1) fl p2)) p3.line X.env=pure false:=by rfl) (hs2:∀ x,foldedSetIterable iter X.env x=pure x:=by intro _; rfl)
  (hb:attributeBase (.Name x p4) fl X.env (eval (.Name x p4) X.env)=eval (.Name x p4) X.env:=by rfl)
  (hsub:∀ v,assign (.Subscript (.Attribute (.Name x p4) fl p5) ix p6) X.env v=(do
   let ov <-holding [v] (eval (.Attribute (.Name x p4) fl p5) X.env)
   let iv <-holding [v,ov] (eval ix X.env)
   standAt p6
   holding [v,ov,iv] (setItem ov iv v)
   release [v,ov,iv] []):=by intro _; rfl)
  (ha1:swapsWithSole [.Subscript (.Attribute (.Name x p4) fl p5) ix p6] w p7.line X.env=pure false:=by rfl) (ha2:swappedStores [.Subscript (.Attribute (.Name x p4) fl p5) ix p6] w X.env=pure none:=by rfl)
  (ha3:(assignEach [.Subscript (.Attribute (.Name x p4) fl p5) ix p6] X.env).map (·.2)=[assign (.Subscript (.Attribute (.Name x p4) fl p5) ix p6) X.env]:=by rfl) :
  PSs X (.Assign [.Attribute (.Name x p1) fl p2] e p3::.For tg iter [.Assign [.Subscript (.Attribute (.Name x p4) fl p5) ix p6] w p7] [] p8::rest) (XT (tSt C own own (Ji c i fl fe fi g fw fx)) u):=by
 refine QE (wC (Um (vZ hN hv hd hcd) he hs) (wC (GM hp hcalm hi hg (JI (Ua (vd hw hmw) (GL (GP (vZ hN hv hd hcd) hb) hx Vg hsub) ha1 ha2 ha3)) hs2) hrest)) fun D σ H ⟨F,ρ,rp,h⟩=>?_
 refine ⟨F,ρ,rp,?_⟩
 unfold Ji at h
 cases q00:fe ρ with
 | exc y o=>rw [q00] at h; exact h
 | bad=>rw [q00] at h; exact h.elim
 | ok p0=>
 obtain ⟨d,ρ1⟩:=p0
 rw [q00] at h
 rw [Out.ok_bind] at h
 have h1':=h
 intro v F1 H1 rp1 c1 mo1
 obtain ⟨b,rfl,hHb,hFb,owb⟩:=mo1
 obtain ⟨d0,hd0⟩:=rp1.opn i ho
 obtain ⟨a,e1,hFa,o0⟩:=rp1.ow i d0 ho hd0
 cases d with
 | lst ds=>
  simp only [hd0] at h1'
  cases d0 with
  | ins k fs=>
   by_cases z:k=c/\fs.length < 1000
   ·simp only [if_pos z] at h1'
    obtain ⟨rfl,hl⟩:=z
    obtain ⟨dx,fv,ea,t⟩:=o0
    obtain ⟨xs0,hb0,is0⟩:=owb
    have oaH:∀ {z:Addr},OA own1 σ z->H z≠none:=fun {z} q=>by
     obtain ⟨j,hj,ej⟩:=q
     exact (rp.OA_there ⟨j,((h1 j).mp hj).1,ej⟩).1
    have nAb:¬OA own1 σ b:=fun q=>oaH q hHb
    have nAa:¬OA own1 σ a:=fun q=>by
     obtain ⟨j,hj,ej⟩:=q
     exact ((h1 j).mp hj).2 (rp1.dis j i a ((h1 j).mp hj).1 ho ej e1)
    have hHa:H a≠none:=(rp.OA_there ⟨i,ho,e1⟩).1
    have nab:a≠b:=fun q=>hHa (by rw [q]; exact hHb)
    refine ⟨_,e1,a,k,dx,fv,rfl,ea,hc,hn,by rw [t.length]; exact hl,?_⟩
    generalize eo:HO.ins k dx (yJ fl (.ref b) fv)=o
    have rpB:Rep C.K own1 F1 (upd H1 a o) σ (ρ1.set i none):=(rp1.blind h1).off hFa nAa
    have hb2:(upd H1 a o) b=some (.lst xs0):=by rw [qo (Ne.symm nab)]; exact hb0
    refine ⟨F1,ρ1.set i none,rpB,?_⟩
    cases q:fi (ρ1.set i none) with
    | exc y o=>simp only [q] at h1'; exact h1'.elim
    | bad=>simp only [q] at h1'; exact h1'.elim
    | ok pq=>
     obtain ⟨items,ρ2⟩:=pq
     simp only [q] at h1'
     cases q2:zr g fw fx items ds ρ2 with
     | exc y o=>simp only [q2] at h1'; exact h1'.elim
     | bad=>simp only [q2] at h1'; exact h1'.elim
     | ok pr=>
      obtain ⟨dE,ρE⟩:=pr
      simp only [q2] at h1'
      intro J F3 H3 rp3 c3 it
      have keepA:∀ {F' H'},Chg (fun z=>OA own1 σ z\/z=b) F1 (upd H1 a o) F' H'->H' a=some o/\F' a=none:=fun {F' H'} cc=>by
       refine ⟨cc.keep a o qm fun z=>z.elim nAa nab,?_⟩
       cases qa:F' a with
       | none=>rfl
       | some u=>
        rcases cc.new a (by rw [qa]; simp) with z | z | z
        ·exact absurd hFa z
        ·rw [qm] at z; cases z
        ·exact (z.elim nAa nab).elim
      have w0:FillW C own1 σ F1 (upd H1 a o) F3 b g fw fx items dE ρE 0 σ F3 H3 ρ2 xs0 ds:=by
       refine ⟨rp3,c3.mono fun _ z=>.inl z,fun _ z=>.inl z,fun _ _=>rfl,c3.keep b _ hb2 nAb,?_,is0.mono c3.grow,Same.refl _,q2⟩
       cases qb:F3 b with
       | none=>rfl
       | some u=>
        rcases c3.new b (by rw [qb]; simp) with z | z | z
        ·exact absurd hFb z
        ·rw [hb2] at z; cases z
        ·exact absurd z nAb
      refine ⟨fun j m σ' H'=>m=items.length - j/\j<=items.length/\∃ F' ρ' xs dk,FillW C own1 σ F1 (upd H1 a o) F3 b g fw fx items dE ρE j σ' F' H' ρ' xs dk,⟨items.length,by simp,Nat.zero_le _,F3,ρ2,xs0,ds,w0⟩,?_⟩
      rintro j m σ' H' ⟨rfl,hle,F',ρ',xs,dk,W⟩
      have nb':¬OA own1 σ' b:=fun z=>by
       rcases W.oa b z with z | z
       ·exact nAb z
       ·rw [hb2] at z; cases z
      have na':¬OA own1 σ' a:=fun z=>by
       rcases W.oa a z with z | z
       ·exact nAa z
       ·rw [qm] at z; cases z
      by_cases hlt:j < items.length
      ·have hd:items.drop j=items[j]::items.drop (j+1):=List.drop_eq_getElem_cons hlt
       have run:=W.run
       rw [hd] at run
       obtain ⟨r1,wd,r2,kk,r3,jj,g1,g2,g3,g4,run'⟩:=WM run
       refine .inr ⟨it.go j H' hlt (W.gr.trans W.rep.sub),fun σ2 H2=>items.length - (j+1)=items.length - (j+1)/\j+1<=items.length/\∃ F' ρ' xs dk,FillW C own1 σ F1 (upd H1 a o) F3 b g fw fx items dE ρE (j+1) σ2 F' H2 ρ' xs dk,fun σ2 H2 z=>⟨items.length - (j+1),by omega,z⟩,fun xv H2 y=>?_⟩
       obtain ⟨F2,c2,s2,is2⟩:=it.yld j F' H' xv H2 items[j] (by simp [hlt]) W.gr W.rep.sub y
       refine ⟨F2,ρ',items[j],W.rep.grow c2 s2,is2,r1,g1,fun σ3 rp3' oa3 io3=>⟨F2,r1,rp3',?_⟩⟩
       rw [g2]
       intro wv F4 H4 rp4 c4 mo4
       have b3:∀ {z:Addr},OA own1 σ3 z->OA own1 σ z\/(upd H1 a o) z=none:=fun {z} q=>W.oa z (oa3 z q)
       have nb3:¬OA own1 σ3 b:=fun z=>nb' (oa3 b z)
       have na3:¬OA own1 σ3 a:=fun z=>na' (oa3 a z)
       have C2:Chg (fun z=>OA own1 σ z\/z=b) F1 (upd H1 a o) F2 H2:=W.chg.trans' c2.ofNo
       have C4:Chg (fun z=>OA own1 σ z\/z=b) F1 (upd H1 a o) F4 H4:=C2.trans c4 fun z q=>(b3 q).imp .inl id
       have ea3:σ3[i]?=some (some (V.ref a)):=by rw [io3 i hio,W.io i hio]; exact e1
       have hl4:(yJ fl (V.ref b) fv).lookup fl=some (V.ref b):=by rw [uh,if_pos rfl]
       refine ⟨_,ea3,a,k,dx,_,_,rfl,by rw [eo]; exact (keepA C4).1,hc,hn,hl4,F4,r2,rp4,?_⟩
       rw [g3]
       intro iv F5 H5 rp5 c5 mo5
       have hiv:iv=.int kk:=mo5.top.int
       subst hiv
       have C5:Chg (fun z=>OA own1 σ z\/z=b) F1 (upd H1 a o) F5 H5:=C4.trans c5 fun z q=>(b3 q).imp .inl id
       have hb5:H5 b=some (.lst xs):=c5.keep b _ (c4.keep b _ (c2.keep b _ W.hb fun z=>z) nb3) nb3
       have fb2:F2 b=none:=by
        cases qb:F2 b with
        | none=>rfl
        | some u=>
         rcases c2.new b (by rw [qb]; simp) with z | z | z
         ·exact absurd W.fb z
         ·rw [W.hb] at z; cases z
         ·exact z.elim
       have fb4:F4 b=none:=by
        cases qb:F4 b with
        | none=>rfl
        | some u=>
         rcases c4.new b (by rw [qb]; simp) with z | z | z
         ·exact absurd fb2 z
         ·rw [c2.keep b _ W.hb fun z=>z] at z; cases z
         ·exact absurd z nb3
       have fb5:F5 b=none:=by
        cases qb:F5 b with
        | none=>rfl
        | some u=>
         rcases c5.new b (by rw [qb]; simp) with z | z | z
         ·exact absurd fb4 z
         ·rw [c4.keep b _ (c2.keep b _ W.hb fun z=>z) nb3] at z; cases z
         ·exact absurd z nb3
       have gr5:Same F' F5:=(c2.grow.trans c4.grow).trans c5.grow
       have mo4:Is C.K F4 wv wd:=mo4
       refine ⟨b,xs,kk,jj,rfl,rfl,hb5,by rw [W.is.length]; exact g4,rfl,hlt,F5,r3,xs.set jj wv,dk.set jj wd,?_⟩
       refine ⟨rp5.off fb5 nb3,C5.trans' (Chg.put (.inr rfl)),fun z q=>b3 q,fun n hn'=>(io3 n hn').trans (W.io n hn'),qm,fb5,(W.is.mono gr5).set (mo4.mono c5.grow) jj,W.gr.trans gr5,run'⟩
      ·have ej:j=items.length:=by omega
       subst ej
       have run:=W.run
       rw [List.drop_length] at run
       have run:Out.ok (dk,ρ')=Out.ok (dE,ρE):=run
       cases run
       refine .inl ⟨it.stop _ H' (Nat.le_refl _) (W.gr.trans W.rep.sub),?_⟩
       obtain ⟨kA,kF⟩:=keepA W.chg
       have grF:Same F' (upd F' b (.lst xs)):=fun z u q=>by rw [qo (qx q W.fb)]; exact q
       have ea':σ'[i]?=some (some (V.ref a)):=by rw [W.io i hio]; exact e1
       have rpZ:=(W.rep.frz W.hb W.fb nb').see (i:=i) (d:=.ins k (vH fl (.lst dE) fs)) h1 ho ea' (by rw [qo nab]; exact kF) na' ⟨dx,_,by rw [kA,<-eo],((t.mono W.chg.grow).mono grF).put (.lst (.inl (.inl qm)) (W.is.mono grF))⟩
       refine h1' _ _ _ ⟨rpZ,?_,fun z q=>?_,W.io⟩
       ·have cc:Chg (OA own σ) F H F' H':=by
         refine (c1.trans' (Chg.put (A:=OA own σ) (b:=a) (u:=o) ⟨i,ho,e1⟩)).trans W.chg fun z q=>?_
         rcases q with ⟨n,hn',en⟩ | q
         ·exact .inl ⟨n,((h1 n).mp hn').1,en⟩
         ·exact .inr (by rw [q]; exact hHb)
        refine ⟨cc.keep,cc.stay,cc.grow.trans grF,fun z hz=>?_⟩
        by_cases zb:z=b
        ·exact .inr (.inl (by rw [zb]; exact hHb))
        ·rw [qo zb] at hz; exact cc.new z hz
       ·obtain ⟨n,hn',en⟩:=q
        by_cases qn:n=i
        ·rw [qn,ea'] at en
         cases en
         exact .inl ⟨i,ho,e1⟩
        ·rcases W.oa z ⟨n,(h1 n).mpr ⟨hn',qn⟩,en⟩ with ⟨n',hn2,en2⟩ | q
         ·exact .inl ⟨n',((h1 n').mp hn2).1,en2⟩
         ·by_cases za:z=a
          ·exact .inl ⟨i,ho,by rw [za]; exact e1⟩
          ·rw [qo za] at q
           refine .inr ?_
           cases qh:H z with
           | none=>rfl
           | some u=>exact absurd q (c1.stay z (by rw [qh]; simp))
   ·simp only [if_neg z] at h1'; exact h1'.elim
  | _=>exact h1'.elim
 | _=>simp only [] at h1'; exact h1'.elim
end
section
variable {X:Cx} {C:Ct} {o1 o2 o3:List Nat} {st:Stmt} {rest:List Stmt} {f g:Sl->Out (Fl×Sl)} {u:TS}
theorem ZT (h1:PS X st (tSt C o1 o2 f)) (h2:PSs X rest u):PSs X (st::rest) (XT (tSt C o1 o2 f) u):=wC h1 h2
theorem vw (h1:PS X st (tSt C o1 o2 f)) (h2:PSs X rest (XT (tSt C o2 o3 g) u)):PSs X (st::rest) (XT (tSt C o1 o3 (jx f g)) u):=QE (wC h1 h2) fun D σ H h=>GQ (D:={ D with nx:=u D }) h
theorem Inv.ghost {pins:List (Addr×Obj)} {σ σ':St} {H:Hp} {s:Shared} (I:Inv X pins σ H s) (hl:σ'.length=σ.length) (h:∀ (i:Nat) (x:Str),X.N[i]?=some x->Vis X.env.scope x->σ'[i]?=σ[i]?):Inv X pins σ' H s:=
 ⟨I.ok,I.os,I.bare,I.base,let ⟨m,hn,hl'⟩:=I.loc; ⟨m,hn,fun i x v e1 e2 e3=>hl' i x v e1 (by rw [<-h i x e1 e3]; exact e2) e3⟩,I.cell,I.free,I.freeC,I.pin,I.hok,hl.trans I.len⟩
end
def spG (K:Frag) (cv:Str->Value) (ms:List PM) (mr:Mo) (G:List D->Out (D×List D)):Sp:=fun vs H Q E=>vs.length+1=ms.length/\∃ c,spD K cv ms mr G (vs++[.ref c]) H Q E
theorem Kg {N:List Str} {vs:List V} {c:V} (hn:vs.length < N.length):(kQ N (vs++[c])).length=(kQ N vs).length/\∀ i,i≠vs.length->(kQ N (vs++[c]))[i]?=(kQ N vs)[i]?:=by
 unfold kQ
 refine ⟨by simp; omega,fun i hi=>?_⟩
 rw [List.map_append,List.append_assoc]
 by_cases h:i < vs.length
 ·rw [List.getElem?_append_left (by simpa using h),List.getElem?_append_left (by simpa using h)]
 ·have h1:vs.length < i:=by omega
  rw [List.getElem?_append_right (by simp; omega),List.getElem?_append_right (by simp; omega),List.getElem?_append_right (by simp; omega)]
  simp only [List.length_map,List.length_cons,List.length_nil,List.length_append]
  by_cases h2:i < N.length
  ·rw [List.getElem?_replicate,List.getElem?_replicate,if_pos (by omega),if_pos (by omega)]
  ·rw [List.getElem?_replicate,List.getElem?_replicate,if_neg (by omega),if_neg (by omega)]
theorem qfc {P:Program} {w:World} {K:Frag} {mg:Str->Option Value} {base:Heap} {CX:CXT} {x qual gn:Str} {st:Stmt} {f:Addr} {fd:FuncData} {N ps:List Str} {k:Nat} {cv:Str->Value} {ms:List PM} {mr:Mo} {own':List Nat} {fb:Sl->Out (Fl×Sl)} {G:List D->Out (D×List D)}
  (F:Fun K x qual st f fd) (S:FnScope N ps (qd st)) (hl:ms.length=ps.length+1) (hgn:N[ps.length]?=some gn) (hgv:¬Vis (qd st) gn) (hsub:∀ i∈QG 0 ms,i∈own') (hmr:mr=.sh\/∀ ds ρ,(fb (qv N ds))≠.ok (.nx,ρ))
  (hbody:∀ (cdv:Value) (A:Around) (outer:List Env) (s:Shared) (H:Hp) (E:XK),Room k (A.deeper (envOfC qual (qd st) s.heap.objs.size f cdv)) ->
   PSs (XH CX P w K mg base N qual (qd st) f cdv A outer s H E) (js st) (tSt (JE K cv E ms mr) (jo 0 ms) own' fb))
  (hG:∀ ds,Out.le (G ds) (vg N ms fb ds)):FnOk P w K mg base CX (k+1) f fd ps (spG K cv ms mr G):=by
 obtain ⟨oc,od,kV,doc,pm,an,cdv,ct,osl,rfl,lk,hcd⟩:=F.ex
 refine Zf lk hcd S (fun vs H Q E h=>?_) fun A outer s H vs Q E hr hsp=>?_
 ·have:=h.1
  omega
 ·obtain ⟨hlen,c,F1,ds,sb,ar,nd,h⟩:=hsp
  have B:=hbody cdv A outer s H E hr
  have T:=UQ (N:=N) (f:=fb) (C:=JE K cv E ms mr) rfl rfl (hmr.imp id fun z ρ=>z ds ρ) hsub sb ar nd (hG ds) h
  have hv:vs.length=ps.length:=by omega
  have hn:vs.length < N.length:=by rw [hv]; exact (List.getElem?_eq_some_iff.mp hgn).1
  obtain ⟨g1,g2⟩:=Kg (c:=.ref c) hn
  refine ⟨fun D σ H'=>σ=kQ N vs/\tSt (JE K cv E ms mr) (jo 0 ms) own' fb D (kQ N (vs++[.ref c])) H',⟨fun pins s' σ H' D I ⟨e,t⟩=>?_⟩,rfl,T⟩
  subst e
  refine B.run pins s' _ H' D (Inv.ghost I g1 fun i y hy hvis=>g2 i fun z=>?_) t
  have hy:N[i]?=some y:=hy
  rw [z,hv,hgn] at hy
  cases hy
  exact hgv hvis
def YR (P:Program) (w:World) (K:Frag) (mg:Str->Option Value) (base:Heap) (cv:Str->Value) (k:Nat) (c:Addr) (x:Str) (ps:List Str) (ms:List PM) (mr:Mo) (G:List D->Out (D×List D)):Prop:=
 ∃ f fd,FnOk P w K mg base (CXk P w) k f fd ps (spG K cv ms mr G)/\Meth K c x f/\Binds K fd ps []
section
variable {P:Program} {w:World} {K:Frag} {mg:Str->Option Value} {base:Heap} {cv:Str->Value} {x qual gn:Str} {st:Stmt} {N ps:List Str} {k:Nat} {ms:List PM} {mr:Mo} {own':List Nat} {fb:Sl->Out (Fl×Sl)} {c:Addr}
theorem VQ (T:zt K c x qual st ps) (S:FnScope N ps (qd st)) (gn:Str)
  (hbody:∀ (cdv:Value) (f:Addr) (A:Around) (outer:List Env) (s:Shared) (H:Hp) (E:XK),Room k (A.deeper (envOfC qual (qd st) s.heap.objs.size f cdv)) ->
   PSs (cxk P w K mg base N qual (qd st) f cdv A outer s H E) (js st) (tSt (JE K cv E ms mr) (jo 0 ms) own' fb))
  (hgn:N[ps.length]?=some gn:=by rfl) (hgv:¬Vis (qd st) gn:=by unfold Vis; decide +kernel) (hl:ms.length=ps.length+1:=by rfl) (hsub:∀ i∈QG 0 ms,i∈own':=by exact vS rfl) (hmr:mr=.sh\/∀ ds ρ,(fb (qv N ds))≠.ok (.nx,ρ):=by exact .inl rfl):YR P w K mg base cv (k+1) c x ps ms mr (vg N ms fb):=by
 obtain ⟨f,fd,F,hm,hb⟩:=T
 exact ⟨f,fd,qfc F S hl hgn hgv hsub hmr (fun cdv A outer s H E hr=>hbody cdv f A outer s H E hr) fun _=>.inr rfl,hm,hb⟩
end
section
variable {K:Frag}
theorem Rep.swap {own:List Nat} {F H F' H':Hp} {σ:St} {ρ:Sl} {g:Nat} {b:Addr} {o:D} (rp:Rep K own F H σ ρ) (hg:g∈own) (eb:σ[g]?=some (some (V.ref b))) (c:Chg (fun z=>z=b) F H F' H') (sb:Same F' H') (fb:F' b=none) (ow:OwnIs K F' H' b o) :
  Rep K own F' H' σ (ρ.set g (some o))/\Chg (OA own σ) F H F' H':=by
 obtain ⟨d0,hd0⟩:=rp.opn g hg
 have hl:g < ρ.length:=(List.getElem?_eq_some_iff.mp hd0).1
 refine ⟨⟨sb,by simp [rp.len],fun j d hj e=>?_,fun j d hj e=>?_,fun j hj=>?_,rp.dis⟩,c.mono fun z hz=>⟨g,hg,by rw [hz]; exact eb⟩⟩
 ·rw [List.getElem?_set_ne (fun z=>hj (by rw [<-z]; exact hg))] at e
  obtain ⟨v,h1,h2⟩:=rp.val j d hj e
  exact ⟨v,h1,h2.mono c.grow⟩
 ·by_cases q:j=g
  ·subst q
   rw [List.getElem?_set_self hl] at e
   cases e
   exact ⟨b,eb,fb,ow⟩
  ·rw [List.getElem?_set_ne (Ne.symm q)] at e
   obtain ⟨a,h1,h2,h3⟩:=rp.ow j d hj e
   have na:a≠b:=fun z=>by subst z; exact q (rp.dis j g a hj hg h1 eb)
   refine ⟨a,h1,?_,h3.grow c.grow fun o q=>c.keep a o q na⟩
   cases qa:F' a with
   | none=>rfl
   | some u=>
    rcases c.new a (by rw [qa]; simp) with z | z | z
    ·exact absurd h2 z
    ·exact absurd z h3.there
    ·exact absurd z na
 ·by_cases q:j=g
  ·subst q; exact ⟨o,List.getElem?_set_self hl⟩
  ·rw [List.getElem?_set_ne (Ne.symm q)]; exact rp.opn j hj
theorem qcR {H0 F H:Hp} {σ:St} {b:Addr} {o:D} (hF:F b=none) (ow:OwnIs K F H b o):∀ {as:List AK} {vs:List V} {ds:List D},XM as=true->ArgV K H0 F H σ as vs ds ->
  ArgsIs K F H (as.map wf++[.io]) (vs++[.ref b]) (ds++[o])/\we (as.map wf++[.io]) (vs++[.ref b])=[b]/\vs.length=as.length/\ds.length=as.length
 | [],[],[],_,_=>⟨⟨⟨b,rfl,hF,ow⟩,trivial⟩,rfl,rfl,rfl⟩
 | .vl::as,v::vs,d::ds,h,a=>by
  obtain ⟨i1,i2,i3,i4⟩:=qcR hF ow (as:=as) h a.2
  exact ⟨⟨a.1,i1⟩,i2,congrArg (·+1) i3,congrArg (·+1) i4⟩
 | [],_::_,_,_,a=>a.elim
 | [],[],_::_,_,a=>a.elim
 | .vl::_,[],_,_,a=>a.elim
 | .vl::_,_::_,[],_,a=>a.elim
 | .sl _::_,_,_,h,_=>by cases h
 | .fr::_,_,_,h,_=>by cases h
theorem qcS {F H:Hp} {b:Addr}:∀ {as:List AK} {vs:List V} {outs:List D},XM as=true->vs.length=as.length->vU K F H (as.map wf++[.io]) (vs++[.ref b]) outs->∃ o,outs[as.length]?=some o/\F b=none/\OwnIs K F H b o
 | [],[],outs,_,_,h=>by
  cases outs with
  | nil=>exact h.elim
  | cons o os=>
   obtain ⟨⟨a,e,h1,h2⟩,_⟩:=h
   cases e
   exact ⟨o,rfl,h1,h2⟩
 | .vl::as,v::vs,outs,h,hl,k=>by
  cases outs with
  | nil=>exact k.elim
  | cons o os=>
   obtain ⟨o',e,r⟩:=qcS (as:=as) (vs:=vs) (outs:=os) h (by simpa using hl) k
   exact ⟨o',by simpa using e,r⟩
 | [],_::_,_,_,hl,_=>by cases hl
 | .vl::_,[],_,_,hl,_=>by cases hl
 | .sl _::_,_,_,h,_,_=>by cases h
 | .fr::_,_,_,h,_,_=>by cases h
end
noncomputable def dMG (c:Addr) (n fld:Str) (g:Nat) (G:List D->Out (D×List D)) (fo:Sl->Out (D×Sl)) (fr:Sl->Out (List D×Sl)):Sl->Out (D×Sl):=fun ρ=>(fo ρ).bind fun p=>match p.1 with
 | .ins k fs=>if k=c/\(fs.lookup n).isNone=true then (fr p.2).bind fun q=>(match fs.lookup fld,q.2[g]? with
  | some (.raw (.ref a)),some (some (.at_ b es))=>if a=b then (match G (.ins k fs::(q.1++[.at_ b es])) with
   | .ok r=>(match r.2[q.1.length+1]? with | some o=>.ok (r.1,q.2.set g (some o)) | none=>.bad)
   | .exc x os=>(match (os.map (·.getD .non))[q.1.length+1]? with | some o=>.exc x (q.2.set g (some o)) | none=>.bad)
   | .bad=>.bad) else .bad
  | _,_=>.bad) else .bad
 | _=>.bad
noncomputable def vx (g:Nat) (f:Sl->Out (D×Sl)):Sl->Out (D×Sl):=fun ρ=>(f ρ).bind fun p=>match p.1,p.2[g]? with
 | .raw (.ref a),some (some (.at_ b es))=>if a=b then .ok (.lst es,p.2) else .bad
 | _,_=>.bad
noncomputable def qbg (g:Nat) (fo fe:Sl->Out (D×Sl)):Sl->Out (D×Sl):=fun ρ=>(vx g fo ρ).bind fun p=>(fe p.2).bind fun q=>match q.2[g]? with
 | some (some (.at_ b es))=>if es.length < 100000 then .ok (.non,q.2.set g (some (.at_ b (es++[q.1])))) else .bad
 | _=>.bad
section
variable {X:Cx} {C:Ct} {own:List Nat} {as:List AK} {m mo mr:Mo} {e o:Expr} {es:List Expr} {fa fe fo:Sl->Out (D×Sl)} {fr:Sl->Out (List D×Sl)} {n fld:Str} {pos apos cpos:Pos} {c:Addr} {g:Nat} {G:List D->Out (D×List D)} {ms:List PM} {ps:List Str} {k j:Nat} {cv:Str->Value}
theorem ZU {σ:St} {H0 F H:Hp} {ρ:Sl} {a b:Addr} {vs:List V} {ds l:List D} {d0:D} {Q:VK} (hv:XM as=true) (hg:g∈own) (hio:∀ i∈C.ox,i∈own) (rp:Rep C.K own F H σ ρ) (is:Is C.K F (.ref a) d0) (av:ArgV C.K H0 F H σ as vs ds) (e2:ρ[g]?=some (some (.at_ b l)))
  (po:Po C own mr σ F H (match G (d0::(ds++[.at_ b l])) with
   | .ok r=>(match r.2[ds.length+1]? with | some o=>.ok (r.1,ρ.set g (some o)) | none=>.bad)
   | .exc x os=>(match (os.map (·.getD .non))[ds.length+1]? with | some o=>.exc x (ρ.set g (some o)) | none=>.bad)
   | .bad=>.bad) Q):spG C.K C.cv (.val::(as.map wf++[.io])) mr G (.ref a::vs) H Q C.E:=by
 obtain ⟨b',eb,fb,ow⟩:=rp.ow g _ hg e2
 have hb:b=b':=ow.1
 subst hb
 obtain ⟨a1,a2,a3,a4⟩:=qcR fb ow hv av
 refine ⟨by simp [a3],b,F,d0::(ds++[.at_ b l]),rp.sub,⟨is,a1⟩,by show (we (as.map wf++[.io]) (vs++[.ref b])).Nodup; rw [a2]; simp,?_⟩
 have la:∀ {F' H'},Chg (LA (.val::(as.map wf++[.io])) (.ref a::vs++[.ref b])) F H F' H'->Chg (fun z=>z=b) F H F' H':=fun c=>c.mono fun z hz=>by
  have hz:z∈we (as.map wf++[.io]) (vs++[.ref b]):=hz
  rw [a2] at hz
  simpa using hz
 have out:∀ {F' H' outs},vU C.K F' H' (.val::(as.map wf++[.io])) (.ref a::vs++[.ref b]) outs->∃ o,outs[ds.length+1]?=some o/\F' b=none/\OwnIs C.K F' H' b o:=fun {F' H' outs} h=>by
  cases outs with
  | nil=>exact h.elim
  | cons o os=>
   obtain ⟨o',e,r⟩:=qcS hv a3 (show vU C.K F' H' (as.map wf++[.io]) (vs++[.ref b]) os from h)
   exact ⟨o',by rw [a4]; simpa using e,r⟩
 cases q:G (d0::(ds++[.at_ b l])) with
 | bad=>rw [q] at po; exact po.elim
 | ok r=>
  rw [q] at po
  obtain ⟨d,outs⟩:=r
  intro v F' H' sb c o mo
  obtain ⟨o',e,f1,f2⟩:=out o
  simp only [e] at po
  obtain ⟨r1,r2⟩:=rp.swap hg eb (la c) sb f1 f2
  exact po v F' H' r1 r2 mo
 | exc x os=>
  rw [q] at po
  intro F' H' sb c o
  obtain ⟨o',e,f1,f2⟩:=out o
  simp only [e] at po
  obtain ⟨r1,r2⟩:=rp.swap hg eb (la c) sb f1 f2
  exact po F' H' sb (r1.ioIs hio) r2
theorem YS {pl:Sem Bool} (hc:Cls X.K c) (MF:YR X.prog X.w X.K X.mg X.base cv j c n ps ms mr G) (hr:Room k X.A) (hj:j<=k) (hx:kb (CXk X.prog X.w) X C.E) (hg:g∈own) (ho:PE X o (tE C own mo fo)) (ha:PA X (e::es) (tAr C own as fr)) (hmo:mo≠.any:=by decide) (hcv:C.cv=cv:=by rfl) (hK:C.K=X.K:=by rfl) (hio:∀ i∈C.ox,i∈own:=by exact vS rfl) (hms:ms=.val::(as.map wf++[.io]):=by rfl) (hv:XM as=true:=by rfl)
  (hst:starEach (e::es) X.env=(false,eval e X.env)::starEach es X.env:=by exact ji rfl) (hpl:(backTo pos (starEach es X.env)).any (·.1)=false:=by exact wF rfl)
  (ht:eval (.Call (.Attribute o n apos) (e::es) [] pos) X.env=(do
   let ov <-eval o X.env
   standAt apos.atName
   let (f,first) <-holding [ov] (getMethod ov n pl)
   callWith pos f first (backTo pos (starEach (e::es) X.env)) (backToKw pos (keywordEach [] X.env))):=by rfl):PE X (.Call (.Attribute o n apos) (e::es) [] pos) (tE C own mr (dMG c n fld g G fo fr)):=by
 subst hcv hms
 obtain ⟨f,fd,F0,M,hb⟩:=MF
 refine jn (Up (pl:=pl) (vd ho hmo) hc M F0 (hr.mono hj) hb .nil hx ha hst hpl ht) fun σ H Q ⟨F,ρ,rp,h⟩=>⟨F,ρ,rp,Po.bind h fun v F1 H1 d ρ1 rp1 c1 mo1 h1=>?_⟩
 have mo1:Is C.K F1 v d:=mo1
 cases mo1 with
 | @ins a k dx fv fs ea t=>
  by_cases z:k=c/\(fs.lookup n).isNone=true
  ·simp only [if_pos z] at h1
   obtain ⟨rfl,hn⟩:=z
   refine ⟨a,dx,fv,rfl,rp1.sub _ _ ea,t.non (by cases q:fs.lookup n with | none=>rfl | some y=>rw [q] at hn; cases hn),F1,ρ1,rp1,?_⟩
   cases q0:fr ρ1 with
   | exc y os=>rw [q0] at h1; exact h1
   | bad=>rw [q0] at h1; exact h1.elim
   | ok pq=>
    obtain ⟨ds,ρ2⟩:=pq
    rw [q0] at h1
    intro vs F2 H2 rp2 c2 av
    rw [List.append_nil]
    have h1:=Po.shift (show Po C own mr σ F1 H1 (match fs.lookup fld,ρ2[g]? with
     | some (.raw (.ref a)),some (some (.at_ b es))=>if a=b then (match G (.ins k fs::(ds++[.at_ b es])) with
      | .ok r=>(match r.2[ds.length+1]? with | some o=>.ok (r.1,ρ2.set g (some o)) | none=>.bad)
      | .exc x os=>(match (os.map (·.getD .non))[ds.length+1]? with | some o=>.exc x (ρ2.set g (some o)) | none=>.bad)
      | .bad=>.bad) else .bad
     | _,_=>.bad) Q from h1) c2
    split at h1
    ·rename_i a' b' es' e1 e2
     by_cases q:a'=b'
     ·rw [if_pos q] at h1
      have:=ZU hv hg hio rp2 ((Is.ins ea t).mono c2.grow) av e2 h1
      rw [hK] at this
      exact this
     ·rw [if_neg q] at h1; exact h1.elim
    ·exact h1.elim
  ·simp only [if_neg z] at h1; exact h1.elim
 | _=>exact h1.elim
theorem ZV {σ:St} {F H:Hp} {ρ:Sl} {Q:VK} {kk:D×Sl->Out (D×Sl)} {R:VK} (hg:g∈own) (hm:m≠.any) (rp:Rep C.K own F H σ ρ) (h:Po C own mr σ F H ((vx g fo ρ).bind kk) Q)
  (K1:∀ b xs l F1 H1 ρ1,Rep C.K own F1 H1 σ ρ1->ρ1[g]?=some (some (.at_ b l))->σ[g]?=some (some (V.ref b))->F1 b=none->H1 b=some (.lst xs)->IsL C.K F1 xs l->Po C own mr σ F1 H1 (kk (.lst l,ρ1)) Q->R (.ref b) H1):Po C own .sh σ F H (fo ρ) R:=by
 unfold vx at h
 cases q0:fo ρ with
 | exc y os=>rw [q0] at h; exact h
 | bad=>rw [q0] at h; exact h.elim
 | ok pq=>
  obtain ⟨d,ρ1⟩:=pq
  rw [q0] at h
  intro v F1 H1 rp1 c1 mo1
  have mo1:Is C.K F1 v d:=mo1
  have h:=Po.shift (show Po C own mr σ F H ((match d,ρ1[g]? with | .raw (.ref a),some (some (.at_ b es))=>if a=b then (Out.ok (.lst es,ρ1):Out (D×Sl)) else Out.bad | _,_=>(Out.bad:Out (D×Sl))).bind kk) Q from h) c1
  split at h
  ·rename_i a' b' es' e2 hh1 hh2
   by_cases q:a'=b'
   ·rw [if_pos q] at h
    subst q
    cases mo1
    obtain ⟨b'',eb,fb,ow⟩:=rp1.ow g _ hg e2
    obtain ⟨hb,xs,e3,il⟩:=ow
    subst hb
    exact K1 _ xs es' F1 H1 ρ1 rp1 e2 eb fb e3 il h
   ·rw [if_neg q] at h; exact h.elim
  ·exact h.elim
theorem qbh (hK:C.K=X.K) (hg:g∈own) (ho:PE X o (tE C own mo fo)) (he:PE X e (tE C own m fe)) (hmo:mo≠.any:=by decide) (hm:m≠.any:=by decide)
  (hbase:attributeBase o "append" X.env (eval o X.env)=eval o X.env:=by rfl)
  (hfew:((backTo cpos (starEach [e] X.env)).all (fun x=>!x.1)&&(backToKw cpos (keywordEach [] X.env)).all (fun x=>x.1.isSome)
   && decide ([e].length+([]:List Keyword).length+(if ([]:List Keyword).isEmpty then 0 else 1) < 30))=true:=by exact wG rfl)
  (hline:(apos.endLine == cpos.line)=true:=by rfl) (hs:starEach [e] X.env=[(false,eval e X.env)]:=by exact qM rfl) :
  PE X (.Call (.Attribute o "append" apos) [e] [] cpos) (tE C own .sh (qbg g fo fe)):=by
 refine jn (Wx PySem.F.plainAttrs_list PySem.F.slot_list_append PySem.F.type_list_append uA (vd ho hmo) (qS (vd he hm) jR hs) hbase hfew hline hs rfl) fun σ H Q ⟨F,ρ,rp,h⟩=>⟨F,ρ,rp,?_⟩
 refine ZV hg hmo rp h fun b xs l F1 H1 ρ1 rp1 e1 e2 e3 e4 il po=>⟨.inl ⟨rfl,xs,.inl (.inl e4)⟩,F1,ρ1,rp1,?_⟩
 refine Po.bind po fun v F2 H2 d ρ2 rp2 c2 mo2 po2=>?_
 have mo2:Is C.K F2 v d:=mo2
 have po2:Po C own .sh σ F2 H2 (match ρ2[g]? with | some (some (.at_ b es))=>if es.length < 100000 then .ok (.non,ρ2.set g (some (.at_ b (es++[d])))) else .bad | _=>.bad) Q:=po2
 split at po2
 ·rename_i b' es' e5
  by_cases q:es'.length < 100000
  ·rw [if_pos q] at po2
   obtain ⟨b'',eb,fb,ow⟩:=rp2.ow g _ hg e5
   obtain ⟨hb,ys,e6,il6⟩:=ow
   subst hb
   rw [e2] at eb
   cases eb
   obtain ⟨r2,c3⟩:=rp2.write (u:=.lst (ys++[v])) (d:=.at_ b (es'++[d])) hg e2 ⟨rfl,_,qm,il6.append (.cons mo2 .nil)⟩
   refine ⟨b,ys,v,rfl,rfl,e6,?_,po2 .non F2 _ r2 c3 .non⟩
   rw [il6.length,sizeLine_eq]
   omega
  ·rw [if_neg q] at po2; exact po2.elim
 ·exact po2.elim
end
theorem Kh {K:Frag} {F H:Hp}:∀ {ws:List V} {ds:List D},IsL K F ws ds->ArgsIs K F H (List.replicate ws.length .val) ws ds/\we (List.replicate ws.length .val) ws=[]
 | [],[],.nil=>⟨trivial,rfl⟩
 | w::ws,d::ds,.cons h t=>⟨⟨h,(Kh t).1⟩,(Kh (H:=H) t).2⟩
noncomputable def qbK (c:Addr) (N:List Str) (fpre:Sl->Out (Fl×Sl)) (ds:List D):Out (List (Str×D)):=match fpre (qv N (.ins c []::ds)) with
 | .ok (.nx,ρ)=>(match (ρ[0]?:Option (Option D)) with | some (some (.ins k fs))=>if k=c/\fs.length < 1000 then .ok fs else .bad | _=>.bad)
 | .exc e o=>.exc e o
 | _=>.bad
def spI (K:Frag) (cv:Str->Value) (c:Addr) (fld:Str) (n:Nat) (GI:List D->Out (List (Str×D))):Sp:=fun vs H Q E=>∃ x dx ws F ds,vs=.ref x::ws/\ws.length=n/\H x=some (.ins c dx [])/\F x=none/\Same F H/\IsL K F ws ds/\(match GI ds with
 | .ok fs=>∀ F' H' dx' fv b,Same F' H'->Chg (fun z=>z=x) F H F' H'->F' x=none->H' x=some (.ins c dx' (yJ fld (.ref b) fv))->IsF K F' fv fs->F' b=none->H b=none->H' b=some (.lst [])->Q .non H'
 | .exc e _=>∀ F' H',Same F' H'->Chg (fun z=>z=x) F H F' H'->E (cv e) none H'
 | .bad=>False)
theorem qfd {P:Program} {w:World} {K:Frag} {mg:Str->Option Value} {base:Heap} {CX:CXT} {xn qual fld:Str} {st:Stmt} {f c:Addr} {fd:FuncData} {N ps:List Str} {k n:Nat} {cv:Str->Value} {fpre:Sl->Out (Fl×Sl)}
  (F0:Fun K xn qual st f fd) (S:FnScope N ps (qd st)) (hl:ps.length=n+1) (hc:Cls K c) (hn:NoAttr K c fld)
  (hbody:∀ (cdv:Value) (A:Around) (outer:List Env) (s:Shared) (H:Hp) (E:XK),Room k (A.deeper (envOfC qual (qd st) s.heap.objs.size f cdv)) ->
   PSs (XH CX P w K mg base N qual (qd st) f cdv A outer s H E) (js st) (XT (tSt (JE K cv E (.io::List.replicate n .val) .sh) [0] [0] fpre) (qdS K (qdk 0) (tE (JE K cv E (.io::List.replicate n .val) .sh) [0] .fr (JD qJ)) fld))) :
  FnOk P w K mg base CX (k+1) f fd ps (spI K cv c fld n (qbK c N fpre)):=by
 obtain ⟨oc,od,kV,doc,pm,an,cdv,ct,osl,rfl,lk,hcd⟩:=F0.ex
 refine Zf lk hcd S (fun vs H Q E h=>?_) fun A outer s H vs Q E hr hsp=>?_
 ·obtain ⟨x,dx,ws,F,ds,rfl,hw,_⟩:=h
  simp [hw,hl]
 ·obtain ⟨x,dx,ws,F,ds,rfl,hw,ex,fx,sb,il,hq⟩:=hsp
  refine ⟨_,hbody cdv A outer s H E hr,?_⟩
  obtain ⟨a1,a2⟩:=Kh (H:=H) il
  rw [hw] at a1 a2
  have o0:jo 0 (.io::List.replicate n .val)=[0]:=by
   show 0::jo 1 (List.replicate n .val)=[0]
   congr 1
   have:∀ (n m:Nat),jo m (List.replicate n .val)=[]:=by
    intro n
    induction n with
    | zero=>intro m; rfl
    | succ n ih=>intro m; exact ih (m+1)
   exact this n 1
  have la:we (.io::List.replicate n .val) (.ref x::ws)=[x]:=by show x::we (List.replicate n .val) ws=[x]; rw [a2]
  have ar:ArgsIs K F H (.io::List.replicate n .val) (.ref x::ws) (.ins c []::ds):=⟨⟨x,rfl,fx,dx,[],ex,.nil⟩,a1⟩
  have rp:=xw (N:=N) sb ar (by rw [la]; simp)
  rw [o0] at rp
  have oaX:∀ {z},OA [0] (kQ N (.ref x::ws)) z->z=x:=fun {z} q=>by
   obtain ⟨i,hi,e⟩:=q
   have hi:i=0:=by simpa using hi
   subst hi
   have e:some (some (V.ref x))=some (some (V.ref z)):=e
   cases e
   rfl
  refine ⟨F,qv N (.ins c []::ds),rp,?_⟩
  unfold qbK at hq
  cases q:fpre (qv N (.ins c []::ds)) with
  | bad=>rw [q] at hq; exact hq.elim
  | exc e o=>
   rw [q] at hq
   exact fun F' H' s' _ c'=>hq F' H' s' (c'.mono fun z hz=>oaX hz)
  | ok pr=>
   obtain ⟨fl,ρ⟩:=pr
   cases fl with
   | rt d=>rw [q] at hq; exact hq.elim
   | bk=>rw [q] at hq; exact hq.elim
   | ct=>rw [q] at hq; exact hq.elim
   | nx=>
    simp only [q] at hq
    intro σ' F1 H1 nx
    obtain ⟨d0,hd0⟩:=nx.rep.opn 0 (by simp)
    have e0:σ'[0]?=some (some (V.ref x)):=by
     rw [nx.io 0 (by simp [JE,QG])]
     rfl
    simp only [hd0] at hq
    refine ⟨F1,ρ,nx.rep,?_⟩
    have hz0:([]:List D).length<=sizeLine:=Nat.zero_le _
    show Po _ _ _ _ _ _ (if ([]:List D).length<=sizeLine then Out.ok (.lst [],ρ) else .bad) _
    rw [if_pos hz0]
    intro y F2 H2 rp2 c2 mo2
    obtain ⟨b,rfl,hb0,hbF,xs,hb1,ib⟩:=mo2
    cases ib
    obtain ⟨a',e1,fa,ow⟩:=rp2.ow 0 d0 (by simp) hd0
    rw [e0] at e1
    cases e1
    cases d0 with
    | ins kk fs=>
     by_cases z:kk=c/\fs.length < 1000
     ·simp only [if_pos z] at hq
      obtain ⟨rfl,hlen⟩:=z
      obtain ⟨dx',fv,ea,t⟩:=ow
      refine ⟨_,e0,x,kk,dx',fv,rfl,ea,hc,hn,by rw [t.length]; exact hlen,?_⟩
      have nbx:b≠x:=fun z=>by
       rw [z] at hb0
       exact (nx.rep.OA_there ⟨0,by simp,e0⟩).1 hb0
      have hbH:H b=none:=by
       cases qb:H b with
       | none=>rfl
       | some u=>exact absurd hb0 (nx.chg.stay b (by rw [qb]; simp))
      have oa':∀ {z},OA [0] σ' z->z=x:=fun {z} q=>by
       obtain ⟨i,hi,e⟩:=q
       have hi:i=0:=by simpa using hi
       subst hi
       rw [e0] at e
       cases e
       rfl
      refine hq F2 _ dx' fv b (fun z o e=>by rw [qo (fun q=>by rw [q,fa] at e; cases e)]; exact rp2.sub z o e) ?_ fa qm t hbF hbH (by rw [qo nbx]; exact hb1)
      exact ((nx.chg.mono fun z hz=>oaX hz).trans' (c2.mono fun z hz=>oa' hz)).trans' (Chg.put rfl)
     ·simp only [if_neg z] at hq
    | _=>exact hq.elim
def qbi (P:Program) (w:World) (K:Frag) (mg:Str->Option Value) (base:Heap) (cv:Str->Value) (k:Nat) (c:Addr) (fld:Str) (ps:List Str) (n:Nat) (GI:List D->Out (List (Str×D))):Prop:=
 ∃ f fd,FnOk P w K mg base (CXk P w) k f fd ps (spI K cv c fld n GI)/\Mk K c f/\Binds K fd ps []
theorem ZW {P:Program} {w:World} {K:Frag} {mg:Str->Option Value} {base:Heap} {qual fld:Str} {st:Stmt} {c:Addr} {N ps:List Str} {k n:Nat} {cv:Str->Value} {fpre:Sl->Out (Fl×Sl)}
  (T:qbf K c qual st ps) (S:FnScope N ps (qd st)) (hc:Cls K c) (hn:NoAttr K c fld)
  (hbody:∀ (cdv:Value) (f:Addr) (A:Around) (outer:List Env) (s:Shared) (H:Hp) (E:XK),Room k (A.deeper (envOfC qual (qd st) s.heap.objs.size f cdv)) ->
   PSs (cxk P w K mg base N qual (qd st) f cdv A outer s H E) (js st) (XT (tSt (JE K cv E (.io::List.replicate n .val) .sh) [0] [0] fpre) (qdS K (qdk 0) (tE (JE K cv E (.io::List.replicate n .val) .sh) [0] .fr (JD qJ)) fld)))
  (hl:ps.length=n+1:=by rfl):qbi P w K mg base cv (k+1) c fld ps n (qbK c N fpre):=by
 obtain ⟨f,fd,F,hm,hb⟩:=T
 exact ⟨f,fd,qfd F S hl hc hn (fun cdv A outer s H E hr=>hbody cdv f A outer s H E hr),hm,hb⟩
def qeP (C:Ct) (own:List Nat) (i g:Nat) (c:Addr) (fld:Str) (GI:List D->Out (List (Str×D))) (fr:Sl->Out (List D×Sl)):TS:=fun D σ H=>∃ F ρ,Rep C.K own F H σ ρ/\(match fr ρ with
 | .ok (ds,ρ1)=>(match GI ds with
  | .ok fs=>i < ρ1.length/\g < ρ1.length/\∀ b σ' F' H',Nx C own (g::own) σ F H ((ρ1.set i (some (.ins c (vH fld (.raw (.ref b)) fs)))).set g (some (.at_ b []))) σ' F' H'->D.nx σ' H'
  | _=>False)
 | _=>False)
section
variable {X:Cx} {C:Ct} {own:List Nat} {as:List AK} {e:Expr} {es:List Expr} {fr:Sl->Out (List D×Sl)} {cn fld:Str} {c:Addr} {i g:Nat} {GI:List D->Out (List (Str×D))} {ps:List Str} {k j n:Nat} {cv:Str->Value}
theorem qcT {x:Str} {p pos' pos pos2:Pos} (MF:qbi X.prog X.w X.K X.mg X.base cv j c fld ps n GI) (hr:Room k X.A) (hj:j+1<=k) (hgl:Gl X cn) (hm:X.mg cn=some (.ref c)) (ha:PA X (e::es) (tAr C own as fr)) (hN:X.N.Nodup) (hi:X.N[i]?=some x) (hx:Loc X.env.scope x) (hgv:∀ y,X.N[g]?=some y->¬Vis X.env.scope y)
  (hps:kb (CXk X.prog X.w) X C.E) (hn:as.length=n:=by rfl) (hv:XM as=true:=by rfl) (oi:i∉own:=by decide) (og:g∉own:=by decide) (ig:i≠g:=by decide) (ii:i∉C.io:=by exact zH rfl) (gi:g∉C.io:=by exact zH rfl) (hK:C.K=X.K:=by rfl)
  (hdb:(cn == ("__debug__":Str))=false:=by decide) (he:starEach (e::es) X.env=(false,eval e X.env)::starEach es X.env:=by exact ji rfl) (hpl:(backTo pos (starEach es X.env)).any (·.1)=false:=by exact wF rfl)
  (hs:swapsWith (.Call (.Name cn p) (e::es) [] pos) (some (.Name x pos')) pos2.line X.env=pure false:=by rfl) (hf:X.fn x=true\/X.env.scope.names.lookup x=some .local:=by first | exact .inl rfl | exact .inr rfl) :
  PS X (.Assign [.Name x pos'] (.Call (.Name cn p) (e::es) [] pos) pos2) (qeP C own i g c fld GI fr):=by
 obtain ⟨f,fd,F0,M,hb⟩:=MF
 refine ⟨?_⟩
 intro pins s σ H Dn I ⟨F,ρ,rp,h⟩
 have main:=Ub hN hi hx (qaG (E:=fun _ _ _=>False) M F0 (hr.mono hj) hgl hm hb .nil uV ha hdb he hpl) hs hf
 refine thn (main.run pins s σ H { Dn with nx:=fun σ' H'=>∃ v,Dn.nx (σ'.set g v) H' } I ?_) fun fl s' hsp=>?_
 ·refine ⟨F,ρ,rp,?_⟩
  cases q0:fr ρ with
  | exc y o=>simp only [q0] at h
  | bad=>simp only [q0] at h
  | ok pr=>
   obtain ⟨ds,ρ1⟩:=pr
   simp only [q0] at h
   intro vs F1 H1 rp1 c1 av a dx hx0 hd0 ne
   rw [List.append_nil]
   cases q1:GI ds with
   | exc y o=>simp only [q1] at h
   | bad=>simp only [q1] at h
   | ok fs=>
    simp only [q1] at h
    obtain ⟨hil,hgl',h⟩:=h
    have nF:∀ {z:Addr},H1 z=none->F1 z=none:=fun {z} hz=>rp1.sub.free hz
    have ex:(upd (upd H1 dx (.own a)) a (.ins c dx [])) a=some (.ins c dx []):=qm
    have hHa:H a=none:=by
     cases q:H a with
     | none=>rfl
     | some o=>exact absurd hx0 (c1.stay a (by rw [q]; simp))
    have c2:Chg No F1 H1 F1 (upd (upd H1 dx (.own a)) a (.ins c dx [])):=⟨fun b o eb _=>by
      rw [qo (fun z=>by rw [z,hx0] at eb; cases eb),qo (fun z=>by rw [z,hd0] at eb; cases eb)]; exact eb,fun b nb=>by
      by_cases z:b=a
      ·rw [z,ex]; simp
      ·rw [qo z]
       by_cases z2:b=dx
       ·rw [z2,qm]; simp
       ·rw [qo z2]; exact nb,Same.refl _,fun b hb=>.inl hb⟩
    have s2:Same F1 (upd (upd H1 dx (.own a)) a (.ins c dx [])):=fun b o eb=>by
     rw [qo (fun z=>by rw [z,nF hx0] at eb; cases eb),qo (fun z=>by rw [z,nF hd0] at eb; cases eb)]; exact rp1.sub b o eb
    have il:IsL C.K F1 vs ds/\vs.length=as.length:=by
     have:∀ {as:List AK} {vs:List V} {ds:List D},XM as=true->ArgV C.K H F1 H1 σ as vs ds->IsL C.K F1 vs ds/\vs.length=as.length:=by
      intro as
      induction as with
      | nil=>
       intro vs ds _ a
       cases vs <;> cases ds <;> first | exact a.elim | exact ⟨.nil,rfl⟩
      | cons k as ih=>
       intro vs ds h a
       cases k with
       | vl=>
        cases vs with
        | nil=>cases ds <;> exact a.elim
        | cons v vs=>
         cases ds with
         | nil=>exact a.elim
         | cons d ds=>
          obtain ⟨i1,i2⟩:=ih (vs:=vs) (ds:=ds) h a.2
          exact ⟨.cons a.1 i1,congrArg (·+1) i2⟩
       | sl _=>cases h
       | fr=>cases h
     exact this hv av
    refine ⟨a,dx,vs,F1,ds,rfl,il.2.trans hn,ex,nF hx0,s2,by rw [<-hK]; exact il.1,?_⟩
    simp only [q1]
    intro F' H' dx' fv b sb cc fa ea t fb hb0 hb1
    refine ⟨trivial,?_⟩
    have nba:b≠a:=fun z=>by rw [z] at hb0; rw [ex] at hb0; cases hb0
    have hb0':H1 b=none:=by
     cases qb:H1 b with
     | none=>rfl
     | some u=>
      have:=c2.stay b (by rw [qb]; simp)
      exact absurd hb0 this
    have hHb:H b=none:=by
     cases q:H b with
     | none=>rfl
     | some o=>exact absurd hb0' (c1.stay b (by rw [q]; simp))
    have near:Chg No F1 H1 F' H':=c2.trans cc fun z hz=>.inr (by rw [hz]; exact hx0)
    have rp2:=rp1.grow near sb
    have nAa:¬OA own σ a:=fun z=>(rp.OA_there z).1 hHa
    have nAb:¬OA own σ b:=fun z=>(rp.OA_there z).1 hHb
    have rp3:=rp2.frz ea fa nAa
    have gr:Same F' (upd F' a (.ins c dx' (yJ fld (.ref b) fv))):=fun z o e=>by rw [qo (qx e fa)]; exact e
    have is:Is C.K (upd F' a (.ins c dx' (yJ fld (.ref b) fv))) (.ref a) (.ins c (vH fld (.raw (.ref b)) fs)):=by
     rw [hK]
     exact .ins qm ((t.mono gr).put (.raw _))
    have rp4:=rp3.put hil is
    rw [wK oi] at rp4
    have fb':(upd F' a (.ins c dx' (yJ fld (.ref b) fv))) b=none:=by rw [qo nba]; exact fb
    have nA4:¬OA own (σ.set i (some (.ref a))) b:=fun ⟨n',hn',en⟩=>by
     rw [List.getElem?_set_ne (fun z=>oi (by rw [z]; exact hn'))] at en
     exact nAb ⟨n',hn',en⟩
    have rp5:=rp4.putO (i:=g) (d:=.at_ b []) (by rw [List.length_set]; exact hgl') fb' nA4 ⟨rfl,[],hb1,.nil⟩
    rw [wK og] at rp5
    refine ⟨some (.ref b),h b _ _ H' ⟨rp5,?_,fun z q=>?_,fun n' hn'=>?_⟩⟩
    ·have q1:=c1.trans' (near.ofNo (A:=OA own σ))
     refine ⟨q1.keep,q1.stay,q1.grow.trans gr,fun z hz=>?_⟩
     by_cases za:z=a
     ·exact .inr (.inl (by rw [za]; exact hHa))
     ·rw [qo za] at hz; exact q1.new z hz
    ·obtain ⟨n',hn',en⟩:=q
     rcases List.mem_cons.mp hn' with rfl | hn'
     ·rw [List.getElem?_set_self (by rw [List.length_set,rp1.len]; exact hgl')] at en
      cases en
      exact .inr hHb
     ·rw [List.getElem?_set_ne (fun z=>og (by rw [z]; exact hn')),List.getElem?_set_ne (fun z=>oi (by rw [z]; exact hn'))] at en
      exact .inl ⟨n',hn',en⟩
    ·rw [List.getElem?_set_ne (fun z=>gi (by rw [z]; exact hn')),List.getElem?_set_ne (fun z=>ii (by rw [z]; exact hn'))]
 ·cases fl with
  | next=>
   obtain ⟨σ',H',I',v,q⟩:=hsp
   refine ⟨σ'.set g v,H',Inv.ghost I' (by simp) fun n' y hy hvis=>List.getElem?_set_ne fun z=>?_,q⟩
   exact hgv y (by rw [z]; exact hy) hvis
  | ret u=>exact hsp
  | brk=>exact hsp
  | cont=>exact hsp
end
noncomputable def VR (n:Nat) (fw fx:Sl->Out (D×Sl)):Sl->Out (Fl×Sl):=fun ρ=>(fw ρ).bind fun p=>(fx p.2).bind fun q=>match (q.2[n]?:Option (Option D)),q.1 with
 | some (some (.lst ds)),.int k=>(match ixN ds.length k with | some j=>.ok (.nx,q.2.set n (some (.lst (ds.set j p.1)))) | none=>.bad)
 | _,_=>.bad
noncomputable def ZX (fo fe:Sl->Out (D×Sl)):Sl->Out (D×Sl):=fun ρ=>(fo ρ).bind fun p=>match p.1 with
 | .lst ds=>(fe p.2).bind fun q=>if ds.length < 100000 then .ok (.non,q.2) else .bad
 | _=>.bad
theorem qcU {f:Sl->Out (D×Sl)} {ρ ρ':Sl}:kx f ρ≠.ok (.nx,ρ'):=by
 unfold kx
 cases f ρ with
 | ok p=>intro h; cases h
 | exc c o=>intro h; cases h
 | bad=>intro h; cases h
theorem qfe {K:Frag} {cv:Str->Value} {ca:Str->Addr} {n:Str} (hv:cv n=.ref (ca n)) (hs:PySem.W.exmOne K (.ref (ca n)) (.ref (ca n))=some true):∀ c Cc,qcA ca [n] c=some Cc->cv c=.ref Cc/\PySem.W.exmOne K (.ref Cc) (.ref (ca n))=some true:=fun c Cc h=>by
 unfold qcA at h
 split at h
 ·rename_i z
  cases h
  have z:c=n:=by simpa using z
  subst z
  exact ⟨hv,hs⟩
 ·cases h
section
variable {X:Cx} {C:Ct} {own:List Nat} {m mo mw mx:Mo} {e o w ix:Expr} {fe fo fw fx:Sl->Out (D×Sl)} {pos apos cpos p1 p2 p3:Pos}
theorem YT {n:Nat} {x:Str} (hN:X.N[n]?=some x) (hv:Vis X.env.scope x) (ho:n∈own) (hw:PE X w (tE C own mw fw)) (hx:PE X ix (tE C own mx fx)) (hmw:mw≠.any:=by decide)
  (hd:(x == ("__debug__":Str))=false:=by decide) (hcd:(x == ("__classdict__":Str))=false:=by decide)
  (hsub:∀ v,assign (.Subscript (.Name x p1) ix p2) X.env v=(do
   let ov <-holding [v] (eval (.Name x p1) X.env)
   let iv <-holding [v,ov] (eval ix X.env)
   standAt p2
   holding [v,ov,iv] (setItem ov iv v)
   release [v,ov,iv] []):=by intro _; rfl)
  (ha1:swapsWithSole [.Subscript (.Name x p1) ix p2] w p3.line X.env=pure false:=by rfl) (ha2:swappedStores [.Subscript (.Name x p1) ix p2] w X.env=pure none:=by rfl)
  (ha3:(assignEach [.Subscript (.Name x p1) ix p2] X.env).map (·.2)=[assign (.Subscript (.Name x p1) ix p2) X.env]:=by rfl) :
  PS X (.Assign [.Subscript (.Name x p1) ix p2] w p3) (tSt C own own (VR n fw fx)):=by
 refine gk (Ua (vd hw hmw) (GL (vZ hN hv hd hcd) hx Vg hsub) ha1 ha2 ha3) fun Dn σ H ⟨F,ρ,rp,h⟩=>⟨F,ρ,rp,PoS.bindE h fun v F1 H1 d ρ1 rp1 c1 mo1 h1=>?_⟩
 have mo1:Is C.K F1 v d:=mo1
 obtain ⟨d0,hd0⟩:=rp1.opn n ho
 obtain ⟨a,e1,hF,o0⟩:=rp1.ow n d0 ho hd0
 refine ⟨_,e1,F1,ρ1,rp1,PoS.bindE h1 fun iv F2 H2 di ρ2 rp2 c2 mo2 h2=>?_⟩
 obtain ⟨d2,hd2⟩:=rp2.opn n ho
 obtain ⟨a',e2,hF2,o2⟩:=rp2.ow n d2 ho hd2
 rw [e1] at e2
 cases e2
 simp only [hd2] at h2
 cases d2 with
 | lst ds=>
  cases di with
  | int k=>
   have hiv:=mo2.top.int
   subst hiv
   obtain ⟨xs,ex,il⟩:=o2
   cases q:ixN ds.length k with
   | none=>simp only [q] at h2; exact h2.elim
   | some j=>
    simp only [q] at h2
    obtain ⟨r3,c3⟩:=rp2.write (u:=.lst (xs.set j v)) (d:=.lst (ds.set j d)) ho e1 ⟨_,qm,il.set (mo1.mono c2.grow) j⟩
    exact ⟨a,xs,k,j,rfl,rfl,ex,by rw [il.length]; exact q,h2 σ F2 _ ⟨r3,c3,fun _ z=>.inl z,fun _ _=>rfl⟩⟩
  | _=>exact h2.elim
 | _=>exact h2.elim
theorem qbj (hK:C.K=X.K) (ho:PE X o (tE C own .fr fo)) (he:PE X e (tE C own m fe)) (hm:m≠.any:=by decide)
  (hbase:attributeBase o "append" X.env (eval o X.env)=eval o X.env:=by rfl)
  (hfew:((backTo cpos (starEach [e] X.env)).all (fun x=>!x.1)&&(backToKw cpos (keywordEach [] X.env)).all (fun x=>x.1.isSome)
   && decide ([e].length+([]:List Keyword).length+(if ([]:List Keyword).isEmpty then 0 else 1) < 30))=true:=by exact wG rfl)
  (hline:(apos.endLine == cpos.line)=true:=by rfl) (hs:starEach [e] X.env=[(false,eval e X.env)]:=by exact qM rfl) :
  PE X (.Call (.Attribute o "append" apos) [e] [] cpos) (tE C own .sh (ZX fo fe)):=by
 refine jn (Wx PySem.F.plainAttrs_list PySem.F.slot_list_append PySem.F.type_list_append uA ho (qS (vd he hm) jR hs) hbase hfew hline hs rfl) fun σ H Q ⟨F,ρ,rp,h⟩=>⟨F,ρ,rp,?_⟩
 unfold ZX at h
 cases q0:fo ρ with
 | exc y os=>rw [q0] at h; exact h
 | bad=>rw [q0] at h; exact h.elim
 | ok pq=>
  obtain ⟨d,ρ1⟩:=pq
  rw [q0,Out.ok_bind] at h
  intro v F1 H1 rp1 c1 mo1
  have mo0:=mo1
  obtain ⟨a,rfl,ha0,haF,ow⟩:=mo1
  cases d with
  | lst ds=>
   replace h:Po C own .sh σ F H ((fe ρ1).bind fun q=>if ds.length < 100000 then .ok (.non,q.2) else .bad) Q:=h
   obtain ⟨xs,ex,il⟩:=ow
   refine ⟨.inl ⟨rfl,xs,.inl (.inl ex)⟩,F1,ρ1,rp1,?_⟩
   cases q1:fe ρ1 with
   | exc y os=>rw [q1] at h; exact fun F' H' s' i' c'=>h F' H' s' i' (c1.trans' c')
   | bad=>rw [q1] at h; exact h.elim
   | ok pq=>
    obtain ⟨d2,ρ2⟩:=pq
    rw [q1,Out.ok_bind] at h
    intro v2 F2 H2 rp2 c2 mo2
    have oa:∀ x,OA own σ x->H x≠none:=fun x z=>(rp.OA_there z).1
    obtain ⟨a',e',_,haF2,xs2,ex2,il2⟩:=mo0.grow (by decide) c2 oa
    cases e'
    have h:Po C own .sh σ F H (if ds.length < 100000 then .ok (.non,ρ2) else .bad) Q:=h
    by_cases q:ds.length < 100000
    ·rw [if_pos q] at h
     have nA:¬OA own σ a:=fun z=>oa a z ha0
     refine ⟨a,xs2,v2,rfl,rfl,ex2,by rw [il2.length,sizeLine_eq]; omega,h .non F2 _ (rp2.off haF2 nA) ?_ .non⟩
     exact (c1.trans' c2).trans (Chg.put (A:=fun z=>z=a) rfl) fun z hz=>.inr (by rw [hz]; exact ha0)
    ·rw [if_neg q] at h; exact h.elim
  | _=>exact h.elim
noncomputable def ZY:D->Bool
 | .non=>true
 | .bl _=>true
 | .int _=>true
 | .str _=>true
 | _=>false
noncomputable def qbk:D->Bool
 | .tup xs=>xs.all ZY
 | d=>ZY d
theorem qcV {K:Frag} {F F':Hp} {v:V} {d:D} (h:Is K F v d) (f:ZY d=true):Is K F' v d:=by
 cases h with
 | non=>exact .non
 | bl b=>exact .bl b
 | int i=>exact .int i
 | str z=>exact .str z
 | _=>cases f
theorem qae {K:Frag} {F F':Hp}:∀ {vs:List V} {ds:List D},IsL K F vs ds->ds.all ZY=true->IsL K F' vs ds
 | _,_,.nil,_=>.nil
 | _,_,.cons h t,f=>by
  rw [List.all_cons,Bool.and_eq_true] at f
  exact .cons (qcV h f.1) (qae t f.2)
theorem qbl {K:Frag} {F F':Hp} {v:V} {d:D} {b:Addr} {ys:List V} (h:Is K F v d) (f:qbk d=true) (hb:F b=some (.lst ys)) (k:∀ z o,F z=some o->z≠b->F' z=some o):Is K F' v d:=by
 cases h with
 | @tup a xs ds p t=>
  refine .tup ?_ (qae t f)
  rcases p with (p | ⟨o,p⟩) | p
  ·exact .inl (.inl (k _ _ p fun z=>by rw [z,hb] at p; cases p))
  ·exact .inl (.inr ⟨o,k _ _ p fun z=>by rw [z,hb] at p; cases p⟩)
  ·exact .inr p
 | non=>exact .non
 | bl b=>exact .bl b
 | int i=>exact .int i
 | str z=>exact .str z
 | _=>cases f
noncomputable def dMR (c:Addr) (n fld:Str) (g:Nat) (G:List D->Out (D×List D)) (fo:Sl->Out (D×Sl)):Sl->Out (D×Sl):=fun ρ=>(fo ρ).bind fun p=>match p.1 with
 | .ins k fs=>if k=c/\(fs.lookup n).isNone=true then (match fs.lookup fld,(p.2[g]?:Option (Option D)) with
  | some (.raw (.ref a)),some (some (.at_ b es))=>if a=b then (match G [.ins k fs,.at_ b es] with
   | .ok r=>if qbk r.1=true then .ok (r.1,p.2) else .bad
   | _=>.bad) else .bad
  | _,_=>.bad) else .bad
 | _=>.bad
theorem ZZ {pl:Sem Bool} {c:Addr} {n fld:Str} {g k j:Nat} {G:List D->Out (D×List D)} {ps:List Str} {cv:Str->Value} (hc:Cls X.K c) (MF:YR X.prog X.w X.K X.mg X.base cv j c n ps [.val,.val] .sh G) (hr:Room k X.A) (hj:j<=k) (hx:kb (CXk X.prog X.w) X C.E) (hg:g∈own) (ho:PE X o (tE C own mo fo)) (hmo:mo≠.any:=by decide) (hcv:C.cv=cv:=by rfl) (hK:C.K=X.K:=by rfl)
  (ht:eval (.Call (.Attribute o n apos) [] [] pos) X.env=(do
   let ov <-eval o X.env
   standAt apos.atName
   let (f,first) <-holding [ov] (getMethod ov n pl)
   callWith pos f first (backTo pos (starEach [] X.env)) (backToKw pos (keywordEach [] X.env))):=by rfl):PE X (.Call (.Attribute o n apos) [] [] pos) (tE C own .sh (dMR c n fld g G fo)):=by
 subst hcv
 obtain ⟨f,fd,F0,M,hb⟩:=MF
 refine jn (Ve (pl:=pl) (vd ho hmo) hc M F0 (hr.mono hj) hb .nil hx ht) fun σ H Q ⟨F,ρ,rp,h⟩=>⟨F,ρ,rp,Po.bind h fun v F1 H1 d ρ1 rp1 c1 mo1 h1=>?_⟩
 have mo1:Is C.K F1 v d:=mo1
 cases mo1 with
 | @ins a k dx fv fs ea t=>
  by_cases z:k=c/\(fs.lookup n).isNone=true
  ·simp only [if_pos z] at h1
   obtain ⟨rfl,hn⟩:=z
   refine ⟨a,dx,fv,rfl,rp1.sub _ _ ea,t.non (by cases q:fs.lookup n with | none=>rfl | some y=>rw [q] at hn; cases hn),?_⟩
   split at h1
   ·rename_i a' b' es' e1 e2
    by_cases q:a'=b'
    ·rw [if_pos q] at h1
     obtain ⟨b'',eb,fb,hbb,ys,e3,il⟩:=rp1.ow g _ hg e2
     subst hbb
     have gr:Same F1 (upd F1 b' (.lst ys)):=fun z o e=>by rw [qo (qx e fb)]; exact e
     have sb1:Same (upd F1 b' (.lst ys)) H1:=fun z o e=>by
      by_cases q:z=b'
      ·rw [q,qm] at e; cases e; rw [q]; exact e3
      ·rw [qo q] at e; exact rp1.sub z o e
     refine ⟨rfl,b',upd F1 b' (.lst ys),[.ins k fs,.at_ b' es'],sb1,⟨by rw [<-hK]; exact (Is.ins ea t).mono gr,by rw [<-hK]; exact .at_ (.inl (.inl qm)) (il.mono gr),trivial⟩,List.nodup_nil,?_⟩
     cases q1:G [.ins k fs,.at_ b' es'] with
     | bad=>simp only [q1] at h1; exact h1.elim
     | exc y os=>simp only [q1] at h1; exact h1.elim
     | ok r=>
      obtain ⟨d,outs⟩:=r
      simp only [q1] at h1
      by_cases qf:qbk d=true
      ·rw [if_pos qf] at h1
       intro v F' H' sb cc _ mo
       have mo:Is X.K F' v d:=mo
       have cc:Chg No (upd F1 b' (.lst ys)) H1 F' H':=cc.mono fun z hz=>by
        have hz:z∈([]:List Addr):=hz
        cases hz
       have kp:∀ z o,F' z=some o->z≠b'->(fun z=>if z=b' then none else F' z) z=some o:=fun z o e nz=>by
        show (if z=b' then none else F' z)=some o
        rw [if_neg nz]; exact e
       have bF:F' b'=some (.lst ys):=cc.grow _ _ qm
       have gr2:Same F1 (fun z=>if z=b' then none else F' z):=fun z o e=>kp z o (cc.grow z o (gr z o e)) fun q=>by rw [q,fb] at e; cases e
       have dn:∀ {z o},(if z=b' then none else F' z)=some o->z≠b'/\F' z=some o:=fun {z o} e=>by
        by_cases q:z=b'
        ·rw [if_pos q] at e; cases e
        ·rw [if_neg q] at e; exact ⟨q,e⟩
       have ch:Chg No F1 H1 (fun z=>if z=b' then none else F' z) H':=⟨cc.keep,cc.stay,gr2,fun z hz=>by
        cases q:(if z=b' then none else F' z) with
        | none=>exact absurd q hz
        | some o=>
         obtain ⟨nz,e⟩:=dn q
         rcases cc.new z (by rw [e]; simp) with y | y | y
         ·rw [qo nz] at y; exact .inl y
         ·exact .inr (.inl y)
         ·exact y.elim⟩
       have sb2:Same (fun z=>if z=b' then none else F' z) H':=fun z o e=>sb z o (dn e).2
       exact h1 v _ H' (rp1.grow ch sb2) ch.ofNo (by rw [hK]; exact qbl mo qf bF kp)
      ·rw [if_neg qf] at h1; exact h1.elim
    ·rw [if_neg q] at h1; exact h1.elim
   ·exact h1.elim
  ·simp only [if_neg z] at h1; exact h1.elim
 | _=>exact h1.elim
theorem xL {g:Nat} (hg:g∉own) (he:PE X e (tE C own m fo)) (hm:m≠.any:=by decide):PE X e (tE C own .sh (vx g fo)):=by
 refine jn (vd he hm) fun σ H Q ⟨F,ρ,rp,h⟩=>⟨F,ρ,rp,?_⟩
 unfold vx at h
 cases q0:fo ρ with
 | exc y os=>rw [q0] at h; exact h
 | bad=>rw [q0] at h; exact h.elim
 | ok pq=>
  obtain ⟨d,ρ1⟩:=pq
  rw [q0,Out.ok_bind] at h
  intro v F1 H1 rp1 c1 mo1
  have mo1:Is C.K F1 v d:=mo1
  split at h
  ·rename_i a' b' es' hd0 e2
   by_cases q:a'=b'
   ·rw [if_pos q] at h
    have hd0:d=.raw (.ref a'):=hd0
    subst hd0 q
    cases mo1
    obtain ⟨w,ew,iw⟩:=rp1.val g _ hg e2
    cases iw with
    | at_ p t=>exact h _ F1 H1 rp1 c1 (.lst p t)
   ·rw [if_neg q] at h; exact h.elim
  ·exact h.elim
end
noncomputable def YU (c:Addr) (n:Str) (G:List D->Out (D×List D)) (fo:Sl->Out (D×Sl)) (fr:Sl->Out (List D×Sl)):Sl->Out (D×Sl):=fun ρ=>(fo ρ).bind fun p=>match p.1 with
 | .ins k fs=>if k=c/\(fs.lookup n).isNone=true then (fr p.2).bind fun q=>(match G (.ins k fs::q.1) with
  | .ok r=>.ok (r.1,q.2)
  | .exc x _=>.exc x q.2
  | .bad=>.bad) else .bad
 | _=>.bad
theorem qcW {K:Frag} {H0 F H:Hp} {σ:St} {as:List AK} {vs:List V} {ds:List D} (hv:XM as=true) (av:ArgV K H0 F H σ as vs ds):ArgsIs K F H (as.map wf) vs ds/\we (as.map wf) vs=[]:=qcQ (Same.refl F) hv av
section
variable {X:Cx} {C:Ct} {own:List Nat} {as:List AK} {mo mr:Mo} {e o:Expr} {es:List Expr} {fo:Sl->Out (D×Sl)} {fr:Sl->Out (List D×Sl)} {n:Str} {pos apos:Pos} {c:Addr} {G:List D->Out (D×List D)} {ms:List PM} {ps:List Str} {k j:Nat} {cv:Str->Value}
theorem Ga {pl:Sem Bool} (hc:Cls X.K c) (MF:Jh X.prog X.w X.K X.mg X.base cv j c n ps ms mr G) (hr:Room k X.A) (hj:j<=k) (hx:kb (CXk X.prog X.w) X C.E) (ho:PE X o (tE C own mo fo)) (ha:PA X (e::es) (tAr C own as fr)) (hmo:mo≠.any:=by decide) (hcv:C.cv=cv:=by rfl) (hK:C.K=X.K:=by rfl) (hio:∀ i∈C.ox,i∈own:=by exact vS rfl) (hms:ms=.val::as.map wf:=by rfl) (hv:XM as=true:=by rfl)
  (hst:starEach (e::es) X.env=(false,eval e X.env)::starEach es X.env:=by exact ji rfl) (hpl:(backTo pos (starEach es X.env)).any (·.1)=false:=by exact wF rfl)
  (ht:eval (.Call (.Attribute o n apos) (e::es) [] pos) X.env=(do
   let ov <-eval o X.env
   standAt apos.atName
   let (f,first) <-holding [ov] (getMethod ov n pl)
   callWith pos f first (backTo pos (starEach (e::es) X.env)) (backToKw pos (keywordEach [] X.env))):=by rfl):PE X (.Call (.Attribute o n apos) (e::es) [] pos) (tE C own mr (YU c n G fo fr)):=by
 subst hcv hms
 obtain ⟨f,fd,F0,M,hb⟩:=MF
 refine jn (Up (pl:=pl) (vd ho hmo) hc M F0 (hr.mono hj) hb .nil hx ha hst hpl ht) fun σ H Q ⟨F,ρ,rp,h⟩=>⟨F,ρ,rp,Po.bind h fun v F1 H1 d ρ1 rp1 c1 mo1 h1=>?_⟩
 have mo1:Is C.K F1 v d:=mo1
 cases mo1 with
 | @ins a k dx fv fs ea t=>
  by_cases z:k=c/\(fs.lookup n).isNone=true
  ·simp only [if_pos z] at h1
   obtain ⟨rfl,hn⟩:=z
   refine ⟨a,dx,fv,rfl,rp1.sub _ _ ea,t.non (by cases q:fs.lookup n with | none=>rfl | some y=>rw [q] at hn; cases hn),F1,ρ1,rp1,?_⟩
   cases q0:fr ρ1 with
   | exc y os=>rw [q0] at h1; exact h1
   | bad=>rw [q0] at h1; exact h1.elim
   | ok pq=>
    obtain ⟨ds,ρ2⟩:=pq
    rw [q0] at h1
    intro vs F2 H2 rp2 c2 av
    rw [List.append_nil]
    have h1:=Po.shift (show Po C own mr σ F1 H1 (match G (.ins k fs::ds) with | .ok r=>.ok (r.1,ρ2) | .exc x _=>.exc x ρ2 | .bad=>.bad) Q from h1) c2
    obtain ⟨a1,a2⟩:=qcW hv av
    refine ⟨F2,.ins k fs::ds,rp2.sub,⟨by rw [<-hK]; exact (Is.ins ea t).mono c2.grow,by rw [<-hK]; exact a1⟩,by show (we (as.map wf) vs).Nodup; rw [a2]; exact List.nodup_nil,?_⟩
    have near:∀ {F' H':Hp},Chg (LA (.val::as.map wf) (.ref a::vs)) F2 H2 F' H'->Chg No F2 H2 F' H':=fun cc=>cc.mono fun z hz=>by
     have hz:z∈we (as.map wf) vs:=hz
     rw [a2] at hz
     cases hz
    cases q1:G (.ins k fs::ds) with
    | bad=>rw [q1] at h1; exact h1.elim
    | exc y os=>rw [q1] at h1; exact fun F' H' sb cc _=>h1 F' H' sb ((rp2.grow (near cc) sb).ioIs hio) (near cc).ofNo
    | ok pq=>
     rw [q1] at h1
     obtain ⟨d,outs⟩:=pq
     exact fun v F' H' sb cc _ mo=>h1 v F' H' (rp2.grow (near cc) sb) (near cc).ofNo (by rw [hK]; exact mo)
  ·simp only [if_neg z] at h1; exact h1.elim
 | _=>exact h1.elim
end
def qeQ (K:Frag) (N:List Str) (c:Addr) (fld:Str) (i g:Nat) (GI:List D->Out (List (Str×D))) (fpre:Sl->Out (Fl×Sl)) (fr:Sl->Out (List D×Sl)) (fpost:Sl->Out (Fl×Sl)):Sp:=fun vs H Q _=>∃ F ds v0,vs=[v0]/\ds.length=1/\Same F H/\IsL K F vs ds/\∃ ρ1 ds2 ρ2 fs d,fpre (qv N ds)=.ok (.nx,ρ1)/\fr ρ1=.ok (ds2,ρ2)/\GI ds2=.ok fs/\i < ρ2.length/\g < ρ2.length /\
 (∀ b,∃ ρ',fpost ((ρ2.set i (some (.ins c (vH fld (.raw (.ref b)) fs)))).set g (some (.at_ b [])))=.ok (.rt d,ρ'))/\∀ v F' H',Is K F' v d->Q v H'
theorem qek {P:Program} {w:World} {K:Frag} {mg:Str->Option Value} {base:Heap} {CX:CXT} {x qual fld:Str} {st:Stmt} {f c:Addr} {fd:FuncData} {N ps:List Str} {k i g:Nat} {cv:Str->Value} {own1 own2:List Nat} {fpre fpost:Sl->Out (Fl×Sl)} {fr:Sl->Out (List D×Sl)} {GI:List D->Out (List (Str×D))}
  (F0:Fun K x qual st f fd) (S:FnScope N ps (qd st)) (hl:ps.length=1)
  (hbody:∀ (cdv:Value) (A:Around) (outer:List Env) (s:Shared) (H:Hp) (E:XK),Room k (A.deeper (envOfC qual (qd st) s.heap.objs.size f cdv)) ->
   PSs (XH CX P w K mg base N qual (qd st) f cdv A outer s H E) (js st) (XT (tSt (JE K cv E [.val] .sh) [] own1 fpre) (XT (qeP (JE K cv E [.val] .sh) own1 i g c fld GI fr) (tSt (JE K cv E [.val] .sh) (g::own1) own2 fpost)))) :
  FnOk P w K mg base CX (k+1) f fd ps (qeQ K N c fld i g GI fpre fr fpost):=by
 obtain ⟨oc,od,kV,doc,pm,an,cdv,ct,osl,rfl,lk,hcd⟩:=F0.ex
 refine Zf lk hcd S (fun vs H Q E h=>?_) fun A outer s H vs Q E hr hsp=>?_
 ·obtain ⟨F,ds,v0,rfl,_⟩:=h
  exact hl.symm
 ·obtain ⟨F,ds,v0,rfl,hd,sb,il,ρ1,ds2,ρ2,fs,d,h1,h2,h3,h4,h5,h6,h7⟩:=hsp
  refine ⟨_,hbody cdv A outer s H E hr,?_⟩
  have ar:ArgsIs K F H [.val] [v0] ds:=by
   cases il with
   | cons a b=>cases b; exact ⟨a,trivial⟩
  have rp:=xw (N:=N) sb ar List.nodup_nil
  refine ⟨F,qv N ds,rp,?_⟩
  rw [h1]
  intro σ1 F1 H1 n1
  refine ⟨F1,ρ1,n1.rep,?_⟩
  simp only [h2,h3]
  refine ⟨h4,h5,fun b σ2 F2 H2 n2=>⟨F2,_,n2.rep,?_⟩⟩
  obtain ⟨ρ',e⟩:=h6 b
  rw [e]
  intro v σ' F' H' _ _ _ _ mo
  exact h7 v F' H' mo
end L2.D2
set_option maxHeartbeats 4000000
namespace Kx
open PySem PySem.Spec PyProof.Rows L2 L2.D2
noncomputable def top (i:Nat):Stmt:=PySem.Challenge.pw_lookwords_k22_whole_books.main.body.getD i (.Pass ⟨0,0,0,0⟩)
noncomputable def CS:List Str:=["NoWords", "NoLook", "NoRoom", "NoWord", "NoWorths", "Never"]
noncomputable def FS:List Str:=[]
structure Zt (K:Frag) (mg:Str->Option Value) (cv:Str->Value) (ca:Str->Addr):Prop where
 xs:Xs K cv ca CS "WordError"
 mref:∀ c∈CS,mg c=some (.ref (ca c))
 xin:∀ c∈CS,PySem.W.excIn K (ca c) bmV "ValueError.__new__"=true
 fref:∀ x∈FS,mg x=some (.ref (ca x))
 z_all:mg "all"=none
 z_bool:mg "bool"=none
 z_dict:mg "dict"=none
 z_int:mg "int"=none
 z_isinstance:mg "isinstance"=none
 z_len:mg "len"=none
 z_list:mg "list"=none
 z_max:mg "max"=none
 z_min:mg "min"=none
 z_range:mg "range"=none
 z_set:mg "set"=none
 z_sorted:mg "sorted"=none
 z_str:mg "str"=none
 z_tuple:mg "tuple"=none
 z_zip:mg "zip"=none
 c_LEAST_PLACE:∃ t,mg "LEAST_PLACE"=some (.int (-3) t)
 c_MOST_LETTERS:∃ t,mg "MOST_LETTERS"=some (.int 6 t)
 c_MOST_PLACE:∃ t,mg "MOST_PLACE"=some (.int 2 t)
 c_MOST_ROOM:∃ t,mg "MOST_ROOM"=some (.int 99 t)
 c_MOST_WORDS:∃ t,mg "MOST_WORDS"=some (.int 6 t)
 m_Book:mg "Book"=some (.ref (ca "Book"))
 b_cls:Cls K (ca "Book")
 b_no:∀ f∈(["look", "width", "worths", "standing", "asked"]:List Str),NoAttr K (ca "Book") f
 s_NoWorths:PySem.W.exmOne K (.ref (ca "NoWorths")) (.ref (ca "NoWorths"))=some true
theorem Jj:bootBuiltins "all"=some (.builtin "all"):=by decide +kernel
theorem qbm:bootBuiltins "bool"=some (.type "bool"):=by decide +kernel
theorem Ki:bootBuiltins "dict"=some (.type "dict"):=by decide +kernel
theorem qcX:bootBuiltins "int"=some (.type "int"):=by decide +kernel
theorem qR:bootBuiltins "isinstance"=some (.builtin "isinstance"):=by decide +kernel
theorem jl:bootBuiltins "len"=some (.builtin "len"):=by decide +kernel
theorem YV:bootBuiltins "list"=some (.type "list"):=by decide +kernel
theorem qcY:bootBuiltins "max"=some (.builtin "max"):=by decide +kernel
theorem qcZ:bootBuiltins "min"=some (.builtin "min"):=by decide +kernel
theorem xM:bootBuiltins "set"=some (.type "set"):=by decide +kernel
theorem uK:bootBuiltins "sorted"=some (.builtin "sorted"):=by decide +kernel
theorem qaf:bootBuiltins "str"=some (.type "str"):=by decide +kernel
theorem kW:bootBuiltins "tuple"=some (.type "tuple"):=by decide +kernel
instance {α:Type}:Inhabited (Out α):=⟨.bad⟩
section
variable {P:Program} {w:World} {K:Frag} {mg:Str->Option Value} {base:Heap} {cv:Str->Value} {ca:Str->Addr}
abbrev vI:Stmt:=top 16
abbrev xN:List Str:=["thing"]
theorem Jk:FnScope xN ["thing"] (qd vI):=⟨rfl,rfl,rfl,by decide +kernel,rfl,by decide +kernel,by decide +kernel⟩
noncomputable def kJ:Sl->Out (Fl×Sl):=(kx (QA (d1 (xz "str") (qg 0)) (QA (d2 eqD (d1 kD (qg 0)) (dC (.int 1))) (uB leD leD (dC (.str "a")) (qg 0) (dC (.str "z"))))))
noncomputable abbrev kK:List D->Out (D×List D):=vg xN [.val] (kJ)
abbrev wo P w K mg base cv:=DefOk P w K mg base cv 1 "is_letter" ["thing"] [.val] .sh (kK)
theorem Jl (Z:Zt K mg cv ca) (T:jD K mg "is_letter" vI ["thing"]):wo P w K mg base cv:=
 qP (k:=0) (own':=[]) (fb:=kJ) T Jk fun cdv f A outer s H E hr=>(qp (qu (QB (yv rfl rfl Z.z_isinstance qR rfl Z.z_str qaf (vr 0)) (QB (zI (xp rfl hr.units) (qD (jB rfl) rfl Z.z_len jl (vr 0)) qA) (Vo (Vq QD QD wb (vr 0) wb))))))
abbrev vy:Stmt:=top 17
abbrev xO:List Str:=["thing"]
theorem WN:FnScope xO ["thing"] (qd vy):=⟨rfl,rfl,rfl,by decide +kernel,rfl,by decide +kernel,by decide +kernel⟩
noncomputable def xP:Sl->Out (Fl×Sl):=(jx (sIf (dOr (Qz (JC (d1 (xz "str") (qg 0)))) (Qz (jG (uB leD leD (dC (.int 1)) (d1 kD (qg 0)) (dC (.int 6)))))) (kx (dC (.bl false))) kl)
  (kx (d1 XI (jh [] 1 [] (vp (qg 0)) (gNm 0) ftT (qB [.vl] kK (qe (qg 0) qJ))))))
noncomputable abbrev wp:List D->Out (D×List D):=vg xO [.val] (xP)
abbrev uZ P w K mg base cv:=DefOk P w K mg base cv 2 "is_word" ["thing"] [.val] .sh (wp)
theorem WO (Z:Zt K mg cv ca) (T:jD K mg "is_word" vy ["thing"]) (ok_is_letter:wo P w K mg base cv):uZ P w K mg base cv:=
 qP (k:=1) (own':=[]) (fb:=xP) T WN fun cdv f A outer s H E hr=>(qr (jA (PW.pt (xq (jw (jJ rfl (yv rfl rfl Z.z_isinstance qR rfl Z.z_str qaf (vr 0)) (fun _=>rfl))) (uj (jw (QC QD QD qA (qD (jB rfl) rfl Z.z_len jl (vr 0)) (uI Z.c_MOST_LETTERS rfl)))))) (qp (qu gj)) qV)
  (qp (qu (qD (QP rfl rfl) rfl Z.z_all Jj (jk (N:=["sign"]) (nt:=1) (cap:=[]) rfl (vG (names:=(qd vy).names) rfl (by decide +kernel)) (jL (names:=(qd vy).names) (N:=xO) rfl rfl (by decide +kernel)) (je rfl (vr 0)) (fun fp L s1 H1=>(qw (i:=0) (show List.Nodup (["sign"]:List Str) from by decide +kernel) rfl (Or.inl rfl))) (fun fp L s1 H1=>qU) (fun fp L s1 H1=>(qt ok_is_letter hr (by decide) uV rfl (qc (vr 0) ql))))))))
abbrev kX:Stmt:=top 23
abbrev yA:List Str:=["thing"]
theorem gH:FnScope yA ["thing"] (qd kX):=⟨rfl,rfl,rfl,by decide +kernel,rfl,by decide +kernel,by decide +kernel⟩
noncomputable def wq:Sl->Out (Fl×Sl):=(sIf (Qz (JC (qB [.vl] wp (qe (qg 0) qJ)))) (kG "NoWord" (qe (dC (.str "a word has 1 to 6 letters from a to z")) qJ)) kl)
noncomputable abbrev wt:List D->Out (D×List D):=vg yA [.val] (wq)
abbrev uL P w K mg base cv:=DefOk P w K mg base cv 3 "check_word" ["thing"] [.val] .sh (wt)
theorem gI (Z:Zt K mg cv ca) (T:jD K mg "check_word" kX ["thing"]) (ok_is_word:uZ P w K mg base cv):uL P w K mg base cv:=
 qP (k:=2) (own':=[]) (fb:=wq) T gH fun cdv f A outer s H E hr=>(qp (jA (jw (jJ rfl (qt ok_is_word hr (by decide) qW rfl (qc (vr 0) ql)) (fun _=>rfl))) (qp (kH rfl (xA rfl) rfl rfl (Z.mref "NoWord" (by decide +kernel)) (Z.xs.val "NoWord" (by decide +kernel)) (Z.xin "NoWord" (by decide +kernel)) (qc wb ql))) qV))
abbrev kY:Stmt:=top 15
abbrev yB:List Str:=["thing", "least", "most"]
theorem gJ:FnScope yB ["thing", "least", "most"] (qd kY):=⟨rfl,rfl,rfl,by decide +kernel,rfl,by decide +kernel,by decide +kernel⟩
noncomputable def kZ:Sl->Out (Fl×Sl):=(jx (sIf (dOr (Qz (JC (d1 (xz "int") (qg 0)))) (JC (d1 (xz "bool") (qg 0)))) (kx (dC (.bl false))) kl)
  (kx (uB leD leD (qg 1) (qg 0) (qg 2))))
noncomputable abbrev jE:List D->Out (D×List D):=vg yB [.val,.val,.val] (kZ)
abbrev ko P w K mg base cv:=DefOk P w K mg base cv 1 "is_between" ["thing", "least", "most"] [.val,.val,.val] .sh (jE)
theorem gK (Z:Zt K mg cv ca) (T:jD K mg "is_between" kY ["thing", "least", "most"]):ko P w K mg base cv:=
 qP (k:=0) (own':=[]) (fb:=kZ) T gJ fun cdv f A outer s H E hr=>(qr (jA (PW.pt (xq (jw (jJ rfl (yv rfl rfl Z.z_isinstance qR rfl Z.z_int qcX (vr 0)) (fun _=>rfl))) (uj (jJ rfl (yv rfl rfl Z.z_isinstance qR rfl Z.z_bool qbm (vr 0)) (fun _=>rfl))))) (qp (qu gj)) qV)
  (qp (qu (Vq QD QD (vr 1) (vr 0) (vr 2)))))
abbrev va:Stmt:=top 25
abbrev yC:List Str:=["thing"]
theorem gL:FnScope yC ["thing"] (qd va):=⟨rfl,rfl,rfl,by decide +kernel,rfl,by decide +kernel,by decide +kernel⟩
noncomputable def wu:Sl->Out (Fl×Sl):=(sIf (Qz (JC (qB [.vl,.vl,.vl] jE (qe (qg 0) (qe (dC (.int 1)) (qe (dC (.int 99)) qJ)))))) (kG "NoRoom" (qe (dC (.str "a room is a whole number from 1 to 99")) qJ)) kl)
noncomputable abbrev ww:List D->Out (D×List D):=vg yC [.val] (wu)
abbrev uM P w K mg base cv:=DefOk P w K mg base cv 2 "check_room" ["thing"] [.val] .sh (ww)
theorem gM (Z:Zt K mg cv ca) (T:jD K mg "check_room" va ["thing"]) (ok_is_between:ko P w K mg base cv):uM P w K mg base cv:=
 qP (k:=1) (own':=[]) (fb:=wu) T gL fun cdv f A outer s H E hr=>(qp (jA (jw (jJ rfl (qt ok_is_between hr (by decide) qW rfl (qc (vr 0) (qc qA (qc (uI Z.c_MOST_ROOM rfl) ql)))) (fun _=>rfl))) (qp (kH rfl (xA rfl) rfl rfl (Z.mref "NoRoom" (by decide +kernel)) (Z.xs.val "NoRoom" (by decide +kernel)) (Z.xin "NoRoom" (by decide +kernel)) (qc wb ql))) qV))
abbrev wO:Stmt:=top 20
abbrev zU:List Str:=["thing", "room"]
theorem Kj:FnScope zU ["thing", "room"] (qd wO):=⟨rfl,rfl,rfl,by decide +kernel,rfl,by decide +kernel,by decide +kernel⟩
noncomputable def jU:Sl->Out (Fl×Sl):=(jx (sIf (dOr (Qz (JC (d1 (xz "tuple") (qg 0)))) (jG (d2 neD (d1 kD (qg 0)) (dC (.int 2))))) (kx (dC (.bl false))) kl)
  (kx (QA (qB [.vl] kK (qe (d2 ixD (qg 0) (dC (.int 0))) qJ)) (qB [.vl,.vl,.vl] jE (qe (d2 ixD (qg 0) (dC (.int 1))) (qe (dC (.int 0)) (qe (d2 Vk (qg 1) (dC (.int 1))) qJ)))))))
noncomputable abbrev wP:List D->Out (D×List D):=vg zU [.val,.val] (jU)
abbrev xQ P w K mg base cv:=DefOk P w K mg base cv 2 "is_worth" ["thing", "room"] [.val,.val] .sh (wP)
theorem Kk (Z:Zt K mg cv ca) (T:jD K mg "is_worth" wO ["thing", "room"]) (ok_is_between:ko P w K mg base cv) (ok_is_letter:wo P w K mg base cv):xQ P w K mg base cv:=
 qP (k:=1) (own':=[]) (fb:=jU) T Kj fun cdv f A outer s H E hr=>(qr (jA (PW.pt (xq (jw (jJ rfl (yv rfl rfl Z.z_isinstance qR rfl Z.z_tuple kW (vr 0)) (fun _=>rfl))) (uj (jg (UI rfl hr.units) (qD (jB rfl) rfl Z.z_len jl (vr 0)) qA)))) (qp (qu gj)) qV)
  (qp (qu (QB (qt ok_is_letter hr (by decide) qW rfl (qc (kg rfl hr.units (vr 0) qA (fun _ _=>rfl)) ql)) (Vo (qt ok_is_between hr (by decide) qW rfl (qc (kg rfl hr.units (vr 0) qA (fun _ _=>rfl)) (qc qA (qc (jt xo (vr 1) qA) ql)))))))))
abbrev jm:Stmt:=top 21
abbrev vJ:List Str:=["thing", "room", "letters"]
theorem sc_is_worths:FnScope vJ ["thing", "room"] (qd jm):=⟨rfl,rfl,rfl,by decide +kernel,rfl,by decide +kernel,by decide +kernel⟩
noncomputable def vK:Sl->Out (Fl×Sl):=(jx (sIf (dOr (Qz (JC (d1 (xz "tuple") (qg 0)))) (Qz (JC (d1 XI (jh [] 1 [1] (vp (qg 0)) (gNm 0) ftT (qB [.vl,.vl] wP (qe (qg 0) (qe (qg 1) qJ)))))))) (kx (dC (.bl false))) kl)
  (jx (wI 2 (jh [] 1 [] (vp (qg 0)) (gNm 0) ftT (d2 ixD (qg 0) (dC (.int 0)))))
  (kx (d2 eqD (qg 2) (d1 jM (qg 2))))))
noncomputable abbrev jV:List D->Out (D×List D):=vg vJ [.val,.val] (vK)
abbrev yD P w K mg base cv:=DefOk P w K mg base cv 3 "is_worths" ["thing", "room"] [.val,.val] .sh (jV)
theorem Jm (Z:Zt K mg cv ca) (T:jD K mg "is_worths" jm ["thing", "room"]) (ok_is_worth:xQ P w K mg base cv):yD P w K mg base cv:=
 qP (k:=2) (own':=[]) (fb:=vK) T sc_is_worths fun cdv f A outer s H E hr=>(qr (jA (PW.pt (xq (jw (jJ rfl (yv rfl rfl Z.z_isinstance qR rfl Z.z_tuple kW (vr 0)) (fun _=>rfl))) (uj (jw (jJ rfl (qD (QP rfl rfl) rfl Z.z_all Jj (jk (N:=["part", "room"]) (nt:=1) (cap:=[1]) rfl (vG (names:=(qd jm).names) rfl (by decide +kernel)) (jL (names:=(qd jm).names) (N:=vJ) rfl rfl (by decide +kernel)) (je rfl (vr 0)) (fun fp L s1 H1=>(qw (i:=0) (show List.Nodup (["part", "room"]:List Str) from by decide +kernel) rfl (Or.inl rfl))) (fun fp L s1 H1=>qU) (fun fp L s1 H1=>(qt ok_is_worth hr (by decide) uV rfl (qc (vr 0) (qc (vr 1) ql)))))) (fun _=>rfl)))))) (qp (qu gj)) qV)
  (qr (Vv (N:=["part"]) (nt:=1) (cap:=[]) sc_is_worths.nd (i:=2) rfl (Or.inl rfl) rfl (vG (names:=(qd jm).names) rfl (by decide +kernel)) (jL (names:=(qd jm).names) (N:=vJ) rfl rfl (by decide +kernel)) (je rfl (vr 0)) (fun fp L s1 H1=>(qw (i:=0) (show List.Nodup (["part"]:List Str) from by decide +kernel) rfl (Or.inl rfl))) (fun fp L s1 H1=>qU) (fun fp L s1 H1=>(kg rfl hr.units (vr 0) qA (fun _ _=>rfl))))
  (gl [2] (qp (qu (zI (xp rfl hr.units) (vr 2) (wM rfl rfl rfl Z.z_sorted uK rfl Z.z_set xM (vr 2))))))))
abbrev ka:Stmt:=top 26
abbrev uc:List Str:=["thing", "room"]
theorem xR:FnScope uc ["thing", "room"] (qd ka):=⟨rfl,rfl,rfl,by decide +kernel,rfl,by decide +kernel,by decide +kernel⟩
noncomputable def vk:Sl->Out (Fl×Sl):=(sIf (Qz (JC (qB [.vl,.vl] jV (qe (qg 0) (qe (qg 1) qJ))))) (kG "NoWorths" (qe (dC (.str "worths are a rising tuple of unlike letters, each with a number within the room")) qJ)) kl)
noncomputable abbrev vm:List D->Out (D×List D):=vg uc [.val,.val] (vk)
abbrev wx P w K mg base cv:=DefOk P w K mg base cv 4 "check_worths" ["thing", "room"] [.val,.val] .sh (vm)
theorem xS (Z:Zt K mg cv ca) (T:jD K mg "check_worths" ka ["thing", "room"]) (ok_is_worths:yD P w K mg base cv):wx P w K mg base cv:=
 qP (k:=3) (own':=[]) (fb:=vk) T xR fun cdv f A outer s H E hr=>(qp (jA (jw (jJ rfl (qt ok_is_worths hr (by decide) qW rfl (qc (vr 0) (qc (vr 1) ql))) (fun _=>rfl))) (qp (kH rfl (xA rfl) rfl rfl (Z.mref "NoWorths" (by decide +kernel)) (Z.xs.val "NoWorths" (by decide +kernel)) (Z.xin "NoWorths" (by decide +kernel)) (qc wb ql))) qV))
abbrev kz:Stmt:=top 18
abbrev ya:List Str:=["thing"]
theorem Kl:FnScope ya ["thing"] (qd kz):=⟨rfl,rfl,rfl,by decide +kernel,rfl,by decide +kernel,by decide +kernel⟩
noncomputable def yb:Sl->Out (Fl×Sl):=(jx (sIf (dOr (Qz (JC (d1 (xz "tuple") (qg 0)))) (Qz (jG (uB leD leD (dC (.int 1)) (d1 kD (qg 0)) (dC (.int 6)))))) (kx (dC (.bl false))) kl)
  (kx (QA (d1 XI (jh [] 1 [] (vp (qg 0)) (gNm 0) ftT (qB [.vl] wp (qe (qg 0) qJ)))) (d2 eqD (d1 gB (qg 0)) (d1 kD (qg 0))))))
noncomputable abbrev yc:List D->Out (D×List D):=vg ya [.val] (yb)
abbrev xT P w K mg base cv:=DefOk P w K mg base cv 3 "is_words" ["thing"] [.val] .sh (yc)
theorem Km (Z:Zt K mg cv ca) (T:jD K mg "is_words" kz ["thing"]) (ok_is_word:uZ P w K mg base cv):xT P w K mg base cv:=
 qP (k:=2) (own':=[]) (fb:=yb) T Kl fun cdv f A outer s H E hr=>(qr (jA (PW.pt (xq (jw (jJ rfl (yv rfl rfl Z.z_isinstance qR rfl Z.z_tuple kW (vr 0)) (fun _=>rfl))) (uj (jw (QC QD QD qA (qD (jB rfl) rfl Z.z_len jl (vr 0)) (uI Z.c_MOST_WORDS rfl)))))) (qp (qu gj)) qV)
  (qp (qu (QB (qD (QP rfl rfl) rfl Z.z_all Jj (jk (N:=["part"]) (nt:=1) (cap:=[]) rfl (vG (names:=(qd kz).names) rfl (by decide +kernel)) (jL (names:=(qd kz).names) (N:=ya) rfl rfl (by decide +kernel)) (je rfl (vr 0)) (fun fp L s1 H1=>(qw (i:=0) (show List.Nodup (["part"]:List Str) from by decide +kernel) rfl (Or.inl rfl))) (fun fp L s1 H1=>qU) (fun fp L s1 H1=>(qt ok_is_word hr (by decide) uV rfl (qc (vr 0) ql))))) (Vo (zI (xp rfl hr.units) (YA rfl rfl rfl Z.z_len jl rfl Z.z_set xM (vr 0)) (qD (jB rfl) rfl Z.z_len jl (vr 0))))))))
abbrev kq:Stmt:=top 22
abbrev uN:List Str:=["thing"]
theorem zu:FnScope uN ["thing"] (qd kq):=⟨rfl,rfl,rfl,by decide +kernel,rfl,by decide +kernel,by decide +kernel⟩
noncomputable def vL:Sl->Out (Fl×Sl):=(sIf (Qz (JC (qB [.vl] yc (qe (qg 0) qJ)))) (kG "NoWords" (qe (dC (.str "words are a tuple of 1 to 6 unlike words of 1 to 6 letters from a to z")) qJ)) kl)
noncomputable abbrev vM:List D->Out (D×List D):=vg uN [.val] (vL)
abbrev ud P w K mg base cv:=DefOk P w K mg base cv 4 "check_words" ["thing"] [.val] .sh (vM)
theorem zv (Z:Zt K mg cv ca) (T:jD K mg "check_words" kq ["thing"]) (ok_is_words:xT P w K mg base cv):ud P w K mg base cv:=
 qP (k:=3) (own':=[]) (fb:=vL) T zu fun cdv f A outer s H E hr=>(qp (jA (jw (jJ rfl (qt ok_is_words hr (by decide) qW rfl (qc (vr 0) ql)) (fun _=>rfl))) (qp (kH rfl (xA rfl) rfl rfl (Z.mref "NoWords" (by decide +kernel)) (Z.xs.val "NoWords" (by decide +kernel)) (Z.xin "NoWords" (by decide +kernel)) (qc wb ql))) qV))
abbrev vz:Stmt:=top 19
abbrev xU:List Str:=["thing"]
theorem WP:FnScope xU ["thing"] (qd vz):=⟨rfl,rfl,rfl,by decide +kernel,rfl,by decide +kernel,by decide +kernel⟩
noncomputable def xV:Sl->Out (Fl×Sl):=(jx (sIf (dOr (Qz (JC (d1 (xz "tuple") (qg 0)))) (jG (d2 neD (d1 kD (qg 0)) (dC (.int 2))))) (kx (dC (.bl false))) kl)
  (kx (d1 XI (jh [] 1 [] (vp (qg 0)) (gNm 0) ftT (qB [.vl,.vl,.vl] jE (qe (qg 0) (qe (dC (.int (-3))) (qe (dC (.int 2)) qJ))))))))
noncomputable abbrev xW:List D->Out (D×List D):=vg xU [.val] (xV)
abbrev zV P w K mg base cv:=DefOk P w K mg base cv 2 "is_look" ["thing"] [.val] .sh (xW)
theorem WQ (Z:Zt K mg cv ca) (T:jD K mg "is_look" vz ["thing"]) (ok_is_between:ko P w K mg base cv):zV P w K mg base cv:=
 qP (k:=1) (own':=[]) (fb:=xV) T WP fun cdv f A outer s H E hr=>(qr (jA (PW.pt (xq (jw (jJ rfl (yv rfl rfl Z.z_isinstance qR rfl Z.z_tuple kW (vr 0)) (fun _=>rfl))) (uj (jg (UI rfl hr.units) (qD (jB rfl) rfl Z.z_len jl (vr 0)) qA)))) (qp (qu gj)) qV)
  (qp (qu (qD (QP rfl rfl) rfl Z.z_all Jj (jk (N:=["place"]) (nt:=1) (cap:=[]) rfl (vG (names:=(qd vz).names) rfl (by decide +kernel)) (jL (names:=(qd vz).names) (N:=xU) rfl rfl (by decide +kernel)) (je rfl (vr 0)) (fun fp L s1 H1=>(qw (i:=0) (show List.Nodup (["place"]:List Str) from by decide +kernel) rfl (Or.inl rfl))) (fun fp L s1 H1=>qU) (fun fp L s1 H1=>(qt ok_is_between hr (by decide) uV rfl (qc (vr 0) (qc (uI Z.c_LEAST_PLACE rfl) (qc (uI Z.c_MOST_PLACE rfl) ql))))))))))
abbrev vb:Stmt:=top 24
abbrev yE:List Str:=["thing"]
theorem gN:FnScope yE ["thing"] (qd vb):=⟨rfl,rfl,rfl,by decide +kernel,rfl,by decide +kernel,by decide +kernel⟩
noncomputable def wy:Sl->Out (Fl×Sl):=(sIf (Qz (JC (qB [.vl] xW (qe (qg 0) qJ)))) (kG "NoLook" (qe (dC (.str "a look is a tuple of two places from -3 to 2")) qJ)) kl)
noncomputable abbrev wz:List D->Out (D×List D):=vg yE [.val] (wy)
abbrev uO P w K mg base cv:=DefOk P w K mg base cv 3 "check_look" ["thing"] [.val] .sh (wz)
theorem gO (Z:Zt K mg cv ca) (T:jD K mg "check_look" vb ["thing"]) (ok_is_look:zV P w K mg base cv):uO P w K mg base cv:=
 qP (k:=2) (own':=[]) (fb:=wy) T gN fun cdv f A outer s H E hr=>(qp (jA (jw (jJ rfl (qt ok_is_look hr (by decide) qW rfl (qc (vr 0) ql)) (fun _=>rfl))) (qp (kH rfl (xA rfl) rfl rfl (Z.mref "NoLook" (by decide +kernel)) (Z.xs.val "NoLook" (by decide +kernel)) (Z.xin "NoLook" (by decide +kernel)) (qc wb ql))) qV))
abbrev vN:Stmt:=top 28
abbrev xX:List Str:=["word", "place", "at"]
theorem sc_letter_at:FnScope xX ["word", "place"] (qd vN):=⟨rfl,rfl,rfl,by decide +kernel,rfl,by decide +kernel,by decide +kernel⟩
noncomputable def vO:Sl->Out (Fl×Sl):=(jx (wI 2 (dIf (jG (d2 geD (qg 1) (dC (.int 0)))) (qg 1) (d2 wW (d1 kD (qg 0)) (qg 1))))
  (kx (d2 ixD (qg 0) (d2 qds (dC (.int 0)) (d2 qdt (qg 2) (d2 Vk (d1 kD (qg 0)) (dC (.int 1))))))))
noncomputable abbrev kL:List D->Out (D×List D):=vg xX [.val,.val] (vO)
abbrev yF P w K mg base cv:=DefOk P w K mg base cv 1 "letter_at" ["word", "place"] [.val,.val] .sh (kL)
theorem Jn (Z:Zt K mg cv ca) (T:jD K mg "letter_at" vN ["word", "place"]):yF P w K mg base cv:=
 qP (k:=0) (own':=[]) (fb:=vO) T sc_letter_at fun cdv f A outer s H E hr=>(qr (jc (i:=2) sc_letter_at.nd rfl (Or.inl rfl) (Zq (jg qaO (vr 1) qA) (vr 1) (jt (kT rfl) (qD (jB rfl) rfl Z.z_len jl (vr 0)) (vr 1))))
  (qp (qu (kg rfl hr.units (vr 0) (QO (qcw rfl) rfl Z.z_max qcY qA (QO (qcx rfl) rfl Z.z_min qcZ (vr 2) (jt xo (qD (jB rfl) rfl Z.z_len jl (vr 0)) qA))) (fun _ _=>rfl)))))
abbrev yd:Stmt:=top 29
abbrev Kn:List Str:=["words", "look"]
theorem Gb:FnScope Kn ["words", "look"] (qd yd):=⟨rfl,rfl,rfl,by decide +kernel,rfl,by decide +kernel,by decide +kernel⟩
noncomputable def Ko:Sl->Out (Fl×Sl):=(jx (uC (qB [.vl] vM (qe (qg 0) qJ)))
  (jx (uC (qB [.vl] wz (qe (qg 1) qJ)))
  (kx (jh [] 1 [1] (vp (qg 0)) (gNm 0) ftT (yQ (qe (qB [.vl,.vl] kL (qe (qg 0) (qe (d2 ixD (qg 1) (dC (.int 0))) qJ))) (qe (qB [.vl,.vl] kL (qe (qg 0) (qe (d2 ixD (qg 1) (dC (.int 1))) qJ))) qJ)))))))
noncomputable abbrev Kq:List D->Out (D×List D):=vg Kn [.val,.val] (Ko)
abbrev VS P w K mg base cv:=DefOk P w K mg base cv 5 "pairs" ["words", "look"] [.val,.val] .sh (Kq)
theorem Gc (Z:Zt K mg cv ca) (T:jD K mg "pairs" yd ["words", "look"]) (ok_check_words:ud P w K mg base cv) (ok_check_look:uO P w K mg base cv) (ok_letter_at:yF P w K mg base cv):VS P w K mg base cv:=
 qP (k:=4) (own':=[]) (fb:=Ko) T Gb fun cdv f A outer s H E hr=>(qr (jX (qt ok_check_words hr (by decide) qW rfl (qc (vr 0) ql)))
  (qr (jX (qt ok_check_look hr (by decide) qW rfl (qc (vr 1) ql)))
  (qp (qu (jk (N:=["word", "look"]) (nt:=1) (cap:=[1]) rfl (vG (names:=(qd yd).names) rfl (by decide +kernel)) (jL (names:=(qd yd).names) (N:=Kn) rfl rfl (by decide +kernel)) (je rfl (vr 0)) (fun fp L s1 H1=>(qw (i:=0) (show List.Nodup (["word", "look"]:List Str) from by decide +kernel) rfl (Or.inl rfl))) (fun fp L s1 H1=>qU) (fun fp L s1 H1=>(kS (qc (qt ok_letter_at hr (by decide) uV rfl (qc (vr 0) (qc (kg rfl hr.units (vr 1) qA (fun _ _=>rfl)) ql))) (qc (qt ok_letter_at hr (by decide) uV rfl (qc (vr 0) (qc (kg rfl hr.units (vr 1) qA (fun _ _=>rfl)) ql))) ql)))))))))
abbrev qZ:Stmt:=top 30
abbrev vc:List Str:=["seen"]
theorem gP:FnScope vc ["seen"] (qd qZ):=⟨rfl,rfl,rfl,by decide +kernel,rfl,by decide +kernel,by decide +kernel⟩
noncomputable def wA:Sl->Out (Fl×Sl):=(kx (d1 jM (d2 wW (jh [] 1 [] (vp (qg 0)) (gNm 0) ftT (d2 ixD (qg 0) (dC (.int 0)))) (jh [] 1 [] (vp (qg 0)) (gNm 0) ftT (d2 ixD (qg 0) (dC (.int 1)))))))
noncomputable abbrev kf:List D->Out (D×List D):=vg vc [.val] (wA)
abbrev uP P w K mg base cv:=DefOk P w K mg base cv 1 "letters_of" ["seen"] [.val] .sh (kf)
theorem gQ (Z:Zt K mg cv ca) (T:jD K mg "letters_of" qZ ["seen"]):uP P w K mg base cv:=
 qP (k:=0) (own':=[]) (fb:=wA) T gP fun cdv f A outer s H E hr=>(qp (qu (wM rfl rfl rfl Z.z_sorted uK rfl Z.z_set xM (jt (kT rfl) (jk (N:=["pair"]) (nt:=1) (cap:=[]) rfl (vG (names:=(qd qZ).names) rfl (by decide +kernel)) (jL (names:=(qd qZ).names) (N:=vc) rfl rfl (by decide +kernel)) (je rfl (vr 0)) (fun fp L s1 H1=>(qw (i:=0) (show List.Nodup (["pair"]:List Str) from by decide +kernel) rfl (Or.inl rfl))) (fun fp L s1 H1=>qU) (fun fp L s1 H1=>(kg rfl hr.units (vr 0) qA (fun _ _=>rfl)))) (jk (N:=["pair"]) (nt:=1) (cap:=[]) rfl (vG (names:=(qd qZ).names) rfl (by decide +kernel)) (jL (names:=(qd qZ).names) (N:=vc) rfl rfl (by decide +kernel)) (je rfl (vr 0)) (fun fp L s1 H1=>(qw (i:=0) (show List.Nodup (["pair"]:List Str) from by decide +kernel) rfl (Or.inl rfl))) (fun fp L s1 H1=>qU) (fun fp L s1 H1=>(kg rfl hr.units (vr 0) qA (fun _ _=>rfl))))))))
abbrev yW:Stmt:=top 31
abbrev VT:List Str:=["total", "room"]
theorem YW:FnScope VT ["total", "room"] (qd yW):=⟨rfl,rfl,rfl,by decide +kernel,rfl,by decide +kernel,by decide +kernel⟩
noncomputable def gR:Sl->Out (Fl×Sl):=(kx (dIf (jG (d2 geD (qg 0) (qg 1))) (d2 Vk (qg 0) (qg 1)) (qg 0)))
noncomputable abbrev yX:List D->Out (D×List D):=vg VT [.val,.val] (gR)
abbrev Jo P w K mg base cv:=DefOk P w K mg base cv 1 "within" ["total", "room"] [.val,.val] .sh (yX)
theorem YX (Z:Zt K mg cv ca) (T:jD K mg "within" yW ["total", "room"]):Jo P w K mg base cv:=
 qP (k:=0) (own':=[]) (fb:=gR) T YW fun cdv f A outer s H E hr=>(qp (qu (Zq (jg qaO (vr 0) (vr 1)) (jt xo (vr 0) (vr 1)) (vr 0))))
abbrev jF:Stmt:=top 32
abbrev wQ:List Str:=["words", "look", "room", "worths", "seen", "worth_of"]
theorem sc_numbered:FnScope wQ ["words", "look", "room", "worths"] (qd jF):=⟨rfl,rfl,rfl,by decide +kernel,rfl,by decide +kernel,by decide +kernel⟩
noncomputable def wR:Sl->Out (Fl×Sl):=(jx (wI 4 (qB [.vl,.vl] Kq (qe (qg 0) (qe (qg 1) qJ))))
  (jx (uC (qB [.vl] ww (qe (qg 2) qJ)))
  (jx (uC (qB [.vl,.vl] vm (qe (qg 3) (qe (qg 2) qJ))))
  (jx (wI 5 (d1 xC (qg 3)))
  (jx (sIf (Qz (JC (d1 XI (jh [] 1 [5] (vp (qB [.vl] kf (qe (qg 4) qJ))) (gNm 0) ftT (d2 inA (qg 0) (qg 1)))))) (kG "NoWorths" (qe (dC (.str "a letter that is seen has no worth")) qJ)) kl)
  (kx (d1 uJ (jh [] 1 [2,5] (vp (qg 4)) (gNm 0) ftT (qB [.vl,.vl] yX (qe (d2 wW (d2 ixD (qg 2) (d2 ixD (qg 0) (dC (.int 0)))) (d2 ixD (qg 2) (d2 ixD (qg 0) (dC (.int 1))))) (qe (qg 1) qJ)))))))))))
noncomputable abbrev kB:List D->Out (D×List D):=vg wQ [.val,.val,.val,.val] (wR)
abbrev ut P w K mg base cv:=DefOk P w K mg base cv 6 "numbered" ["words", "look", "room", "worths"] [.val,.val,.val,.val] .sh (kB)
theorem Kr (Z:Zt K mg cv ca) (T:jD K mg "numbered" jF ["words", "look", "room", "worths"]) (ok_check_room:uM P w K mg base cv) (ok_check_worths:wx P w K mg base cv) (ok_pairs:VS P w K mg base cv) (ok_letters_of:uP P w K mg base cv) (ok_within:Jo P w K mg base cv):ut P w K mg base cv:=
 qP (k:=5) (own':=[]) (fb:=wR) T sc_numbered fun cdv f A outer s H E hr=>(qr (jc (i:=4) sc_numbered.nd rfl (Or.inl rfl) (qt ok_pairs hr (by decide) qW rfl (qc (vr 0) (qc (vr 1) ql))))
  (qr (jX (qt ok_check_room hr (by decide) qW rfl (qc (vr 2) ql)))
  (qr (jX (qt ok_check_worths hr (by decide) qW rfl (qc (vr 3) (qc (vr 2) ql))))
  (qr (jc (i:=5) sc_numbered.nd rfl (Or.inr rfl) (jK (JW rfl rfl) rfl Z.z_dict Ki (vr 3)))
  (qr (jA (jw (jJ rfl (qD (QP rfl rfl) rfl Z.z_all Jj (jk (N:=["letter", "worth_of"]) (nt:=1) (cap:=[5]) rfl (vG (names:=(qd jF).names) rfl (by decide +kernel)) (jL (names:=(qd jF).names) (N:=wQ) rfl rfl (by decide +kernel)) (je rfl (qt ok_letters_of hr (by decide) qW rfl (qc (vr 4) ql))) (fun fp L s1 H1=>(qw (i:=0) (show List.Nodup (["letter", "worth_of"]:List Str) from by decide +kernel) rfl (Or.inl rfl))) (fun fp L s1 H1=>qU) (fun fp L s1 H1=>(zI (qcC rfl hr.units) (vr 0) (vr 1))))) (fun _=>rfl))) (qp (kH rfl (xA rfl) rfl rfl (Z.mref "NoWorths" (by decide +kernel)) (Z.xs.val "NoWorths" (by decide +kernel)) (Z.xin "NoWorths" (by decide +kernel)) (qc wb ql))) qV)
  (qp (qu (jK (yU rfl) rfl Z.z_tuple kW (jk (N:=["pair", "room", "worth_of"]) (nt:=1) (cap:=[2,5]) rfl (vG (names:=(qd jF).names) rfl (by decide +kernel)) (jL (names:=(qd jF).names) (N:=wQ) rfl rfl (by decide +kernel)) (je rfl (vr 4)) (fun fp L s1 H1=>(qw (i:=0) (show List.Nodup (["pair", "room", "worth_of"]:List Str) from by decide +kernel) rfl (Or.inl rfl))) (fun fp L s1 H1=>qU) (fun fp L s1 H1=>(qt ok_within hr (by decide) uV rfl (qc (jt (kT rfl) (kg rfl hr.units (vr 2) (kg rfl hr.units (vr 0) qA (fun _ _=>rfl)) (fun _ _=>rfl)) (kg rfl hr.units (vr 2) (kg rfl hr.units (vr 0) qA (fun _ _=>rfl)) (fun _ _=>rfl))) (qc (vr 1) ql)))))))))))))
abbrev qQ:Stmt:=xl (top 34) 2
abbrev vV:List Str:=["self", "word", "number"]
theorem sc_Book_found_for:FnScope vV ["self", "word"] (qd qQ):=⟨rfl,rfl,rfl,by decide +kernel,rfl,by decide +kernel,by decide +kernel⟩
noncomputable def ki (ca:Str->Addr):Sl->Out (Fl×Sl):=(jx (qbE 3 none (qcA ca ["NoWorths"]) (wI 2 (d2 ixD (qB [.vl,.vl,.vl,.vl] kB (qe (yQ (qe (qg 1) qJ)) (qe (d1 (JF (ca "Book") "look") (qg 0)) (qe (d1 (JF (ca "Book") "width") (qg 0)) (qe (d1 (JF (ca "Book") "worths") (qg 0)) qJ))))) (dC (.int 0)))) (kx (dC .non)))
  (kx (d2 ixD (d1 (JF (ca "Book") "standing") (qg 0)) (qg 2))))
noncomputable abbrev kj (ca:Str->Addr):List D->Out (D×List D):=vg vV [.val,.val] (ki ca)
abbrev vA (ca:Str->Addr) P w K mg base cv:=Jh P w K mg base cv 7 (ca "Book") "found_for" ["self", "word"] [.val,.val] .sh (kj ca)
theorem ye (Z:Zt K mg cv ca) (T:zt K (ca "Book") "found_for" "Book.found_for" qQ ["self", "word"]) (ok_numbered:ut P w K mg base cv):vA ca P w K mg base cv:=
 YO (k:=6) (own':=[]) (fb:=ki ca) T sc_Book_found_for fun cdv f A outer s H E hr=>(qr (Zy (own2:=[]) (n:=3) rfl rfl rfl rfl (Z.mref "NoWorths" (by decide +kernel)) (qfe (Z.xs.val "NoWorths" (by decide +kernel)) Z.s_NoWorths) rfl (fun pn xe E hx=>(qp (jc (i:=2) sc_Book_found_for.nd rfl (Or.inl rfl) (kg rfl hr.units (qt ok_numbered hr (by decide) hx rfl (qc (kS (qc (vr 1) ql)) (qc (ub rfl Z.b_cls (Z.b_no "look" (by decide +kernel)) (vr 0)) (qc (ub rfl Z.b_cls (Z.b_no "width" (by decide +kernel)) (vr 0)) (qc (ub rfl Z.b_cls (Z.b_no "worths" (by decide +kernel)) (vr 0)) ql))))) qA (fun _ _=>rfl))))) (fun e=>(qp (qu zJ))))
  (qp (qu (kg rfl hr.units (ub rfl Z.b_cls (Z.b_no "standing" (by decide +kernel)) (vr 0)) (vr 2) (fun _ _=>rfl)))))
abbrev kC:Stmt:=xl (top 34) 3
abbrev zW:List Str:=["self", "word", "#a", "found"]
theorem sc_Book_ask:FnScope zW ["self", "word"] (qd kC):=⟨rfl,rfl,rfl,by decide +kernel,rfl,by decide +kernel,by decide +kernel⟩
noncomputable def yf (ca:Str->Addr):Sl->Out (Fl×Sl):=(jx (uC (qB [.vl] wt (qe (qg 1) qJ)))
  (jx (wI 3 (YU (ca "Book") "found_for" (kj ca) (qg 0) (qe (qg 1) qJ)))
  (jx (uC (qbg 2 (d1 (JF (ca "Book") "asked") (qg 0)) (yQ (qe (qg 1) (qe (qg 3) qJ)))))
  (kx (dIf (jG (d2 eqD (qg 3) (qg 1))) (dM qbH ua (d1 (JF (ca "Book") "standing") (qg 0)) (qg 1)) (dC .non))))))
noncomputable abbrev jW (ca:Str->Addr):List D->Out (D×List D):=vg zW [.val,.val,.io] (yf ca)
abbrev xY (ca:Str->Addr) P w K mg base cv:=YR P w K mg base cv 8 (ca "Book") "ask" ["self", "word"] [.val,.val,.io] .sh (jW ca)
theorem Ks (Z:Zt K mg cv ca) (T:zt K (ca "Book") "ask" "Book.ask" kC ["self", "word"]) (ok_check_word:uL P w K mg base cv) (ok_Book_found_for:vA ca P w K mg base cv):xY ca P w K mg base cv:=
 VQ (k:=7) (own':=[2]) (fb:=yf ca) T sc_Book_ask "#a" fun cdv f A outer s H E hr=>(qr (jX (qt ok_check_word hr (by decide) qW rfl (qc (vr 1) ql)))
  (qr (jc (i:=3) sc_Book_ask.nd rfl (Or.inl rfl) (Ga Z.b_cls ok_Book_found_for hr (by decide) qW (vr 0) (qc (vr 1) ql)))
  (qr (jX (qbh (g:=2) rfl (by decide) (ub rfl Z.b_cls (Z.b_no "asked" (by decide +kernel)) (vr 0)) (kS (qc (vr 1) (qc (vr 3) ql)))))
  (qp (qu (Zq (jg (xp rfl hr.units) (vr 3) (vr 1)) (VL PySem.F.slot_list_index PySem.F.type_list_index (VM rfl hr.units) rfl (ub rfl Z.b_cls (Z.b_no "standing" (by decide +kernel)) (vr 0)) (vr 1)) zJ))))))
abbrev qK:Stmt:=xl (top 34) 4
abbrev kr:List Str:=["self", "#a", "there", "free"]
theorem sc_Book_counts:FnScope kr ["self"] (qd qK):=⟨rfl,rfl,rfl,by decide +kernel,rfl,by decide +kernel,by decide +kernel⟩
noncomputable def vP (ca:Str->Addr):Sl->Out (Fl×Sl):=(jx (wI 2 (d1 kD (jh [] 2 [] (vp (vx 1 (d1 (JF (ca "Book") "asked") (qg 0)))) (wj 2 (qN (gNm 0) (qN (gNm 1) wg))) (jG (d2 eqD (qg 1) (qg 0))) (qg 0))))
  (jx (wI 3 (d1 kD (jh [] 2 [] (vp (vx 1 (d1 (JF (ca "Book") "asked") (qg 0)))) (wj 2 (qN (gNm 0) (qN (gNm 1) wg))) (jG (d2 qdn (qg 1) (dC .non))) (qg 0))))
  (kx (yQ (qe (qg 2) (qe (d2 Vk (d2 Vk (d1 kD (vx 1 (d1 (JF (ca "Book") "asked") (qg 0)))) (qg 2)) (qg 3)) (qe (qg 3) qJ)))))))
noncomputable abbrev kt (ca:Str->Addr):List D->Out (D×List D):=vg kr [.val,.val] (vP ca)
abbrev ue (ca:Str->Addr) P w K mg base cv:=YR P w K mg base cv 1 (ca "Book") "counts" ["self"] [.val,.val] .sh (kt ca)
theorem zw (Z:Zt K mg cv ca) (T:zt K (ca "Book") "counts" "Book.counts" qK ["self"]):ue ca P w K mg base cv:=
 VQ (k:=0) (own':=[]) (fb:=vP ca) T sc_Book_counts "#a" fun cdv f A outer s H E hr=>(qr (jc (i:=2) sc_Book_counts.nd rfl (Or.inl rfl) (qD (jB rfl) rfl Z.z_len jl (jk (N:=["word", "found"]) (nt:=2) (cap:=[]) rfl (vG (names:=(qd qK).names) rfl (by decide +kernel)) (jL (names:=(qd qK).names) (N:=kr) rfl rfl (by decide +kernel)) (je rfl (xL (g:=1) (by decide) (ub rfl Z.b_cls (Z.b_no "asked" (by decide +kernel)) (vr 0)))) (fun fp L s1 H1=>(ul rfl rfl (qH (qw (i:=0) (show List.Nodup (["word", "found"]:List Str) from by decide +kernel) rfl (Or.inl rfl)) (qH (qw (i:=1) (show List.Nodup (["word", "found"]:List Str) from by decide +kernel) rfl (Or.inl rfl)) vF)))) (fun fp L s1 H1=>(JR (jg (xp rfl hr.units) (vr 1) (vr 0)))) (fun fp L s1 H1=>(vr 0)))))
  (qr (jc (i:=3) sc_Book_counts.nd rfl (Or.inl rfl) (qD (jB rfl) rfl Z.z_len jl (jk (N:=["word", "found"]) (nt:=2) (cap:=[]) rfl (vG (names:=(qd qK).names) rfl (by decide +kernel)) (jL (names:=(qd qK).names) (N:=kr) rfl rfl (by decide +kernel)) (je rfl (xL (g:=1) (by decide) (ub rfl Z.b_cls (Z.b_no "asked" (by decide +kernel)) (vr 0)))) (fun fp L s1 H1=>(ul rfl rfl (qH (qw (i:=0) (show List.Nodup (["word", "found"]:List Str) from by decide +kernel) rfl (Or.inl rfl)) (qH (qw (i:=1) (show List.Nodup (["word", "found"]:List Str) from by decide +kernel) rfl (Or.inl rfl)) vF)))) (fun fp L s1 H1=>(JR (jg qcm (vr 1) zJ))) (fun fp L s1 H1=>(vr 0)))))
  (qp (qu (kS (qc (vr 2) (qc (jt xo (jt xo (qD (jB rfl) rfl Z.z_len jl (xL (g:=1) (by decide) (ub rfl Z.b_cls (Z.b_no "asked" (by decide +kernel)) (vr 0)))) (vr 2)) (vr 3)) (qc (vr 3) ql))))))))
abbrev qX:Stmt:=xl (top 34) 0
abbrev kM:List Str:=["self", "words", "look", "room", "worths", "numbers", "word", "number"]
theorem sc_Book___init__:FnScope kM ["self", "words", "look", "room", "worths"] (qd qX):=⟨rfl,rfl,rfl,by decide +kernel,rfl,by decide +kernel,by decide +kernel⟩
noncomputable def kN (ca:Str->Addr):Sl->Out (Fl×Sl):=(jx (wI 5 (qB [.vl,.vl,.vl,.vl] kB (qe (qg 1) (qe (qg 2) (qe (qg 3) (qe (qg 4) qJ))))))
  (jx (sIf (jG (d2 ltD (d1 kn (qg 5)) (d1 kD (qg 5)))) (kG "Never" (qe (dC (.str "two words have one number")) qJ)) kl)
  (jx (YN (ca "Book") 0 "look" (qg 2))
  (jx (YN (ca "Book") 0 "width" (qg 3))
  (jx (YN (ca "Book") 0 "worths" (qg 4))
  (Ji (ca "Book") 0 "standing" (d2 qbI (JD (qe (dC .non) qJ)) (qg 3)) (qcG (qe (qg 1) (qe (qg 5) qJ))) (wj 2 (qN (gNm 6) (qN (gNm 7) wg))) (qg 6) (qg 7)))))))
noncomputable abbrev jN (ca:Str->Addr):List D->Out (List (Str×D)):=qbK (ca "Book") kM (kN ca)
abbrev vW (ca:Str->Addr) P w K mg base cv:=qbi P w K mg base cv 7 (ca "Book") "asked" ["self", "words", "look", "room", "worths"] 4 (jN ca)
theorem yM (Z:Zt K mg cv ca) (T:qbf K (ca "Book") "Book.__init__" qX ["self", "words", "look", "room", "worths"]) (ok_numbered:ut P w K mg base cv):vW ca P w K mg base cv:=
 ZW (k:=6) (n:=4) (cv:=cv) T sc_Book___init__ Z.b_cls (Z.b_no "asked" (by decide +kernel)) fun cdv f A outer s H E hr=>(vw (jc (i:=5) sc_Book___init__.nd rfl (Or.inl rfl) (qt ok_numbered hr (by decide) qW rfl (qc (vr 1) (qc (vr 2) (qc (vr 3) (qc (vr 4) ql))))))
  (vw (jA (jg qcj (zS rfl rfl rfl Z.z_len jl rfl Z.z_set xM (vr 5)) (qD (jB rfl) rfl Z.z_len jl (vr 5))) (qp (kH rfl (xA rfl) rfl rfl (Z.mref "Never" (by decide +kernel)) (Z.xs.val "Never" (by decide +kernel)) (Z.xin "Never" (by decide +kernel)) (qc wb ql))) qV)
  (vw (Kf rfl Z.b_cls (Z.b_no "look" (by decide +kernel)) (i:=0) rfl (Or.inl rfl) (by decide) (vr 2))
  (vw (Kf rfl Z.b_cls (Z.b_no "width" (by decide +kernel)) (i:=0) rfl (Or.inl rfl) (by decide) (vr 3))
  (vw (Kf rfl Z.b_cls (Z.b_no "worths" (by decide +kernel)) (i:=0) rfl (Or.inl rfl) (by decide) (vr 4))
  (YQ (own:=[0]) (own1:=[]) rfl (fun j=>by simp) Z.b_cls (Z.b_no "standing" (by decide +kernel)) (i:=0) rfl (Or.inl rfl) (by decide) (qej rfl) PassesOwn.leaving rfl (jt (YH rfl) (wX (qc zJ ql)) (vr 3)) (Yw rfl rfl Z.z_zip (vr 1) (vr 5)) (ul rfl rfl (qH (qw (i:=6) sc_Book___init__.nd rfl (Or.inl rfl)) (qH (qw (i:=7) sc_Book___init__.nd rfl (Or.inl rfl)) vF))) (vr 6) (vr 7)
  (JI (Um (vZ (i:=0) rfl (Or.inl rfl)) (wX ql) rfl))))))))
abbrev jp:Stmt:=xl (top 34) 1
abbrev vQ:List Str:=["self"]
theorem zx:FnScope vQ ["self"] (qd jp):=⟨rfl,rfl,rfl,by decide +kernel,rfl,by decide +kernel,by decide +kernel⟩
noncomputable def vR (ca:Str->Addr):Sl->Out (Fl×Sl):=(kx (d1 WD (d1 (JF (ca "Book") "standing") (qg 0))))
noncomputable abbrev jq (ca:Str->Addr):List D->Out (D×List D):=vg vQ [.val] (vR ca)
abbrev uf (ca:Str->Addr) P w K mg base cv:=Jh P w K mg base cv 1 (ca "Book") "places" ["self"] [.val] .fr (jq ca)
theorem zy (Z:Zt K mg cv ca) (T:zt K (ca "Book") "places" "Book.places" jp ["self"]):uf ca P w K mg base cv:=
 YO (k:=0) (own':=[]) (fb:=vR ca) (hmr:=.inr fun _ _=>qcU) T zx fun cdv f A outer s H E hr=>(qp (UN (jK (Yc rfl) rfl Z.z_list YV (ub rfl Z.b_cls (Z.b_no "standing" (by decide +kernel)) (vr 0)))))
abbrev WR:Stmt:=top 43
abbrev qbn:List Str:=["_law_word_here", "_law_place", "_law_spots"]
theorem sc_Lat:FnScope qbn ["_law_word_here", "_law_place"] (qd WR):=⟨rfl,rfl,rfl,by decide +kernel,rfl,by decide +kernel,by decide +kernel⟩
noncomputable def qc0:Sl->Out (Fl×Sl):=(jx (wI 2 (jh [] 1 [1,0] (uS (d1 kD (qg 0))) (gNm 0) (dOr (jG (d2 eqD (qg 0) (qg 1))) (jG (d2 eqD (qg 0) (d2 wW (qg 1) (d1 kD (qg 2)))))) (qg 0)))
  (jx (sIf (jG (d2 neD (qg 2) (JD qJ))) (kx (d2 ixD (qg 0) (d2 ixD (qg 2) (dC (.int 0))))) kl)
  (kx (dIf (jG (d2 geD (qg 1) (dC (.int 0)))) (d2 ixD (qg 0) (d1 qeC (dC (.int 1)))) (d2 ixD (qg 0) (dC (.int 0)))))))
noncomputable abbrev YY:List D->Out (D×List D):=vg qbn [.val,.val] (qc0)
abbrev qag P w K mg base cv:=DefOk P w K mg base cv 1 "_law_at" ["_law_word_here", "_law_place"] [.val,.val] .sh (YY)
theorem qc1 (Z:Zt K mg cv ca) (T:jD K mg "_law_at" WR ["_law_word_here", "_law_place"]):qag P w K mg base cv:=
 qP (k:=0) (own':=[]) (fb:=qc0) T sc_Lat fun cdv f A outer s H E hr=>(qr (Vv (N:=["_law_at_here", "_law_place", "_law_word_here"]) (nt:=1) (cap:=[1,0]) sc_Lat.nd (i:=2) rfl (Or.inl rfl) rfl (vG (names:=(qd WR).names) rfl (by decide +kernel)) (jL (names:=(qd WR).names) (N:=qbn) rfl rfl (by decide +kernel)) (uT rfl Z.z_range (qD (jB rfl) rfl Z.z_len jl (vr 0))) (fun fp L s1 H1=>(qw (i:=0) (show List.Nodup (["_law_at_here", "_law_place", "_law_word_here"]:List Str) from by decide +kernel) rfl (Or.inl rfl))) (fun fp L s1 H1=>(JR (PW.pt (xq (jg (xp rfl hr.units) (vr 0) (vr 1)) (uj (jg (xp rfl hr.units) (vr 0) (jt (kT rfl) (vr 1) (qD (jB rfl) rfl Z.z_len jl (vr 2))))))))) (fun fp L s1 H1=>(vr 0)))
  (gl [2] (qr (jA (jg (UI rfl hr.units) (vr 2) (wX ql)) (qp (qu (kg rfl hr.units (vr 0) (kg rfl hr.units (vr 2) qA (fun _ _=>rfl)) (fun _ _=>rfl)))) qV)
  (qp (qu (Zq (jg qaO (vr 1) qA) (kg rfl hr.units (vr 0) (qcg GV qA) (fun _ _=>rfl)) (kg rfl hr.units (vr 0) qA (fun _ _=>rfl))))))))
abbrev yg:Stmt:=top 44
abbrev gS:List Str:=["_law_words_here", "_law_look_here"]
theorem Gd:FnScope gS ["_law_words_here", "_law_look_here"] (qd yg):=⟨rfl,rfl,rfl,by decide +kernel,rfl,by decide +kernel,by decide +kernel⟩
noncomputable def Kt:Sl->Out (Fl×Sl):=(kx (jh [] 1 [1] (vp (qg 0)) (gNm 0) ftT (yQ (qe (qB [.vl,.vl] YY (qe (qg 0) (qe (d2 ixD (qg 1) (dC (.int 0))) qJ))) (qe (qB [.vl,.vl] YY (qe (qg 0) (qe (d2 ixD (qg 1) (dC (.int 1))) qJ))) qJ)))))
noncomputable abbrev xZ:List D->Out (D×List D):=vg gS [.val,.val] (Kt)
abbrev gT P w K mg base cv:=DefOk P w K mg base cv 2 "_law_seen" ["_law_words_here", "_law_look_here"] [.val,.val] .sh (xZ)
theorem Ge (Z:Zt K mg cv ca) (T:jD K mg "_law_seen" yg ["_law_words_here", "_law_look_here"]) (ok_Lat:qag P w K mg base cv):gT P w K mg base cv:=
 qP (k:=1) (own':=[]) (fb:=Kt) T Gd fun cdv f A outer s H E hr=>(qp (qu (jk (N:=["_law_word_here", "_law_look_here"]) (nt:=1) (cap:=[1]) rfl (vG (names:=(qd yg).names) rfl (by decide +kernel)) (jL (names:=(qd yg).names) (N:=gS) rfl rfl (by decide +kernel)) (je rfl (vr 0)) (fun fp L s1 H1=>(qw (i:=0) (show List.Nodup (["_law_word_here", "_law_look_here"]:List Str) from by decide +kernel) rfl (Or.inl rfl))) (fun fp L s1 H1=>qU) (fun fp L s1 H1=>(kS (qc (qt ok_Lat hr (by decide) uV rfl (qc (vr 0) (qc (kg rfl hr.units (vr 1) qA (fun _ _=>rfl)) ql))) (qc (qt ok_Lat hr (by decide) uV rfl (qc (vr 0) (qc (kg rfl hr.units (vr 1) qA (fun _ _=>rfl)) ql))) ql)))))))
abbrev WS:Stmt:=top 46
abbrev Gf:List Str:=["_law_words_here", "_law_look_here", "_law_room", "_law_book"]
theorem qc2:FnScope Gf ["_law_words_here", "_law_look_here", "_law_room", "_law_book"] (qd WS):=⟨rfl,rfl,rfl,by decide +kernel,rfl,by decide +kernel,by decide +kernel⟩
noncomputable def qbo:Sl->Out (Fl×Sl):=(kx (d1 uJ (jh [] 2 [2,3] (vp (qB [.vl,.vl] xZ (qe (qg 0) (qe (qg 1) qJ)))) (wj 2 (qN (gNm 0) (qN (gNm 1) wg))) ftT (d2 UE (d2 wW (d2 ixD (qg 3) (qg 0)) (d2 ixD (qg 3) (qg 1))) (qg 2)))))
noncomputable abbrev WT:List D->Out (D×List D):=vg Gf [.val,.val,.val,.val] (qbo)
abbrev YZ P w K mg base cv:=DefOk P w K mg base cv 3 "_law_by" ["_law_words_here", "_law_look_here", "_law_room", "_law_book"] [.val,.val,.val,.val] .sh (WT)
theorem qc3 (Z:Zt K mg cv ca) (T:jD K mg "_law_by" WS ["_law_words_here", "_law_look_here", "_law_room", "_law_book"]) (ok_Lseen:gT P w K mg base cv):YZ P w K mg base cv:=
 qP (k:=2) (own':=[]) (fb:=qbo) T qc2 fun cdv f A outer s H E hr=>(qp (qu (jK (yU rfl) rfl Z.z_tuple kW (jk (N:=["_law_one", "_law_other", "_law_room", "_law_book"]) (nt:=2) (cap:=[2,3]) rfl (vG (names:=(qd WS).names) rfl (by decide +kernel)) (jL (names:=(qd WS).names) (N:=Gf) rfl rfl (by decide +kernel)) (je rfl (qt ok_Lseen hr (by decide) qW rfl (qc (vr 0) (qc (vr 1) ql)))) (fun fp L s1 H1=>(ul rfl rfl (qH (qw (i:=0) (show List.Nodup (["_law_one", "_law_other", "_law_room", "_law_book"]:List Str) from by decide +kernel) rfl (Or.inl rfl)) (qH (qw (i:=1) (show List.Nodup (["_law_one", "_law_other", "_law_room", "_law_book"]:List Str) from by decide +kernel) rfl (Or.inl rfl)) vF)))) (fun fp L s1 H1=>qU) (fun fp L s1 H1=>(jt zK (jt (kT rfl) (kg rfl hr.units (vr 3) (vr 0) (fun _ _=>rfl)) (kg rfl hr.units (vr 3) (vr 1) (fun _ _=>rfl))) (vr 2)))))))
abbrev wS:Stmt:=top 36
abbrev zX:List Str:=["_law_script", "_law_k"]
theorem Ku:FnScope zX ["_law_script", "_law_k"] (qd wS):=⟨rfl,rfl,rfl,by decide +kernel,rfl,by decide +kernel,by decide +kernel⟩
noncomputable def vB:Sl->Out (Fl×Sl):=(jx (sIf (jG (d2 ltD (qg 1) (d1 kD (qg 0)))) (kx (d2 ixD (qg 0) (qg 1))) kl)
  (jx (sIf (jG (d2 eqD (qg 0) (JD qJ))) (kx (dC (.int 0))) kl)
  (kx (d2 wW (d2 qbD (d2 ixD (qg 0) (d2 UE (qg 1) (d1 kD (qg 0)))) (dC (.int 31))) (qg 1)))))
noncomputable abbrev yh:List D->Out (D×List D):=vg zX [.val,.val] (vB)
abbrev zc P w K mg base cv:=DefOk P w K mg base cv 1 "_law_cell_at" ["_law_script", "_law_k"] [.val,.val] .sh (yh)
theorem Kv (Z:Zt K mg cv ca) (T:jD K mg "_law_cell_at" wS ["_law_script", "_law_k"]):zc P w K mg base cv:=
 qP (k:=0) (own':=[]) (fb:=vB) T Ku fun cdv f A outer s H E hr=>(qr (jA (jg qcj (vr 1) (qD (jB rfl) rfl Z.z_len jl (vr 0))) (qp (qu (kg rfl hr.units (vr 0) (vr 1) (fun _ _=>rfl)))) qV)
  (qr (jA (jg (xp rfl hr.units) (vr 0) (wX ql)) (qp (qu qA)) qV)
  (qp (qu (jt (kT rfl) (jt UD (kg rfl hr.units (vr 0) (jt zK (vr 1) (qD (jB rfl) rfl Z.z_len jl (vr 0))) (fun _ _=>rfl)) qA) (vr 1))))))
abbrev yY:Stmt:=top 37
abbrev VU:List Str:=["_law_script", "_law_k", "_law_many", "_law_drawn"]
theorem sc_Lmixed:FnScope VU ["_law_script", "_law_k", "_law_many"] (qd yY):=⟨rfl,rfl,rfl,by decide +kernel,rfl,by decide +kernel,by decide +kernel⟩
noncomputable def gU:Sl->Out (Fl×Sl):=(jx (wI 3 (d2 UE (d2 wW (d2 wW (d2 qbD (qB [.vl,.vl] yh (qe (qg 0) (qe (qg 1) qJ))) (dC (.int 1103515245))) (d2 qbD (dC (.int 7919)) (qg 1))) (dC (.int 12345))) (dC (.int 2147483647))))
  (kx (d2 UE (d2 UE (d2 UE (d2 qei (qg 3) (dC (.int 5))) (dC (.int 2147483647))) (dC (.int 999983))) (qg 2))))
noncomputable abbrev gW:List D->Out (D×List D):=vg VU [.val,.val,.val] (gU)
abbrev Jp P w K mg base cv:=DefOk P w K mg base cv 2 "_law_mixed" ["_law_script", "_law_k", "_law_many"] [.val,.val,.val] .sh (gW)
theorem Xa (Z:Zt K mg cv ca) (T:jD K mg "_law_mixed" yY ["_law_script", "_law_k", "_law_many"]) (ok_Lcell_at:zc P w K mg base cv):Jp P w K mg base cv:=
 qP (k:=1) (own':=[]) (fb:=gU) T sc_Lmixed fun cdv f A outer s H E hr=>(qr (jc (i:=3) sc_Lmixed.nd rfl (Or.inl rfl) (jt zK (jt (kT rfl) (jt (kT rfl) (jt UD (qt ok_Lcell_at hr (by decide) qW rfl (qc (vr 0) (qc (vr 1) ql))) qA) (jt UD qA (vr 1))) qA) qA))
  (qp (qu (jt zK (jt zK (jt zK (jt qcN (vr 3) qA) qA) qA) (vr 2)))))
abbrev gX:Stmt:=top 38
abbrev Xb:List Str:=["_law_script", "_law_town", "_law_many"]
theorem Gg:FnScope Xb ["_law_script", "_law_town", "_law_many"] (qd gX):=⟨rfl,rfl,rfl,by decide +kernel,rfl,by decide +kernel,by decide +kernel⟩
noncomputable def Kw:Sl->Out (Fl×Sl):=(jx (uC (UZ 1 GW (dC (.int 0))))
  (kx (qB [.vl,.vl,.vl] gW (qe (qg 0) (qe (d1 kD (qg 1)) (qe (qg 2) qJ))))))
noncomputable abbrev kO:List D->Out (D×List D):=vg Xb [.val,.io,.val] (Kw)
abbrev wT P w K mg base cv:=DefOk P w K mg base cv 3 "_law_draw" ["_law_script", "_law_town", "_law_many"] [.val,.io,.val] .sh (kO)
theorem Gh (Z:Zt K mg cv ca) (T:jD K mg "_law_draw" gX ["_law_script", "_law_town", "_law_many"]) (ok_Lmixed:Jp P w K mg base cv):wT P w K mg base cv:=
 qP (k:=2) (own':=[1]) (fb:=Kw) T Gg fun cdv f A outer s H E hr=>(qr (jX (QN (i:=1) rfl rfl (Or.inl rfl) (by decide) qA))
  (qp (qu (qt ok_Lmixed hr (by decide) qW rfl (qc (vr 0) (qc (qD (jB rfl) rfl Z.z_len jl (xm (i:=1) rfl (Or.inl rfl) (by decide))) (qc (vr 2) ql)))))))
abbrev gY:Stmt:=top 39
abbrev Xc:List Str:=["_law_script", "_law_town", "_law_some"]
theorem Gi:FnScope Xc ["_law_script", "_law_town", "_law_some"] (qd gY):=⟨rfl,rfl,rfl,by decide +kernel,rfl,by decide +kernel,by decide +kernel⟩
noncomputable def Ky:Sl->Out (Fl×Sl):=(kx (d2 ixD (qg 2) (qB [.vl,.sl 1,.vl] kO (qe (qg 0) (vf (qe (d1 kD (qg 2)) qJ))))))
noncomputable abbrev yi:List D->Out (D×List D):=vg Xc [.val,.io,.val] (Ky)
abbrev yZ P w K mg base cv:=DefOk P w K mg base cv 4 "_law_pick" ["_law_script", "_law_town", "_law_some"] [.val,.io,.val] .sh (yi)
theorem Gj (Z:Zt K mg cv ca) (T:jD K mg "_law_pick" gY ["_law_script", "_law_town", "_law_some"]) (ok_Ldraw:wT P w K mg base cv):yZ P w K mg base cv:=
 qP (k:=3) (own':=[1]) (fb:=Ky) T Gi fun cdv f A outer s H E hr=>(qp (qu (kg rfl hr.units (vr 2) (qt ok_Ldraw hr (by decide) qW rfl (qc (vr 0) (jd (i:=1) rfl (Or.inl rfl) (by decide) (qc (qD (jB rfl) rfl Z.z_len jl (vr 2)) ql)))) (fun _ _=>rfl))))
abbrev yj:Stmt:=top 40
abbrev Kz:List Str:=["_law_script", "_law_town", "_law_letters_here", "_law_most"]
theorem Gk:FnScope Kz ["_law_script", "_law_town", "_law_letters_here", "_law_most"] (qd yj):=⟨rfl,rfl,rfl,by decide +kernel,rfl,by decide +kernel,by decide +kernel⟩
noncomputable def KA:Sl->Out (Fl×Sl):=(kx (d1 (YD "") (jh [1] 1 [0,1,2] (uS (d2 wW (dC (.int 1)) (qB [.vl,.sl 1,.vl] kO (qe (qg 0) (vf (qe (qg 3) qJ)))))) (gNm 0) ftT (qB [.vl,.sl 2,.vl] yi (qe (qg 1) (vf (qe (qg 3) qJ)))))))
noncomputable abbrev gZ:List D->Out (D×List D):=vg Kz [.val,.io,.val,.val] (KA)
abbrev VV P w K mg base cv:=DefOk P w K mg base cv 5 "_law_word" ["_law_script", "_law_town", "_law_letters_here", "_law_most"] [.val,.io,.val,.val] .sh (gZ)
theorem Gm (Z:Zt K mg cv ca) (T:jD K mg "_law_word" yj ["_law_script", "_law_town", "_law_letters_here", "_law_most"]) (ok_Ldraw:wT P w K mg base cv) (ok_Lpick:yZ P w K mg base cv):VV P w K mg base cv:=
 qP (k:=4) (own':=[1]) (fb:=KA) T Gk fun cdv f A outer s H E hr=>(qp (qu (qbb rfl (jk (N:=["_law_k", "_law_script", "_law_town", "_law_letters_here"]) (nt:=1) (cap:=[0,1,2]) rfl (vG (names:=(qd yj).names) rfl (by decide +kernel)) (jL (names:=(qd yj).names) (N:=Kz) rfl rfl (by decide +kernel)) (uT rfl Z.z_range (jt (kT rfl) qA (qt ok_Ldraw hr (by decide) qW rfl (qc (vr 0) (jd (i:=1) rfl (Or.inr (Or.inl rfl)) (by decide) (qc (vr 3) ql)))))) (fun fp L s1 H1=>(qw (i:=0) (show List.Nodup (["_law_k", "_law_script", "_law_town", "_law_letters_here"]:List Str) from by decide +kernel) rfl (Or.inl rfl))) (fun fp L s1 H1=>qU) (fun fp L s1 H1=>(qt ok_Lpick hr (by decide) uV rfl (qc (vr 1) (jd (i:=2) rfl (by first | exact Or.inr (Or.inr rfl) | exact Or.inr (Or.inl rfl)) (by decide) (qc (vr 3) ql)))))))))
abbrev xa:Stmt:=top 41
abbrev VW:List Str:=["_law_script", "_law_town", "_law_most", "_law_letters_here", "_law_made_here", "_law_k", "_law_word_here"]
theorem sc_Lwords:FnScope VW ["_law_script", "_law_town", "_law_most"] (qd xa):=⟨rfl,rfl,rfl,by decide +kernel,rfl,by decide +kernel,by decide +kernel⟩
noncomputable def Qa:Sl->Out (Fl×Sl):=(jx (wI 3 (qB [.vl,.sl 1,.vl] yi (qe (qg 0) (vf (qe (JD fun ρ=>.ok ([(.lst [(.str "a"),(.str "b")]),(.lst [(.str "a"),(.str "b"),(.str "c")]),(.lst [(.str "a"),(.str "b"),(.str "c"),(.str "d")]),(.lst [(.str "k"),(.str "m"),(.str "z"),(.str "a"),(.str "e")])],ρ)) qJ)))))
  (jx (wI 4 (JD qJ))
  (jx (qaW (uS (d2 wW (dC (.int 1)) (qB [.vl,.sl 1,.vl] kO (qe (qg 0) (vf (qe (qg 2) qJ)))))) (gNm 5)
  (jx (wI 6 (qB [.vl,.sl 1,.vl,.vl] gZ (qe (qg 0) (vf (qe (qg 3) (qe (dC (.int 6)) qJ))))))
  (sIf (jG (d2 GX (qg 6) (qg 4))) (uC (UZ 4 GW (qg 6))) kl)))
  (kx (d1 uJ (qg 4))))))
noncomputable abbrev Qb:List D->Out (D×List D):=vg VW [.val,.io,.val] (Qa)
abbrev Jq P w K mg base cv:=DefOk P w K mg base cv 6 "_law_words" ["_law_script", "_law_town", "_law_most"] [.val,.io,.val] .sh (Qb)
theorem Xd (Z:Zt K mg cv ca) (T:jD K mg "_law_words" xa ["_law_script", "_law_town", "_law_most"]) (ok_Ldraw:wT P w K mg base cv) (ok_Lpick:yZ P w K mg base cv) (ok_Lword:VV P w K mg base cv):Jq P w K mg base cv:=
 qP (k:=5) (own':=[1]) (fb:=Qa) T sc_Lwords fun cdv f A outer s H E hr=>(qr (jc (i:=3) sc_Lwords.nd rfl (Or.inl rfl) (qt ok_Lpick hr (by decide) qW rfl (qc (vr 0) (jd (i:=1) rfl (Or.inl rfl) (by decide) (qc (YJ 16 rfl) ql)))))
  (qr (yP (i:=4) sc_Lwords.nd rfl (Or.inl rfl) (wX ql))
  (qr (gp PassesOwn.leaving rfl (uT rfl Z.z_range (jt (kT rfl) qA (qt ok_Ldraw hr (by decide) qW rfl (qc (vr 0) (jd (i:=1) rfl (Or.inl rfl) (by decide) (qc (vr 2) ql)))))) (qw (i:=5) sc_Lwords.nd rfl (Or.inl rfl))
  (qr (jc (i:=6) sc_Lwords.nd rfl (Or.inl rfl) (qt ok_Lword hr (by decide) qW rfl (qc (vr 0) (jd (i:=1) rfl (Or.inl rfl) (by decide) (qc (vr 3) (qc qA ql))))))
  (qp (jA (jg (Yh rfl hr.units) (vr 6) (xm (i:=4) rfl (Or.inl rfl) (by decide))) (qp (jX (QN (i:=4) rfl rfl (Or.inl rfl) (by decide) (vr 6)))) qV))))
  (qp (qu (jK (yU rfl) rfl Z.z_tuple kW (xm (i:=4) rfl (Or.inl rfl) (by decide))))))))
abbrev Qc:Stmt:=top 42
abbrev Xe:List Str:=["_law_script", "_law_town"]
theorem Gn:FnScope Xe ["_law_script", "_law_town"] (qd Qc):=⟨rfl,rfl,rfl,by decide +kernel,rfl,by decide +kernel,by decide +kernel⟩
noncomputable def KB:Sl->Out (Fl×Sl):=(kx (yQ (qe (d2 Vk (qB [.vl,.sl 1,.vl] kO (qe (qg 0) (vf (qe (dC (.int 6)) qJ)))) (dC (.int 3))) (qe (d2 Vk (qB [.vl,.sl 1,.vl] kO (qe (qg 0) (vf (qe (dC (.int 6)) qJ)))) (dC (.int 3))) qJ))))
noncomputable abbrev KC:List D->Out (D×List D):=vg Xe [.val,.io] (KB)
abbrev VX P w K mg base cv:=DefOk P w K mg base cv 4 "_law_look" ["_law_script", "_law_town"] [.val,.io] .sh (KC)
theorem Go (Z:Zt K mg cv ca) (T:jD K mg "_law_look" Qc ["_law_script", "_law_town"]) (ok_Ldraw:wT P w K mg base cv):VX P w K mg base cv:=
 qP (k:=3) (own':=[1]) (fb:=KB) T Gn fun cdv f A outer s H E hr=>(qp (qu (kS (qc (jt xo (qt ok_Ldraw hr (by decide) qW rfl (qc (vr 0) (jd (i:=1) rfl (Or.inl rfl) (by decide) (qc qA ql)))) qA) (qc (jt xo (qt ok_Ldraw hr (by decide) qW rfl (qc (vr 0) (jd (i:=1) rfl (Or.inl rfl) (by decide) (qc qA ql)))) qA) ql)))))
abbrev wU:Stmt:=top 45
abbrev zY:List Str:=["_law_words_here", "_law_look_here", "_law_made_here", "_law_pair"]
theorem sc_Lletters:FnScope zY ["_law_words_here", "_law_look_here"] (qd wU):=⟨rfl,rfl,rfl,by decide +kernel,rfl,by decide +kernel,by decide +kernel⟩
noncomputable def yk:Sl->Out (Fl×Sl):=(jx (wI 2 (JD qJ))
  (jx (qaW (vp (qB [.vl,.vl] xZ (qe (qg 0) (qe (qg 1) qJ)))) (gNm 3)
  (uC (UZ 2 qdr (d1 WD (qg 3)))))
  (kx (d1 jM (qg 2)))))
noncomputable abbrev yl:List D->Out (D×List D):=vg zY [.val,.val] (yk)
abbrev zd P w K mg base cv:=DefOk P w K mg base cv 3 "_law_letters" ["_law_words_here", "_law_look_here"] [.val,.val] .sh (yl)
theorem KD (Z:Zt K mg cv ca) (T:jD K mg "_law_letters" wU ["_law_words_here", "_law_look_here"]) (ok_Lseen:gT P w K mg base cv):zd P w K mg base cv:=
 qP (k:=2) (own':=[]) (fb:=yk) T sc_Lletters fun cdv f A outer s H E hr=>(qr (yP (i:=2) sc_Lletters.nd rfl (Or.inl rfl) (wX ql))
  (qr (gp PassesOwn.leaving rfl (je rfl (qt ok_Lseen hr (by decide) qW rfl (qc (vr 0) (qc (vr 1) ql)))) (qw (i:=3) sc_Lletters.nd rfl (Or.inl rfl))
  (qp (jX (Yb (i:=2) rfl (Or.inl rfl) (by decide) (jK (Yc rfl) rfl Z.z_list YV (vr 3))))))
  (qp (qu (wM rfl rfl rfl Z.z_sorted uK rfl Z.z_set xM (xm (i:=2) rfl (Or.inl rfl) (by decide)))))))
abbrev ym:Stmt:=top 48
abbrev KF:List Str:=["_law_script", "_law_town", "_law_most", "_law_wide", "_law_room", "_law_look_here", "_law_names", "_law_more", "_law_letters_here"]
theorem sc_Lmade:FnScope KF ["_law_script", "_law_town", "_law_most", "_law_wide"] (qd ym):=⟨rfl,rfl,rfl,by decide +kernel,rfl,by decide +kernel,by decide +kernel⟩
noncomputable def KG:Sl->Out (Fl×Sl):=(jx (wI 4 (d2 wW (dC (.int 1)) (qB [.vl,.sl 1,.vl] kO (qe (qg 0) (vf (qe (qg 3) qJ))))))
  (jx (wI 5 (qB [.vl,.sl 1] KC (qe (qg 0) (vf qJ))))
  (jx (wI 6 (qB [.vl,.sl 1,.vl] Qb (qe (qg 0) (vf (qe (qg 2) qJ)))))
  (jx (wI 7 (qB [.vl,.sl 1,.vl] yi (qe (qg 0) (vf (qe (JD fun ρ=>.ok ([(.lst []),(.lst [(.str "q")]),(.lst [(.str "y"),(.str "x")])],ρ)) qJ)))))
  (jx (wI 8 (d1 jM (d2 wW (qB [.vl,.vl] yl (qe (qg 6) (qe (qg 5) qJ))) (qg 7))))
  (kx (yQ (qe (qg 6) (qe (qg 5) (qe (qg 4) (qe (d1 uJ (jh [1] 1 [0,1,4] (vp (qg 8)) (gNm 0) ftT (yQ (qe (qg 0) (qe (qB [.vl,.sl 2,.vl] kO (qe (qg 1) (vf (qe (qg 3) qJ)))) qJ))))) qJ)))))))))))
noncomputable abbrev KH:List D->Out (D×List D):=vg KF [.val,.io,.val,.val] (KG)
abbrev VY P w K mg base cv:=DefOk P w K mg base cv 7 "_law_made" ["_law_script", "_law_town", "_law_most", "_law_wide"] [.val,.io,.val,.val] .sh (KH)
theorem Gp (Z:Zt K mg cv ca) (T:jD K mg "_law_made" ym ["_law_script", "_law_town", "_law_most", "_law_wide"]) (ok_Ldraw:wT P w K mg base cv) (ok_Lpick:yZ P w K mg base cv) (ok_Lwords:Jq P w K mg base cv) (ok_Llook:VX P w K mg base cv) (ok_Lletters:zd P w K mg base cv):VY P w K mg base cv:=
 qP (k:=6) (own':=[1]) (fb:=KG) T sc_Lmade fun cdv f A outer s H E hr=>(qr (jc (i:=4) sc_Lmade.nd rfl (Or.inr rfl) (jt (kT rfl) qA (qt ok_Ldraw hr (by decide) qW rfl (qc (vr 0) (jd (i:=1) rfl (Or.inr (Or.inl rfl)) (by decide) (qc (vr 3) ql))))))
  (qr (jc (i:=5) sc_Lmade.nd rfl (Or.inl rfl) (qt ok_Llook hr (by decide) qW rfl (qc (vr 0) (jd (i:=1) rfl (Or.inr (Or.inl rfl)) (by decide) ql))))
  (qr (jc (i:=6) sc_Lmade.nd rfl (Or.inl rfl) (qt ok_Lwords hr (by decide) qW rfl (qc (vr 0) (jd (i:=1) rfl (Or.inr (Or.inl rfl)) (by decide) (qc (vr 2) ql)))))
  (qr (jc (i:=7) sc_Lmade.nd rfl (Or.inl rfl) (qt ok_Lpick hr (by decide) qW rfl (qc (vr 0) (jd (i:=1) rfl (Or.inr (Or.inl rfl)) (by decide) (qc (YJ 12 rfl) ql)))))
  (qr (jc (i:=8) sc_Lmade.nd rfl (Or.inl rfl) (wM rfl rfl rfl Z.z_sorted uK rfl Z.z_set xM (jt (kT rfl) (qt ok_Lletters hr (by decide) qW rfl (qc (vr 6) (qc (vr 5) ql))) (vr 7))))
  (qp (qu (kS (qc (vr 6) (qc (vr 5) (qc (vr 4) (qc (jK (yU rfl) rfl Z.z_tuple kW (jk (N:=["_law_letter", "_law_script", "_law_town", "_law_room"]) (nt:=1) (cap:=[0,1,4]) rfl (vG (names:=(qd ym).names) rfl (by decide +kernel)) (jL (names:=(qd ym).names) (N:=KF) rfl rfl (by decide +kernel)) (je rfl (vr 8)) (fun fp L s1 H1=>(qw (i:=0) (show List.Nodup (["_law_letter", "_law_script", "_law_town", "_law_room"]:List Str) from by decide +kernel) rfl (Or.inl rfl))) (fun fp L s1 H1=>qU) (fun fp L s1 H1=>(kS (qc (vr 0) (qc (qt ok_Ldraw hr (by decide) uV rfl (qc (vr 1) (jd (i:=2) rfl (by first | exact Or.inr (Or.inr rfl) | exact Or.inr (Or.inl rfl)) (by decide) (qc (vr 3) ql)))) ql)))))) ql))))))))))))
abbrev Qd:Stmt:=top 49
abbrev Xf:List Str:=["_law_script", "_law_town", "_law_kept", "_law_word_here", "_law_names", "_law_look_here", "_law_room", "_law_line", "_law_numbers"]
theorem sc_Lgood:FnScope Xf ["_law_script", "_law_town"] (qd Qd):=⟨rfl,rfl,rfl,by decide +kernel,rfl,by decide +kernel,by decide +kernel⟩
noncomputable def KI:Sl->Out (Fl×Sl):=(jx (qdp (qB [.vl,.sl 1,.vl,.vl] KH (qe (qg 0) (vf (qe (dC (.int 6)) (qe (dC (.int 20)) qJ))))) (wj 4 (qN (gNm 4) (qN (gNm 5) (qN (gNm 6) (qN (gNm 7) wg))))))
  (jx (wI 2 (yQ qJ))
  (jx (qaW (vp (qg 4)) (gNm 3)
  (jx (wI 8 (qB [.vl,.vl,.vl,.vl] WT (qe (d2 wW (qg 2) (yQ (qe (qg 3) qJ))) (qe (qg 5) (qe (qg 6) (qe (d1 xC (qg 7)) qJ))))))
  (sIf (jG (d2 eqD (d1 kn (qg 8)) (d1 kD (qg 8)))) (wI 2 (d2 wW (qg 2) (yQ (qe (qg 3) qJ)))) kl)))
  (kx (yQ (qe (qg 2) (qe (qg 5) (qe (qg 6) (qe (qg 7) qJ)))))))))
noncomputable abbrev KJ:List D->Out (D×List D):=vg Xf [.val,.io] (KI)
abbrev VZ P w K mg base cv:=DefOk P w K mg base cv 8 "_law_good" ["_law_script", "_law_town"] [.val,.io] .sh (KJ)
theorem Gq (Z:Zt K mg cv ca) (T:jD K mg "_law_good" Qd ["_law_script", "_law_town"]) (ok_Lby:YZ P w K mg base cv) (ok_Lmade:VY P w K mg base cv):VZ P w K mg base cv:=
 qP (k:=7) (own':=[1]) (fb:=KI) T sc_Lgood fun cdv f A outer s H E hr=>(qr (UR (qt ok_Lmade hr (by decide) qW rfl (qc (vr 0) (jd (i:=1) rfl (Or.inl rfl) (by decide) (qc qA (qc qA ql))))) (ul rfl rfl (qH (qw (i:=4) sc_Lgood.nd rfl (Or.inl rfl)) (qH (qw (i:=5) sc_Lgood.nd rfl (Or.inl rfl)) (qH (qw (i:=6) sc_Lgood.nd rfl (Or.inl rfl)) (qH (qw (i:=7) sc_Lgood.nd rfl (Or.inl rfl)) vF))))))
  (qr (jc (i:=2) sc_Lgood.nd rfl (Or.inl rfl) (kS ql))
  (qr (gp PassesOwn.leaving rfl (je rfl (vr 4)) (qw (i:=3) sc_Lgood.nd rfl (Or.inl rfl))
  (qr (jc (i:=8) sc_Lgood.nd rfl (Or.inl rfl) (qt ok_Lby hr (by decide) qW rfl (qc (jt (kT rfl) (vr 2) (kS (qc (vr 3) ql))) (qc (vr 5) (qc (vr 6) (qc (jK (JW rfl rfl) rfl Z.z_dict Ki (vr 7)) ql))))))
  (qp (jA (jg (xp rfl hr.units) (zS rfl rfl rfl Z.z_len jl rfl Z.z_set xM (vr 8)) (qD (jB rfl) rfl Z.z_len jl (vr 8))) (qp (jc (i:=2) sc_Lgood.nd rfl (Or.inl rfl) (jt (kT rfl) (vr 2) (kS (qc (vr 3) ql))))) qV))))
  (qp (qu (kS (qc (vr 2) (qc (vr 5) (qc (vr 6) (qc (vr 7) ql))))))))))
abbrev zA:Stmt:=top 50
abbrev Xg:List Str:=["_law_script", "_law_town", "_law_book", "_law_due", "_law_names", "_law_look_here", "_law_room", "_law_line", "_law_word_here", "_law_number", "#a"]
theorem sc_law:FnScope Xg ["_law_script"] (qd zA):=⟨rfl,rfl,rfl,by decide +kernel,rfl,by decide +kernel,by decide +kernel⟩
noncomputable def Xh (ca:Str->Addr):Sl->Out (Fl×Sl):=(jx (wI 1 (JD qJ))
  (qdp (qB [.vl,.sl 1] KJ (qe (qg 0) (vf qJ))) (wj 4 (qN (gNm 4) (qN (gNm 5) (qN (gNm 6) (qN (gNm 7) wg)))))))
noncomputable def qah:Sl->Out (List D×Sl):=(qe (qg 4) (qe (qg 5) (qe (qg 6) (qe (qg 7) qJ))))
noncomputable def Wa (ca:Str->Addr):Sl->Out (Fl×Sl):=(jx (wI 3 (d2 qbI (JD (qe (dC .non) qJ)) (qg 6)))
  (jx (qaW (qcG (qe (qg 4) (qe (qB [.vl,.vl,.vl,.vl] WT (qe (qg 4) (qe (qg 5) (qe (qg 6) (qe (d1 xC (qg 7)) qJ))))) qJ))) (wj 2 (qN (gNm 8) (qN (gNm 9) wg)))
  (VR 3 (qg 8) (qg 9)))
  (jx (sIf (jG (d2 neD (zT (ca "Book") "places" (jq ca) (qg 2)) (qg 3))) (kx (dC (.bl false))) kl)
  (jx (uC (ZX (zT (ca "Book") "places" (jq ca) (qg 2)) (dC (.str "changed"))))
  (jx (sIf (jG (d2 neD (jh [10,1] 1 [2,10] (vp (qg 4)) (gNm 0) ftT (dMG (ca "Book") "ask" "asked" 2 (jW ca) (qg 1) (qe (qg 0) qJ))) (jh [10,1] 1 [3] (vp (qg 4)) (gNm 0) ftT (dM qbH ua (qg 1) (qg 0))))) (kx (dC (.bl false))) kl)
  (kx (QA (d2 eqD (zT (ca "Book") "places" (jq ca) (qg 2)) (qg 3)) (d2 eqD (dMR (ca "Book") "counts" "asked" 10 (kt ca) (qg 2)) (yQ (qe (d1 kD (qg 4)) (qe (dC (.int 0)) (qe (dC (.int 0)) qJ))))))))))))
abbrev spL (K:Frag) (ca:Str->Addr):Sp:=qeQ K Xg (ca "Book") "asked" 2 10 (jN ca) (Xh ca) qah (Wa ca)
theorem qc4 {f:Addr} {fd:FuncData} (Z:Zt K mg cv ca) (F:Fun K "law" "law" zA f fd) (ok_Book_counts:ue ca P w K mg base cv) (ok_Book_ask:xY ca P w K mg base cv) (ok_Book_places:uf ca P w K mg base cv) (ok_Book___init__:vW ca P w K mg base cv) (ok_Lby:YZ P w K mg base cv) (ok_Lgood:VZ P w K mg base cv):FnOk P w K mg base (CXk P w) 9 f fd ["_law_script"] (spL K ca):=
 qek (k:=8) (cv:=cv) (own2:=[]) F sc_law rfl fun cdv A outer s H E hr=>(vw (yP (i:=1) sc_law.nd rfl (Or.inl rfl) (wX ql))
  (ZT (UR (qt ok_Lgood hr (by decide) qW rfl (qc (vr 0) (jd (i:=1) rfl (Or.inl rfl) (by decide) ql))) (ul rfl rfl (qH (qw (i:=4) sc_law.nd rfl (Or.inl rfl)) (qH (qw (i:=5) sc_law.nd rfl (Or.inl rfl)) (qH (qw (i:=6) sc_law.nd rfl (Or.inl rfl)) (qH (qw (i:=7) sc_law.nd rfl (Or.inl rfl)) vF))))))
  (wC (qcT (i:=2) (g:=10) ok_Book___init__ hr (by decide) rfl Z.m_Book (qc (vr 4) (qc (vr 5) (qc (vr 6) (qc (vr 7) ql)))) sc_law.nd rfl (Or.inr rfl) (fun y hy hv=>by cases hy; exact absurd hv (show ¬Vis (qd zA) "#a" from by unfold Vis; decide +kernel)) qW)
  (qr (yP (i:=3) sc_law.nd rfl (Or.inr rfl) (jt (YH rfl) (wX (qc zJ ql)) (vr 6)))
  (qr (gp PassesOwn.leaving rfl (Yw rfl rfl Z.z_zip (vr 4) (qt ok_Lby hr (by decide) qW rfl (qc (vr 4) (qc (vr 5) (qc (vr 6) (qc (jK (JW rfl rfl) rfl Z.z_dict Ki (vr 7)) ql)))))) (ul rfl rfl (qH (qw (i:=8) sc_law.nd rfl (Or.inl rfl)) (qH (qw (i:=9) sc_law.nd rfl (Or.inl rfl)) vF)))
  (qp (YT (n:=3) rfl (Or.inr (Or.inl rfl)) (by decide) (vr 8) (vr 9))))
  (qr (jA (jg (UI rfl hr.units) (gG Z.b_cls ok_Book_places hr (by decide) qW (vr 2)) (xm (i:=3) rfl (Or.inr (Or.inl rfl)) (by decide))) (qp (qu gj)) qV)
  (qr (jX (qbj rfl (gG Z.b_cls ok_Book_places hr (by decide) qW (vr 2)) wb))
  (gl [3] (qr (jA (jg (UI rfl hr.units) (jk (N:=["_law_word_here", "_law_book", "#a"]) (nt:=1) (cap:=[2,10]) rfl (vG (names:=(qd zA).names) rfl (by decide +kernel)) (jL (names:=(qd zA).names) (N:=Xg) rfl rfl (by decide +kernel)) (je rfl (vr 4)) (fun fp L s1 H1=>(qw (i:=0) (show List.Nodup (["_law_word_here", "_law_book", "#a"]:List Str) from by decide +kernel) rfl (Or.inl rfl))) (fun fp L s1 H1=>qU) (fun fp L s1 H1=>(YS (fld := "asked") (g:=2) Z.b_cls ok_Book_ask hr (by decide) uV (by decide) (vr 1) (qc (vr 0) ql)))) (jk (N:=["_law_word_here", "_law_due"]) (nt:=1) (cap:=[3]) rfl (vG (names:=(qd zA).names) rfl (by decide +kernel)) (jL (names:=(qd zA).names) (N:=Xg) rfl rfl (by decide +kernel)) (je rfl (vr 4)) (fun fp L s1 H1=>(qw (i:=0) (show List.Nodup (["_law_word_here", "_law_due"]:List Str) from by decide +kernel) rfl (Or.inl rfl))) (fun fp L s1 H1=>qU) (fun fp L s1 H1=>(VL PySem.F.slot_list_index PySem.F.type_list_index (VM rfl hr.units) rfl (vr 1) (vr 0))))) (qp (qu gj)) qV)
  (qp (qu (QB (zI (xp rfl hr.units) (gG Z.b_cls ok_Book_places hr (by decide) qW (vr 2)) (vr 3)) (Vo (zI (xp rfl hr.units) (ZZ (fld := "asked") (g:=10) Z.b_cls ok_Book_counts hr (by decide) qW (by decide) (vr 2)) (kS (qc (qD (jB rfl) rfl Z.z_len jl (vr 4)) (qc qA (qc qA ql))))))))))))))))))
end
end Kx
namespace Kx
open PySem PySem.Spec L2 L2.D2
theorem ui {α:Type} (xs:List α) (k:Nat):atI xs (k:Int)=xs[k]?:=by
 unfold atI ixN
 rw [if_pos (by omega)]
 by_cases h:k < xs.length
 ·rw [if_pos (by omega)]
  simp
 ·rw [if_neg (by omega),List.getElem?_eq_none (by omega)]
  rfl
theorem qc5 {α:Type} {xs:List α} {i:Int} (h0:0<=i) (h1:i < xs.length):∃ d,atI xs i=some d/\d∈xs:=by
 obtain ⟨k,rfl⟩:=Int.eq_ofNat_of_zero_le h0
 have hk:k < xs.length:=by omega
 exact ⟨xs[k],by rw [ui,List.getElem?_eq_getElem hk],List.getElem_mem hk⟩
theorem big:2000<=sizeLine:=by rw [sizeLine_eq]; decide
abbrev scr (ns:List Int):D:=.lst (ns.map .int)
theorem qbp (ns:List Int) (k:Nat):∃ i,yh [scr ns,.int k]=.ok (.int i,[.non,.non]):=by
 by_cases h:k < ns.length
 ·refine ⟨ns[k],?_⟩
  refine runD_ap.trans ?_
  simp [vB,qv,kD,ltD,ixD,qy,h,ui]
 ·by_cases h0:ns=[]
  ·subst h0
   have hk:¬((k:Int) < 0):=by omega
   exact ⟨0,by refine runD_ap.trans ?_; simp [vB,qv,kD,ltD,ixD,qy,eqD,eqN,vD,hk]⟩
  ·have hp:0 < ns.length:=List.length_pos_iff.mpr h0
   have hm:k % ns.length < ns.length:=Nat.mod_lt _ hp
   have e:atI (ns.map D.int) ((k:Int) % (ns.length:Int))=some (.int ns[k % ns.length]):=by
    rw [show ((k:Int) % (ns.length:Int))=((k % ns.length:Nat):Int) by simp,ui,List.getElem?_map,List.getElem?_eq_getElem hm]
    rfl
   refine ⟨ns[k % ns.length] * 31+k,?_⟩
   refine runD_ap.trans ?_
   simp [vB,qv,kD,ltD,ixD,qy,eqD,eqN,h,h0,UE,qbD,wW,Qj,hp,e,CMul]
theorem Gr (ns:List Int) (k:Nat) {many:Int} (hm:0 < many):∃ r,0<=r/\r < many/\gW [scr ns,.int k,.int many]=.ok (.int r,[.non,.non,.non]):=by
 obtain ⟨c,hc⟩:=qbp ns k
 have h1:=Int.emod_nonneg (c * 1103515245+7919 * k+12345) (show (2147483647:Int)≠0 by decide)
 have h2:=Int.emod_lt_of_pos (c * 1103515245+7919 * k+12345) (show (0:Int) < 2147483647 by decide)
 generalize hd:(c * 1103515245+7919 * (k:Int)+12345) % 2147483647=d at h1 h2
 have c1:L2.D2.qbC d 5:=⟨⟨by omega,by omega⟩,by omega,by omega⟩
 refine ⟨d ^ 5 % 2147483647 % 999983 % many,Int.emod_nonneg _ (by omega),Int.emod_lt_of_pos _ hm,?_⟩
 refine runD_ap.trans ?_
 simp [gU,qv,qy,qF,jQ,hc,qbD,UE,wW,qei,Qj,hm,hd,c1,show ∀ j,CMul 7919 j from fun j=>.inl ⟨by omega,by omega⟩,show ∀ i,CMul i 1103515245 from fun i=>.inr ⟨by omega,by omega⟩]
theorem uu (ns:List Int) (town:List D) {many:Int} (hm:0 < many) (ht:town.length < 1000):∃ r,0<=r/\r < many/\kO [scr ns,.lst town,.int many]=.ok (.int r,[.non,.lst (town++[.int 0]),.non]):=by
 obtain ⟨r,h0,h1,h⟩:=Gr ns (town.length+1) hm
 have hl:town.length < sizeLine:=Nat.lt_of_lt_of_le (Nat.lt_trans ht (by decide)) big
 refine ⟨r,h0,h1,?_⟩
 simp at h
 refine runD_ap.trans ?_
 simp [Kw,qv,qy,qF,jQ,gu,GW,kD,hl,h]
theorem KK (ns:List Int) (town xs:List D) (hx:xs≠[]) (ht:town.length < 1000):∃ d,d∈xs/\yi [scr ns,.lst town,.lst xs]=.ok (d,[.non,.lst (town++[.int 0]),.non]):=by
 have hp:0 < xs.length:=List.length_pos_iff.mpr hx
 obtain ⟨r,h0,h1,h⟩:=uu ns town (many:=(xs.length:Int)) (by omega) ht
 obtain ⟨d,e,hd⟩:=qc5 (xs:=xs) h0 h1
 refine ⟨d,hd,?_⟩
 refine runD_ap.trans ?_
 simp [Ky,qv,qy,qF,jQ,kD,h,ixD,e]
def az (c:Nat):Prop:=97<=c/\c<=122
def XN (w:Str):Prop:=1<=w.length/\w.length<=6/\∀ c∈w.cps.toList,az c
theorem ze (x:Str):x.length=x.cps.size:=rfl
theorem Xi (x y:Str):(x++y).cps=x.cps++y.cps:=rfl
def qdx (ls:List Str):Prop:=ls≠[]/\∀ x∈ls,∃ c,az c/\x=⟨#[c]⟩
theorem Xj:∀ cs:List Nat,Txt.join (Str.ofString "") (cs.map fun c=>(⟨#[c]⟩:Str))=⟨cs.toArray⟩:=by
 intro cs
 have e:∀ cs:List Nat,Str.join (Str.ofString "") (cs.map fun c=>(⟨#[c]⟩:Str))=⟨cs.toArray⟩:=by
  intro cs
  induction cs with
  | nil=>rfl
  | cons c cs ih=>
   cases cs with
   | nil=>rfl
   | cons d ds=>
    show (⟨#[c]⟩:Str)++Str.ofString ""++Str.join (Str.ofString "") ((d::ds).map fun c=>(⟨#[c]⟩:Str))=_
    rw [ih]
    have:((⟨#[c]⟩:Str)++Str.ofString ""++(⟨(d::ds).toArray⟩:Str)).cps=(c::d::ds).toArray:=by
     rw [Xi,Xi]
     have:(Str.ofString "").cps=#[]:=by decide +kernel
     rw [this]
     simp
    generalize h:(⟨#[c]⟩:Str)++Str.ofString ""++(⟨(d::ds).toArray⟩:Str)=x at this
    obtain ⟨y⟩:=x
    simp only at this
    rw [this]
 unfold Txt.join
 rw [StrLaws.glued_eq_join]
 exact e cs
theorem Wb:∀ cs:List Nat,((cs.map fun c=>(⟨#[c]⟩:Str)).map (·.length)).sum=cs.length
 | []=>rfl
 | c::cs=>by
  have ih:=Wb cs
  rw [List.map_cons,List.map_cons,List.sum_cons,ih,List.length_cons]
  show 1 + _=_
  omega
theorem kP:∀ ws:List Str,xJ (ws.map D.str)=some ws
 | []=>rfl
 | w::ws=>by simp [xJ,kP ws]
theorem Jr (ns:List Int) {ls:List Str} (hl:qdx ls):∀ (ds:List D) (town:List D) (k:Option D),town.length+ds.length < 1000 ->
  ∃ (cs:List Nat) (town':List D) (k':Option D),town'.length=town.length+ds.length/\cs.length=ds.length/\(∀ c∈cs,az c) /\
   jy (gNm 0) ftT (qB [.vl,.sl 2,.vl] yi (qe (qg 1) (vf (qe (qg 3) qJ)))) ds [k,some (scr ns),some (.lst town),some (.lst (ls.map D.str))]
    = .ok ((cs.map fun c=>(⟨#[c]⟩:Str)).map D.str,[k',some (scr ns),some (.lst town'),some (.lst (ls.map D.str))])
 | [],town,k,_=>⟨[],town,k,by simp,rfl,by simp,rfl⟩
 | d::ds,town,k,ht=>by
  rw [List.length_cons] at ht
  obtain ⟨e,he,hp⟩:=KK ns town (ls.map D.str) (by simpa using hl.1) (by omega)
  obtain ⟨x,hx,rfl⟩:=List.mem_map.mp he
  obtain ⟨c,hc,rfl⟩:=hl.2 x hx
  obtain ⟨cs,town',k',a1,a2,a3,a4⟩:=Jr ns hl ds (town++[.int 0]) (some d) (by rw [List.length_append]; simp; omega)
  refine ⟨c::cs,town',k',?_,by simp [a2],?_,?_⟩
  ·rw [a1,List.length_append,List.length_cons]
   simp
   omega
  ·intro y hy
   rcases List.mem_cons.mp hy with rfl | hy
   ·exact hc
   ·exact a3 y hy
  ·simp [jy,zp,qF,jQ,hp,a4]
theorem qbq (ns:List Int) (town:List D) {ls:List Str} (hl:qdx ls) (ht:town.length < 900):∃ w town',XN w/\town'.length<=town.length+8/\gZ [scr ns,.lst town,.lst (ls.map D.str),.int 6]=.ok (.str w,[.non,.lst town',.non,.non]):=by
 obtain ⟨r,r0,r1,hr⟩:=uu ns town (many:=6) (by omega) (by omega)
 have hlen:(Vu 0 (1+r).toNat).length=(1+r).toNat:=by simp [Vu]
 obtain ⟨cs,town',k',a1,a2,a3,a4⟩:=Jr ns hl (Vu 0 (1+r).toNat) (town++[.int 0]) none (by rw [hlen,List.length_append]; simp; omega)
 rw [hlen] at a1 a2
 rw [List.length_append] at a1
 simp at a1
 refine ⟨⟨cs.toArray⟩,town',⟨?_,?_,?_⟩,by omega,?_⟩
 ·show 1<=cs.toArray.size
  simp; omega
 ·show cs.toArray.size<=6
  simp; omega
 ·simpa using a3
 ·refine runD_ap.trans ?_
  have c1:-(2 ^ 62:Int)<=1+r/\1+r < 2 ^ 62:=by omega
  have hb:=big
  have hz:(Vu 0 (1+r).toNat).length<=sizeLine:=by rw [hlen]; omega
  have e0:Str.length (Str.ofString "")=0:=by decide +kernel
  have hs:=Wb cs
  have hj:YD (Str.ofString "") (.lst ((cs.map fun c=>(⟨#[c]⟩:Str)).map D.str))=.ok (.str ⟨cs.toArray⟩):=by
   unfold YD
   simp only [kP,Xj,hs]
   rw [if_pos ⟨by simp [e0]; omega,by show cs.toArray.size<=_; simp; omega⟩]
  simp only [KA,qv,vj,vh,jh]
  simp [-List.map_map,qF,jQ,hr,uS,wW,-Int.reducePow,c1,hz,kh,a4,ju,hj,qy]
theorem zf (w:Str):∀ ws:List Str,zo 7 (.str w) (ws.map D.str)=some (decide (w∈ws))
 | []=>by simp [zo]
 | a::ws=>by
  have ih:=zf w ws
  simp only [List.map_cons,zo,ih]
  simp [eqN,eqS]
  by_cases h:a=w
  ·simp [h]
  ·simp [h,Ne.symm h]
def jO (ws:List Str):Prop:=1<=ws.length/\ws.length<=6/\ws.Nodup/\∀ w∈ws,XN w
abbrev Xk:Sl->Out (Fl×Sl):=(jx (wI 6 (qB [.vl,.sl 1,.vl,.vl] gZ (qe (qg 0) (vf (qe (qg 3) (qe (dC (.int 6)) qJ))))))
  (sIf (jG (d2 GX (qg 6) (qg 4))) (uC (UZ 4 GW (qg 6))) kl))
theorem yn (ns:List Int) (most:D) {ls:List Str} (hls:qdx ls):∀ (ds:List D) (town:List D) (ws:List Str) (k u:Option D),town.length+8 * ds.length < 900->ws.length+ds.length<=100->ws.Nodup->(∀ w∈ws,XN w) ->
  ∃ (town':List D) (ws':List Str) (k' u':Option D),town'.length<=town.length+8 * ds.length/\ws'.length<=ws.length+ds.length/\ws.length<=ws'.length/\(ds≠[]->1<=ws'.length)/\ws'.Nodup/\(∀ w∈ws',XN w) /\
   yS (gNm 5) Xk ds [some (scr ns),some (.lst town),some most,some (.lst (ls.map D.str)),some (.lst (ws.map D.str)),k,u]=.ok (.nx,[some (scr ns),some (.lst town'),some most,some (.lst (ls.map D.str)),some (.lst (ws'.map D.str)),k',u'])
 | [],town,ws,k,u,_,_,hn,hw=>⟨town,ws,k,u,by simp,by simp,by simp,by simp,hn,hw,rfl⟩
 | d::ds,town,ws,k,u,ht,hl,hn,hw=>by
  rw [List.length_cons] at ht hl
  obtain ⟨w,t1,hW,ht1,hg⟩:=qbq ns town hls (by omega)
  have hb:=big
  have hz:ws.length < sizeLine:=by omega
  by_cases hm:w∈ws
  ·obtain ⟨town',ws',k',u',a1,a2,a3,a4,a5,a6,a7⟩:=yn ns most hls ds t1 ws (some d) (some (.str w)) (by omega) (by omega) hn hw
   refine ⟨town',ws',k',u',by rw [List.length_cons]; omega,by rw [List.length_cons]; omega,a3,fun _=>?_,a5,a6,?_⟩
   ·have:0 < ws.length:=List.length_pos_of_mem hm
    omega
   ·rw [<-a7]
    simp [yS,Xk,qF,jQ,hg,GX,Wy,inD,zf,hm]
  ·obtain ⟨town',ws',k',u',a1,a2,a3,a4,a5,a6,a7⟩:=yn ns most hls ds t1 (ws++[w]) (some d) (some (.str w)) (by omega) (by rw [List.length_append]; simp; omega) (List.nodup_append.mpr ⟨hn,by simp,fun a ha b hb=>by
    rw [List.mem_singleton.mp hb]
    exact fun z=>hm (z ▸ ha)⟩) (fun x hx=>by
    rcases List.mem_append.mp hx with hx | hx
    ·exact hw x hx
    ·rw [List.mem_singleton.mp hx]
     exact hW)
   rw [List.length_append] at a2 a3
   simp at a2 a3
   refine ⟨town',ws',k',u',by rw [List.length_cons]; omega,by rw [List.length_cons]; omega,by omega,fun _=>by omega,a5,a6,?_⟩
   rw [<-a7]
   simp [yS,Xk,qF,jQ,hg,GX,Wy,inD,zf,hm,gu,GW,hz]
noncomputable def LETS:List (List Str):=[["a", "b"],["a", "b", "c"],["a", "b", "c", "d"],["k", "m", "z", "a", "e"]]
theorem qbr:∀ ls∈LETS,qdx ls:=by
 have h1:∀ ls∈LETS,∀ x∈ls,x∈(["a", "b", "c", "d", "k", "m", "z", "e"]:List Str):=by decide +kernel
 have h2:∀ ls∈LETS,ls≠[]:=by decide +kernel
 intro ls h
 refine ⟨h2 ls h,fun x hx=>?_⟩
 have h3:=h1 ls h x hx
 simp only [List.mem_cons,List.not_mem_nil,or_false] at h3
 rcases h3 with rfl | rfl | rfl | rfl | rfl | rfl | rfl | rfl
 ·exact ⟨97,by unfold az; decide,by decide +kernel⟩
 ·exact ⟨98,by unfold az; decide,by decide +kernel⟩
 ·exact ⟨99,by unfold az; decide,by decide +kernel⟩
 ·exact ⟨100,by unfold az; decide,by decide +kernel⟩
 ·exact ⟨107,by unfold az; decide,by decide +kernel⟩
 ·exact ⟨109,by unfold az; decide,by decide +kernel⟩
 ·exact ⟨122,by unfold az; decide,by decide +kernel⟩
 ·exact ⟨101,by unfold az; decide,by decide +kernel⟩
theorem Gs (ns:List Int) (town:List D) (ht:town.length < 700):∃ ws town',jO ws/\town'.length<=town.length+50/\Qb [scr ns,.lst town,.int 6]=.ok (.tup (ws.map D.str),[.non,.lst town',.non]):=by
 obtain ⟨d,hd,hp⟩:=KK ns town (LETS.map fun l=>.lst (l.map D.str)) (by simp [LETS]) (by omega)
 obtain ⟨ls,hls,rfl⟩:=List.mem_map.mp hd
 have hl:=qbr ls hls
 obtain ⟨r,r0,r1,hr⟩:=uu ns (town++[.int 0]) (many:=6) (by omega) (by rw [List.length_append]; simp; omega)
 have hlen:(Vu 0 (1+r).toNat).length=(1+r).toNat:=by simp [Vu]
 obtain ⟨town',ws',k',u',a1,a2,a3,a4,a5,a6,a7⟩:=yn ns (.int 6) hl (Vu 0 (1+r).toNat) (town++[.int 0]++[.int 0]) [] none none (by rw [hlen,List.length_append,List.length_append]; simp; omega) (by rw [hlen]; simp; omega) List.nodup_nil (by simp)
 have hne:Vu 0 (1+r).toNat≠[]:=fun z=>by
  rw [z] at hlen
  simp at hlen
  omega
 refine ⟨ws',town',⟨a4 hne,?_,a5,a6⟩,?_,?_⟩
 ·rw [hlen] at a2
  simp at a2
  omega
 ·rw [hlen,List.length_append,List.length_append] at a1
  simp at a1
  omega
 ·refine runD_ap.trans ?_
  have c1:-(2 ^ 62:Int)<=1+r/\1+r < 2 ^ 62:=by omega
  have hb:=big
  have hz:4<=sizeLine:=by omega
  simp only [List.append_assoc,List.cons_append,List.nil_append,List.map_nil] at a7 hr
  simp only [LETS,List.map_cons,List.map_nil] at hp
  simp [Qa,qv,qy,qF,jQ,hp,hr,uS,wW,-Int.reducePow,c1,hz,a7,uJ]
def Wn (p q:Int):Prop:=(-3<=p/\p<=2)/\-3<=q/\q<=2
theorem qbs (ns:List Int) (town:List D) (ht:town.length < 900):∃ p q town',Wn p q/\town'.length=town.length+2/\KC [scr ns,.lst town]=.ok (.tup [.int p,.int q],[.non,.lst town']):=by
 obtain ⟨r,r0,r1,hr⟩:=uu ns town (many:=6) (by omega) (by omega)
 obtain ⟨u,u0,u1,hu⟩:=uu ns (town++[.int 0]) (many:=6) (by omega) (by rw [List.length_append]; simp; omega)
 have hb:=big
 have hz:2<=sizeLine:=by omega
 refine ⟨r - 3,u - 3,town++[.int 0,.int 0],⟨⟨by omega,by omega⟩,by omega,by omega⟩,by simp,?_⟩
 refine runD_ap.trans ?_
 simp only [List.append_assoc,List.cons_append,List.nil_append] at hu
 simp [KB,qv,qy,qF,jQ,hr,hu,Vk,Qj,hz]
noncomputable def uQ (n:Nat) (p:Int):Nat:=(max 0 (min (if 0<=p then p else (n:Int)+p) ((n:Int) - 1))).toNat
noncomputable def zg (w:Str) (p:Int):Str:=⟨#[(w.cps.toList[uQ w.length p]?).getD 0]⟩
theorem yG {w:Str} (hw:XN w) (p:Int):kL [.str w,.int p]=.ok (.str (zg w p),[.non,.non]):=by
 have h1:=hw.1
 have hn:(w.cps.toList.length:Int)=w.length:=by simp [ze]
 have key:∀ q:Int,q=(if 0<=p then p else (w.length:Int)+p)->atI w.cps.toList (if 0 < (if (w.length:Int) - 1 < q then (w.length:Int) - 1 else q) then (if (w.length:Int) - 1 < q then (w.length:Int) - 1 else q) else 0)=some ((w.cps.toList[uQ w.length p]?).getD 0):=by
  intro q hq
  have e:(if 0 < (if (w.length:Int) - 1 < q then (w.length:Int) - 1 else q) then (if (w.length:Int) - 1 < q then (w.length:Int) - 1 else q) else 0)=(uQ w.length p:Int):=by
   unfold uQ
   rw [<-hq]
   have:1<=(w.length:Int):=by omega
   generalize (w.length:Int)=n at *
   split <;> split <;> omega
  have hl:uQ w.length p < w.cps.toList.length:=by
   have hn':w.cps.toList.length=w.length:=by simp [ze]
   rw [hn']
   unfold uQ
   omega
  rw [e,ui,List.getElem?_eq_getElem hl]
  rfl
 refine runD_ap.trans ?_
 by_cases hp:0<=p
 ·have k:=key p (by rw [if_pos hp])
  simp [vO,qv,qy,geD,Qj,hp,qds,qdt,Vk,kD,ixD,k,zg]
 ·have k:=key (w.length+p) (by rw [if_neg hp])
  simp [vO,qv,qy,geD,Qj,hp,qds,qdt,Vk,wW,kD,ixD,k,zg]
theorem Xl {w:Str} (h:XN w):(∃ a,w=⟨#[a]⟩)\/(∃ a b,w=⟨#[a,b]⟩)\/(∃ a b c,w=⟨#[a,b,c]⟩)\/(∃ a b c d,w=⟨#[a,b,c,d]⟩)\/(∃ a b c d e,w=⟨#[a,b,c,d,e]⟩)\/∃ a b c d e f,w=⟨#[a,b,c,d,e,f]⟩:=by
 obtain ⟨⟨l⟩⟩:=w
 have h1:1<=l.length:=h.1
 have h2:l.length<=6:=h.2.1
 match l,h1,h2 with
 | [a],_,_=>exact .inl ⟨a,rfl⟩
 | [a,b],_,_=>exact .inr (.inl ⟨a,b,rfl⟩)
 | [a,b,c],_,_=>exact .inr (.inr (.inl ⟨a,b,c,rfl⟩))
 | [a,b,c,d],_,_=>exact .inr (.inr (.inr (.inl ⟨a,b,c,d,rfl⟩)))
 | [a,b,c,d,e],_,_=>exact .inr (.inr (.inr (.inr (.inl ⟨a,b,c,d,e,rfl⟩))))
 | [a,b,c,d,e,f],_,_=>exact .inr (.inr (.inr (.inr (.inr ⟨a,b,c,d,e,f,rfl⟩))))
set_option maxHeartbeats 0 in
theorem Js {w:Str} (hw:XN w) {p:Int} (h0:-3<=p) (h1:p<=2):YY [.str w,.int p]=.ok (.str (zg w p),[.non,.non]):=by
 have hp:p=-3\/p=-2\/p=-1\/p=0\/p=1\/p=2:=by omega
 rcases Xl hw with ⟨a,rfl⟩ | ⟨a,b,rfl⟩ | ⟨a,b,c,rfl⟩ | ⟨a,b,c,d,rfl⟩ | ⟨a,b,c,d,e,rfl⟩ | ⟨a,b,c,d,e,f,rfl⟩ <;> rcases hp with rfl | rfl | rfl | rfl | rfl | rfl <;> kernel_rfl
theorem yo {own:List Nat} (ρc:Sl):∀ (cap:List Nat) (n:Nat) (ρ:Sl),(∀ k∈cap,k∉own)->ju own ρc n cap ρ=ρ
 | [],n,ρ,_=>rfl
 | k::cap,n,ρ,h=>by
  unfold ju
  rw [if_neg (h k (List.mem_cons_self ..))]
  exact yo ρc cap (n+1) ρ fun x hx=>h x (List.mem_cons_of_mem _ hx)
theorem qc6 {fe:Sl->Out (D×Sl)} {ft:Sl->Out (Bool×Sl)} {P:D->Bool} {F:D->D} {caps:Sl}:∀ (ds:List D) (x:Option D),(∀ d∈ds,ft (some d::caps)=.ok (P d,some d::caps))->(∀ d∈ds,P d=true->fe (some d::caps)=.ok (F d,some d::caps))->∃ x',jy (gNm 0) ft fe ds (x::caps)=.ok ((ds.filter P).map F,x'::caps)
 | [],x,_,_=>⟨x,rfl⟩
 | d::ds,x,h,h'=>by
  obtain ⟨x',e⟩:=qc6 ds (some d) (fun d' hd=>h d' (List.mem_cons_of_mem _ hd)) fun d' hd=>h' d' (List.mem_cons_of_mem _ hd)
  refine ⟨x',?_⟩
  have h1:=h d (List.mem_cons_self ..)
  have h2:=h' d (List.mem_cons_self ..)
  cases q:P d with
  | true=>simp [jy,zp,h1,q,h2 q,e]
  | false=>simp [jy,zp,h1,q,e]
theorem qc7 {own:List Nat} {cap:List Nat} {fi:Sl->Out (List D×Sl)} {fe:Sl->Out (D×Sl)} {ft:Sl->Out (Bool×Sl)} {ρ ρ1:Sl} {ds:List D} (P:D->Bool) (F:D->D) (ho:∀ k∈cap,k∉own) (h:fi ρ=.ok (ds,ρ1)) (hl:ds.length<=sizeLine)
  (ht:∀ d∈ds,ft (some d::cap.map fun k=>(ρ1[k]?).getD none)=.ok (P d,some d::cap.map fun k=>(ρ1[k]?).getD none)) (he:∀ d∈ds,P d=true->fe (some d::cap.map fun k=>(ρ1[k]?).getD none)=.ok (F d,some d::cap.map fun k=>(ρ1[k]?).getD none)) :
  jh own 1 cap fi (gNm 0) ft fe ρ=.ok (.lst ((ds.filter P).map F),ρ1):=by
 obtain ⟨x',e⟩:=qc6 ds none ht he
 unfold jh
 rw [h]
 simp only [qT]
 rw [if_pos hl,show kh 1 cap ρ1=none::cap.map fun k=>(ρ1[k]?).getD none from rfl,e]
 simp only [qT,yo _ _ _ _ ho]
theorem Xm {own:List Nat} {cap:List Nat} {fi:Sl->Out (List D×Sl)} {fe:Sl->Out (D×Sl)} {ρ ρ1:Sl} {ds:List D} (F:D->D) (ho:∀ k∈cap,k∉own) (h:fi ρ=.ok (ds,ρ1)) (hl:ds.length<=sizeLine) (ht:∀ d∈ds,fe (some d::cap.map fun k=>(ρ1[k]?).getD none)=.ok (F d,some d::cap.map fun k=>(ρ1[k]?).getD none)) :
  jh own 1 cap fi (gNm 0) ftT fe ρ=.ok (.lst (ds.map F),ρ1):=by
 have e:=qc7 (ft:=ftT) (fun _=>true) F ho h hl (fun _ _=>rfl) fun d hd _=>ht d hd
 rw [List.filter_eq_self.mpr fun _ _=>rfl] at e
 exact e
theorem ug {cap:List Nat} {fi:Sl->Out (List D×Sl)} {fe:Sl->Out (D×Sl)} {ρ ρ1:Sl} {ds:List D} (F:D->D) (h:fi ρ=.ok (ds,ρ1)) (hl:ds.length<=sizeLine) (ht:∀ d∈ds,fe (some d::cap.map fun k=>(ρ1[k]?).getD none)=.ok (F d,some d::cap.map fun k=>(ρ1[k]?).getD none)) :
  jh [] 1 cap fi (gNm 0) ftT fe ρ=.ok (.lst (ds.map F),ρ1):=Xm F (fun _ _=>by simp) h hl ht
theorem qai {fe:Sl->Out (D×Sl)} {ft:Sl->Out (Bool×Sl)} {P:D×D->Bool} {F:D×D->D} {caps:Sl}:∀ (ps:List (D×D)) (x y:Option D),(∀ p∈ps,ft (some p.1::some p.2::caps)=.ok (P p,some p.1::some p.2::caps))->(∀ p∈ps,P p=true->fe (some p.1::some p.2::caps)=.ok (F p,some p.1::some p.2::caps)) ->
  ∃ x' y',jy (wj 2 (qN (gNm 0) (qN (gNm 1) wg))) ft fe (ps.map fun p=>.tup [p.1,p.2]) (x::y::caps)=.ok ((ps.filter P).map F,x'::y'::caps)
 | [],x,y,_,_=>⟨x,y,rfl⟩
 | p::ps,x,y,h,h'=>by
  obtain ⟨x',y',e⟩:=qai ps (some p.1) (some p.2) (fun d' hd=>h d' (List.mem_cons_of_mem _ hd)) fun d' hd=>h' d' (List.mem_cons_of_mem _ hd)
  refine ⟨x',y',?_⟩
  have h1:=h p (List.mem_cons_self ..)
  have h2:=h' p (List.mem_cons_self ..)
  cases q:P p with
  | true=>simp [jy,zp,wj,qN,wg,h1,q,h2 q,e]
  | false=>simp [jy,zp,wj,qN,wg,h1,q,e]
theorem KL {own:List Nat} {cap:List Nat} {fi:Sl->Out (List D×Sl)} {fe:Sl->Out (D×Sl)} {ft:Sl->Out (Bool×Sl)} {ρ ρ1:Sl} {ps:List (D×D)} (P:D×D->Bool) (F:D×D->D) (ho:∀ k∈cap,k∉own) (h:fi ρ=.ok (ps.map fun p=>.tup [p.1,p.2],ρ1)) (hl:ps.length<=sizeLine)
  (ht:∀ p∈ps,ft (some p.1::some p.2::cap.map fun k=>(ρ1[k]?).getD none)=.ok (P p,some p.1::some p.2::cap.map fun k=>(ρ1[k]?).getD none))
  (he:∀ p∈ps,P p=true->fe (some p.1::some p.2::cap.map fun k=>(ρ1[k]?).getD none)=.ok (F p,some p.1::some p.2::cap.map fun k=>(ρ1[k]?).getD none)) :
  jh own 2 cap fi (wj 2 (qN (gNm 0) (qN (gNm 1) wg))) ft fe ρ=.ok (.lst ((ps.filter P).map F),ρ1):=by
 obtain ⟨x',y',e⟩:=qai ps none none ht he
 unfold jh
 rw [h]
 simp only [qT]
 rw [if_pos (by rw [List.length_map]; exact hl),show kh 2 cap ρ1=none::none::cap.map fun k=>(ρ1[k]?).getD none from rfl,e]
 simp only [qT,yo _ _ _ _ ho]
noncomputable def qI (ws:List Str) (p q:Int):List (Str×Str):=ws.map fun w=>(zg w p,zg w q)
noncomputable def jz (l:List (Str×Str)):List D:=l.map fun x=>.tup [.str x.1,.str x.2]
theorem jH {n:Nat} (h:n<=2000):n<=sizeLine:=Nat.le_trans h big
abbrev Wd (ws:List Str):D:=.tup (ws.map D.str)
abbrev Ld (p q:Int):D:=.tup [.int p,.int q]
theorem zZ {G:List D->Out (D×List D)} {ws:List Str} (hw:jO ws) {p q:Int} (hG:∀ w∈ws,G [.str w,.int p]=.ok (.str (zg w p),[.non,.non])/\G [.str w,.int q]=.ok (.str (zg w q),[.non,.non])) :
  jh [] 1 [1] (vp (qg 0)) (gNm 0) ftT (yQ (qe (qB [.vl,.vl] G (qe (qg 0) (qe (d2 ixD (qg 1) (dC (.int 0))) qJ))) (qe (qB [.vl,.vl] G (qe (qg 0) (qe (d2 ixD (qg 1) (dC (.int 1))) qJ))) qJ))) [some (Wd ws),some (Ld p q)]
   = .ok (.lst (jz (qI ws p q)),[some (Wd ws),some (Ld p q)]):=by
 have e:=ug (cap:=[1]) (fi:=vp (qg 0)) (ρ:=[some (Wd ws),some (Ld p q)]) (ρ1:=[some (Wd ws),some (Ld p q)]) (ds:=ws.map D.str)
  (fe:=(yQ (qe (qB [.vl,.vl] G (qe (qg 0) (qe (d2 ixD (qg 1) (dC (.int 0))) qJ))) (qe (qB [.vl,.vl] G (qe (qg 0) (qe (d2 ixD (qg 1) (dC (.int 1))) qJ))) qJ))))
  (fun d=>match d with | .str w=>.tup [.str (zg w p),.str (zg w q)] | d=>d) (by simp [ke]) (by rw [List.length_map]; exact jH (by have:=hw.2.1; omega)) (fun d hd=>by
   obtain ⟨w,hm,rfl⟩:=List.mem_map.mp hd
   obtain ⟨h1,h2⟩:=hG w hm
   have hz:2<=sizeLine:=jH (by omega)
   simp [qF,jQ,ixD,atI,ixN,h1,h2,hz])
 rw [e]
 simp [jz,qI]
theorem zh {ws:List Str} (hw:jO ws) {p q:Int} (hl:Wn p q):xZ [Wd ws,Ld p q]=.ok (.lst (jz (qI ws p q)),[.non,.non]):=by
 refine runD_ap.trans ?_
 have e:=zZ (G:=YY) hw (p:=p) (q:=q) fun w hm=>⟨Js (hw.2.2.2 w hm) hl.1.1 hl.1.2,Js (hw.2.2.2 w hm) hl.2.1 hl.2.2⟩
 unfold Kt
 rw [vj,show qv gS [Wd ws,Ld p q]=[some (Wd ws),some (Ld p q)] from rfl,e]
 rfl
def Pl:D->Prop
 | .raw _=>False
 | .xcp _=>False
 | .ins _ _=>False
 | .dct _=>False
 | .at_ _ _=>False
 | _=>True
@[simp] theorem kk1:jS "NoneType" "int"=some false:=by decide +kernel
@[simp] theorem kk2:jS "bool" "int"=some true:=by decide +kernel
@[simp] theorem kk3:jS "int" "int"=some true:=by decide +kernel
@[simp] theorem kk4:jS "str" "int"=some false:=by decide +kernel
@[simp] theorem kk5:jS "tuple" "int"=some false:=by decide +kernel
@[simp] theorem kk6:jS "list" "int"=some false:=by decide +kernel
@[simp] theorem kb1:jS "NoneType" "bool"=some false:=by decide +kernel
@[simp] theorem kb2:jS "bool" "bool"=some true:=by decide +kernel
@[simp] theorem kb3:jS "int" "bool"=some false:=by decide +kernel
@[simp] theorem kb4:jS "str" "bool"=some false:=by decide +kernel
@[simp] theorem kb5:jS "tuple" "bool"=some false:=by decide +kernel
@[simp] theorem kb6:jS "list" "bool"=some false:=by decide +kernel
@[simp] theorem ks1:jS "NoneType" "str"=some false:=by decide +kernel
@[simp] theorem ks2:jS "bool" "str"=some false:=by decide +kernel
@[simp] theorem ks3:jS "int" "str"=some false:=by decide +kernel
@[simp] theorem ks4:jS "str" "str"=some true:=by decide +kernel
@[simp] theorem ks5:jS "tuple" "str"=some false:=by decide +kernel
@[simp] theorem ks6:jS "list" "str"=some false:=by decide +kernel
@[simp] theorem kt1:jS "NoneType" "tuple"=some false:=by decide +kernel
@[simp] theorem kt2:jS "bool" "tuple"=some false:=by decide +kernel
@[simp] theorem kt3:jS "int" "tuple"=some false:=by decide +kernel
@[simp] theorem kt4:jS "str" "tuple"=some false:=by decide +kernel
@[simp] theorem kt5:jS "tuple" "tuple"=some true:=by decide +kernel
@[simp] theorem kt6:jS "list" "tuple"=some false:=by decide +kernel
noncomputable def Qe:D->Bool
 | .tup _=>true
 | _=>false
noncomputable def isInt:D->Bool
 | .int _=>true
 | .bl _=>true
 | _=>false
theorem qaj {d:D} (h:Pl d):xz "tuple" d=.ok (.bl (Qe d)):=by cases d <;> first | exact h.elim | simp [xz,tyN,Qe]
noncomputable def Xn:D->Bool
 | .str x=>decide (x.length=1)&&(!kR x "a"&&!kR "z" x)
 | _=>false
noncomputable def KM (lo hi:Int):D->Bool
 | .int i=>decide (lo<=i)&&decide (i<=hi)
 | _=>false
theorem yH {d:D} (h:Pl d):kK [d]=.ok (.bl (Xn d),[.non]):=by
 refine runD_ap.trans ?_
 cases d <;> first
  | exact h.elim
  | (simp [kJ,qv,qy,xz,tyN,Xn]; done)
  | skip
 rename_i x
 by_cases h1:x.length=1
 ·have h1':(x.length:Int)=1:=by omega
  cases h2:kR x "a" <;> simp [kJ,qv,xz,tyN,kD,eqD,eqN,eqS,leD,qy,Xn,h1,h1',h2]
 ·have h1':¬(x.length:Int)=1:=by omega
  simp [kJ,qv,xz,tyN,kD,eqD,eqN,eqS,leD,qy,Xn,h1,h1']
theorem ku {d:D} (h:Pl d) (lo hi:Int):jE [d,.int lo,.int hi]=.ok (.bl (KM lo hi d),[.non,.non,.non]):=by
 refine runD_ap.trans ?_
 cases d <;> first
  | exact h.elim
  | (simp [kZ,qv,qy,xz,tyN,KM,yt]; done)
  | skip
 rename_i i
 by_cases h1:lo<=i <;> simp [kZ,qv,xz,tyN,leD,qy,KM,yt,h1]
theorem Xo {c:Nat} (h:az c):Xn (.str ⟨#[c]⟩)=true:=by
 have ha:(Str.ofString "a").cps.toList=[97]:=by decide +kernel
 have hz:(Str.ofString "z").cps.toList=[122]:=by decide +kernel
 obtain ⟨h1,h2⟩:=h
 have l1:¬([c]:List Nat) < [97]:=by
  rw [List.cons_lt_cons_iff]
  simp
  omega
 have l2:¬([122]:List Nat) < [c]:=by
  rw [List.cons_lt_cons_iff]
  simp
  omega
 have e1:kR ⟨#[c]⟩ (Str.ofString "a")=false:=by
  unfold kR
  rw [ha]
  exact decide_eq_false l1
 have e2:kR (Str.ofString "z") ⟨#[c]⟩=false:=by
  unfold kR
  rw [hz]
  exact decide_eq_false l2
 simp [Xn,ze,e1,e2]
theorem ga {α:Type} (f:α->Bool):∀ l:List α,yw (l.map fun x=>.bl (f x))=some (l.map f)
 | []=>rfl
 | a::l=>by
  have ih:=ga f l
  simp [yw,ih]
theorem xb {α:Type} (f:α->Bool) (l:List α):XI (.lst (l.map fun x=>.bl (f x)))=.ok (.bl (l.all f)):=by
 simp only [XI,ga]
 simp [List.all_map,Function.comp_def]
theorem Xp {w:Str} (hw:XN w) (p:Int):∃ c,az c/\zg w p=⟨#[c]⟩:=by
 have hn:w.cps.toList.length=w.length:=by simp [ze]
 have hl:uQ w.length p < w.cps.toList.length:=by
  have:=hw.1
  rw [hn]
  unfold uQ
  omega
 refine ⟨w.cps.toList[uQ w.length p],hw.2.2 _ (List.getElem_mem hl),?_⟩
 unfold zg
 rw [List.getElem?_eq_getElem hl]
 rfl
theorem gb {w:Str} (hw:XN w):wp [.str w]=.ok (.bl true,[.non]):=by
 refine runD_ap.trans ?_
 have e:=ug (cap:=[]) (fi:=vp (qg 0)) (ρ:=[some (.str w)]) (ρ1:=[some (.str w)]) (ds:=QQ w) (fe:=qB [.vl] kK (qe (qg 0) qJ)) (fun d=>.bl (Xn d)) (by simp [ke]) (by
   have:=hw.2.1
   simp [QQ,<-ze]
   exact jH (by omega)) (fun d hd=>by
   obtain ⟨c,hc,rfl⟩:=List.mem_map.mp hd
   have h1:=yH (d:=.str ⟨#[c]⟩) trivial
   simp [qF,jQ,h1])
 have ha:(QQ w).all Xn=true:=by
  rw [List.all_eq_true]
  intro d hd
  obtain ⟨c,hc,rfl⟩:=List.mem_map.mp hd
  exact Xo (hw.2.2 c hc)
 have h1:(1:Int)<=w.length:=by have:=hw.1; omega
 have h6:(w.length:Int)<=6:=by have:=hw.2.1; omega
 simp only [xP,qv,List.map_cons,List.map_nil,List.length_cons,List.length_nil,Nat.reduceAdd,Nat.sub_self,List.replicate_zero,List.append_nil]
 simp [xz,tyN,yt,kD,leD,h1,h6,e,xb,ha,qy]
theorem uw:∀ (ws ks:List Str),ws.Nodup->(∀ x∈ws,x∉ks)->ws.foldl jI ks=ks++ws
 | [],ks,_,_=>by simp
 | w::ws,ks,hn,hd=>by
  have h1:=List.nodup_cons.mp hn
  rw [List.foldl_cons,show jI ks w=ks++[w] from if_neg (hd w (List.mem_cons_self ..)),uw ws (ks++[w]) h1.2 ?_]
  ·simp
  ·intro x hx z
   rcases List.mem_append.mp z with z | z
   ·exact hd x (List.mem_cons_of_mem _ hx) z
   ·rw [List.mem_singleton.mp z] at hx
    exact h1.1 hx
theorem vC (ws:List Str):∀ ks:List Str,ks.Nodup->(ws.foldl jI ks).Nodup/\∀ x,x∈ws.foldl jI ks↔x∈ks\/x∈ws:=by
 induction ws with
 | nil=>intro ks hn; exact ⟨hn,fun x=>by simp⟩
 | cons w ws ih=>
  intro ks hn
  have hn2:(jI ks w).Nodup:=by
   unfold jI
   split
   ·exact hn
   ·rename_i h
    exact List.nodup_append.mpr ⟨hn,by simp,fun a ha b hb=>by
     rw [List.mem_singleton.mp hb]
     exact fun z=>h (z ▸ ha)⟩
  obtain ⟨a,b⟩:=ih (jI ks w) hn2
  refine ⟨a,fun x=>?_⟩
  rw [List.foldl_cons,b x]
  unfold jI
  split
  ·rename_i h
   constructor
   ·rintro (q | q)
    ·exact .inl q
    ·exact .inr (List.mem_cons_of_mem _ q)
   ·rintro (q | q)
    ·exact .inl q
    ·rcases List.mem_cons.mp q with rfl | q
     ·exact .inl h
     ·exact .inr q
  ·simp [List.mem_append,or_assoc]
theorem KN {ws:List Str} (hw:jO ws):yc [.tup (ws.map D.str)]=.ok (.bl true,[.non]):=by
 refine runD_ap.trans ?_
 have e:=ug (cap:=[]) (fi:=vp (qg 0)) (ρ:=[some (.tup (ws.map D.str))]) (ρ1:=[some (.tup (ws.map D.str))]) (ds:=ws.map D.str) (fe:=qB [.vl] wp (qe (qg 0) qJ)) (fun d=>.bl true) (by simp [ke]) (by
   rw [List.length_map]
   exact jH (by have:=hw.2.1; omega)) (fun d hd=>by
   obtain ⟨w,hm,rfl⟩:=List.mem_map.mp hd
   have h1:=gb (hw.2.2.2 w hm)
   simp [qF,jQ,h1])
 have h1:(1:Int)<=ws.length:=by have:=hw.1; omega
 have h6:(ws.length:Int)<=6:=by have:=hw.2.1; omega
 have hf:ws.foldl jI []=ws:=by rw [uw ws [] hw.2.2.1 (by simp)]; simp
 have h4:ws.length < 4000:=by omega
 have ha:=xb (fun _:D=>true) (ws.map D.str)
 simp only [yb,qv,List.map_cons,List.map_nil,List.length_cons,List.length_nil,Nat.reduceAdd,Nat.sub_self,List.replicate_zero,List.append_nil]
 simp [-List.map_map,xz,tyN,yt,kD,leD,h1,h6,e,ha,qy,gB,wZ,kP,hf,h4,eqD,eqN,eqS]
theorem zB {ws:List Str} (hw:jO ws):vM [.tup (ws.map D.str)]=.ok (.non,[.non]):=by
 refine runD_ap.trans ?_
 have h:=KN hw
 simp [vL,qv,qy,qF,jQ,h,yt]
theorem WU {p q:Int} (hl:Wn p q):xW [.tup [.int p,.int q]]=.ok (.bl true,[.non]):=by
 refine runD_ap.trans ?_
 have e:=ug (cap:=[]) (fi:=vp (qg 0)) (ρ:=[some (.tup [.int p,.int q])]) (ρ1:=[some (.tup [.int p,.int q])]) (ds:=[.int p,.int q]) (fe:=qB [.vl,.vl,.vl] jE (qe (qg 0) (qe (dC (.int (-3))) (qe (dC (.int 2)) qJ)))) (fun d=>.bl (KM (-3) 2 d)) (by simp [ke]) (jH (by simp)) (fun d hd=>by
   have hd:d=.int p\/d=.int q:=by simpa using hd
   have h1:=ku (d:=.int p) trivial (-3) 2
   have h2:=ku (d:=.int q) trivial (-3) 2
   rcases hd with rfl | rfl
   ·simp [qF,jQ,h1]
   ·simp [qF,jQ,h2])
 have b1:KM (-3) 2 (.int p)=true:=by simp [KM]; exact hl.1
 have b2:KM (-3) 2 (.int q)=true:=by simp [KM]; exact hl.2
 simp only [xV,qv,List.map_cons,List.map_nil,List.length_cons,List.length_nil,Nat.reduceAdd,Nat.sub_self,List.replicate_zero,List.append_nil]
 simp [xz,tyN,yt,kD,neD,eqN,eqS,e,XI,yw,b1,b2,qy]
theorem Qf {p q:Int} (hl:Wn p q):wz [.tup [.int p,.int q]]=.ok (.non,[.non]):=by
 refine runD_ap.trans ?_
 have h:=WU hl
 simp [wy,qv,qy,qF,jQ,h,yt]
theorem Gt {ws:List Str} (hw:jO ws) {p q:Int} (hl:Wn p q):Kq [Wd ws,Ld p q]=.ok (.lst (jz (qI ws p q)),[.non,.non]):=by
 refine runD_ap.trans ?_
 have e:=zZ (G:=kL) hw (p:=p) (q:=q) fun w hm=>⟨yG (hw.2.2.2 w hm) p,yG (hw.2.2.2 w hm) q⟩
 have c1:=zB hw
 have c2:=Qf hl
 simp only [Ko,qv,List.map_cons,List.map_nil,List.length_cons,List.length_nil,Nat.reduceAdd,Nat.sub_self,List.replicate_zero,List.append_nil]
 simp [qF,jQ,c1,c2,e,qy]
theorem Jt {a b:List Str} (ha:a.Nodup) (hb:b.Nodup) (h:∀ x,x∈a↔x∈b):a.Perm b:=(List.perm_ext_iff_of_nodup ha hb).mpr h
theorem Xq {a b:List Str} (h:∀ x,x∈a↔x∈b):jT (a.foldl jI [])=jT (b.foldl jI []):=by
 obtain ⟨n1,m1⟩:=vC a [] List.nodup_nil
 obtain ⟨n2,m2⟩:=vC b [] List.nodup_nil
 have p:=Jt n1 n2 fun x=>by
  rw [m1,m2,h]
 exact wn ((qG _).trans (p.trans (qG _).symm)) (qY _) (qY _)
noncomputable def LS (l:List (Str×Str)):List Str:=jT ((l.map (·.1)++l.map (·.2)).foldl jI [])
theorem mem_LS {l:List (Str×Str)} {x:Str}:x∈LS l↔∃ p∈l,x=p.1\/x=p.2:=by
 unfold LS
 rw [(qG _).mem_iff,(vC _ [] List.nodup_nil).2]
 simp only [List.not_mem_nil,false_or,List.mem_append,List.mem_map]
 constructor
 ·rintro (⟨p,hp,rfl⟩ | ⟨p,hp,rfl⟩)
  ·exact ⟨p,hp,.inl rfl⟩
  ·exact ⟨p,hp,.inr rfl⟩
 ·rintro ⟨p,hp,rfl | rfl⟩
  ·exact .inl ⟨p,hp,rfl⟩
  ·exact .inr ⟨p,hp,rfl⟩
theorem Qg {l:List (Str×Str)} (hl:l.length<=20):kf [.lst (jz l)]=.ok (.lst ((LS l).map D.str),[.non]):=by
 refine runD_ap.trans ?_
 have hz:(jz l).length<=sizeLine:=by
  unfold jz
  rw [List.length_map]
  exact jH (by omega)
 have e1:=ug (cap:=[]) (fi:=vp (qg 0)) (ρ:=[some (.lst (jz l))]) (ρ1:=[some (.lst (jz l))]) (ds:=jz l) (fe:=d2 ixD (qg 0) (dC (.int 0))) (fun d=>match d with | .tup [a,b]=>a | d=>d) (by simp [ke]) hz (fun d hd=>by
   obtain ⟨x,hx,rfl⟩:=List.mem_map.mp hd
   simp [ixD,atI,ixN])
 have e2:=ug (cap:=[]) (fi:=vp (qg 0)) (ρ:=[some (.lst (jz l))]) (ρ1:=[some (.lst (jz l))]) (ds:=jz l) (fe:=d2 ixD (qg 0) (dC (.int 1))) (fun d=>match d with | .tup [a,b]=>b | d=>d) (by simp [ke]) hz (fun d hd=>by
   obtain ⟨x,hx,rfl⟩:=List.mem_map.mp hd
   simp [ixD,atI,ixN])
 have f1:(jz l).map (fun d=>match d with | .tup [a,b]=>a | d=>d)=(l.map (·.1)).map D.str:=by simp [jz]
 have f2:(jz l).map (fun d=>match d with | .tup [a,b]=>b | d=>d)=(l.map (·.2)).map D.str:=by simp [jz]
 rw [f1] at e1
 rw [f2] at e2
 have hs:l.length+l.length<=sizeLine:=jH (by omega)
 have h64:l.length+l.length < 64:=by omega
 simp only [wA,qv,List.map_cons,List.map_nil,List.length_cons,List.length_nil,Nat.reduceAdd,Nat.sub_self,List.replicate_zero,List.append_nil,vj,vh,yL,e1,e2,qT]
 simp only [wW,List.length_map,if_pos hs,vu,qT,<-List.map_append,jM,wZ,kP,List.length_append,if_pos h64]
 simp [qy,LS]
theorem Wc:∀ l:List (Str×Str),(l.flatMap fun p=>[p.1,p.2]).length=2 * l.length
 | []=>rfl
 | a::l=>by
  rw [List.flatMap_cons,List.length_append,Wc l,List.length_cons]
  simp
  omega
def qdy (d:D):Prop:=Pl d/\∀ xs,d=.tup xs->∀ x∈xs,Pl x
noncomputable def Xr (room:Int):D->Bool
 | .tup [a,b]=>Xn a&&KM 0 (room - 1) b
 | _=>false
theorem at0 {a:D} {l:List D}:atI (a::l) 0=some a:=by
 have:=ui (a::l) 0
 simpa using this
theorem at1 {a b:D} {l:List D}:atI (a::b::l) 1=some b:=by
 have:=ui (a::b::l) 1
 simpa using this
theorem KO {d:D} (h:qdy d) (room:Int):wP [d,.int room]=.ok (.bl (Xr room d),[.non,.non]):=by
 refine runD_ap.trans ?_
 have ht:=qaj h.1
 cases d with
 | tup xs=>
  have hp:=h.2 xs rfl
  match xs,hp with
  | [],_=>simp [jU,qv,qy,ht,Qe,yt,kD,neD,eqN,eqS,Xr]
  | [a],_=>simp [jU,qv,qy,ht,Qe,yt,kD,neD,eqN,eqS,Xr]
  | [a,b],hp=>
   have h1:=yH (hp a (by simp))
   have h2:=ku (hp b (by simp)) 0 (room - 1)
   cases hb:Xn a <;> simp [jU,qv,qy,ht,Qe,yt,kD,neD,eqN,eqS,Xr,ixD,at0,at1,qF,jQ,h1,h2,hb,Vk,Qj]
  | a::b::c::l,_=>
   have hne:¬((l.length:Int)+1+1+1=2):=by omega
   simp [jU,qv,qy,ht,Qe,yt,kD,neD,eqN,eqS,Xr,hne]
 | _=>first | exact h.1.elim | simp [jU,qv,qy,ht,Qe,yt,Xr]
noncomputable def prL (l:List (Str×Int)):List D:=l.map fun x=>.tup [.str x.1,.int x.2]
def OkW (room:Int) (l:List (Str×Int)):Prop:=∀ x∈l,Xn (.str x.1)=true/\0<=x.2/\x.2 < room
theorem qbt {room:Int} {l:List (Str×Int)} (h:OkW room l):(prL l).all (Xr room)=true:=by
 rw [List.all_eq_true]
 intro d hd
 obtain ⟨x,hx,rfl⟩:=List.mem_map.mp hd
 obtain ⟨h1,h2,h3⟩:=h x hx
 simp [Xr,h1,KM,h2]
 omega
noncomputable def jr (l:List (Str×Int)):List Str:=l.map (·.1)
theorem Ju:∀ (a b:List Str),vD (eqN 7) (a.map D.str) (b.map D.str)=some (decide (a.take (min a.length b.length)=b.take (min a.length b.length)))
 | [],b=>by simp [vD]
 | a::l,[]=>by simp [vD]
 | a::l,b::m=>by
  have ih:=Ju l m
  simp only [List.map_cons,vD,ih,eqN,eqS,List.length_cons,Nat.succ_eq_add_one,show min (l.length+1) (m.length+1)=min l.length m.length+1 by omega,List.take_succ_cons]
  by_cases h:a=b <;> simp [h]
theorem Gu (a b:List Str):eqD (.lst (a.map D.str)) (.lst (b.map D.str))=.ok (.bl (decide (a=b))):=by
 by_cases h:a.length=b.length
 ·have e:=Ju a b
  rw [h,Nat.min_self,List.take_length,<-h,List.take_length] at e
  simp [eqD,eqN,h,e]
 ·have hne:a≠b:=fun z=>h (by rw [z])
  simp [eqD,eqN,h,hne]
noncomputable def KP (l:List (Str×Int)):Bool:=decide (jr l=jT ((jr l).foldl jI []))
theorem Jv {ds:List D} (h:∀ d∈ds,qdy d) (hl:ds.length<=50) (room:Int):(ds.all (Xr room)=false->jV [.tup ds,.int room]=.ok (.bl false,[.non,.non]))/\∀ l,ds=prL l->OkW room l->jV [.tup ds,.int room]=.ok (.bl (KP l),[.non,.non]):=by
 have hz:ds.length<=sizeLine:=jH (by omega)
 have ht:=qaj (d:=.tup ds) trivial
 have e1:=ug (cap:=[1]) (fi:=vp (qg 0)) (ρ:=[some (.tup ds),some (.int room),none]) (ρ1:=[some (.tup ds),some (.int room),none]) (ds:=ds) (fe:=qB [.vl,.vl] wP (qe (qg 0) (qe (qg 1) qJ))) (fun d=>.bl (Xr room d)) (by simp [ke]) hz (fun d hd=>by
   have h1:=KO (h d hd) room
   simp [qF,jQ,h1])
 have ha:=xb (Xr room) ds
 constructor
 ·intro hb
  refine runD_ap.trans ?_
  simp [vK,qv,qy,ht,Qe,yt,e1,ha,hb]
 ·rintro l rfl hw
  refine runD_ap.trans ?_
  have hb:=qbt hw
  have e2:=ug (cap:=[]) (fi:=vp (qg 0)) (ρ:=[some (.tup (prL l)),some (.int room),none]) (ρ1:=[some (.tup (prL l)),some (.int room),none]) (ds:=prL l) (fe:=d2 ixD (qg 0) (dC (.int 0))) (fun d=>match d with | .tup [a,b]=>a | d=>d) (by simp [ke]) hz (fun d hd=>by
   obtain ⟨x,hx,rfl⟩:=List.mem_map.mp hd
   simp [ixD,at0])
  have f2:(prL l).map (fun d=>match d with | .tup [a,b]=>a | d=>d)=(jr l).map D.str:=by simp [prL,jr]
  rw [f2] at e2
  have h64:(jr l).length < 64:=by
   simp [jr]
   simp [prL] at hl
   omega
  have ee:=Gu (jr l) (jT ((jr l).foldl jI []))
  simp [vK,qv,qy,ht,Qe,yt,e1,ha,hb,e2,jM,wZ,kP,h64,ee,KP]
noncomputable def KQ:List Str->Bool
 | x::y::l=>kR x y&&KQ (y::l)
 | _=>true
theorem qel {x y:Str} (h:kR x y=true):leS x y/\x≠y:=by
 unfold kR at h
 have h:=of_decide_eq_true h
 constructor
 ·exact List.le_of_lt h
 ·rintro rfl
  exact List.lt_irrefl _ h
theorem qem {x y:Str} (h:leS x y) (n:x≠y):kR x y=true:=by
 cases e:kR x y with
 | true=>rfl
 | false=>exact absurd (gy h (strLt_false.mp e)) n
theorem KR:∀ (l:List Str),KQ l=true->l.Pairwise (fun x y=>leS x y/\x≠y)
 | [],_=>List.Pairwise.nil
 | [x],_=>List.pairwise_singleton _ _
 | x::y::l,h=>by
  have h:(kR x y&&KQ (y::l))=true:=h
  rw [Bool.and_eq_true] at h
  have ih:=KR (y::l) h.2
  have hxy:=qel h.1
  refine List.pairwise_cons.mpr ⟨fun z hz=>?_,ih⟩
  rcases List.mem_cons.mp hz with rfl | hz
  ·exact hxy
  ·have hyz:=(List.pairwise_cons.mp ih).1 z hz
   refine ⟨xG hxy.1 hyz.1,fun e=>?_⟩
   subst e
   exact hxy.2 (gy hxy.1 hyz.1)
theorem Xu:∀ (l:List Str),l.Pairwise (fun x y=>leS x y/\x≠y)->KQ l=true
 | [],_=>rfl
 | [x],_=>rfl
 | x::y::l,h=>by
  have h1:=List.pairwise_cons.mp h
  have hxy:=h1.1 y (List.mem_cons_self ..)
  show (kR x y&&KQ (y::l))=true
  rw [qem hxy.1 hxy.2,Xu (y::l) h1.2]
  rfl
theorem We {l:List Str} (h:l.Pairwise (fun x y=>leS x y/\x≠y)):l.Nodup:=h.imp fun h=>h.2
theorem Gv (L:List Str):decide (L=jT (L.foldl jI []))=KQ L:=by
 cases e:KQ L with
 | true=>
  have p:=KR L e
  have hn:=We p
  have hf:L.foldl jI []=L:=by rw [uw L [] hn (by simp)]; simp
  rw [hf]
  exact decide_eq_true (wn (qG L).symm (p.imp fun h=>h.1) (qY L))
 | false=>
  refine decide_eq_false fun z=>?_
  have hn:(jT (L.foldl jI [])).Nodup:=(qG _).nodup_iff.mpr (vC L [] List.nodup_nil).1
  have hs:=qY (L.foldl jI [])
  rw [<-z] at hn hs
  have p:L.Pairwise (fun x y=>leS x y/\x≠y):=hs.and hn
  rw [Xu L p] at e
  cases e
theorem yp {l:List (Str×Int)} (h:KP l=true):(jr l).Nodup:=by
 unfold KP at h
 rw [Gv] at h
 exact We (KR _ h)
noncomputable def bk (l:List (Str×Int)):List (Key×D):=l.map fun x=>(.inr x.1,.int x.2)
theorem Jw:∀ l:List (Str×Int),yy (prL l)=some (bk l)
 | []=>rfl
 | x::l=>by
  have ih:=Jw l
  unfold prL at ih ⊢
  rw [List.map_cons]
  simp [yy,ZG,ZE,ih,bk]
theorem Xv:∀ (l:List (Str×Int)) (a:List (Key×D)),(jr l).Nodup->(∀ x∈l,∀ p∈a,p.1≠.inr x.1)->(bk l).foldl (fun a p=>ZF a p.1 p.2) a=a++bk l
 | [],a,_,_=>by simp [bk]
 | x::l,a,hn,hd=>by
  have h1:=List.nodup_cons.mp (show (x.1::jr l).Nodup from hn)
  have hp:ZF a (.inr x.1) (.int x.2)=a++[(.inr x.1,.int x.2)]:=by
   unfold ZF
   rw [if_neg]
   simp only [List.any_eq_true,decide_eq_true_eq,not_exists,not_and]
   exact fun p hp=>hd x (List.mem_cons_self ..) p hp
  have ih:=Xv l (a++[(.inr x.1,.int x.2)]) h1.2 (fun y hy p hp=>by
   rcases List.mem_append.mp hp with hp | hp
   ·exact hd y (List.mem_cons_of_mem _ hy) p hp
   ·rw [List.mem_singleton.mp hp]
    intro z
    have z:x.1=y.1:=Sum.inr.inj z
    exact h1.1 (z ▸ List.mem_map.mpr ⟨y,hy,rfl⟩))
  show ((bk l).foldl (fun a p=>ZF a p.1 p.2) (ZF a (.inr x.1) (.int x.2)))=a++(.inr x.1,.int x.2)::bk l
  rw [hp,ih]
  simp
theorem KS {l:List (Str×Int)} (h:(jr l).Nodup):xC (.tup (prL l))=.ok (.dct (bk l)):=by
 have e:=Xv l [] h (fun _ _ p hp=>by cases hp)
 simp at e
 simp [xC,Jw,e]
theorem qc8 (l:List (Str×Int)) (x:Str):qcB (bk l) (.inr x)=decide (x∈jr l):=by
 unfold qcB bk jr
 rw [List.any_map]
 induction l with
 | nil=>simp
 | cons a l ih=>
  simp only [List.any_cons,List.map_cons,List.mem_cons,ih]
  by_cases h:a.1=x
  ·simp [h]
  ·simp [h,Ne.symm h]
noncomputable def yI (l:List (Str×Int)) (x:Str):Int:=((l.find? fun y=>decide (y.1=x)).map (·.2)).getD 0
theorem KU:∀ {l:List (Str×Int)} {x:Str},x∈jr l->(x,yI l x)∈l/\(bk l).find? (fun kv=>decide (kv.1=Sum.inr x))=some (.inr x,.int (yI l x))
 | [],x,h=>by cases h
 | a::l,x,h=>by
  by_cases e:a.1=x
  ·have hv:yI (a::l) x=a.2:=by simp [yI,e]
   rw [hv]
   refine ⟨?_,?_⟩
   ·rw [<-e]
    exact List.mem_cons_self ..
   ·simp [bk,e]
  ·have hx:x∈jr l:=by
    rcases List.mem_cons.mp (show x∈a.1::jr l from h) with z | z
    ·exact absurd z.symm e
    ·exact z
   obtain ⟨h1,h2⟩:=KU hx
   have hv:yI (a::l) x=yI l x:=by simp [yI,e]
   rw [hv]
   refine ⟨List.mem_cons_of_mem _ h1,?_⟩
   rw [<-h2]
   simp [bk,e]
theorem Gw {l:List (Str×Int)} {x:Str} (h:x∈jr l):ixD (.dct (bk l)) (.str x)=.ok (.int (yI l x)):=by
 simp [ixD,(KU h).2]
theorem qak {room:Int} {l:List (Str×Int)} (hw:OkW room l) {x:Str} (h:x∈jr l):0<=yI l x/\yI l x < room:=(hw _ (KU h).1).2
abbrev nn4:Sl:=[some .non,some .non,some .non,some .non]
theorem Qh {d:D} (h:Pl d):ww [d]=if KM 1 99 d=true then .ok (.non,[.non]) else .exc "NoRoom" [some .non]:=by
 refine runD_ap.trans ?_
 have h1:=ku h 1 99
 have hz:1<=sizeLine:=jH (by omega)
 cases e:KM 1 99 d <;> simp [wu,qv,qy,qF,jQ,h1,e,yt,kG]
theorem zi {d:D} {room:Int} {b:Bool} (h:jV [d,.int room]=.ok (.bl b,[.non,.non])):vm [d,.int room]=if b=true then .ok (.non,[.non,.non]) else .exc "NoWorths" [some .non,some .non]:=by
 refine runD_ap.trans ?_
 cases b <;> simp [vk,qv,qy,qF,jQ,h,yt,kG]
theorem Xw (t room:Int):yX [.int t,.int room]=.ok (.int (if room<=t then t - room else t),[.non,.non]):=by
 refine runD_ap.trans ?_
 by_cases h:room<=t <;> simp [gR,qv,qy,geD,Qj,Vk,h]
section
variable {ws:List Str} {p q:Int} (hw:jO ws) (hl:Wn p q)
include hw hl
noncomputable def qal (l:List (Str×Int)) (s:List (Str×Str)) (r:Int):List D:=s.map fun x=>.int ((yI l x.1+yI l x.2) % r)
omit hw hl in
theorem qff {a b r:Int} (ha:0<=a/\a < r) (hb:0<=b/\b < r):(if r<=a+b then a+b - r else a+b)=(a+b) % r:=by
 split
 ·rw [<-Int.sub_emod_right,Int.emod_eq_of_lt (by omega) (by omega)]
 ·rw [Int.emod_eq_of_lt (by omega) (by omega)]
theorem KW {r:Int} {l:List (Str×Int)} (hr:KM 1 99 (.int r)=true) (ho:OkW r l) (hs:KP l=true) (h:jV [.tup (prL l),.int r]=.ok (.bl true,[.non,.non])) :
  kB [Wd ws,Ld p q,.int r,.tup (prL l)]=if (LS (qI ws p q)).all (fun x=>decide (x∈jr l))=true then .ok (.tup (qal l (qI ws p q) r),[.non,.non,.non,.non]) else .exc "NoWorths" nn4:=by
 refine runD_ap.trans ?_
 have h1:=Gt hw hl
 have h2:=Qh (d:=.int r) trivial
 rw [hr] at h2
 have h3:=zi h
 have h4:=KS (yp hs)
 have hn:(qI ws p q).length<=6:=by simp [qI]; exact hw.2.1
 have h5:=Qg (l:=qI ws p q) (by omega)
 have hLn:(LS (qI ws p q)).length<=2000:=by
  unfold LS
  rw [(qG _).length_eq]
  have:=vt ((qI ws p q).map (·.1)++(qI ws p q).map (·.2)) []
  simp only [List.length_append,List.length_map,List.length_nil] at this
  omega
 have e1:=ug (cap:=[5]) (fi:=vp (qB [.vl] kf (qe (qg 4) qJ))) (ρ:=[some (Wd ws),some (Ld p q),some (.int r),some (.tup (prL l)),some (.lst (jz (qI ws p q))),some (.dct (bk l))]) (ρ1:=[some (Wd ws),some (Ld p q),some (.int r),some (.tup (prL l)),some (.lst (jz (qI ws p q))),some (.dct (bk l))]) (ds:=(LS (qI ws p q)).map D.str)
  (fe:=d2 inA (qg 0) (qg 1)) (fun d=>match d with | .str x=>.bl (decide (x∈jr l)) | d=>d) (by simp [qF,jQ,h5,ke]) (by rw [List.length_map]; exact jH hLn) (fun d hd=>by
   obtain ⟨x,hx,rfl⟩:=List.mem_map.mp hd
   simp [inA,ZE,qc8])
 rw [List.map_map] at e1
 have ha:=xb (fun x=>decide (x∈jr l)) (LS (qI ws p q))
 have e1':jh [] 1 [5] (vp (qB [.vl] kf (qe (qg 4) qJ))) (gNm 0) ftT (d2 inA (qg 0) (qg 1)) [some (Wd ws),some (Ld p q),some (.int r),some (.tup (prL l)),some (.lst (jz (qI ws p q))),some (.dct (bk l))]=.ok (.lst ((LS (qI ws p q)).map fun x=>.bl (decide (x∈jr l))),[some (Wd ws),some (Ld p q),some (.int r),some (.tup (prL l)),some (.lst (jz (qI ws p q))),some (.dct (bk l))]):=e1
 cases hA:(LS (qI ws p q)).all (fun x=>decide (x∈jr l)) with
 | false=>
  rw [hA] at ha
  simp [wR,qv,qy,qF,jQ,h1,h2,h3,h4,e1',ha,yt,kG]
 | true=>
  rw [hA] at ha
  have hin:∀ x∈qI ws p q,x.1∈jr l/\x.2∈jr l:=fun x hx=>by
   rw [List.all_eq_true] at hA
   exact ⟨of_decide_eq_true (hA x.1 (mem_LS.mpr ⟨x,hx,.inl rfl⟩)),of_decide_eq_true (hA x.2 (mem_LS.mpr ⟨x,hx,.inr rfl⟩))⟩
  have e2:=ug (cap:=[2,5]) (fi:=vp (qg 4)) (ρ:=[some (Wd ws),some (Ld p q),some (.int r),some (.tup (prL l)),some (.lst (jz (qI ws p q))),some (.dct (bk l))]) (ρ1:=[some (Wd ws),some (Ld p q),some (.int r),some (.tup (prL l)),some (.lst (jz (qI ws p q))),some (.dct (bk l))]) (ds:=jz (qI ws p q))
   (fe:=qB [.vl,.vl] yX (qe (d2 wW (d2 ixD (qg 2) (d2 ixD (qg 0) (dC (.int 0)))) (d2 ixD (qg 2) (d2 ixD (qg 0) (dC (.int 1))))) (qe (qg 1) qJ))) (fun d=>match d with | .tup [.str a,.str b]=>.int ((yI l a+yI l b) % r) | d=>d) (by simp [ke]) (by simp [jz]; exact jH (by omega)) (fun d hd=>by
    obtain ⟨x,hx,rfl⟩:=List.mem_map.mp hd
    obtain ⟨i1,i2⟩:=hin x hx
    have j1:=Gw i1
    have j2:=Gw i2
    have wr:=qff (qak ho i1) (qak ho i2)
    have wi:=Xw (yI l x.1+yI l x.2) r
    rw [wr] at wi
    have k0:ixD (.tup [.str x.1,.str x.2]) (.int 0)=.ok (.str x.1):=by simp [ixD,at0]
    have k1:ixD (.tup [.str x.1,.str x.2]) (.int 1)=.ok (.str x.2):=by simp [ixD,at1]
    simp [qF,jQ,k0,k1,j1,j2,wW,wi])
  have f2:(jz (qI ws p q)).map (fun d=>match d with | .tup [.str a,.str b]=>.int ((yI l a+yI l b) % r) | d=>d)=qal l (qI ws p q) r:=by simp [jz,qal]
  rw [f2] at e2
  simp [wR,qv,qy,qF,jQ,h1,h2,h3,h4,e1',ha,yt,e2,uJ]
end
theorem jP {ms:List PM} {f g:Sl->Out (Fl×Sl)} {ρ ρ1:Sl} (h:f ρ=.ok (.nx,ρ1)):XJ ms (jx f g ρ)=XJ ms (g ρ1):=by
 rw [Kc,h]
 rfl
abbrev qc9:Sl->Out (Fl×Sl):=(uC (UZ 2 qdr (d1 WD (qg 3))))
theorem Jx (a b:Option D):∀ (l:List (Str×Str)) (made:List Str) (x:Option D),made.length+2 * l.length<=1000->∃ x',yS (gNm 3) qc9 (jz l) [a,b,some (.lst (made.map D.str)),x]=.ok (.nx,[a,b,some (.lst ((made++l.flatMap fun p=>[p.1,p.2]).map D.str)),x'])
 | [],made,x,_=>⟨x,by simp [jz,yS]⟩
 | p::l,made,x,h=>by
  rw [List.length_cons] at h
  obtain ⟨x',e⟩:=Jx a b l (made++[p.1,p.2]) (some (.tup [.str p.1,.str p.2])) (by rw [List.length_append]; simp; omega)
  refine ⟨x',?_⟩
  have hz:2<=sizeLine:=jH (by omega)
  have hz2:made.length+2<=sizeLine:=jH (by omega)
  rw [show (made++(p::l).flatMap fun p=>[p.1,p.2])=(made++[p.1,p.2])++l.flatMap fun p=>[p.1,p.2] by simp,<-e]
  simp [jz,yS,qc9,gu,qdr,WD,hz,hz2]
theorem zC {ws:List Str} (hw:jO ws) {p q:Int} (hl:Wn p q):yl [Wd ws,Ld p q]=.ok (.lst ((LS (qI ws p q)).map D.str),[.non,.non]):=by
 refine runD_ap.trans ?_
 have h1:=zh hw hl
 have hn:(qI ws p q).length<=6:=by simp [qI]; exact hw.2.1
 obtain ⟨x',e⟩:=Jx (some (Wd ws)) (some (Ld p q)) (qI ws p q) [] none (by simp; omega)
 have hf:((qI ws p q).flatMap fun p=>[p.1,p.2]).length < 64:=by
  rw [Wc]
  omega
 have hs:jT (((qI ws p q).flatMap fun p=>[p.1,p.2]).foldl jI [])=LS (qI ws p q):=Xq fun x=>by
  simp only [List.mem_flatMap,List.mem_append,List.mem_map,List.mem_cons,List.not_mem_nil,or_false]
  constructor
  ·rintro ⟨p,hp,rfl | rfl⟩
   ·exact .inl ⟨p,hp,rfl⟩
   ·exact .inr ⟨p,hp,rfl⟩
  ·rintro (⟨p,hp,rfl⟩ | ⟨p,hp,rfl⟩)
   ·exact ⟨p,hp,.inl rfl⟩
   ·exact ⟨p,hp,.inr rfl⟩
 simp only [List.map_nil,List.nil_append] at e
 simp [yk,qv,qy,qF,jQ,h1,ke]
 rw [e]
 simp only [qT,vh,qL,List.getElem?_cons_succ,List.getElem?_cons_zero,jM,wZ,kP,if_pos hf,hs]
 simp [qy]
theorem Jy {ws:List Str} (hw:jO ws) {p q:Int} (hl:Wn p q) {r:Int} (hr:0 < r) {l:List (Str×Int)} (hk:∀ x∈LS (qI ws p q),x∈jr l):WT [Wd ws,Ld p q,.int r,.dct (bk l)]=.ok (.tup (qal l (qI ws p q) r),[.non,.non,.non,.non]):=by
 refine runD_ap.trans ?_
 have h1:=zh hw hl
 have hn:(qI ws p q).length<=6:=by simp [qI]; exact hw.2.1
 have e:=KL (own:=[]) (cap:=[2,3]) (fi:=vp (qB [.vl,.vl] xZ (qe (qg 0) (qe (qg 1) qJ)))) (ft:=ftT) (fe:=d2 UE (d2 wW (d2 ixD (qg 3) (qg 0)) (d2 ixD (qg 3) (qg 1))) (qg 2))
  (ρ:=[some (Wd ws),some (Ld p q),some (.int r),some (.dct (bk l))]) (ρ1:=[some (Wd ws),some (Ld p q),some (.int r),some (.dct (bk l))]) (ps:=(qI ws p q).map fun x=>(.str x.1,.str x.2)) (fun _=>true) (fun d=>match d with | (.str a,.str b)=>.int ((yI l a+yI l b) % r) | _=>.non) (by simp)
  (by simp [qF,jQ,h1,ke,jz]) (by rw [List.length_map]; exact jH (by omega)) (fun _ _=>rfl) (fun d hd _=>by
   obtain ⟨x,hx,rfl⟩:=List.mem_map.mp hd
   have j1:=Gw (hk x.1 (mem_LS.mpr ⟨x,hx,.inl rfl⟩))
   have j2:=Gw (hk x.2 (mem_LS.mpr ⟨x,hx,.inr rfl⟩))
   simp [j1,j2,wW,UE,Qj,hr])
 rw [List.filter_eq_self.mpr (fun _ _=>rfl)] at e
 have f:((qI ws p q).map fun x=>(D.str x.1,D.str x.2)).map (fun d=>match d with | (.str a,.str b)=>.int ((yI l a+yI l b) % r) | _=>.non)=qal l (qI ws p q) r:=by simp [qal]
 rw [f] at e
 unfold qbo
 rw [vj,vh,show qv Gf [Wd ws,Ld p q,.int r,.dct (bk l)]=[some (Wd ws),some (Ld p q),some (.int r),some (.dct (bk l))] from rfl,e]
 simp [uJ,qy]
theorem gc (ns:List Int) {room:Int} (hr:0 < room):∀ (Ls:List Str) (town:List D) (x:Option D),town.length+Ls.length < 1000 ->
  ∃ (es:List (Str×Int)) (town':List D) (x':Option D),jr es=Ls/\(∀ e∈es,0<=e.2/\e.2 < room)/\town'.length=town.length+Ls.length /\
   jy (gNm 0) ftT (yQ (qe (qg 0) (qe (qB [.vl,.sl 2,.vl] kO (qe (qg 1) (vf (qe (qg 3) qJ)))) qJ))) (Ls.map D.str) [x,some (scr ns),some (.lst town),some (.int room)]=.ok (prL es,[x',some (scr ns),some (.lst town'),some (.int room)])
 | [],town,x,_=>⟨[],town,x,rfl,by simp,by simp,rfl⟩
 | a::Ls,town,x,h=>by
  rw [List.length_cons] at h
  obtain ⟨r,r0,r1,hd⟩:=uu ns town (many:=room) hr (by omega)
  obtain ⟨es,town',x',a1,a0,a2,a3⟩:=gc ns hr Ls (town++[.int 0]) (some (.str a)) (by rw [List.length_append]; simp; omega)
  have z2:2<=sizeLine:=jH (by omega)
  refine ⟨(a,r)::es,town',x',by simp [jr] at a1 ⊢; exact a1,fun e he=>?_,by rw [a2,List.length_append]; simp; omega,?_⟩
  ·rcases List.mem_cons.mp he with rfl | he
   ·exact ⟨r0,r1⟩
   ·exact a0 e he
  ·simp [jy,zp,qF,jQ,hd,z2,a3,prL]
noncomputable def MORE:List (List Str):=[[],["q"],["y", "x"]]
theorem qbu:∀ m∈MORE,m.length<=2/\∀ x∈m,∃ c,az c/\x=⟨#[c]⟩:=by
 have h1:∀ m∈MORE,∀ x∈m,x∈(["q", "y", "x"]:List Str):=by decide +kernel
 have h2:∀ m∈MORE,m.length<=2:=by decide +kernel
 refine fun m hm=>⟨h2 m hm,fun x hx=>?_⟩
 have:=h1 m hm x hx
 simp only [List.mem_cons,List.not_mem_nil,or_false] at this
 rcases this with rfl | rfl | rfl
 ·exact ⟨113,by unfold az; decide,by decide +kernel⟩
 ·exact ⟨121,by unfold az; decide,by decide +kernel⟩
 ·exact ⟨120,by unfold az; decide,by decide +kernel⟩
structure Made (ws:List Str) (p q r:Int) (l:List (Str×Int)):Prop where
 hw:jO ws
 hl:Wn p q
 r0:1<=r
 r1:r<=20
 ok:OkW r l
 rise:KP l=true
 all:∀ x∈LS (qI ws p q),x∈jr l
 len:l.length<=14
theorem qda {ws:List Str} (hw:jO ws) (p q:Int):(LS (qI ws p q)).length<=12:=by
 have hs:(qI ws p q).length<=6:=by simp [qI]; exact hw.2.1
 unfold LS
 rw [(qG _).length_eq]
 have:=vt ((qI ws p q).map (·.1)++(qI ws p q).map (·.2)) []
 simp only [List.length_append,List.length_map,List.length_nil] at this
 omega
theorem qdb {ws:List Str} (hw:jO ws) (p q:Int):LS (qI ws p q)≠[]:=by
 intro z
 cases ws with
 | nil=>
  have:=hw.1
  simp at this
 | cons w ws=>
  have:zg w p∈LS (qI (w::ws) p q):=mem_LS.mpr ⟨(zg w p,zg w q),by simp [qI],.inl rfl⟩
  rw [z] at this
  cases this
theorem qen {ws:List Str} (hw:jO ws) (p q:Int):∀ x∈LS (qI ws p q),∃ c,az c/\x=⟨#[c]⟩:=fun x hx=>by
 obtain ⟨y,hy,h⟩:=mem_LS.mp hx
 obtain ⟨w,hm,rfl⟩:=List.mem_map.mp hy
 rcases h with rfl | rfl
 ·exact Xp (hw.2.2.2 w hm) p
 ·exact Xp (hw.2.2.2 w hm) q
theorem qbv (ns:List Int) (town:List D) (ht:town.length < 500) {wide:Int} (w0:1<=wide) (w1:wide<=20):∃ ws p q r l town',Made ws p q r l/\town'.length<=town.length+80/\KH [scr ns,.lst town,.int 6,.int wide]=.ok (.tup [Wd ws,Ld p q,.int r,.tup (prL l)],[.non,.lst town',.non,.non]):=by
 obtain ⟨r,r0,r1,g1⟩:=uu ns town (many:=wide) (by omega) (by omega)
 obtain ⟨p,q,t2,hl,ht2,g2⟩:=qbs ns (town++[.int 0]) (by rw [List.length_append]; simp; omega)
 rw [List.length_append] at ht2
 simp at ht2
 obtain ⟨ws,t3,hw,ht3,g3⟩:=Gs ns t2 (by omega)
 obtain ⟨d,hd,g4⟩:=KK ns t3 (MORE.map fun l=>.lst (l.map D.str)) (by simp [MORE]) (by omega)
 obtain ⟨more,hmore,rfl⟩:=List.mem_map.mp hd
 obtain ⟨hm2,hmaz⟩:=qbu more hmore
 have g5:=zC hw hl
 have hL:=qda hw p q
 have hLn:=qdb hw p q
 have hLz:=qen hw p q
 generalize hS:LS (qI ws p q)=L0 at g5 hL hLn hLz
 have hf:=vt (L0++more) []
 rw [List.length_append,List.length_nil] at hf
 have hset:=vC (L0++more) [] List.nodup_nil
 have hlen:(jT ((L0++more).foldl jI [])).length<=14:=by rw [(qG _).length_eq]; omega
 have e:wW (.lst (L0.map D.str)) (.lst (more.map D.str))=.ok (.lst ((L0++more).map D.str)):=by
  have:L0.length+more.length<=sizeLine:=jH (by omega)
  simp [wW,this]
 have e2:jM (.lst ((L0++more).map D.str))=.ok (.lst ((jT ((L0++more).foldl jI [])).map D.str)):=by
  have:(L0++more).length < 64:=by rw [List.length_append]; omega
  simp only [jM,wZ,kP,if_pos this]
 have hmem:∀ x,x∈jT ((L0++more).foldl jI [])↔x∈L0\/x∈more:=fun x=>by
  rw [(qG _).mem_iff,hset.2]
  simp
 have hrise:jT ((L0++more).foldl jI [])=jT ((jT ((L0++more).foldl jI [])).foldl jI []):=by
  have h1:=vC (jT ((L0++more).foldl jI [])) [] List.nodup_nil
  refine wn ?_ (qY _) (qY _)
  refine (qG _).trans ((Jt hset.1 h1.1 fun x=>?_).trans (qG _).symm)
  rw [h1.2,(qG _).mem_iff]
  simp
 generalize hL1:jT ((L0++more).foldl jI [])=L1 at e2 hlen hmem hrise
 obtain ⟨es,t5,x',hes,hes2,ht5,g7⟩:=gc ns (room:=1+r) (by omega) L1 (t3++[.int 0]) none (by rw [List.length_append]; simp; omega)
 have hesl:es.length=L1.length:=by rw [<-hes]; simp [jr]
 refine ⟨ws,p,q,1+r,es,t5,⟨hw,hl,by omega,by omega,fun x hx=>⟨?_,hes2 x hx⟩,?_,fun x hx=>?_,by omega⟩,?_,?_⟩
 ·have hk:x.1∈L1:=by rw [<-hes]; exact List.mem_map.mpr ⟨x,hx,rfl⟩
  rcases (hmem x.1).mp hk with z | z
  ·obtain ⟨c,hc,e⟩:=hLz x.1 z
   rw [e]; exact Xo hc
  ·obtain ⟨c,hc,e⟩:=hmaz x.1 z
   rw [e]; exact Xo hc
 ·unfold KP
  rw [hes]
  exact decide_eq_true hrise
 ·rw [hes]
  rw [hS] at hx
  exact (hmem x).mpr (.inl hx)
 ·rw [ht5,List.length_append]
  simp
  omega
 ·refine runD_ap.trans ?_
  have z4:4<=sizeLine:=jH (by omega)
  have z3:3<=sizeLine:=jH (by omega)
  unfold KG
  simp only [qv,List.map_cons,List.map_nil,List.length_cons,List.length_nil,Nat.reduceAdd,Nat.reduceSub,List.replicate,List.cons_append,List.nil_append]
  simp only [MORE,List.map_cons,List.map_nil] at g4
  refine (jP (ρ1:=[some (scr ns),some (.lst (town++[.int 0])),some (.int 6),some (.int wide),some (.int (1+r)),none,none,none,none]) (by simp [qF,jQ,g1,wW])).trans ?_
  refine (jP (ρ1:=[some (scr ns),some (.lst t2),some (.int 6),some (.int wide),some (.int (1+r)),some (Ld p q),none,none,none]) (by simp [qF,jQ,g2])).trans ?_
  refine (jP (ρ1:=[some (scr ns),some (.lst t3),some (.int 6),some (.int wide),some (.int (1+r)),some (Ld p q),some (Wd ws),none,none]) (by simp [qF,jQ,g3])).trans ?_
  refine (jP (ρ1:=[some (scr ns),some (.lst (t3++[.int 0])),some (.int 6),some (.int wide),some (.int (1+r)),some (Ld p q),some (Wd ws),some (.lst (more.map D.str)),none]) (by simp [qF,jQ,g4,z3])).trans ?_
  refine (jP (ρ1:=[some (scr ns),some (.lst (t3++[.int 0])),some (.int 6),some (.int wide),some (.int (1+r)),some (Ld p q),some (Wd ws),some (.lst (more.map D.str)),some (.lst (L1.map D.str))]) (by simp [qF,jQ,g5,e,-List.map_append,e2])).trans ?_
  have hz:(L1.map D.str).length<=sizeLine:=by rw [List.length_map]; exact jH (by omega)
  have ec:jh [1] 1 [0,1,4] (vp (qg 8)) (gNm 0) ftT (yQ (qe (qg 0) (qe (qB [.vl,.sl 2,.vl] kO (qe (qg 1) (vf (qe (qg 3) qJ)))) qJ))) [some (scr ns),some (.lst (t3++[.int 0])),some (.int 6),some (.int wide),some (.int (1+r)),some (Ld p q),some (Wd ws),some (.lst (more.map D.str)),some (.lst (L1.map D.str))]
    = .ok (.lst (prL es),[some (scr ns),some (.lst t5),some (.int 6),some (.int wide),some (.int (1+r)),some (Ld p q),some (Wd ws),some (.lst (more.map D.str)),some (.lst (L1.map D.str))]):=by
   unfold jh
   rw [show vp (qg 8) [some (scr ns),some (.lst (t3++[.int 0])),some (.int 6),some (.int wide),some (.int (1+r)),some (Ld p q),some (Wd ws),some (.lst (more.map D.str)),some (.lst (L1.map D.str))]=.ok (L1.map D.str,[some (scr ns),some (.lst (t3++[.int 0])),some (.int 6),some (.int wide),some (.int (1+r)),some (Ld p q),some (Wd ws),some (.lst (more.map D.str)),some (.lst (L1.map D.str))]) from rfl]
   simp only [qT]
   rw [if_pos hz,show kh 1 [0,1,4] [some (scr ns),some (.lst (t3++[.int 0])),some (.int 6),some (.int wide),some (.int (1+r)),some (Ld p q),some (Wd ws),some (.lst (more.map D.str)),some (.lst (L1.map D.str))]=[none,some (scr ns),some (.lst (t3++[.int 0])),some (.int (1+r))] from rfl,g7]
   simp [ju]
  rw [vj,ur]
  simp only [jZ,qL,List.getElem?_cons_zero,List.getElem?_cons_succ,qT,vh,ec,uJ,vu,vi]
  simp [z4,qy]
def qeo (ca:Str->Addr):Prop:=∀ x∈CS,∀ y∈CS,ca x=ca y->x=y
@[simp] theorem qdz {c:Addr} {i:Nat} {f:Str} {fe:Sl->Out (D×Sl)} {ρ:Sl}:YN c i f fe ρ=(fe ρ).bind fun p=>match p.2[i]? with
 | some (some (.ins k fs))=>if k=c/\fs.length < 1000 then .ok (.nx,p.2.set i (some (.ins k (vH f p.1 fs)))) else .bad
 | _=>.bad:=rfl
noncomputable def zj (ds:List D) (l:List (Str×Int)):List D:=l.foldl (fun ds x=>ds.set x.2.toNat (.str x.1)) ds
theorem zk:∀ (l:List (Str×Int)) (ds:List D),(zj ds l).length=ds.length
 | [],ds=>rfl
 | x::l,ds=>by
  show (zj (ds.set x.2.toNat (.str x.1)) l).length=_
  rw [zk l,List.length_set]
theorem Xx (a0 a1 a2 a3 a4 a5:Option D):∀ (l:List (Str×Int)) (ds:List D) (x y:Option D),(∀ e∈l,0<=e.2/\e.2 < ds.length) ->
  ∃ x' y',zr (wj 2 (qN (gNm 6) (qN (gNm 7) wg))) (qg 6) (qg 7) (l.map fun e=>.tup [.str e.1,.int e.2]) ds [a0,a1,a2,a3,a4,a5,x,y]=.ok (zj ds l,[a0,a1,a2,a3,a4,a5,x',y'])
 | [],ds,x,y,_=>⟨x,y,rfl⟩
 | e::l,ds,x,y,h=>by
  obtain ⟨x',y',ih⟩:=Xx a0 a1 a2 a3 a4 a5 l (ds.set e.2.toNat (.str e.1)) (some (.str e.1)) (some (.int e.2)) fun e' he'=>by rw [List.length_set]; exact h e' (List.mem_cons_of_mem _ he')
  refine ⟨x',y',?_⟩
  obtain ⟨h0,h1⟩:=h e (List.mem_cons_self ..)
  have hx:ixN ds.length e.2=some e.2.toNat:=by
   unfold ixN
   rw [if_pos h0,if_pos h1]
  rw [List.map_cons]
  simp only [zr,wj,qN,wg,List.length_cons,List.length_nil,Nat.reduceAdd,if_true,qac,Nat.reduceLT,List.set_cons_zero,List.set_cons_succ,qT,qL,List.getElem?_cons_zero,List.getElem?_cons_succ,hx]
  exact ih
noncomputable def qbL (l:List (Str×Int)) (s:List (Str×Str)) (r:Int):List Int:=s.map fun x=>(yI l x.1+yI l x.2) % r
theorem KY (l:List (Str×Int)) (s:List (Str×Str)) (r:Int):qal l s r=(qbL l s r).map D.int:=by simp [qal,qbL]
theorem zl:∀ l:List Int,gF (l.map D.int)=some l
 | []=>rfl
 | x::l=>by simp [gF,zl l]
noncomputable def Wf (l:List Int):Nat:=(l.foldl vY []).length
theorem Xy (x:Str) (i:Int):qdy (.tup [.str x,.int i]):=by
 refine ⟨trivial,fun xs e y hy=>?_⟩
 cases e
 rcases List.mem_cons.mp hy with rfl | hy
 ·trivial
 ·rw [List.mem_singleton.mp hy]
  trivial
theorem Gx (l:List (Str×Int)):∀ d∈prL l,qdy d:=fun d hd=>by
 obtain ⟨x,_,rfl⟩:=List.mem_map.mp hd
 exact Xy _ _
theorem Made.hr {ws:List Str} {p q r:Int} {l:List (Str×Int)} (M:Made ws p q r l):KM 1 99 (.int r)=true:=by
 have:=M.r0
 have:=M.r1
 simp [KM]
 omega
theorem Xz {ws:List Str} {p q r:Int} {l:List (Str×Int)} (M:Made ws p q r l):kB [Wd ws,Ld p q,.int r,.tup (prL l)]=.ok (.tup ((qbL l (qI ws p q) r).map D.int),[.non,.non,.non,.non]):=by
 have hw:=(Jv (Gx l) (by simp [prL]; have:=M.len; omega) r).2 l rfl M.ok
 rw [M.rise] at hw
 have:=KW M.hw M.hl M.hr M.ok M.rise hw
 rw [if_pos (List.all_eq_true.mpr fun x hx=>decide_eq_true (M.all x hx)),KY] at this
 exact this
theorem Made.ne {ws:List Str} {p q r:Int} {l:List (Str×Int)} (M:Made ws p q r l):l≠[]:=fun z=>by
 have h:=qdb M.hw p q
 obtain ⟨x,hx⟩:=List.exists_mem_of_ne_nil _ h
 have:=M.all x hx
 rw [z] at this
 cases this
theorem qam {ws:List Str} {p q r:Int} {l:List (Str×Int)} (M:Made ws p q r l):∀ k∈qbL l (qI ws p q) r,0<=k/\k < r:=fun k hk=>by
 obtain ⟨x,_,rfl⟩:=List.mem_map.mp hk
 have:=M.r0
 exact ⟨Int.emod_nonneg _ (by omega),Int.emod_lt_of_pos _ (by omega)⟩
theorem Wg:∀ l:List Int,vD (eqN 7) (l.map D.int) (l.map D.int)=some true
 | []=>by simp [vD]
 | a::l=>by
  have ih:=Wg l
  simp [vD,ih,eqN,eqS]
theorem addZ_mem {ks:List Int} {x y:Int}:y∈vY ks x↔y∈ks\/y=x:=by
 unfold vY
 split
 ·rename_i h
  constructor
  ·exact .inl
  ·rintro (h' | rfl)
   ·exact h'
   ·exact h
 ·simp
theorem Gy:∀ (l ks:List Int),(l.foldl vY ks).length<=ks.length+l.length:=xK
theorem Wh:∀ (l ks:List Int),(l.foldl vY ks).length=ks.length+l.length->l.Nodup/\∀ x∈l,x∉ks
 | [],ks,_=>⟨List.nodup_nil,by simp⟩
 | x::l,ks,h=>by
  rw [List.foldl_cons,List.length_cons] at h
  have h1:=Gy l (vY ks x)
  have h2:=VP ks x
  have hx:x∉ks:=fun z=>by
   have:vY ks x=ks:=if_pos z
   rw [this] at h1 h
   omega
  have e:vY ks x=ks++[x]:=if_neg hx
  obtain ⟨n,m⟩:=Wh l (vY ks x) (by rw [e] at h ⊢; simp at h ⊢; omega)
  refine ⟨List.nodup_cons.mpr ⟨fun z=>m x z (addZ_mem.mpr (.inr rfl)),n⟩,fun y hy=>?_⟩
  rcases List.mem_cons.mp hy with rfl | hy
  ·exact hx
  ·exact fun z=>m y hy (addZ_mem.mpr (.inl z))
theorem WV {ks:List Int} (h:Wf ks=ks.length):ks.Nodup:=(Wh ks [] (by unfold Wf at h; simp; exact h)).1
theorem Gz (k:Int):Wf [k]=1:=rfl
noncomputable def num (l:List (Str×Int)) (p q r:Int) (w:Str):Int:=(yI l (zg w p)+yI l (zg w q)) % r
theorem yq (l:List (Str×Int)) (ws:List Str) (p q r:Int):qbL l (qI ws p q) r=ws.map (num l p q r):=by simp [qbL,qI,num]
theorem ge (ds:List D) (x:Str×Int) (l:List (Str×Int)):zj ds (x::l)=zj (ds.set x.2.toNat (.str x.1)) l:=rfl
theorem gf:∀ (l:List (Str×Int)) (ds:List D) (j:Nat),(∀ e∈l,e.2.toNat≠j)->(zj ds l)[j]?=ds[j]?
 | [],ds,j,_=>rfl
 | x::l,ds,j,h=>by
  rw [ge,gf l _ j fun e he=>h e (List.mem_cons_of_mem _ he)]
  exact List.getElem?_set_ne (h x (List.mem_cons_self ..))
theorem Jz:∀ (l:List (Str×Int)) (ds:List D),(∀ e∈l,0<=e.2/\e.2 < ds.length)->(l.map (·.2)).Nodup->∀ e∈l,(zj ds l)[e.2.toNat]?=some (.str e.1)
 | [],_,_,_,_,h=>by cases h
 | x::l,ds,hb,nd,e,he=>by
  rw [List.map_cons,List.nodup_cons] at nd
  have hb':∀ e∈l,0<=e.2/\e.2 < (ds.set x.2.toNat (.str x.1)).length:=fun e he=>by rw [List.length_set]; exact hb e (List.mem_cons_of_mem _ he)
  rw [ge]
  rcases List.mem_cons.mp he with rfl | he
  ·rw [gf l _ _ fun e' he' z=>?_]
   ·obtain ⟨h0,h1⟩:=hb e (List.mem_cons_self ..)
    exact List.getElem?_set_self (by omega)
   ·obtain ⟨a0,_⟩:=hb e (List.mem_cons_self ..)
    obtain ⟨b0,_⟩:=hb e' (List.mem_cons_of_mem _ he')
    have:e'.2=e.2:=by omega
    exact nd.1 (by rw [<-this]; exact List.mem_map.mpr ⟨e',he',rfl⟩)
  ·exact Jz l _ hb' nd.2 e he
def NS (d:D):Prop:=d=.non\/∃ x,d=.str x
theorem Wi:∀ (l:List (Str×Int)) (ds:List D),(∀ d∈ds,NS d)->∀ d∈zj ds l,NS d
 | [],ds,h=>h
 | x::l,ds,h=>Wi l _ fun d hd=>by
  rcases List.mem_or_eq_of_mem_set hd with hd | rfl
  ·exact h d hd
  ·exact .inr ⟨_,rfl⟩
theorem qan (k:Nat) {d:D} (h:NS d):eqN k d d=some true:=by
 rcases h with rfl | ⟨x,rfl⟩
 ·cases k <;> rfl
 ·cases k <;> simp [eqN,eqS]
theorem KZ (k:Nat):∀ ds:List D,(∀ d∈ds,NS d)->vD (eqN k) ds ds=some true
 | [],_=>rfl
 | d::ds,h=>by
  have e:=qan k (h d (List.mem_cons_self ..))
  have ih:=KZ k ds fun d' hd=>h d' (List.mem_cons_of_mem _ hd)
  simp [vD,e,ih]
theorem qep {ds:List D} (h:∀ d∈ds,NS d):eqD (.lst ds) (.lst ds)=.ok (.bl true):=by
 simp [eqD,eqN,KZ 7 ds h]
theorem qeq {ds:List D} (h:∀ d∈ds,NS d):neD (.lst ds) (.lst ds)=.ok (.bl false):=by
 simp [neD,eqN,KZ 7 ds h]
theorem qbw (k:Nat) {d:D} (h:NS d) (w:Str):∃ v,eqN k d (.str w)=some v/\(d=.str w->v=true):=by
 rcases h with rfl | ⟨x,rfl⟩
 ·exact ⟨false,by cases k <;> rfl,fun z=>by cases z⟩
 ·refine ⟨decide (x=w),by cases k <;> simp [eqN,eqS] <;> rfl,fun z=>by cases z; simp⟩
theorem XA (w:Str):∀ ds:List D,(∀ d∈ds,NS d)->∃ v,zo 7 (.str w) ds=some v
 | [],_=>⟨_,rfl⟩
 | d::ds,h=>by
  obtain ⟨v,ih⟩:=XA w ds fun d' hd=>h d' (List.mem_cons_of_mem _ hd)
  obtain ⟨u,e,_⟩:=qbw 7 (h d (List.mem_cons_self ..)) w
  exact ⟨_,by simp only [zo,e,ih,Option.bind_some]; rfl⟩
theorem GA {w:Str} {ds:List D} (h:∀ d∈ds,NS d) (hm:D.str w∈ds):∃ j:Nat,ua (.lst ds) (.str w)=.ok (.int j):=by
 obtain ⟨v,e⟩:=XA w ds h
 have:∃ j,(ds.map fun d=>eqN 7 d (.str w) == some true).findIdx? id=some j:=by
  cases q:(ds.map fun d=>eqN 7 d (.str w) == some true).findIdx? id with
  | some j=>exact ⟨j,rfl⟩
  | none=>
   rw [List.findIdx?_eq_none_iff] at q
   have:=q (eqN 7 (.str w) (.str w) == some true) (List.mem_map.mpr ⟨_,hm,rfl⟩)
   rw [qan 7 (.inr ⟨w,rfl⟩)] at this
   cases this
 obtain ⟨j,hj⟩:=this
 exact ⟨j,by simp only [ua,e,hj]⟩
abbrev qbx:Sl->Out (Fl×Sl):=(jx (wI 8 (qB [.vl,.vl,.vl,.vl] WT (qe (d2 wW (qg 2) (yQ (qe (qg 3) qJ))) (qe (qg 5) (qe (qg 6) (qe (d1 xC (qg 7)) qJ))))))
  (sIf (jG (d2 eqD (d1 kn (qg 8)) (d1 kD (qg 8)))) (wI 2 (d2 wW (qg 2) (yQ (qe (qg 3) qJ)))) kl))
structure Kp (p q r:Int) (l:List (Str×Int)) (ks:List Str):Prop where
 nd:ks.Nodup
 wd:∀ w∈ks,XN w
 le:ks.length<=6
 key:∀ w∈ks,zg w p∈jr l/\zg w q∈jr l
theorem Kp.sub {p q r:Int} {l:List (Str×Int)} {a b:List Str} (h:Kp p q r l b) (s:a.Sublist b):Kp p q r l a:=⟨h.nd.sublist s,fun w hw=>h.wd w (s.subset hw),Nat.le_trans s.length_le h.le,fun w hw=>h.key w (s.subset hw)⟩
theorem Kp.words {p q r:Int} {l:List (Str×Int)} {a:List Str} (h:Kp p q r l a) (n:a≠[]):jO a:=⟨List.length_pos_iff.mpr n,h.le,h.nd,h.wd⟩
theorem Kp.all {p q r:Int} {l:List (Str×Int)} {a:List Str} (h:Kp p q r l a):∀ x∈LS (qI a p q),x∈jr l:=fun x hx=>by
 obtain ⟨y,hy,e⟩:=mem_LS.mp hx
 obtain ⟨w,hw,rfl⟩:=List.mem_map.mp hy
 rcases e with rfl | rfl
 ·exact (h.key w hw).1
 ·exact (h.key w hw).2
theorem GB {p q r:Int} {l:List (Str×Int)} (hl:Wn p q) (hr:0 < r) (hd:xC (.tup (prL l))=.ok (.dct (bk l))) {kept:List Str} {w:Str} (h:Kp p q r l (kept++[w])) (a b c W:Option D) :
  ∃ y',qbx [a,b,some (.tup (kept.map D.str)),some (.str w),W,some (Ld p q),some (.int r),some (.tup (prL l)),c]=.ok (.nx,[a,b,some (.tup ((if Wf ((kept++[w]).map (num l p q r))=(kept++[w]).length then kept++[w] else kept).map D.str)),some (.str w),W,some (Ld p q),some (.int r),some (.tup (prL l)),y']):=by
 have hb:=Jy (h.words (by simp)) hl hr h.all
 rw [KY,yq] at hb
 have hz:kept.length+1<=sizeLine:=jH (by have:=h.le; simp at this; omega)
 have z1:1<=sizeLine:=jH (by omega)
 have e1:wW (.tup (kept.map D.str)) (.tup [.str w])=.ok (Wd (kept++[w])):=by
  simp [wW,hz]
 have hlen:((kept++[w]).map (num l p q r)).length=(kept++[w]).length:=by simp
 have e2:kn (.tup (((kept++[w]).map (num l p q r)).map D.int))=.ok (.int (Wf ((kept++[w]).map (num l p q r)))):=by
  have h4:((kept++[w]).map (num l p q r)).length < 4000:=by rw [hlen]; have:=h.le; omega
  simp only [kn,Jg,zl,if_pos h4,Wf]
 have e3:kD (.tup (((kept++[w]).map (num l p q r)).map D.int))=.ok (.int ((kept++[w]).length:Nat)):=by
  simp only [kD,List.length_map]
 generalize hk:(kept++[w]).map (num l p q r)=ks at hb e2 e3
 refine ⟨some (.tup (ks.map D.int)),?_⟩
 have g1:(wI 8 (qB [.vl,.vl,.vl,.vl] WT (qe (d2 wW (qg 2) (yQ (qe (qg 3) qJ))) (qe (qg 5) (qe (qg 6) (qe (d1 xC (qg 7)) qJ)))))) [a,b,some (.tup (kept.map D.str)),some (.str w),W,some (Ld p q),some (.int r),some (.tup (prL l)),c]
   = .ok (.nx,[a,b,some (.tup (kept.map D.str)),some (.str w),W,some (Ld p q),some (.int r),some (.tup (prL l)),some (.tup (ks.map D.int))]):=by
  simp only [uY,gD,jZ,yL,qL,List.getElem?_cons_zero,List.getElem?_cons_succ,qT,ur,vi,List.length_cons,List.length_nil,Nat.zero_add,if_pos z1,e1,vu,vh,hd,qF,Option.map_some,hb,gC,jQ,Nat.reduceAdd,Nat.reduceLT,if_true,List.set_cons_zero,List.set_cons_succ]
 unfold qbx
 rw [Kc,g1]
 simp only [qT]
 by_cases hc:Wf ks=(kept++[w]).length
 ·have hc':(Wf ks:Int)=((kept++[w]).length:Nat):=by rw [hc]
  rw [if_pos hc]
  simp only [Jd,wN,yL,vh,qL,List.getElem?_cons_zero,List.getElem?_cons_succ,qT,e2,e3,vu,eqD,eqN,eqS,hc',beq_self_eq_true,qab,if_true,uY,ur,jZ,vi,List.length_cons,List.length_nil,Nat.zero_add,if_pos z1,e1,Nat.reduceAdd,Nat.reduceLT,List.set_cons_zero,List.set_cons_succ]
 ·have hc':((Wf ks:Int) == (((kept++[w]).length:Nat):Int))=false:=by
   rw [beq_eq_false_iff_ne]
   intro z
   exact hc (by omega)
  rw [if_neg hc]
  simp only [Jd,wN,yL,vh,qL,List.getElem?_cons_zero,List.getElem?_cons_succ,qT,e2,e3,vu,eqD,eqN,eqS,hc',qab,Bool.false_eq_true,if_false,yV]
theorem Qi {g:D->Sl->Out Sl} {fb:Sl->Out (Fl×Sl)} {d:D} {ds:List D} {ρ ρ1 ρ2:Sl} (h1:g d ρ=.ok ρ1) (h2:fb ρ1=.ok (.nx,ρ2)):yS g fb (d::ds) ρ=yS g fb ds ρ2:=by simp [yS,h1,h2]
theorem zm {p q r:Int} {l:List (Str×Int)} (hl:Wn p q) (hr:0 < r) (hd:xC (.tup (prL l))=.ok (.dct (bk l))) (a b W:Option D):∀ (rest kept:List Str) (x c:Option D),Kp p q r l (kept++rest)->(kept.map (num l p q r)).Nodup->(kept≠[]\/rest≠[]) ->
  ∃ kept' x' c',kept'≠[]/\Kp p q r l kept'/\(kept'.map (num l p q r)).Nodup/\yS (gNm 3) qbx (rest.map D.str) [a,b,some (.tup (kept.map D.str)),x,W,some (Ld p q),some (.int r),some (.tup (prL l)),c]=.ok (.nx,[a,b,some (.tup (kept'.map D.str)),x',W,some (Ld p q),some (.int r),some (.tup (prL l)),c'])
 | [],kept,x,c,h,hn,ne=>⟨kept,x,c,ne.resolve_right (by simp),by simpa using h,hn,rfl⟩
 | w::rest,kept,x,c,h,hn,ne=>by
  have hk1:Kp p q r l (kept++[w]):=h.sub (by rw [show kept++w::rest=(kept++[w])++rest by simp]; exact List.sublist_append_left ..)
  obtain ⟨y',e⟩:=GB hl hr hd hk1 a b c W
  have g0:gNm 3 (.str w) [a,b,some (.tup (kept.map D.str)),x,W,some (Ld p q),some (.int r),some (.tup (prL l)),c]=.ok [a,b,some (.tup (kept.map D.str)),some (.str w),W,some (Ld p q),some (.int r),some (.tup (prL l)),c]:=rfl
  by_cases hc:Wf ((kept++[w]).map (num l p q r))=(kept++[w]).length
  ·rw [if_pos hc] at e
   obtain ⟨k',x',c',i1,i2,i3,i4⟩:=zm hl hr hd a b W rest (kept++[w]) (some (.str w)) y' (by simpa using h) (WV (by rw [hc]; simp)) (.inl (by simp))
   exact ⟨k',x',c',i1,i2,i3,by rw [List.map_cons,Qi g0 e,i4]⟩
  ·rw [if_neg hc] at e
   have hne:kept≠[]:=fun z=>by
    subst z
    exact hc (Gz _)
   obtain ⟨k',x',c',i1,i2,i3,i4⟩:=zm hl hr hd a b W rest kept (some (.str w)) y' (h.sub (List.Sublist.append_left (List.sublist_cons_self w rest) kept)) hn (.inl hne)
   exact ⟨k',x',c',i1,i2,i3,by rw [List.map_cons,Qi g0 e,i4]⟩
theorem qby (ns:List Int) (town:List D) (ht:town.length < 500):∃ ws p q r l town',Made ws p q r l/\(ws.map (num l p q r)).Nodup/\KJ [scr ns,.lst town]=.ok (.tup [Wd ws,Ld p q,.int r,.tup (prL l)],[.non,.lst town']):=by
 obtain ⟨ws,p,q,r,l,t1,M,ht1,g1⟩:=qbv ns town ht (wide:=20) (by omega) (by omega)
 have hr:=M.r0
 have hd:=KS (yp M.rise)
 have hK:Kp p q r l ws:=⟨M.hw.2.2.1,M.hw.2.2.2,M.hw.2.1,fun w hw=>⟨M.all _ (mem_LS.mpr ⟨(zg w p,zg w q),List.mem_map.mpr ⟨w,hw,rfl⟩,.inl rfl⟩),M.all _ (mem_LS.mpr ⟨(zg w p,zg w q),List.mem_map.mpr ⟨w,hw,rfl⟩,.inr rfl⟩)⟩⟩
 obtain ⟨ks,x',c',k1,k2,k3,k4⟩:=zm (r:=r) M.hl (by omega) hd (some (scr ns)) (some (.lst t1)) (some (Wd ws)) ws [] none none (by simpa using hK) (by simp) (.inr (fun z=>by have:=M.hw.1; rw [z] at this; simp at this))
 refine ⟨ks,p,q,r,l,t1,⟨k2.words k1,M.hl,M.r0,M.r1,M.ok,M.rise,k2.all,M.len⟩,k3,?_⟩
 refine runD_ap.trans ?_
 have z0:0<=sizeLine:=Nat.zero_le _
 have z4:4<=sizeLine:=jH (by omega)
 unfold KI
 simp only [qv,List.map_cons,List.map_nil,List.length_cons,List.length_nil,Nat.reduceAdd,Nat.reduceSub,List.replicate,List.cons_append,List.nil_append]
 refine (jP (ρ1:=[some (scr ns),some (.lst t1),none,none,some (Wd ws),some (Ld p q),some (.int r),some (.tup (prL l)),none]) (by simp [qF,jQ,g1,wj,qN,wg])).trans ?_
 refine (jP (ρ1:=[some (scr ns),some (.lst t1),some (.tup []),none,some (Wd ws),some (Ld p q),some (.int r),some (.tup (prL l)),none]) (by simp [z0])).trans ?_
 refine (jP (ρ1:=[some (scr ns),some (.lst t1),some (.tup (ks.map D.str)),x',some (Wd ws),some (Ld p q),some (.int r),some (.tup (prL l)),c']) ?_).trans ?_
 ·rw [YC]
  simp only [Kd,qL,List.getElem?_cons_zero,List.getElem?_cons_succ,qT,ke]
  exact k4
 ·simp [z4,qy]
theorem wB {f g:Sl->Out (Fl×Sl)} {ρ ρ1:Sl} (h:f ρ=.ok (.nx,ρ1)):jx f g ρ=g ρ1:=by
 rw [Kc,h]
 rfl
theorem XB {c:Addr} {i:Nat} {fl:Str} {fe:Sl->Out (D×Sl)} {fi:Sl->Out (List D×Sl)} {g:D->Sl->Out Sl} {fw fx:Sl->Out (D×Sl)} {ρ ρ1 ρ2 ρE:Sl} {ds items dE:List D} {fs:List (Str×D)}
  (h1:fe ρ=.ok (.lst ds,ρ1)) (h2:ρ1[i]?=some (some (.ins c fs))) (h3:fs.length < 1000) (h4:fi (ρ1.set i none)=.ok (items,ρ2)) (h5:zr g fw fx items ds ρ2=.ok (dE,ρE)) :
  Ji c i fl fe fi g fw fx ρ=.ok (.nx,ρE.set i (some (.ins c (vH fl (.lst dE) fs)))):=by
 unfold Ji
 simp [h1,h2,h3,h4,h5]
theorem k1:¬(Str.ofString "look"=Str.ofString "width"):=by decide +kernel
theorem k2:¬(Str.ofString "look"=Str.ofString "worths"):=by decide +kernel
theorem k3:¬(Str.ofString "look"=Str.ofString "standing"):=by decide +kernel
theorem k4:¬(Str.ofString "look"=Str.ofString "asked"):=by decide +kernel
theorem k5:¬(Str.ofString "width"=Str.ofString "worths"):=by decide +kernel
theorem k6:¬(Str.ofString "width"=Str.ofString "standing"):=by decide +kernel
theorem k7:¬(Str.ofString "width"=Str.ofString "asked"):=by decide +kernel
theorem k8:¬(Str.ofString "worths"=Str.ofString "standing"):=by decide +kernel
theorem k9:¬(Str.ofString "worths"=Str.ofString "asked"):=by decide +kernel
theorem k10:¬(Str.ofString "standing"=Str.ofString "asked"):=by decide +kernel
abbrev bk4 (lk r t:D) (sd:List D):List (Str×D):=[("look",lk),("width",r),("worths",t),("standing",.lst sd)]
abbrev bk5 (lk r t:D) (sd:List D) (b:Addr):List (Str×D):=[("look",lk),("width",r),("worths",t),("standing",.lst sd),("asked",.raw (.ref b))]
theorem qfg {lk r t:D} {sd:List D} {b:Addr}:vH "asked" (.raw (.ref b)) (bk4 lk r t sd)=bk5 lk r t sd b:=by
 simp [vH,k4,k7,k9,k10]
theorem qbz {lk r t:D} {sd:List D} {b:Addr}:(bk5 lk r t sd b).lookup (Str.ofString "look")=some lk:=by
 simp [List.lookup]
theorem GC {lk r t:D} {sd:List D} {b:Addr}:(bk5 lk r t sd b).lookup (Str.ofString "width")=some r:=by
 have e:((Str.ofString "width") == (Str.ofString "look"))=false:=by decide +kernel
 simp [List.lookup,e]
theorem XC {lk r t:D} {sd:List D} {b:Addr}:(bk5 lk r t sd b).lookup (Str.ofString "worths")=some t:=by
 have e:((Str.ofString "worths") == (Str.ofString "look"))=false:=by decide +kernel
 have e2:((Str.ofString "worths") == (Str.ofString "width"))=false:=by decide +kernel
 simp [List.lookup,e,e2]
theorem ux {lk r t:D} {sd:List D} {b:Addr}:(bk5 lk r t sd b).lookup (Str.ofString "standing")=some (D.lst sd):=by
 have e:((Str.ofString "standing") == (Str.ofString "look"))=false:=by decide +kernel
 have e2:((Str.ofString "standing") == (Str.ofString "width"))=false:=by decide +kernel
 have e3:((Str.ofString "standing") == (Str.ofString "worths"))=false:=by decide +kernel
 simp [List.lookup,e,e2,e3]
theorem xc {lk r t:D} {sd:List D} {b:Addr}:(bk5 lk r t sd b).lookup (Str.ofString "asked")=some (D.raw (.ref b)):=by
 have e:((Str.ofString "asked") == (Str.ofString "look"))=false:=by decide +kernel
 have e2:((Str.ofString "asked") == (Str.ofString "width"))=false:=by decide +kernel
 have e3:((Str.ofString "asked") == (Str.ofString "worths"))=false:=by decide +kernel
 have e4:((Str.ofString "asked") == (Str.ofString "standing"))=false:=by decide +kernel
 simp [List.lookup,e,e2,e3,e4]
theorem GD {lk r t:D} {sd:List D} {b:Addr} {n:Str} (h:n∉(["look", "width", "worths", "standing", "asked"]:List Str)):((bk5 lk r t sd b).lookup n).isNone=true:=by
 simp only [List.mem_cons,List.not_mem_nil,or_false,not_or] at h
 obtain ⟨h1,h2,h3,h4,h5⟩:=h
 simp [List.lookup,beq_eq_false_iff_ne.mpr h1,beq_eq_false_iff_ne.mpr h2,beq_eq_false_iff_ne.mpr h3,beq_eq_false_iff_ne.mpr h4,beq_eq_false_iff_ne.mpr h5]
theorem f5 {c:Addr} {fs:List (Str×D)} {f:Str} {d:D} (h:fs.lookup f=some d):JF c f (.ins c fs)=.ok d:=by
 simp [JF,h]
theorem qao {r:Int} (h0:0<=r) (h1:r<=99):qbI (.lst [.non]) (.int r)=.ok (.lst (List.replicate r.toNat .non)):=by
 have:(0<=r/\r<=100000)/\1 * r.toNat<=1000000:=by omega
 simp only [qbI,List.length_cons,List.length_nil,Nat.zero_add,if_pos this]
 congr 2
 induction r.toNat with
 | zero=>rfl
 | succ n ih=>rw [List.replicate_succ,List.flatten_cons,ih,List.replicate_succ]; rfl
section
variable {ca:Str->Addr} {ws:List Str} {p q r:Int} {l:List (Str×Int)}
abbrev sdL (ws:List Str) (p q r:Int) (l:List (Str×Int)):List D:=zj (List.replicate r.toNat .non) (ws.zip (ws.map (num l p q r)))
theorem qap (ws:List Str) (ks:List Int):GY (ws.map D.str) (ks.map D.int)=(ws.zip ks).map fun e=>.tup [.str e.1,.int e.2]:=by
 unfold GY
 rw [List.zipWith_map,List.zip,List.map_zipWith]
theorem XD (M:Made ws p q r l):∀ e∈ws.zip (ws.map (num l p q r)),0<=e.2/\e.2 < ((List.replicate r.toNat D.non).length:Int):=fun e he=>by
 have hb:=qam M
 rw [yq] at hb
 have:=hb e.2 (List.of_mem_zip he).2
 rw [List.length_replicate]
 have:=M.r0
 omega
theorem qbA (M:Made ws p q r l) (hn:(ws.map (num l p q r)).Nodup):jN ca [Wd ws,Ld p q,.int r,.tup (prL l)]=.ok (bk4 (Ld p q) (.int r) (.tup (prL l)) (sdL ws p q r l)):=by
 have h:=Xz M
 rw [yq] at h
 have hlen:(ws.map (num l p q r)).length<=6:=by rw [List.length_map]; exact M.hw.2.1
 have hz:=XD M
 have hset:¬(Wf (ws.map (num l p q r)):Int) < ((ws.map (num l p q r)).length:Nat):=by
  have:∀ (l ks:List Int),l.Nodup->(∀ x∈l,x∉ks)->(l.foldl vY ks).length=ks.length+l.length:=by
   intro l
   induction l with
   | nil=>intro ks _ _; simp
   | cons x l ih=>
    intro ks nd hd
    have e:vY ks x=ks++[x]:=if_neg (hd x (List.mem_cons_self ..))
    rw [List.foldl_cons,e,ih _ (List.nodup_cons.mp nd).2 fun y hy z=>?_]
    ·simp; omega
    ·rcases List.mem_append.mp z with z | z
     ·exact hd y (List.mem_cons_of_mem _ hy) z
     ·exact (List.nodup_cons.mp nd).1 (by rw [<-List.mem_singleton.mp z]; exact hy)
  have:=this _ [] hn (by simp)
  unfold Wf
  simp only [List.length_nil,Nat.zero_add] at this
  omega
 have h4:(ws.map (num l p q r)).length < 4000:=by omega
 have e1:kn (.tup ((ws.map (num l p q r)).map D.int))=.ok (.int (Wf (ws.map (num l p q r)))):=by simp only [kn,Jg,zl,if_pos h4,Wf]
 have e2:kD (.tup ((ws.map (num l p q r)).map D.int))=.ok (.int ((ws.map (num l p q r)).length:Nat)):=by simp only [kD,List.length_map]
 obtain ⟨x',y',hf⟩:=Xx none (some (Wd ws)) (some (Ld p q)) (some (.int r)) (some (.tup (prL l))) (some (.tup ((ws.map (num l p q r)).map D.int))) (ws.zip (ws.map (num l p q r))) (List.replicate r.toNat .non) none none hz
 have zz:=qap ws (ws.map (num l p q r))
 have m:=qao (r:=r) (by have:=M.r0; omega) (by have:=M.r1; omega)
 have z1:1<=sizeLine:=jH (by omega)
 generalize hk:ws.map (num l p q r)=ks at h hset e1 e2 hf zz
 have go:kN ca (qv kM (.ins (ca "Book") []::[Wd ws,Ld p q,.int r,.tup (prL l)]))=.ok (.nx,[some (.ins (ca "Book") (bk4 (Ld p q) (.int r) (.tup (prL l)) (zj (List.replicate r.toNat .non) (ws.zip ks)))),some (Wd ws),some (Ld p q),some (.int r),some (.tup (prL l)),some (.tup (ks.map D.int)),x',y']):=by
  unfold kN
  simp only [qv,List.map_cons,List.map_nil,List.length_cons,List.length_nil,Nat.reduceAdd,Nat.reduceSub,List.replicate,List.cons_append,List.nil_append]
  rw [wB (ρ1:=[some (.ins (ca "Book") []),some (Wd ws),some (Ld p q),some (.int r),some (.tup (prL l)),some (.tup (ks.map D.int)),none,none]) (by simp [qF,jQ,h]),
   wB (ρ1:=[some (.ins (ca "Book") []),some (Wd ws),some (Ld p q),some (.int r),some (.tup (prL l)),some (.tup (ks.map D.int)),none,none]) (by simp only [Jd,wN,yL,vh,qL,List.getElem?_cons_zero,List.getElem?_cons_succ,qT,e1,e2,vu,ltD,decide_eq_false hset,qab,Bool.false_eq_true,if_false,yV]),
   wB (ρ1:=[some (.ins (ca "Book") [("look",Ld p q)]),some (Wd ws),some (Ld p q),some (.int r),some (.tup (prL l)),some (.tup (ks.map D.int)),none,none]) (by simp [vH]),
   wB (ρ1:=[some (.ins (ca "Book") [("look",Ld p q),("width",.int r)]),some (Wd ws),some (Ld p q),some (.int r),some (.tup (prL l)),some (.tup (ks.map D.int)),none,none]) (by simp [vH,k1]),
   wB (ρ1:=[some (.ins (ca "Book") [("look",Ld p q),("width",.int r),("worths",.tup (prL l))]),some (Wd ws),some (Ld p q),some (.int r),some (.tup (prL l)),some (.tup (ks.map D.int)),none,none]) (by simp [vH,k2,k5]),
   XB (ds:=List.replicate r.toNat .non) (items:=(ws.zip ks).map fun e=>.tup [.str e.1,.int e.2]) (ρ1:=[some (.ins (ca "Book") [("look",Ld p q),("width",.int r),("worths",.tup (prL l))]),some (Wd ws),some (Ld p q),some (.int r),some (.tup (prL l)),some (.tup (ks.map D.int)),none,none])
    (fs:=[("look",Ld p q),("width",.int r),("worths",.tup (prL l))]) (by simp [z1,m]) rfl (by simp) (by simp [qcG,xx,zz]) hf]
  simp [vH,k3,k6,k8]
 show qbK _ _ _ _=_
 unfold qbK
 rw [go]
 subst hk
 simp
theorem XE {lk rr t:D} {sd:List D} {b:Addr}:jq ca [.ins (ca "Book") (bk5 lk rr t sd b)]=.ok (.lst sd,[.non]):=by
 refine runD_ap.trans ?_
 have e:=f5 (c:=ca "Book") (ux (lk:=lk) (r:=rr) (t:=t) (sd:=sd) (b:=b))
 unfold vR
 rw [vj,vh,vh,show qv vQ [.ins (ca "Book") (bk5 lk rr t sd b)]=[some (.ins (ca "Book") (bk5 lk rr t sd b))] from rfl]
 simp only [qL,List.getElem?_cons_zero,qT,e,vu,WD]
 rfl
theorem qbB {w:Str} (hw:w∈ws):(w,num l p q r w)∈ws.zip (ws.map (num l p q r)):=by
 rw [List.zip_map_right]
 refine List.mem_map.mpr ⟨(w,w),?_,rfl⟩
 have:∀ (ws:List Str),w∈ws->(w,w)∈ws.zip ws:=by
  intro ws
  induction ws with
  | nil=>intro h; cases h
  | cons a l ih=>
   intro h
   rw [List.zip_cons_cons]
   rcases List.mem_cons.mp h with rfl | h
   ·exact List.mem_cons_self ..
   ·exact List.mem_cons_of_mem _ (ih h)
 exact this ws hw
theorem qdc (M:Made ws p q r l) (hn:(ws.map (num l p q r)).Nodup) {w:Str} (hw:w∈ws):(sdL ws p q r l)[(num l p q r w).toNat]?=some (.str w):=by
 refine Jz _ _ (XD M) ?_ (w,num l p q r w) (qbB hw)
 rw [List.map_snd_zip (by simp)]
 exact hn
theorem qdd:∀ d∈sdL ws p q r l,NS d:=Wi _ _ fun d hd=>.inl (List.eq_of_mem_replicate hd)
theorem Wj (M:Made ws p q r l) {w:Str} (hw:w∈ws):Made [w] p q r l:=
 ⟨⟨by simp,by simp,by simp,fun x hx=>by rw [List.mem_singleton.mp hx]; exact M.hw.2.2.2 w hw⟩,M.hl,M.r0,M.r1,M.ok,M.rise,fun x hx=>by
  obtain ⟨y,hy,e⟩:=mem_LS.mp hx
  refine M.all x (mem_LS.mpr ⟨y,?_,e⟩)
  obtain ⟨u,hu,rfl⟩:=List.mem_map.mp hy
  rw [List.mem_singleton.mp hu]
  exact List.mem_map.mpr ⟨w,hw,rfl⟩,M.len⟩
abbrev bkD (ca:Str->Addr) (ws:List Str) (p q r:Int) (l:List (Str×Int)) (b:Addr):D:=.ins (ca "Book") (bk5 (Ld p q) (.int r) (.tup (prL l)) (sdL ws p q r l) b)
theorem GE (M:Made ws p q r l) (hn:(ws.map (num l p q r)).Nodup) {w:Str} (hw:w∈ws) {b:Addr}:kj ca [bkD ca ws p q r l b,.str w]=.ok (.str w,[.non,.non]):=by
 have h:=Xz (Wj M hw)
 rw [yq] at h
 have hb:0<=num l p q r w/\num l p q r w < r:=by
  have:=qam (Wj M hw)
  rw [yq] at this
  exact this _ (by simp)
 have hs:=qdc M hn hw
 have hlen:(sdL ws p q r l).length=r.toNat:=by rw [zk,List.length_replicate]
 have e1:=f5 (c:=ca "Book") (qbz (lk:=Ld p q) (r:=.int r) (t:=.tup (prL l)) (sd:=sdL ws p q r l) (b:=b))
 have e2:=f5 (c:=ca "Book") (GC (lk:=Ld p q) (r:=.int r) (t:=.tup (prL l)) (sd:=sdL ws p q r l) (b:=b))
 have e3:=f5 (c:=ca "Book") (XC (lk:=Ld p q) (r:=.int r) (t:=.tup (prL l)) (sd:=sdL ws p q r l) (b:=b))
 have e4:=f5 (c:=ca "Book") (ux (lk:=Ld p q) (r:=.int r) (t:=.tup (prL l)) (sd:=sdL ws p q r l) (b:=b))
 have e5:ixD (.lst (sdL ws p q r l)) (.int (num l p q r w))=.ok (.str w):=by
  have:atI (sdL ws p q r l) (num l p q r w)=some (.str w):=by
   unfold atI ixN
   rw [if_pos hb.1,if_pos (by omega)]
   exact hs
  simp only [ixD,this]
 have z1:1<=sizeLine:=jH (by omega)
 unfold bkD
 generalize sdL ws p q r l=sd at e1 e2 e3 e4 e5 ⊢
 refine runD_ap.trans ?_
 have e6:ixD (.tup [.int (num l p q r w)]) (.int 0)=.ok (.int (num l p q r w)):=by simp [ixD,at0]
 unfold ki
 simp only [qv,List.map_cons,List.map_nil,List.length_cons,List.length_nil,Nat.reduceAdd,Nat.reduceSub,List.replicate,List.cons_append,List.nil_append]
 refine (jP (ρ1:=[some (.ins (ca "Book") (bk5 (Ld p q) (.int r) (.tup (prL l)) sd b)),some (.str w),some (.int (num l p q r w))]) ?_).trans ?_
 ·simp only [qbE,uY,yL,gD,jZ,ur,qL,List.getElem?_cons_zero,List.getElem?_cons_succ,qT,vi,List.length_cons,List.length_nil,Nat.zero_add,if_pos z1,vh,e1,e2,e3,vu,qF,Option.map_some,show kB [.tup [.str w],Ld p q,.int r,.tup (prL l)]=_ from h,gC,jQ,qa9,List.map_cons,List.map_nil,e6,Nat.reduceAdd,Nat.reduceLT,if_true,List.set_cons_zero,List.set_cons_succ]
 ·simp only [vj,yL,vh,qL,List.getElem?_cons_zero,List.getElem?_cons_succ,qT,e4,vu,e5]
  rfl
theorem qaq (M:Made ws p q r l) (hn:(ws.map (num l p q r)).Nodup) {w:Str} (hw:w∈ws) {b:Addr} {es:List D} (hes:es.length < 1000):∃ j:Nat,ua (.lst (sdL ws p q r l)) (.str w)=.ok (.int j)/\jW ca [bkD ca ws p q r l b,.str w,.at_ b es]=.ok (.int j,[.non,.non,.at_ b (es++[.tup [.str w,.str w]])]):=by
 obtain ⟨j,hj⟩:=GA (w:=w) (qdd (ws:=ws) (p:=p) (q:=q) (r:=r) (l:=l)) (List.mem_of_getElem? (qdc M hn hw))
 refine ⟨j,hj,?_⟩
 have hf:=GE (ca:=ca) M hn hw (b:=b)
 have hc:wt [.str w]=.ok (.non,[.non]):=by
  have:=gb (M.hw.2.2.2 w hw)
  refine runD_ap.trans ?_
  simp [wq,qv,qy,qF,jQ,this,yt]
 have e4:=f5 (c:=ca "Book") (ux (lk:=Ld p q) (r:=.int r) (t:=.tup (prL l)) (sd:=sdL ws p q r l) (b:=b))
 have e5:=f5 (c:=ca "Book") (xc (lk:=Ld p q) (r:=.int r) (t:=.tup (prL l)) (sd:=sdL ws p q r l) (b:=b))
 have hno:=GD (lk:=Ld p q) (r:=.int r) (t:=.tup (prL l)) (sd:=sdL ws p q r l) (b:=b) (n := "found_for") (by decide +kernel)
 have z2:2<=sizeLine:=jH (by omega)
 have h5:es.length < 100000:=by omega
 unfold bkD at hf ⊢
 generalize sdL ws p q r l=sd at hj hf e4 e5 hno ⊢
 refine runD_ap.trans ?_
 unfold yf
 simp only [qv,List.map_cons,List.map_nil,List.length_cons,List.length_nil,Nat.reduceAdd,Nat.reduceSub,List.replicate,List.cons_append,List.nil_append]
 generalize hB:(D.ins (ca "Book") (bk5 (Ld p q) (.int r) (.tup (prL l)) sd b))=B at hf e4 e5
 refine (jP (ρ1:=[some B,some (.str w),some (.at_ b es),none]) (by simp [qF,jQ,hc])).trans ?_
 refine (jP (ρ1:=[some B,some (.str w),some (.at_ b es),some (.str w)]) ?_).trans ?_
 ·rw [uY]
  unfold YU
  simp only [qL,List.getElem?_cons_zero,List.getElem?_cons_succ,qT]
  rw [<-hB] at hf ⊢
  simp only [hno,and_self,if_true,jZ,qL,List.getElem?_cons_zero,List.getElem?_cons_succ,qT,vi,hf,List.length_cons,List.length_nil,Nat.reduceAdd,Nat.reduceLT,List.set_cons_zero,List.set_cons_succ]
 refine (jP (ρ1:=[some B,some (.str w),some (.at_ b (es++[.tup [.str w,.str w]])),some (.str w)]) ?_).trans ?_
 ·rw [VJ]
  unfold qbg vx
  simp only [vh,qL,List.getElem?_cons_zero,List.getElem?_cons_succ,qT,e5,vu,if_true,ur,jZ,vi,List.length_cons,List.length_nil,Nat.reduceAdd,if_pos z2,if_pos h5,List.set_cons_zero,List.set_cons_succ]
 ·rw [vj,qcK]
  simp only [wN,yL,qL,List.getElem?_cons_zero,List.getElem?_cons_succ,qT,eqD,eqN,eqS,beq_self_eq_true,vu,qab,if_true]
  unfold dM
  simp only [vh,qL,List.getElem?_cons_zero,List.getElem?_cons_succ,qT,e4,vu,qbH,if_true,hj]
  rfl
end
abbrev pr (w:Str):D:=.tup [.str w,.str w]
theorem XF {ca:Str->Addr} {lk r t:D} {sd:List D} {b:Addr} {ws:List Str} (hw:ws.length<=100):kt ca [.ins (ca "Book") (bk5 lk r t sd b),.at_ b (ws.map pr)]=.ok (.tup [.int (ws.length:Nat),.int 0,.int 0],[.non,.non]):=by
 have e5:=f5 (c:=ca "Book") (xc (lk:=lk) (r:=r) (t:=t) (sd:=sd) (b:=b))
 generalize hB:(D.ins (ca "Book") (bk5 lk r t sd b))=B at e5
 have hd:∀ x y:Option D,vx 1 (d1 (JF (ca "Book") "asked") (qg 0)) [some B,some (.at_ b (ws.map pr)),x,y]=.ok (.lst (ws.map pr),[some B,some (.at_ b (ws.map pr)),x,y]):=fun x y=>by
  unfold vx
  simp only [vh,qL,List.getElem?_cons_zero,List.getElem?_cons_succ,qT,e5,vu,if_true]
 have hps:ws.map pr=(ws.map fun w=>(D.str w,D.str w)).map fun p=>.tup [p.1,p.2]:=by simp [pr]
 have hz:(ws.map fun w=>(D.str w,D.str w)).length<=sizeLine:=by rw [List.length_map]; exact jH (by omega)
 have c1:=KL (own:=[]) (cap:=[]) (fi:=vp (vx 1 (d1 (JF (ca "Book") "asked") (qg 0)))) (ft:=jG (d2 eqD (qg 1) (qg 0))) (fe:=qg 0) (ρ:=[some B,some (.at_ b (ws.map pr)),none,none]) (ρ1:=[some B,some (.at_ b (ws.map pr)),none,none]) (ps:=ws.map fun w=>(D.str w,D.str w)) (fun _=>true) (fun p=>p.1) (by simp)
  (by rw [Kd,hd,qT]; simp only [ke,qT]; rw [hps]) hz (fun p hp=>by
   obtain ⟨w,_,rfl⟩:=List.mem_map.mp hp
   simp [eqD,eqN,eqS]) (fun p _ _=>by simp)
 have c2:=KL (own:=[]) (cap:=[]) (fi:=vp (vx 1 (d1 (JF (ca "Book") "asked") (qg 0)))) (ft:=jG (d2 qdn (qg 1) (dC .non))) (fe:=qg 0) (ρ:=[some B,some (.at_ b (ws.map pr)),some (.int (ws.length:Nat)),none]) (ρ1:=[some B,some (.at_ b (ws.map pr)),some (.int (ws.length:Nat)),none]) (ps:=ws.map fun w=>(D.str w,D.str w)) (fun _=>false) (fun p=>p.1) (by simp)
  (by rw [Kd,hd,qT]; simp only [ke,qT]; rw [hps]) hz (fun p hp=>by
   obtain ⟨w,_,rfl⟩:=List.mem_map.mp hp
   simp [qdn]) (fun p _ h=>by cases h)
 rw [List.filter_eq_self.mpr (fun _ _=>rfl),List.map_map] at c1
 rw [List.filter_eq_nil_iff.mpr (fun _ _=>by simp),List.map_nil] at c2
 have z3:3<=sizeLine:=jH (by omega)
 refine runD_ap.trans ?_
 unfold vP
 simp only [qv,List.map_cons,List.map_nil,List.length_cons,List.length_nil,Nat.reduceAdd,Nat.reduceSub,List.replicate,List.cons_append,List.nil_append]
 refine (jP (ρ1:=[some B,some (.at_ b (ws.map pr)),some (.int (ws.length:Nat)),none]) (by rw [uY,vh,c1]; simp [kD])).trans ?_
 refine (jP (ρ1:=[some B,some (.at_ b (ws.map pr)),some (.int (ws.length:Nat)),some (.int 0)]) (by rw [uY,vh,c2]; simp [kD])).trans ?_
 rw [vj,ur]
 simp only [jZ,yL,vh,qL,List.getElem?_cons_zero,List.getElem?_cons_succ,qT,hd,kD,List.length_map,vu,Vk,Qj,vi,List.length_cons,List.length_nil,Nat.reduceAdd,if_pos z3,Int.sub_self,Int.sub_zero]
 rfl
theorem Wk (a0 a1 a2 a4 a5 a6 a7 g:Option D):∀ (l:List (Str×Int)) (ds:List D) (x y:Option D),(∀ e∈l,0<=e.2/\e.2 < ds.length) ->
  ∃ x' y',yS (wj 2 (qN (gNm 8) (qN (gNm 9) wg))) (VR 3 (qg 8) (qg 9)) (l.map fun e=>.tup [.str e.1,.int e.2]) [a0,a1,a2,some (.lst ds),a4,a5,a6,a7,x,y,g]=.ok (.nx,[a0,a1,a2,some (.lst (zj ds l)),a4,a5,a6,a7,x',y',g])
 | [],ds,x,y,_=>⟨x,y,rfl⟩
 | e::l,ds,x,y,h=>by
  obtain ⟨x',y',ih⟩:=Wk a0 a1 a2 a4 a5 a6 a7 g l (ds.set e.2.toNat (.str e.1)) (some (.str e.1)) (some (.int e.2)) fun e' he'=>by rw [List.length_set]; exact h e' (List.mem_cons_of_mem _ he')
  refine ⟨x',y',?_⟩
  obtain ⟨h0,h1⟩:=h e (List.mem_cons_self ..)
  have hx:ixN ds.length e.2=some e.2.toNat:=by
   unfold ixN
   rw [if_pos h0,if_pos h1]
  rw [List.map_cons,Qi (ρ1:=[a0,a1,a2,some (.lst ds),a4,a5,a6,a7,some (.str e.1),some (.int e.2),g]) (ρ2:=[a0,a1,a2,some (.lst (ds.set e.2.toNat (.str e.1))),a4,a5,a6,a7,some (.str e.1),some (.int e.2),g]) rfl ?_]
  ·exact ih
  ·unfold VR
   simp only [qL,List.getElem?_cons_zero,List.getElem?_cons_succ,qT,hx,List.set_cons_zero,List.set_cons_succ]
noncomputable def XO (sd:List D) (w:Str):Int:=match ua (.lst sd) (.str w) with
 | .ok (.int j)=>j
 | _=>0
section
variable {ca:Str->Addr} {ws:List Str} {p q r:Int} {l:List (Str×Int)}
theorem Wl (M:Made ws p q r l) (hn:(ws.map (num l p q r)).Nodup) {b:Addr}:∀ (us:List Str) (es:List D) (x:Option D),(∀ w∈us,w∈ws)->es.length+us.length < 1000 ->
  ∃ x',jy (gNm 0) ftT (dMG (ca "Book") "ask" "asked" 2 (jW ca) (qg 1) (qe (qg 0) qJ)) (us.map D.str) [x,some (bkD ca ws p q r l b),some (.at_ b es)]=.ok ((us.map (XO (sdL ws p q r l))).map D.int,[x',some (bkD ca ws p q r l b),some (.at_ b (es++us.map pr))])
 | [],es,x,_,_=>⟨x,by simp [jy]⟩
 | w::us,es,x,h,hl=>by
  rw [List.length_cons] at hl
  obtain ⟨x',ih⟩:=Wl M hn (b:=b) us (es++[pr w]) (some (.str w)) (fun u hu=>h u (List.mem_cons_of_mem _ hu)) (by rw [List.length_append]; simp; omega)
  obtain ⟨j,hj,ha⟩:=qaq (ca:=ca) M hn (h w (List.mem_cons_self ..)) (b:=b) (es:=es) (by omega)
  have hi:XO (sdL ws p q r l) w=(j:Nat):=by unfold XO; rw [hj]
  have hno:=GD (lk:=Ld p q) (r:=.int r) (t:=.tup (prL l)) (sd:=sdL ws p q r l) (b:=b) (n := "ask") (by decide +kernel)
  have hlk:=xc (lk:=Ld p q) (r:=.int r) (t:=.tup (prL l)) (sd:=sdL ws p q r l) (b:=b)
  have hG:dMG (ca "Book") "ask" "asked" 2 (jW ca) (qg 1) (qe (qg 0) qJ) [some (.str w),some (bkD ca ws p q r l b),some (.at_ b es)]=.ok (.int (j:Nat),[some (.str w),some (bkD ca ws p q r l b),some (.at_ b (es++[pr w]))]):=by
   unfold dMG
   simp only [qL,List.getElem?_cons_zero,List.getElem?_cons_succ,qT,hno,and_self,if_true,jZ,vi,hlk,List.cons_append,List.nil_append,show jW ca [bkD ca ws p q r l b,.str w,.at_ b es]=_ from ha,List.length_cons,List.length_nil,Nat.reduceAdd,List.set_cons_zero,List.set_cons_succ]
  refine ⟨x',?_⟩
  rw [show es++(w::us).map pr=(es++[pr w])++us.map pr by simp]
  simp only [List.map_cons,jy,zp,qac,List.length_cons,List.length_nil,Nat.reduceAdd,Nat.reduceLT,if_true,List.set_cons_zero,vu,qT,qcM,hG,ih,hi]
  rfl
theorem Va {b:Addr} {i:Nat} {ρ:Sl} (h:ρ[i]?=some (some (bkD ca ws p q r l b))):zT (ca "Book") "places" (jq ca) (qg i) ρ=.ok (.lst (sdL ws p q r l),ρ):=by
 have hno:=GD (lk:=Ld p q) (r:=.int r) (t:=.tup (prL l)) (sd:=sdL ws p q r l) (b:=b) (n := "places") (by decide +kernel)
 have hp:=XE (ca:=ca) (lk:=Ld p q) (rr:=.int r) (t:=.tup (prL l)) (sd:=sdL ws p q r l) (b:=b)
 unfold zT
 simp only [qL,h,qT,hno,and_self,if_true,hp]
end
theorem GF (l:List Int):neD (.lst (l.map D.int)) (.lst (l.map D.int))=.ok (.bl false):=by
 simp [neD,eqN,Wg l]
theorem qde {ca:Str->Addr} (hca:qeo ca) (ns:List Int):∃ ρ1 ds2 ρ2 fs,Xh ca (qv Xg [scr ns])=.ok (.nx,ρ1)/\qah ρ1=.ok (ds2,ρ2)/\jN ca ds2=.ok fs/\2 < ρ2.length/\10 < ρ2.length /\
  ∀ b,∃ ρ',Wa ca ((ρ2.set 2 (some (.ins (ca "Book") (vH "asked" (.raw (.ref b)) fs)))).set 10 (some (.at_ b [])))=.ok (.rt (.bl true),ρ'):=by
 have z0:0<=sizeLine:=Nat.zero_le _
 have z1:1<=sizeLine:=jH (by omega)
 have z3:3<=sizeLine:=jH (by omega)
 obtain ⟨ws,p,q,r,l,t1,M,hn,g1⟩:=qby ns [] (by simp)
 refine ⟨[some (scr ns),some (.lst t1),none,none,some (Wd ws),some (Ld p q),some (.int r),some (.tup (prL l)),none,none,none],[Wd ws,Ld p q,.int r,.tup (prL l)],[some (scr ns),some (.lst t1),none,none,some (Wd ws),some (Ld p q),some (.int r),some (.tup (prL l)),none,none,none],bk4 (Ld p q) (.int r) (.tup (prL l)) (sdL ws p q r l),?_,rfl,qbA M hn,by simp,by simp,fun b=>?_⟩
 ·unfold Xh
  simp only [qv,List.map_cons,List.map_nil,List.length_cons,List.length_nil,Nat.reduceAdd,Nat.reduceSub,List.replicate,List.cons_append,List.nil_append]
  rw [wB (ρ1:=[some (scr ns),some (.lst []),none,none,none,none,none,none,none,none,none]) (by simp [z0])]
  simp [qF,jQ,g1,wj,qN,wg]
 ·rw [qfg]
  show ∃ ρ',Wa ca [some (scr ns),some (.lst t1),some (bkD ca ws p q r l b),none,some (Wd ws),some (Ld p q),some (.int r),some (.tup (prL l)),none,none,some (.at_ b [])]=.ok (.rt (.bl true),ρ')
  have hw6:=M.hw.2.1
  have m:=qao (r:=r) (by have:=M.r0; omega) (by have:=M.r1; omega)
  have hby:=Jy M.hw M.hl (r:=r) (by have:=M.r0; omega) M.all
  rw [KY,yq] at hby
  have hd:=KS (yp M.rise)
  have zz:=qap ws (ws.map (num l p q r))
  obtain ⟨x',y',hloop⟩:=Wk (some (scr ns)) (some (.lst t1)) (some (bkD ca ws p q r l b)) (some (Wd ws)) (some (Ld p q)) (some (.int r)) (some (.tup (prL l))) (some (.at_ b [])) (ws.zip (ws.map (num l p q r))) (List.replicate r.toNat .non) none none (XD M)
  have hns:=qdd (ws:=ws) (p:=p) (q:=q) (r:=r) (l:=l)
  have hne:=qeq hns
  have heq:=qep hns
  obtain ⟨x2,hask⟩:=Wl (ca:=ca) M hn (b:=b) ws [] none (fun _ h=>h) (by simp; omega)
  have hidx:∀ w∈ws,ua (.lst (sdL ws p q r l)) (.str w)=.ok (.int (XO (sdL ws p q r l) w)):=fun w hw=>by
   obtain ⟨j,hj,_⟩:=qaq (ca:=ca) M hn hw (b:=b) (es:=[]) (by simp)
   unfold XO
   rw [hj]
  have hcnt:=XF (ca:=ca) (lk:=Ld p q) (r:=.int r) (t:=.tup (prL l)) (sd:=sdL ws p q r l) (b:=b) (ws:=ws) (by omega)
  have hlk:=xc (lk:=Ld p q) (r:=.int r) (t:=.tup (prL l)) (sd:=sdL ws p q r l) (b:=b)
  have hno:=GD (lk:=Ld p q) (r:=.int r) (t:=.tup (prL l)) (sd:=sdL ws p q r l) (b:=b) (n := "counts") (by decide +kernel)
  have hsl:(sdL ws p q r l).length < 100000:=by rw [zk,List.length_replicate]; have:=M.r1; omega
  unfold Wa
  rw [wB (ρ1:=[some (scr ns),some (.lst t1),some (bkD ca ws p q r l b),some (.lst (List.replicate r.toNat .non)),some (Wd ws),some (Ld p q),some (.int r),some (.tup (prL l)),none,none,some (.at_ b [])]) (by simp [z1,m]),
   wB (ρ1:=[some (scr ns),some (.lst t1),some (bkD ca ws p q r l b),some (.lst (sdL ws p q r l)),some (Wd ws),some (Ld p q),some (.int r),some (.tup (prL l)),x',y',some (.at_ b [])]) ?g2,
   wB (ρ1:=[some (scr ns),some (.lst t1),some (bkD ca ws p q r l b),some (.lst (sdL ws p q r l)),some (Wd ws),some (Ld p q),some (.int r),some (.tup (prL l)),x',y',some (.at_ b [])]) ?g3,
   wB (ρ1:=[some (scr ns),some (.lst t1),some (bkD ca ws p q r l b),some (.lst (sdL ws p q r l)),some (Wd ws),some (Ld p q),some (.int r),some (.tup (prL l)),x',y',some (.at_ b [])]) ?g4,
   wB (ρ1:=[some (scr ns),some (.lst t1),some (bkD ca ws p q r l b),some (.lst (sdL ws p q r l)),some (Wd ws),some (Ld p q),some (.int r),some (.tup (prL l)),x',y',some (.at_ b (ws.map pr))]) ?g5]
  case g2=>
   rw [YC]
   unfold qcG
   simp only [jZ,qL,List.getElem?_cons_zero,List.getElem?_cons_succ,qT,gD,vh,hd,vu,vi,qF,Option.map_some,hby,gC,jQ,xx,zz]
   exact hloop
  case g3=>
   rw [Jd]
   simp only [wN,yL,Va (i:=2) (ρ:=[some (scr ns),some (.lst t1),some (bkD ca ws p q r l b),some (.lst (sdL ws p q r l)),some (Wd ws),some (Ld p q),some (.int r),some (.tup (prL l)),x',y',some (.at_ b [])]) rfl,qT,qL,List.getElem?_cons_zero,List.getElem?_cons_succ,hne,vu,qab,Bool.false_eq_true,if_false,yV]
  case g4=>
   rw [VJ]
   unfold ZX
   simp only [Va (i:=2) (ρ:=[some (scr ns),some (.lst t1),some (bkD ca ws p q r l b),some (.lst (sdL ws p q r l)),some (Wd ws),some (Ld p q),some (.int r),some (.tup (prL l)),x',y',some (.at_ b [])]) rfl,qT,qa9,if_pos hsl]
  case g5=>
   have hz:(ws.map D.str).length<=sizeLine:=by rw [List.length_map]; exact jH (by omega)
   have c1:jh [10,1] 1 [2,10] (vp (qg 4)) (gNm 0) ftT (dMG (ca "Book") "ask" "asked" 2 (jW ca) (qg 1) (qe (qg 0) qJ)) [some (scr ns),some (.lst t1),some (bkD ca ws p q r l b),some (.lst (sdL ws p q r l)),some (Wd ws),some (Ld p q),some (.int r),some (.tup (prL l)),x',y',some (.at_ b [])]
     = .ok (.lst ((ws.map (XO (sdL ws p q r l))).map D.int),[some (scr ns),some (.lst t1),some (bkD ca ws p q r l b),some (.lst (sdL ws p q r l)),some (Wd ws),some (Ld p q),some (.int r),some (.tup (prL l)),x',y',some (.at_ b (ws.map pr))]):=by
    unfold jh
    rw [show vp (qg 4) [some (scr ns),some (.lst t1),some (bkD ca ws p q r l b),some (.lst (sdL ws p q r l)),some (Wd ws),some (Ld p q),some (.int r),some (.tup (prL l)),x',y',some (.at_ b [])]=.ok (ws.map D.str,[some (scr ns),some (.lst t1),some (bkD ca ws p q r l b),some (.lst (sdL ws p q r l)),some (Wd ws),some (Ld p q),some (.int r),some (.tup (prL l)),x',y',some (.at_ b [])]) from rfl]
    simp only [qT]
    rw [if_pos hz,show kh 1 [2,10] [some (scr ns),some (.lst t1),some (bkD ca ws p q r l b),some (.lst (sdL ws p q r l)),some (Wd ws),some (Ld p q),some (.int r),some (.tup (prL l)),x',y',some (.at_ b [])]=[none,some (bkD ca ws p q r l b),some (.at_ b [])] from rfl,hask]
    rfl
   have c2:=Xm (own:=[10,1]) (cap:=[3]) (fi:=vp (qg 4)) (fe:=dM qbH ua (qg 1) (qg 0)) (ρ:=[some (scr ns),some (.lst t1),some (bkD ca ws p q r l b),some (.lst (sdL ws p q r l)),some (Wd ws),some (Ld p q),some (.int r),some (.tup (prL l)),x',y',some (.at_ b (ws.map pr))]) (ρ1:=[some (scr ns),some (.lst t1),some (bkD ca ws p q r l b),some (.lst (sdL ws p q r l)),some (Wd ws),some (Ld p q),some (.int r),some (.tup (prL l)),x',y',some (.at_ b (ws.map pr))]) (ds:=ws.map D.str)
    (fun d=>match d with | .str w=>.int (XO (sdL ws p q r l) w) | d=>d) (by simp) rfl hz (fun d hd=>by
     obtain ⟨w,hw,rfl⟩:=List.mem_map.mp hd
     unfold dM
     simp only [List.map_cons,List.map_nil,List.getElem?_cons_zero,List.getElem?_cons_succ,Option.getD_some,qL,qT,qbH,if_true,hidx w hw,vu])
   have f2:(ws.map D.str).map (fun d=>match d with | .str w=>.int (XO (sdL ws p q r l) w) | d=>d)=(ws.map (XO (sdL ws p q r l))).map D.int:=by simp
   rw [f2] at c2
   have hni:=GF (ws.map (XO (sdL ws p q r l)))
   rw [Jd,wN,yL,c1]
   simp only [qT,c2,hni,vu,qab,Bool.false_eq_true,if_false,yV]
  ·refine ⟨[some (scr ns),some (.lst t1),some (bkD ca ws p q r l b),some (.lst (sdL ws p q r l)),some (Wd ws),some (Ld p q),some (.int r),some (.tup (prL l)),x',y',some (.at_ b (ws.map pr))],?_⟩
   have hcR:dMR (ca "Book") "counts" "asked" 10 (kt ca) (qg 2) [some (scr ns),some (.lst t1),some (bkD ca ws p q r l b),some (.lst (sdL ws p q r l)),some (Wd ws),some (Ld p q),some (.int r),some (.tup (prL l)),x',y',some (.at_ b (ws.map pr))]=.ok (.tup [.int (ws.length:Nat),.int 0,.int 0],[some (scr ns),some (.lst t1),some (bkD ca ws p q r l b),some (.lst (sdL ws p q r l)),some (Wd ws),some (Ld p q),some (.int r),some (.tup (prL l)),x',y',some (.at_ b (ws.map pr))]):=by
    unfold dMR
    simp only [qL,List.getElem?_cons_zero,List.getElem?_cons_succ,qT,hno,and_self,if_true,hlk,hcnt]
    rfl
   have ll:kD (Wd ws)=.ok (.int (ws.length:Nat)):=by simp [kD]
   have ee:eqD (.tup [.int (ws.length:Nat),.int 0,.int 0]) (.tup [.int (ws.length:Nat),.int 0,.int 0])=.ok (.bl true):=by simp [eqD,eqN,vD,eqS]
   rw [vj,ZP]
   simp only [yL,Va (i:=2) (ρ:=[some (scr ns),some (.lst t1),some (bkD ca ws p q r l b),some (.lst (sdL ws p q r l)),some (Wd ws),some (Ld p q),some (.int r),some (.tup (prL l)),x',y',some (.at_ b (ws.map pr))]) rfl,qT,qL,List.getElem?_cons_zero,List.getElem?_cons_succ,heq,vu,YB,if_true,hcR,ur,jZ,vh,ll,qa9,vi,List.length_cons,List.length_nil,Nat.reduceAdd,if_pos z3,ee]
end Kx
namespace Kx
open PySem PySem.Spec PyProof.Rows L2 L2.D2
theorem qE {K:Frag} {h:Heap} {mg:Str->Option Value} (X:K.In h) (G:h.Ns mainGlobals mg) {x:Str} {st:Stmt} {ps:List Str} {f:Addr} {oc:Value} {od an:Option Addr} {osl:Array (Option Value)} {kV doc pm cdv ct:Value}
  (hb:∀ (kV doc pm:Value) (an:Option Addr) (cdv ct:Value) (us:List Value),us.length=ps.length->bindArgs (PySem.W.fnOf x x (wa st) (js st) (qd st) .none kV doc pm an cdv ct) ⟨us,[]⟩=pure (ps.zip us))
  (a:nsIn K mainGlobals x=some (some (.ref f))) (l:K.lookup f=some ⟨oc,od,.func (PySem.W.fnOf x x (wa st) (js st) (qd st) .none kV doc pm an cdv ct),osl⟩) (c:codeIn K cdv x=true) (k:keepIn K (.ref f)=true):jD K mg x st ps:=
 ⟨f,_,vn l c k,mg_of X G a,(vn l c k).binds hb⟩
theorem qfh {us:List Value} {P:List Value->Prop} (hl:us.length=0) (h:P []):P us:=List.length_eq_zero_iff.mp hl ▸ h
theorem qdf {us:List Value} {n:Nat} (hl:us.length=n+1):∃ a l,us=a::l/\l.length=n:=by
 cases us with
 | nil=>cases hl
 | cons a l=>exact ⟨a,l,rfl,Nat.succ.inj hl⟩
theorem WX {us:List Value} {P:List Value->Prop} (hl:us.length=1) (h:∀ a,P [a]):P us:=by
 obtain ⟨a,l,rfl,e⟩:=qdf hl
 exact qfh (P:=fun l=>P (a::l)) e (h a)
theorem Vb {us:List Value} {P:List Value->Prop} (hl:us.length=2) (h:∀ a b,P [a,b]):P us:=by
 obtain ⟨a,l,rfl,e⟩:=qdf hl
 exact WX (P:=fun l=>P (a::l)) e (h a)
theorem qbM {us:List Value} {P:List Value->Prop} (hl:us.length=3) (h:∀ a b c,P [a,b,c]):P us:=by
 obtain ⟨a,l,rfl,e⟩:=qdf hl
 exact Vb (P:=fun l=>P (a::l)) e (h a)
theorem qdg {us:List Value} {P:List Value->Prop} (hl:us.length=4) (h:∀ a b c d,P [a,b,c,d]):P us:=by
 obtain ⟨a,l,rfl,e⟩:=qdf hl
 exact qbM (P:=fun l=>P (a::l)) e (h a)
theorem qfi {us:List Value} {P:List Value->Prop} (hl:us.length=5) (h:∀ a b c d e,P [a,b,c,d,e]):P us:=by
 obtain ⟨a,l,rfl,e⟩:=qdf hl
 exact qdg (P:=fun l=>P (a::l)) e (h a)
theorem XG {l:List Str} {f:Str->Addr} (nd:(l.map f).Nodup) {x y:Str} (hx:x∈l) (hy:y∈l) (e:f x=f y):x=y:=by
 obtain ⟨i,hi,rfl⟩:=List.mem_iff_getElem.mp hx
 obtain ⟨j,hj,rfl⟩:=List.mem_iff_getElem.mp hy
 have q:=(List.getElem_inj (h₀:=by simpa using hi) (h₁:=by simpa using hj) nd).mp (show (l.map f)[i]'(by simpa using hi)=(l.map f)[j]'(by simpa using hj) by simpa using e)
 subst q
 rfl
noncomputable def caT (T:List (Str×Addr)) (x:Str):Addr:=(T.lookup x).getD 0
noncomputable def GG (K:Frag) (Cs:List Addr) (W:Addr):Bool:=decide Cs.Nodup&&Cs.all fun c=>xcB K c&&decide (PySem.W.exmOne K (.ref c) (.ref W)=some true)&&decide (PySem.W.kitOne K (.ref c) (.type "ValueError")=some true)&&PySem.W.excIn K c bmV "ValueError.__new__"&&Cs.all fun d=>decide (PySem.W.kitOne K (.ref c) (.ref d)=some (decide (c=d)))
theorem GH {K:Frag} {Cs:List Addr} {W:Addr} (h:GG K Cs W=true):Cs.Nodup/\∀ c∈Cs,xcB K c=true/\PySem.W.exmOne K (.ref c) (.ref W)=some true/\PySem.W.kitOne K (.ref c) (.type "ValueError")=some true/\PySem.W.excIn K c bmV "ValueError.__new__"=true/\∀ d∈Cs,PySem.W.kitOne K (.ref c) (.ref d)=some (decide (c=d)):=by
 unfold GG at h
 rw [Bool.and_eq_true,List.all_eq_true] at h
 refine ⟨of_decide_eq_true h.1,fun c hc=>?_⟩
 have q:=h.2 c hc
 simp only [Bool.and_eq_true,decide_eq_true_eq,List.all_eq_true] at q
 exact ⟨q.1.1.1.1,q.1.1.1.2,q.1.1.2,q.1.2,q.2⟩
theorem qdh {c:Str} (h:c∈CS):c = "NoWords"\/c = "NoLook"\/c = "NoRoom"\/c = "NoWord"\/c = "NoWorths"\/c = "Never":=by simpa [CS] using h
theorem qer {K:Frag} {h:Heap} {mg:Str->Option Value} (X:K.In h) (G:h.Ns mainGlobals mg) {CW CB C0 C1 C2 C3 C4 C5:Addr}  {t_LEAST_PLACE t_MOST_LETTERS t_MOST_PLACE t_MOST_ROOM t_MOST_WORDS:Tok}
    (aW:nsIn K mainGlobals "WordError"=some (some (.ref CW)))
    (a0:nsIn K mainGlobals "NoWords"=some (some (.ref C0)))
    (a1:nsIn K mainGlobals "NoLook"=some (some (.ref C1)))
    (a2:nsIn K mainGlobals "NoRoom"=some (some (.ref C2)))
    (a3:nsIn K mainGlobals "NoWord"=some (some (.ref C3)))
    (a4:nsIn K mainGlobals "NoWorths"=some (some (.ref C4)))
    (a5:nsIn K mainGlobals "Never"=some (some (.ref C5)))
    (z_all:nsIn K mainGlobals "all"=some none)
    (z_bool:nsIn K mainGlobals "bool"=some none)
    (z_dict:nsIn K mainGlobals "dict"=some none)
    (z_int:nsIn K mainGlobals "int"=some none)
    (z_isinstance:nsIn K mainGlobals "isinstance"=some none)
    (z_len:nsIn K mainGlobals "len"=some none)
    (z_list:nsIn K mainGlobals "list"=some none)
    (z_max:nsIn K mainGlobals "max"=some none)
    (z_min:nsIn K mainGlobals "min"=some none)
    (z_range:nsIn K mainGlobals "range"=some none)
    (z_set:nsIn K mainGlobals "set"=some none)
    (z_sorted:nsIn K mainGlobals "sorted"=some none)
    (z_str:nsIn K mainGlobals "str"=some none)
    (z_tuple:nsIn K mainGlobals "tuple"=some none)
    (z_zip:nsIn K mainGlobals "zip"=some none)
    (c_LEAST_PLACE:nsIn K mainGlobals "LEAST_PLACE"=some (some (.int (-3) t_LEAST_PLACE)))
    (c_MOST_LETTERS:nsIn K mainGlobals "MOST_LETTERS"=some (some (.int 6 t_MOST_LETTERS)))
    (c_MOST_PLACE:nsIn K mainGlobals "MOST_PLACE"=some (some (.int 2 t_MOST_PLACE)))
    (c_MOST_ROOM:nsIn K mainGlobals "MOST_ROOM"=some (some (.int 99 t_MOST_ROOM)))
    (c_MOST_WORDS:nsIn K mainGlobals "MOST_WORDS"=some (some (.int 6 t_MOST_WORDS)))
    (ex:GG K [C0,C1,C2,C3,C4,C5] CW=true)
    (aB:nsIn K mainGlobals "Book"=some (some (.ref CB)))
    (b1:PySem.W.plainGet K CB Str.empty=true)
    (b2:PySem.W.hasDictIn K CB=true)
    (b3:PySem.W.plainOver K CB=true)
    (b4:PySem.W.findIn K (.ref CB) "__setattr__"=some (some (.builtin "object.__setattr__")))
    (n0:PySem.W.findIn K (.ref CB) "look"=some none)
    (n1:PySem.W.findIn K (.ref CB) "width"=some none)
    (n2:PySem.W.findIn K (.ref CB) "worths"=some none)
    (n3:PySem.W.findIn K (.ref CB) "standing"=some none)
    (n4:PySem.W.findIn K (.ref CB) "asked"=some none)
    (sx4:PySem.W.exmOne K (.ref C4) (.ref C4)=some true)
     :
    Zt K mg (fun x=>.ref (caT [("WordError",CW),("NoWords",C0),("NoLook",C1),("NoRoom",C2),("NoWord",C3),("NoWorths",C4),("Never",C5),("Book",CB)] x)) (caT [("WordError",CW),("NoWords",C0),("NoLook",C1),("NoRoom",C2),("NoWord",C3),("NoWorths",C4),("Never",C5),("Book",CB)])/\qeo (caT [("WordError",CW),("NoWords",C0),("NoLook",C1),("NoRoom",C2),("NoWord",C3),("NoWorths",C4),("Never",C5),("Book",CB)])/\caT [("WordError",CW),("NoWords",C0),("NoLook",C1),("NoRoom",C2),("NoWord",C3),("NoWorths",C4),("Never",C5),("Book",CB)] "Book"=CB:=by
  obtain ⟨nd,al⟩:=GH ex
  generalize hT:([("WordError",CW),("NoWords",C0),("NoLook",C1),("NoRoom",C2),("NoWord",C3),("NoWorths",C4),("Never",C5),("Book",CB)]:List (Str×Addr))=T
  have eW:caT T "WordError"=CW:=by subst hT; kernel_rfl
  have eB:caT T "Book"=CB:=by subst hT; kernel_rfl
  have e0:caT T "NoWords"=C0:=by subst hT; kernel_rfl
  have e1:caT T "NoLook"=C1:=by subst hT; kernel_rfl
  have e2:caT T "NoRoom"=C2:=by subst hT; kernel_rfl
  have e3:caT T "NoWord"=C3:=by subst hT; kernel_rfl
  have e4:caT T "NoWorths"=C4:=by subst hT; kernel_rfl
  have e5:caT T "Never"=C5:=by subst hT; kernel_rfl
  have hm:CS.map (caT T)=[C0,C1,C2,C3,C4,C5]:=by
    unfold CS
    simp only [List.map_cons,List.map_nil,e0,e1,e2,e3,e4,e5]
  have hin:∀ c∈CS,caT T c∈[C0,C1,C2,C3,C4,C5]:=fun c hc=>hm ▸ List.mem_map.mpr ⟨c,hc,rfl⟩
  refine ⟨⟨⟨fun c hc=>rfl,fun c hc=>?_,fun c hc=>(al _ (hin c hc)).1,fun c hc d hd=>(al _ (hin c hc)).2.2.2.2 _ (hin d hd),fun c hc=>(al _ (hin c hc)).2.2.1⟩,fun c hc=>?_,fun c hc=>(al _ (hin c hc)).2.2.2.1,fun x hx=>absurd hx (by simp [FS]),mg_none_of X G z_all,mg_none_of X G z_bool,mg_none_of X G z_dict,mg_none_of X G z_int,mg_none_of X G z_isinstance,mg_none_of X G z_len,mg_none_of X G z_list,mg_none_of X G z_max,mg_none_of X G z_min,mg_none_of X G z_range,mg_none_of X G z_set,mg_none_of X G z_sorted,mg_none_of X G z_str,mg_none_of X G z_tuple,mg_none_of X G z_zip,⟨_,mg_of X G c_LEAST_PLACE⟩,⟨_,mg_of X G c_MOST_LETTERS⟩,⟨_,mg_of X G c_MOST_PLACE⟩,⟨_,mg_of X G c_MOST_ROOM⟩,⟨_,mg_of X G c_MOST_WORDS⟩,?mB,?bC,?bN,?sX4⟩,?cO,eB⟩
  case mB=>rw [eB]; exact mg_of X G aB
  case bC=>rw [eB]; exact ⟨b1,b2,b3,b4⟩
  case bN=>
    rw [eB]
    intro f hf
    have hf:f = "look"\/f = "width"\/f = "worths"\/f = "standing"\/f = "asked":=by simpa using hf
    rcases hf with rfl | rfl | rfl | rfl | rfl
    · exact n0
    · exact n1
    · exact n2
    · exact n3
    · exact n4
  case sX4=>rw [e4]; exact sx4
  · show PySem.W.exmOne K (.ref (caT T c)) (.ref (caT T "WordError"))=some true
    rw [eW]
    exact (al _ (hin c hc)).2.1
  · rcases qdh hc with rfl | rfl | rfl | rfl | rfl | rfl
    · rw [e0]; exact mg_of X G a0
    · rw [e1]; exact mg_of X G a1
    · rw [e2]; exact mg_of X G a2
    · rw [e3]; exact mg_of X G a3
    · rw [e4]; exact mg_of X G a4
    · rw [e5]; exact mg_of X G a5
  case cO=>
    intro x hx y hy e
    rw [<-hm] at nd
    exact XG nd hx hy e
structure Tx (K:Frag) (mg:Str->Option Value) (ca:Str->Addr):Prop where
 x_is_letter:jD K mg "is_letter" vI ["thing"]
 x_is_word:jD K mg "is_word" vy ["thing"]
 x_check_word:jD K mg "check_word" kX ["thing"]
 x_is_between:jD K mg "is_between" kY ["thing", "least", "most"]
 x_check_room:jD K mg "check_room" va ["thing"]
 x_is_worth:jD K mg "is_worth" wO ["thing", "room"]
 x_is_worths:jD K mg "is_worths" jm ["thing", "room"]
 x_check_worths:jD K mg "check_worths" ka ["thing", "room"]
 x_is_words:jD K mg "is_words" kz ["thing"]
 x_check_words:jD K mg "check_words" kq ["thing"]
 x_is_look:jD K mg "is_look" vz ["thing"]
 x_check_look:jD K mg "check_look" vb ["thing"]
 x_letter_at:jD K mg "letter_at" vN ["word", "place"]
 x_pairs:jD K mg "pairs" yd ["words", "look"]
 x_letters_of:jD K mg "letters_of" qZ ["seen"]
 x_within:jD K mg "within" yW ["total", "room"]
 x_numbered:jD K mg "numbered" jF ["words", "look", "room", "worths"]
 x_Book_found_for:zt K (ca "Book") "found_for" "Book.found_for" qQ ["self", "word"]
 x_Book_ask:zt K (ca "Book") "ask" "Book.ask" kC ["self", "word"]
 x_Book_counts:zt K (ca "Book") "counts" "Book.counts" qK ["self"]
 x_Book___init__:qbf K (ca "Book") "Book.__init__" qX ["self", "words", "look", "room", "worths"]
 x_Book_places:zt K (ca "Book") "places" "Book.places" jp ["self"]
 x_Lat:jD K mg "_law_at" WR ["_law_word_here", "_law_place"]
 x_Lseen:jD K mg "_law_seen" yg ["_law_words_here", "_law_look_here"]
 x_Lby:jD K mg "_law_by" WS ["_law_words_here", "_law_look_here", "_law_room", "_law_book"]
 x_Lcell_at:jD K mg "_law_cell_at" wS ["_law_script", "_law_k"]
 x_Lmixed:jD K mg "_law_mixed" yY ["_law_script", "_law_k", "_law_many"]
 x_Ldraw:jD K mg "_law_draw" gX ["_law_script", "_law_town", "_law_many"]
 x_Lpick:jD K mg "_law_pick" gY ["_law_script", "_law_town", "_law_some"]
 x_Lword:jD K mg "_law_word" yj ["_law_script", "_law_town", "_law_letters_here", "_law_most"]
 x_Lwords:jD K mg "_law_words" xa ["_law_script", "_law_town", "_law_most"]
 x_Llook:jD K mg "_law_look" Qc ["_law_script", "_law_town"]
 x_Lletters:jD K mg "_law_letters" wU ["_law_words_here", "_law_look_here"]
 x_Lmade:jD K mg "_law_made" ym ["_law_script", "_law_town", "_law_most", "_law_wide"]
 x_Lgood:jD K mg "_law_good" Qd ["_law_script", "_law_town"]
theorem qdi {P:Program} {w:World} {K:Frag} {mg:Str->Option Value} {base:Heap} {cv:Str->Value} {ca:Str->Addr} {f:Addr} {fd:FuncData} (Z:Zt K mg cv ca) (T:Tx K mg ca) (F:Fun K "law" "law" zA f fd):FnOk P w K mg base (CXk P w) 9 f fd ["_law_script"] (spL K ca):=by
 have o_is_letter:=Jl (P:=P) (w:=w) (base:=base) Z T.x_is_letter 
 have o_is_word:=WO (P:=P) (w:=w) (base:=base) Z T.x_is_word o_is_letter
 have o_check_word:=gI (P:=P) (w:=w) (base:=base) Z T.x_check_word o_is_word
 have o_is_between:=gK (P:=P) (w:=w) (base:=base) Z T.x_is_between 
 have o_check_room:=gM (P:=P) (w:=w) (base:=base) Z T.x_check_room o_is_between
 have o_is_worth:=Kk (P:=P) (w:=w) (base:=base) Z T.x_is_worth o_is_between o_is_letter
 have o_is_worths:=Jm (P:=P) (w:=w) (base:=base) Z T.x_is_worths o_is_worth
 have o_check_worths:=xS (P:=P) (w:=w) (base:=base) Z T.x_check_worths o_is_worths
 have o_is_words:=Km (P:=P) (w:=w) (base:=base) Z T.x_is_words o_is_word
 have o_check_words:=zv (P:=P) (w:=w) (base:=base) Z T.x_check_words o_is_words
 have o_is_look:=WQ (P:=P) (w:=w) (base:=base) Z T.x_is_look o_is_between
 have o_check_look:=gO (P:=P) (w:=w) (base:=base) Z T.x_check_look o_is_look
 have o_letter_at:=Jn (P:=P) (w:=w) (base:=base) Z T.x_letter_at 
 have o_pairs:=Gc (P:=P) (w:=w) (base:=base) Z T.x_pairs o_check_words o_check_look o_letter_at
 have o_letters_of:=gQ (P:=P) (w:=w) (base:=base) Z T.x_letters_of 
 have o_within:=YX (P:=P) (w:=w) (base:=base) Z T.x_within 
 have o_numbered:=Kr (P:=P) (w:=w) (base:=base) Z T.x_numbered o_check_room o_check_worths o_pairs o_letters_of o_within
 have o_Book_found_for:=ye (P:=P) (w:=w) (base:=base) Z T.x_Book_found_for o_numbered
 have o_Book_ask:=Ks (P:=P) (w:=w) (base:=base) Z T.x_Book_ask o_check_word o_Book_found_for
 have o_Book_counts:=zw (P:=P) (w:=w) (base:=base) Z T.x_Book_counts 
 have o_Book___init__:=yM (P:=P) (w:=w) (base:=base) Z T.x_Book___init__ o_numbered
 have o_Book_places:=zy (P:=P) (w:=w) (base:=base) Z T.x_Book_places 
 have o_Lat:=qc1 (P:=P) (w:=w) (base:=base) Z T.x_Lat 
 have o_Lseen:=Ge (P:=P) (w:=w) (base:=base) Z T.x_Lseen o_Lat
 have o_Lby:=qc3 (P:=P) (w:=w) (base:=base) Z T.x_Lby o_Lseen
 have o_Lcell_at:=Kv (P:=P) (w:=w) (base:=base) Z T.x_Lcell_at 
 have o_Lmixed:=Xa (P:=P) (w:=w) (base:=base) Z T.x_Lmixed o_Lcell_at
 have o_Ldraw:=Gh (P:=P) (w:=w) (base:=base) Z T.x_Ldraw o_Lmixed
 have o_Lpick:=Gj (P:=P) (w:=w) (base:=base) Z T.x_Lpick o_Ldraw
 have o_Lword:=Gm (P:=P) (w:=w) (base:=base) Z T.x_Lword o_Ldraw o_Lpick
 have o_Lwords:=Xd (P:=P) (w:=w) (base:=base) Z T.x_Lwords o_Ldraw o_Lpick o_Lword
 have o_Llook:=Go (P:=P) (w:=w) (base:=base) Z T.x_Llook o_Ldraw
 have o_Lletters:=KD (P:=P) (w:=w) (base:=base) Z T.x_Lletters o_Lseen
 have o_Lmade:=Gp (P:=P) (w:=w) (base:=base) Z T.x_Lmade o_Ldraw o_Lpick o_Lwords o_Llook o_Lletters
 have o_Lgood:=Gq (P:=P) (w:=w) (base:=base) Z T.x_Lgood o_Lby o_Lmade
 exact qc4 Z F o_Book_counts o_Book_ask o_Book_places o_Book___init__ o_Lby o_Lgood
def GJ (K:Frag):Sp:=fun vs H Q _=>∃ (a:Addr) (ns:List Int),vs=[.ref a]/\SqL K H a (ns.map V.int)/\∀ H',Q (.bl true) H'
theorem Wm {K:Frag} {F:Hp}:∀ ns:List Int,IsL K F (ns.map V.int) (ns.map D.int)
 | []=>.nil
 | n::ns=>.cons (.int n) (Wm ns)
theorem qes {K:Frag}  {ca:Str->Addr} (h:qeo ca) (vs:List V) (H:Hp) (Q:VK) (E:XK) (q:GJ K vs H Q E):spL K ca vs H Q E:=by
 obtain ⟨a,ns,rfl,hs,hq⟩:=q
 obtain ⟨ρ1,ds2,ρ2,fs,h1,h2,h3,h4,h5,h6⟩:=qde h ns
 refine ⟨H,[scr ns],.ref a,rfl,rfl,Same.refl _,.cons (.lst hs (Wm ns)) .nil,ρ1,ds2,ρ2,fs,.bl true,h1,h2,h3,h4,h5,h6,fun v F' H' is=>?_⟩
 cases is
 exact hq H'
abbrev NsX (K:Frag) (x:Str) (f:Addr):Prop:=nsIn K mainGlobals x=some (some (.ref f))
abbrev LkX (K:Frag) (x:Str) (st:Stmt) (f:Addr) (oc:Value) (od an:Option Addr) (sl:Array (Option Value)) (kV dc pm cd ct:Value):Prop:=K.lookup f=some ⟨oc,od,.func (PySem.W.fnOf x x (wa st) (js st) (qd st) .none kV dc pm an cd ct),sl⟩
abbrev LkM (K:Frag) (x q:Str) (st:Stmt) (f:Addr) (oc:Value) (od an:Option Addr) (sl:Array (Option Value)) (kV dc pm cd ct:Value):Prop:=K.lookup f=some ⟨oc,od,.func (PySem.W.fnOf x q (wa st) (js st) (qd st) .none kV dc pm an cd ct),sl⟩
theorem qdj {l:PySem.W.OpenLaw} {w:World} {K:Frag} {h:Heap} {mg:Str->Option Value} {fa:Addr} (X:K.In h) (G:h.Ns mainGlobals mg) (hfa:mg "law"=some (.ref fa)) {CW CB C0 C1 C2 C3 C4 C5:Addr} {t_LEAST_PLACE t_MOST_LETTERS t_MOST_PLACE t_MOST_ROOM t_MOST_WORDS:Tok} {f0:Addr} {v0:Value} {o0 p0:Option Addr} {s0:Array (Option Value)} {g0 h0 i0 j0 m0:Value} {f1:Addr} {v1:Value} {o1 p1:Option Addr} {s1:Array (Option Value)} {g1 h1 i1 j1 m1:Value} {f2:Addr} {v2:Value} {o2 p2:Option Addr} {s2:Array (Option Value)} {g2 h2 i2 j2 m2:Value} {f3:Addr} {v3:Value} {o3 p3:Option Addr} {s3:Array (Option Value)} {g3 h3 i3 j3 m3:Value} {f4:Addr} {v4:Value} {o4 p4:Option Addr} {s4:Array (Option Value)} {g4 h4 i4 j4 m4:Value} {f5:Addr} {v5:Value} {o5 p5:Option Addr} {s5:Array (Option Value)} {g5 h5 i5 j5 m5:Value} {f6:Addr} {v6:Value} {o6 p6:Option Addr} {s6:Array (Option Value)} {g6 h6 i6 j6 m6:Value} {f7:Addr} {v7:Value} {o7 p7:Option Addr} {s7:Array (Option Value)} {g7 h7 i7 j7 m7:Value} {f8:Addr} {v8:Value} {o8 p8:Option Addr} {s8:Array (Option Value)} {g8 h8 i8 j8 m8:Value} {f9:Addr} {v9:Value} {o9 p9:Option Addr} {s9:Array (Option Value)} {g9 h9 i9 j9 m9:Value} {f10:Addr} {v10:Value} {o10 p10:Option Addr} {s10:Array (Option Value)} {g10 h10 i10 j10 m10:Value} {f11:Addr} {v11:Value} {o11 p11:Option Addr} {s11:Array (Option Value)} {g11 h11 i11 j11 m11:Value} {f12:Addr} {v12:Value} {o12 p12:Option Addr} {s12:Array (Option Value)} {g12 h12 i12 j12 m12:Value} {f13:Addr} {v13:Value} {o13 p13:Option Addr} {s13:Array (Option Value)} {g13 h13 i13 j13 m13:Value} {f14:Addr} {v14:Value} {o14 p14:Option Addr} {s14:Array (Option Value)} {g14 h14 i14 j14 m14:Value} {f15:Addr} {v15:Value} {o15 p15:Option Addr} {s15:Array (Option Value)} {g15 h15 i15 j15 m15:Value} {f16:Addr} {v16:Value} {o16 p16:Option Addr} {s16:Array (Option Value)} {g16 h16 i16 j16 m16:Value} {f17:Addr} {v17:Value} {o17 p17:Option Addr} {s17:Array (Option Value)} {g17 h17 i17 j17 m17:Value} {f18:Addr} {v18:Value} {o18 p18:Option Addr} {s18:Array (Option Value)} {g18 h18 i18 j18 m18:Value} {f19:Addr} {v19:Value} {o19 p19:Option Addr} {s19:Array (Option Value)} {g19 h19 i19 j19 m19:Value} {f20:Addr} {v20:Value} {o20 p20:Option Addr} {s20:Array (Option Value)} {g20 h20 i20 j20 m20:Value} {f21:Addr} {v21:Value} {o21 p21:Option Addr} {s21:Array (Option Value)} {g21 h21 i21 j21 m21:Value} {f22:Addr} {v22:Value} {o22 p22:Option Addr} {s22:Array (Option Value)} {g22 h22 i22 j22 m22:Value} {f23:Addr} {v23:Value} {o23 p23:Option Addr} {s23:Array (Option Value)} {g23 h23 i23 j23 m23:Value} {f24:Addr} {v24:Value} {o24 p24:Option Addr} {s24:Array (Option Value)} {g24 h24 i24 j24 m24:Value} {f25:Addr} {v25:Value} {o25 p25:Option Addr} {s25:Array (Option Value)} {g25 h25 i25 j25 m25:Value} {f26:Addr} {v26:Value} {o26 p26:Option Addr} {s26:Array (Option Value)} {g26 h26 i26 j26 m26:Value} {f27:Addr} {v27:Value} {o27 p27:Option Addr} {s27:Array (Option Value)} {g27 h27 i27 j27 m27:Value} {f28:Addr} {v28:Value} {o28 p28:Option Addr} {s28:Array (Option Value)} {g28 h28 i28 j28 m28:Value} {f29:Addr} {v29:Value} {o29 p29:Option Addr} {s29:Array (Option Value)} {g29 h29 i29 j29 m29:Value} {f30:Addr} {v30:Value} {o30 p30:Option Addr} {s30:Array (Option Value)} {g30 h30 i30 j30 m30:Value} {f31:Addr} {v31:Value} {o31 p31:Option Addr} {s31:Array (Option Value)} {g31 h31 i31 j31 m31:Value} {f32:Addr} {v32:Value} {o32 p32:Option Addr} {s32:Array (Option Value)} {g32 h32 i32 j32 m32:Value} {f33:Addr} {v33:Value} {o33 p33:Option Addr} {s33:Array (Option Value)} {g33 h33 i33 j33 m33:Value} {f34:Addr} {v34:Value} {o34 p34:Option Addr} {s34:Array (Option Value)} {g34 h34 i34 j34 m34:Value} {f35:Addr} {v35:Value} {o35 p35:Option Addr} {s35:Array (Option Value)} {g35 h35 i35 j35 m35:Value}
  (aW:nsIn K mainGlobals "WordError"=some (some (.ref CW)))
  (a0:nsIn K mainGlobals "NoWords"=some (some (.ref C0)))
  (a1:nsIn K mainGlobals "NoLook"=some (some (.ref C1)))
  (a2:nsIn K mainGlobals "NoRoom"=some (some (.ref C2)))
  (a3:nsIn K mainGlobals "NoWord"=some (some (.ref C3)))
  (a4:nsIn K mainGlobals "NoWorths"=some (some (.ref C4)))
  (a5:nsIn K mainGlobals "Never"=some (some (.ref C5)))
  (z_all:nsIn K mainGlobals "all"=some none)
  (z_bool:nsIn K mainGlobals "bool"=some none)
  (z_dict:nsIn K mainGlobals "dict"=some none)
  (z_int:nsIn K mainGlobals "int"=some none)
  (z_isinstance:nsIn K mainGlobals "isinstance"=some none)
  (z_len:nsIn K mainGlobals "len"=some none)
  (z_list:nsIn K mainGlobals "list"=some none)
  (z_max:nsIn K mainGlobals "max"=some none)
  (z_min:nsIn K mainGlobals "min"=some none)
  (z_range:nsIn K mainGlobals "range"=some none)
  (z_set:nsIn K mainGlobals "set"=some none)
  (z_sorted:nsIn K mainGlobals "sorted"=some none)
  (z_str:nsIn K mainGlobals "str"=some none)
  (z_tuple:nsIn K mainGlobals "tuple"=some none)
  (z_zip:nsIn K mainGlobals "zip"=some none)
  (c_LEAST_PLACE:nsIn K mainGlobals "LEAST_PLACE"=some (some (.int (-3) t_LEAST_PLACE)))
  (c_MOST_LETTERS:nsIn K mainGlobals "MOST_LETTERS"=some (some (.int 6 t_MOST_LETTERS)))
  (c_MOST_PLACE:nsIn K mainGlobals "MOST_PLACE"=some (some (.int 2 t_MOST_PLACE)))
  (c_MOST_ROOM:nsIn K mainGlobals "MOST_ROOM"=some (some (.int 99 t_MOST_ROOM)))
  (c_MOST_WORDS:nsIn K mainGlobals "MOST_WORDS"=some (some (.int 6 t_MOST_WORDS)))
  (ex:GG K [C0,C1,C2,C3,C4,C5] CW=true)
  (aB:nsIn K mainGlobals "Book"=some (some (.ref CB)))
  (b1:PySem.W.plainGet K CB Str.empty=true)
  (b2:PySem.W.hasDictIn K CB=true)
  (b3:PySem.W.plainOver K CB=true)
  (b4:PySem.W.findIn K (.ref CB) "__setattr__"=some (some (.builtin "object.__setattr__")))
  (n0:PySem.W.findIn K (.ref CB) "look"=some none)
  (n1:PySem.W.findIn K (.ref CB) "width"=some none)
  (n2:PySem.W.findIn K (.ref CB) "worths"=some none)
  (n3:PySem.W.findIn K (.ref CB) "standing"=some none)
  (n4:PySem.W.findIn K (.ref CB) "asked"=some none)
  (sx4:PySem.W.exmOne K (.ref C4) (.ref C4)=some true)
  (b_0:NsX K "is_letter" f0) (l_0:LkX K "is_letter" vI f0 v0 o0 p0 s0 g0 h0 i0 j0 m0) (d_0:codeIn K j0 "is_letter"=true) (k_0:keepIn K (.ref f0)=true)
  (b_1:NsX K "is_word" f1) (l_1:LkX K "is_word" vy f1 v1 o1 p1 s1 g1 h1 i1 j1 m1) (d_1:codeIn K j1 "is_word"=true) (k_1:keepIn K (.ref f1)=true)
  (b_2:NsX K "check_word" f2) (l_2:LkX K "check_word" kX f2 v2 o2 p2 s2 g2 h2 i2 j2 m2) (d_2:codeIn K j2 "check_word"=true) (k_2:keepIn K (.ref f2)=true)
  (b_3:NsX K "is_between" f3) (l_3:LkX K "is_between" kY f3 v3 o3 p3 s3 g3 h3 i3 j3 m3) (d_3:codeIn K j3 "is_between"=true) (k_3:keepIn K (.ref f3)=true)
  (b_4:NsX K "check_room" f4) (l_4:LkX K "check_room" va f4 v4 o4 p4 s4 g4 h4 i4 j4 m4) (d_4:codeIn K j4 "check_room"=true) (k_4:keepIn K (.ref f4)=true)
  (b_5:NsX K "is_worth" f5) (l_5:LkX K "is_worth" wO f5 v5 o5 p5 s5 g5 h5 i5 j5 m5) (d_5:codeIn K j5 "is_worth"=true) (k_5:keepIn K (.ref f5)=true)
  (b_6:NsX K "is_worths" f6) (l_6:LkX K "is_worths" jm f6 v6 o6 p6 s6 g6 h6 i6 j6 m6) (d_6:codeIn K j6 "is_worths"=true) (k_6:keepIn K (.ref f6)=true)
  (b_7:NsX K "check_worths" f7) (l_7:LkX K "check_worths" ka f7 v7 o7 p7 s7 g7 h7 i7 j7 m7) (d_7:codeIn K j7 "check_worths"=true) (k_7:keepIn K (.ref f7)=true)
  (b_8:NsX K "is_words" f8) (l_8:LkX K "is_words" kz f8 v8 o8 p8 s8 g8 h8 i8 j8 m8) (d_8:codeIn K j8 "is_words"=true) (k_8:keepIn K (.ref f8)=true)
  (b_9:NsX K "check_words" f9) (l_9:LkX K "check_words" kq f9 v9 o9 p9 s9 g9 h9 i9 j9 m9) (d_9:codeIn K j9 "check_words"=true) (k_9:keepIn K (.ref f9)=true)
  (b_10:NsX K "is_look" f10) (l_10:LkX K "is_look" vz f10 v10 o10 p10 s10 g10 h10 i10 j10 m10) (d_10:codeIn K j10 "is_look"=true) (k_10:keepIn K (.ref f10)=true)
  (b_11:NsX K "check_look" f11) (l_11:LkX K "check_look" vb f11 v11 o11 p11 s11 g11 h11 i11 j11 m11) (d_11:codeIn K j11 "check_look"=true) (k_11:keepIn K (.ref f11)=true)
  (b_12:NsX K "letter_at" f12) (l_12:LkX K "letter_at" vN f12 v12 o12 p12 s12 g12 h12 i12 j12 m12) (d_12:codeIn K j12 "letter_at"=true) (k_12:keepIn K (.ref f12)=true)
  (b_13:NsX K "pairs" f13) (l_13:LkX K "pairs" yd f13 v13 o13 p13 s13 g13 h13 i13 j13 m13) (d_13:codeIn K j13 "pairs"=true) (k_13:keepIn K (.ref f13)=true)
  (b_14:NsX K "letters_of" f14) (l_14:LkX K "letters_of" qZ f14 v14 o14 p14 s14 g14 h14 i14 j14 m14) (d_14:codeIn K j14 "letters_of"=true) (k_14:keepIn K (.ref f14)=true)
  (b_15:NsX K "within" f15) (l_15:LkX K "within" yW f15 v15 o15 p15 s15 g15 h15 i15 j15 m15) (d_15:codeIn K j15 "within"=true) (k_15:keepIn K (.ref f15)=true)
  (b_16:NsX K "numbered" f16) (l_16:LkX K "numbered" jF f16 v16 o16 p16 s16 g16 h16 i16 j16 m16) (d_16:codeIn K j16 "numbered"=true) (k_16:keepIn K (.ref f16)=true)
  (b_17:PySem.W.findIn K (.ref CB) "found_for"=some (some (.ref f17))) (l_17:LkM K "found_for" "Book.found_for" qQ f17 v17 o17 p17 s17 g17 h17 i17 j17 m17) (d_17:codeIn K j17 "Book.found_for"=true) (k_17:keepIn K (.ref f17)=true) (q_17:PySem.W.isFn K (.ref f17)=true)
  (b_18:PySem.W.findIn K (.ref CB) "ask"=some (some (.ref f18))) (l_18:LkM K "ask" "Book.ask" kC f18 v18 o18 p18 s18 g18 h18 i18 j18 m18) (d_18:codeIn K j18 "Book.ask"=true) (k_18:keepIn K (.ref f18)=true) (q_18:PySem.W.isFn K (.ref f18)=true)
  (b_19:PySem.W.findIn K (.ref CB) "counts"=some (some (.ref f19))) (l_19:LkM K "counts" "Book.counts" qK f19 v19 o19 p19 s19 g19 h19 i19 j19 m19) (d_19:codeIn K j19 "Book.counts"=true) (k_19:keepIn K (.ref f19)=true) (q_19:PySem.W.isFn K (.ref f19)=true)
  (b_20:PySem.W.findIn K (.ref CB) "__init__"=some (some (.ref f20))) (l_20:LkM K "__init__" "Book.__init__" qX f20 v20 o20 p20 s20 g20 h20 i20 j20 m20) (d_20:codeIn K j20 "Book.__init__"=true) (k_20:keepIn K (.ref f20)=true) (q_20:PySem.W.isFn K (.ref f20)=true) (y1:PySem.W.makesIn K CB=true) (y2:keepIn K (.ref CB)=true)
  (b_21:PySem.W.findIn K (.ref CB) "places"=some (some (.ref f21))) (l_21:LkM K "places" "Book.places" jp f21 v21 o21 p21 s21 g21 h21 i21 j21 m21) (d_21:codeIn K j21 "Book.places"=true) (k_21:keepIn K (.ref f21)=true) (q_21:PySem.W.isFn K (.ref f21)=true)
  (b_22:NsX K "_law_at" f22) (l_22:LkX K "_law_at" WR f22 v22 o22 p22 s22 g22 h22 i22 j22 m22) (d_22:codeIn K j22 "_law_at"=true) (k_22:keepIn K (.ref f22)=true)
  (b_23:NsX K "_law_seen" f23) (l_23:LkX K "_law_seen" yg f23 v23 o23 p23 s23 g23 h23 i23 j23 m23) (d_23:codeIn K j23 "_law_seen"=true) (k_23:keepIn K (.ref f23)=true)
  (b_24:NsX K "_law_by" f24) (l_24:LkX K "_law_by" WS f24 v24 o24 p24 s24 g24 h24 i24 j24 m24) (d_24:codeIn K j24 "_law_by"=true) (k_24:keepIn K (.ref f24)=true)
  (b_25:NsX K "_law_cell_at" f25) (l_25:LkX K "_law_cell_at" wS f25 v25 o25 p25 s25 g25 h25 i25 j25 m25) (d_25:codeIn K j25 "_law_cell_at"=true) (k_25:keepIn K (.ref f25)=true)
  (b_26:NsX K "_law_mixed" f26) (l_26:LkX K "_law_mixed" yY f26 v26 o26 p26 s26 g26 h26 i26 j26 m26) (d_26:codeIn K j26 "_law_mixed"=true) (k_26:keepIn K (.ref f26)=true)
  (b_27:NsX K "_law_draw" f27) (l_27:LkX K "_law_draw" gX f27 v27 o27 p27 s27 g27 h27 i27 j27 m27) (d_27:codeIn K j27 "_law_draw"=true) (k_27:keepIn K (.ref f27)=true)
  (b_28:NsX K "_law_pick" f28) (l_28:LkX K "_law_pick" gY f28 v28 o28 p28 s28 g28 h28 i28 j28 m28) (d_28:codeIn K j28 "_law_pick"=true) (k_28:keepIn K (.ref f28)=true)
  (b_29:NsX K "_law_word" f29) (l_29:LkX K "_law_word" yj f29 v29 o29 p29 s29 g29 h29 i29 j29 m29) (d_29:codeIn K j29 "_law_word"=true) (k_29:keepIn K (.ref f29)=true)
  (b_30:NsX K "_law_words" f30) (l_30:LkX K "_law_words" xa f30 v30 o30 p30 s30 g30 h30 i30 j30 m30) (d_30:codeIn K j30 "_law_words"=true) (k_30:keepIn K (.ref f30)=true)
  (b_31:NsX K "_law_look" f31) (l_31:LkX K "_law_look" Qc f31 v31 o31 p31 s31 g31 h31 i31 j31 m31) (d_31:codeIn K j31 "_law_look"=true) (k_31:keepIn K (.ref f31)=true)
  (b_32:NsX K "_law_letters" f32) (l_32:LkX K "_law_letters" wU f32 v32 o32 p32 s32 g32 h32 i32 j32 m32) (d_32:codeIn K j32 "_law_letters"=true) (k_32:keepIn K (.ref f32)=true)
  (b_33:NsX K "_law_made" f33) (l_33:LkX K "_law_made" ym f33 v33 o33 p33 s33 g33 h33 i33 j33 m33) (d_33:codeIn K j33 "_law_made"=true) (k_33:keepIn K (.ref f33)=true)
  (b_34:NsX K "_law_good" f34) (l_34:LkX K "_law_good" Qd f34 v34 o34 p34 s34 g34 h34 i34 j34 m34) (d_34:codeIn K j34 "_law_good"=true) (k_34:keepIn K (.ref f34)=true)
  (b_35:NsX K "law" f35) (l_35:LkX K "law" zA f35 v35 o35 p35 s35 g35 h35 i35 j35 m35) (d_35:codeIn K j35 "law"=true) (k_35:keepIn K (.ref f35)=true) :
  ∃ fd:FuncData,(∀ (s:Shared) (v:Value),BindsTo s fd ⟨[v],[]⟩ [("_law_script",v)])/\∀ base:Heap,K.In base->base.Ns mainGlobals mg->FnOk l.prog w K mg base (CXk l.prog w) 9 fa fd ["_law_script"] (GJ K):=by
 have e:=hfa.symm.trans (mg_of X G b_35)
 cases e
 obtain ⟨Z,cok,eB⟩:=qer X G aW a0 a1 a2 a3 a4 a5 z_all z_bool z_dict z_int z_isinstance z_len z_list z_max z_min z_range z_set z_sorted z_str z_tuple z_zip c_LEAST_PLACE c_MOST_LETTERS c_MOST_PLACE c_MOST_ROOM c_MOST_WORDS ex aB b1 b2 b3 b4 n0 n1 n2 n3 n4 sx4
 have T:Tx K mg (caT [("WordError",CW),("NoWords",C0),("NoLook",C1),("NoRoom",C2),("NoWord",C3),("NoWorths",C4),("Never",C5),("Book",CB)]):=⟨qE X G (fun _ _ _ _ _ _ us hl=>by revert hl; refine fun hl=>WX (P:=fun us=>bindArgs _ ⟨us,[]⟩=pure (List.zip _ us)) hl ?_; intros; rfl) b_0 l_0 d_0 k_0,qE X G (fun _ _ _ _ _ _ us hl=>by revert hl; refine fun hl=>WX (P:=fun us=>bindArgs _ ⟨us,[]⟩=pure (List.zip _ us)) hl ?_; intros; rfl) b_1 l_1 d_1 k_1,qE X G (fun _ _ _ _ _ _ us hl=>by revert hl; refine fun hl=>WX (P:=fun us=>bindArgs _ ⟨us,[]⟩=pure (List.zip _ us)) hl ?_; intros; rfl) b_2 l_2 d_2 k_2,qE X G (fun _ _ _ _ _ _ us hl=>by revert hl; refine fun hl=>qbM (P:=fun us=>bindArgs _ ⟨us,[]⟩=pure (List.zip _ us)) hl ?_; intros; rfl) b_3 l_3 d_3 k_3,qE X G (fun _ _ _ _ _ _ us hl=>by revert hl; refine fun hl=>WX (P:=fun us=>bindArgs _ ⟨us,[]⟩=pure (List.zip _ us)) hl ?_; intros; rfl) b_4 l_4 d_4 k_4,qE X G (fun _ _ _ _ _ _ us hl=>by revert hl; refine fun hl=>Vb (P:=fun us=>bindArgs _ ⟨us,[]⟩=pure (List.zip _ us)) hl ?_; intros; rfl) b_5 l_5 d_5 k_5,qE X G (fun _ _ _ _ _ _ us hl=>by revert hl; refine fun hl=>Vb (P:=fun us=>bindArgs _ ⟨us,[]⟩=pure (List.zip _ us)) hl ?_; intros; rfl) b_6 l_6 d_6 k_6,qE X G (fun _ _ _ _ _ _ us hl=>by revert hl; refine fun hl=>Vb (P:=fun us=>bindArgs _ ⟨us,[]⟩=pure (List.zip _ us)) hl ?_; intros; rfl) b_7 l_7 d_7 k_7,qE X G (fun _ _ _ _ _ _ us hl=>by revert hl; refine fun hl=>WX (P:=fun us=>bindArgs _ ⟨us,[]⟩=pure (List.zip _ us)) hl ?_; intros; rfl) b_8 l_8 d_8 k_8,qE X G (fun _ _ _ _ _ _ us hl=>by revert hl; refine fun hl=>WX (P:=fun us=>bindArgs _ ⟨us,[]⟩=pure (List.zip _ us)) hl ?_; intros; rfl) b_9 l_9 d_9 k_9,qE X G (fun _ _ _ _ _ _ us hl=>by revert hl; refine fun hl=>WX (P:=fun us=>bindArgs _ ⟨us,[]⟩=pure (List.zip _ us)) hl ?_; intros; rfl) b_10 l_10 d_10 k_10,qE X G (fun _ _ _ _ _ _ us hl=>by revert hl; refine fun hl=>WX (P:=fun us=>bindArgs _ ⟨us,[]⟩=pure (List.zip _ us)) hl ?_; intros; rfl) b_11 l_11 d_11 k_11,qE X G (fun _ _ _ _ _ _ us hl=>by revert hl; refine fun hl=>Vb (P:=fun us=>bindArgs _ ⟨us,[]⟩=pure (List.zip _ us)) hl ?_; intros; rfl) b_12 l_12 d_12 k_12,qE X G (fun _ _ _ _ _ _ us hl=>by revert hl; refine fun hl=>Vb (P:=fun us=>bindArgs _ ⟨us,[]⟩=pure (List.zip _ us)) hl ?_; intros; rfl) b_13 l_13 d_13 k_13,qE X G (fun _ _ _ _ _ _ us hl=>by revert hl; refine fun hl=>WX (P:=fun us=>bindArgs _ ⟨us,[]⟩=pure (List.zip _ us)) hl ?_; intros; rfl) b_14 l_14 d_14 k_14,qE X G (fun _ _ _ _ _ _ us hl=>by revert hl; refine fun hl=>Vb (P:=fun us=>bindArgs _ ⟨us,[]⟩=pure (List.zip _ us)) hl ?_; intros; rfl) b_15 l_15 d_15 k_15,qE X G (fun _ _ _ _ _ _ us hl=>by revert hl; refine fun hl=>qdg (P:=fun us=>bindArgs _ ⟨us,[]⟩=pure (List.zip _ us)) hl ?_; intros; rfl) b_16 l_16 d_16 k_16,by rw [eB]; exact ⟨f17,_,(vn (st:=qQ) l_17 d_17 k_17),⟨b_17,q_17,k_17⟩,(vn (st:=qQ) l_17 d_17 k_17).binds (fun _ _ _ _ _ _ us hl=>by revert hl; refine fun hl=>Vb (P:=fun us=>bindArgs _ ⟨us,[]⟩=pure (List.zip _ us)) hl ?_; intros; rfl)⟩,by rw [eB]; exact ⟨f18,_,(vn (st:=kC) l_18 d_18 k_18),⟨b_18,q_18,k_18⟩,(vn (st:=kC) l_18 d_18 k_18).binds (fun _ _ _ _ _ _ us hl=>by revert hl; refine fun hl=>Vb (P:=fun us=>bindArgs _ ⟨us,[]⟩=pure (List.zip _ us)) hl ?_; intros; rfl)⟩,by rw [eB]; exact ⟨f19,_,(vn (st:=qK) l_19 d_19 k_19),⟨b_19,q_19,k_19⟩,(vn (st:=qK) l_19 d_19 k_19).binds (fun _ _ _ _ _ _ us hl=>by revert hl; refine fun hl=>WX (P:=fun us=>bindArgs _ ⟨us,[]⟩=pure (List.zip _ us)) hl ?_; intros; rfl)⟩,by rw [eB]; exact ⟨f20,_,(vn (st:=qX) l_20 d_20 k_20),⟨y1,b_20,q_20,y2⟩,(vn (st:=qX) l_20 d_20 k_20).binds (fun _ _ _ _ _ _ us hl=>by revert hl; refine fun hl=>qfi (P:=fun us=>bindArgs _ ⟨us,[]⟩=pure (List.zip _ us)) hl ?_; intros; rfl)⟩,by rw [eB]; exact ⟨f21,_,(vn (st:=jp) l_21 d_21 k_21),⟨b_21,q_21,k_21⟩,(vn (st:=jp) l_21 d_21 k_21).binds (fun _ _ _ _ _ _ us hl=>by revert hl; refine fun hl=>WX (P:=fun us=>bindArgs _ ⟨us,[]⟩=pure (List.zip _ us)) hl ?_; intros; rfl)⟩,qE X G (fun _ _ _ _ _ _ us hl=>by revert hl; refine fun hl=>Vb (P:=fun us=>bindArgs _ ⟨us,[]⟩=pure (List.zip _ us)) hl ?_; intros; rfl) b_22 l_22 d_22 k_22,qE X G (fun _ _ _ _ _ _ us hl=>by revert hl; refine fun hl=>Vb (P:=fun us=>bindArgs _ ⟨us,[]⟩=pure (List.zip _ us)) hl ?_; intros; rfl) b_23 l_23 d_23 k_23,qE X G (fun _ _ _ _ _ _ us hl=>by revert hl; refine fun hl=>qdg (P:=fun us=>bindArgs _ ⟨us,[]⟩=pure (List.zip _ us)) hl ?_; intros; rfl) b_24 l_24 d_24 k_24,qE X G (fun _ _ _ _ _ _ us hl=>by revert hl; refine fun hl=>Vb (P:=fun us=>bindArgs _ ⟨us,[]⟩=pure (List.zip _ us)) hl ?_; intros; rfl) b_25 l_25 d_25 k_25,qE X G (fun _ _ _ _ _ _ us hl=>by revert hl; refine fun hl=>qbM (P:=fun us=>bindArgs _ ⟨us,[]⟩=pure (List.zip _ us)) hl ?_; intros; rfl) b_26 l_26 d_26 k_26,qE X G (fun _ _ _ _ _ _ us hl=>by revert hl; refine fun hl=>qbM (P:=fun us=>bindArgs _ ⟨us,[]⟩=pure (List.zip _ us)) hl ?_; intros; rfl) b_27 l_27 d_27 k_27,qE X G (fun _ _ _ _ _ _ us hl=>by revert hl; refine fun hl=>qbM (P:=fun us=>bindArgs _ ⟨us,[]⟩=pure (List.zip _ us)) hl ?_; intros; rfl) b_28 l_28 d_28 k_28,qE X G (fun _ _ _ _ _ _ us hl=>by revert hl; refine fun hl=>qdg (P:=fun us=>bindArgs _ ⟨us,[]⟩=pure (List.zip _ us)) hl ?_; intros; rfl) b_29 l_29 d_29 k_29,qE X G (fun _ _ _ _ _ _ us hl=>by revert hl; refine fun hl=>qbM (P:=fun us=>bindArgs _ ⟨us,[]⟩=pure (List.zip _ us)) hl ?_; intros; rfl) b_30 l_30 d_30 k_30,qE X G (fun _ _ _ _ _ _ us hl=>by revert hl; refine fun hl=>Vb (P:=fun us=>bindArgs _ ⟨us,[]⟩=pure (List.zip _ us)) hl ?_; intros; rfl) b_31 l_31 d_31 k_31,qE X G (fun _ _ _ _ _ _ us hl=>by revert hl; refine fun hl=>Vb (P:=fun us=>bindArgs _ ⟨us,[]⟩=pure (List.zip _ us)) hl ?_; intros; rfl) b_32 l_32 d_32 k_32,qE X G (fun _ _ _ _ _ _ us hl=>by revert hl; refine fun hl=>qdg (P:=fun us=>bindArgs _ ⟨us,[]⟩=pure (List.zip _ us)) hl ?_; intros; rfl) b_33 l_33 d_33 k_33,qE X G (fun _ _ _ _ _ _ us hl=>by revert hl; refine fun hl=>Vb (P:=fun us=>bindArgs _ ⟨us,[]⟩=pure (List.zip _ us)) hl ?_; intros; rfl) b_34 l_34 d_34 k_34⟩
 have F:=vn (st:=zA) l_35 d_35 k_35
 exact ⟨_,fun s v=>.of_eq rfl,fun base _ _=>(qdi (P:=l.prog) (w:=w) (base:=base) Z T F).imp fun vs H Q E q=>qes cok vs H Q E q⟩
theorem qfj {l:PySem.W.OpenLaw} {q:Program} {loose:List Str} {XP:(Str->Option Value)->Heap->Prop} {YP:World->Heap->Prop} {d:DefRec} {K:Params->Frag} (hn:l.most=some 63) (hdf:d.params.defaults=[])
  (hY:∀ (w:World) (h:Heap),YP w h->(K w.params).In h)
  (F:∀ (w:World) (mg:Str->Option Value) (fa:Addr) (h:Heap),(K w.params).In h->h.Ns mainGlobals mg->mg d.name=some (.ref fa) ->
   ∃ fd:FuncData,(∀ (s:Shared) (u:Value),BindsTo s fd ⟨[u],[]⟩ [("_law_script",u)])/\∀ base:Heap,(K w.params).In base->base.Ns mainGlobals mg->FnOk l.prog w (K w.params) mg base (CXk l.prog w) 9 fa fd ["_law_script"] (GJ (K w.params))) :
  PySem.W.WalkO q loose XP YP l.row.toRowW d [] (fun f vs=>PySem.call f vs):=
 L2.qaJ (n:=63) (k:=9) (x := "_law_script") (CX:=fun w=>CXk l.prog w) (sp:=fun w=>GJ (K w.params)) hn (by decide) hdf ⟨rfl,by decide,by decide⟩ hY F (fun _ _ a ns hl _ hS=>⟨a,ns,rfl,hS,fun _=>rfl⟩) fun w H s e s' z=>by
  obtain ⟨ex,T,C,H',_,_,_,_,_,_,_,_,_,_,q⟩:=z
  exact q.elim
end Kx
open PySem PySem.W PyProof.Rows
set_option maxRecDepth 100000 in
set_option maxHeartbeats 0 in
theorem PySem.Challenge.cw_lookwords_k22_whole_books_holds : PySem.Challenge.rw_lookwords_k22_whole_books.Holds := by
  refine Kx.hd ?_
  k_fill
  refine Kx.qfj (l := PySem.Challenge.rw_lookwords_k22_whole_books) rfl rfl (fun w h Y => PySem.W.kIn_of Y) ?F
  case F =>
    intro w mg fa h KX G hmg
    refine' Kx.qdj KX G hmg ?_ ?_ ?_ ?_ ?_ ?_ ?_ ?_ ?_ ?_ ?_ ?_ ?_ ?_ ?_ ?_ ?_ ?_ ?_ ?_ ?_ ?_ ?_ ?_ ?_ ?_ ?_ ?_ ?_ ?_ ?_ ?_ ?_ ?_ ?_ ?_ ?_ ?_ ?_ ?_ ?_ ?_ ?_ ?_ ?_ ?_ ?_ ?_ ?_ ?_ ?_ ?_ ?_ ?_ ?_ ?_ ?_ ?_ ?_ ?_ ?_ ?_ ?_ ?_ ?_ ?_ ?_ ?_ ?_ ?_ ?_ ?_ ?_ ?_ ?_ ?_ ?_ ?_ ?_ ?_ ?_ ?_ ?_ ?_ ?_ ?_ ?_ ?_ ?_ ?_ ?_ ?_ ?_ ?_ ?_ ?_ ?_ ?_ ?_ ?_ ?_ ?_ ?_ ?_ ?_ ?_ ?_ ?_ ?_ ?_ ?_ ?_ ?_ ?_ ?_ ?_ ?_ ?_ ?_ ?_ ?_ ?_ ?_ ?_ ?_ ?_ ?_ ?_ ?_ ?_ ?_ ?_ ?_ ?_ ?_ ?_ ?_ ?_ ?_ ?_ ?_ ?_ ?_ ?_ ?_ ?_ ?_ ?_ ?_ ?_ ?_ ?_ ?_ ?_ ?_ ?_ ?_ ?_ ?_ ?_ ?_ ?_ ?_ ?_ ?_ ?_ ?_ ?_ ?_ ?_ ?_ ?_ ?_ ?_ ?_ ?_ ?_ ?_ ?_ ?_ ?_ ?_ ?_ ?_ ?_ ?_ ?_ ?_ ?_ ?_
    all_goals try first | k_is | (unfold Kx.NsX; k_is) | (unfold Kx.LkX; k_is) | (unfold Kx.LkM; k_is) | kernel_rfl
