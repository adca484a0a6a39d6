import PyProof.Rows.All
import KE.KTryMore
import KE.KDictOf
import KE.KRevSl
import KE.KRevIter
import PySem.Challenge.RW_lookwords_k08_whole_named_otherwise
noncomputable section
open PySem.W (Frag nsIn keepIn codeIn mg_of mg_none_of)
set_option Elab.async false
set_option linter.all false
set_option maxRecDepth 100000
namespace Kx
noncomputable section
open PySem PySem.W PySem.Calls PyProof.Rows
noncomputable def zP:Pos:=⟨0,0,0,0⟩
noncomputable def anV:Option Value:=some (.ref 6)
noncomputable def hA (P:Params):List Obj:=(boot_heap P).objs.toList++[⟨.type "tuple",none,.seq #[] 0,#[]⟩,⟨.none,none,.fields #[],#[]⟩,
 ⟨.type "code",none,.fields #[.str "<module>" 182,.str "<module>" 183,.str "/claim/cut.py" 184,.int 1 0,.int 0 0,.int 0 0,.int 0 0,.int 0 0,.ref 11,.bool false,.int 181 0,.ref 12,.none,.none,.none,.none,.int 185 0,.int 1 0,.str "/claim/cut.py" 186],#[]⟩,
 ⟨.type "frame",none,.plain,#[some (.ref 13),some (.ref 3),some (.ref 3),none,some (.str "__main__" 164),none,some (.ref 0)]⟩]
noncomputable def enP (p:Program):Env:={ scope:=p.main.scope,locals:=mainNs,globals:=mainNs,cells:=[],code:=.ref 13,frame:=some 14 }
noncomputable def cdP (p:Program):Code:=.body (behindTheImports p) (enP p)
noncomputable def trA:List Obj->Nat->BT->BT
 | [],_,t=>t
 | o::l,i,t=>trA l (i+1) (t.ins i o)
noncomputable def SA (w:World) (os:OsState):SharedT:=⟨trA (hA w.params) 0 .nil,15,(boot_heap w.params).life,Array.mk [],boot_drawn,187,os⟩
noncomputable def qfo (p:Program) (w:World) (M:Nat) (os:OsState):Option (Flow×Code×Shared):=
 (segRunT treeTable p w 11 anV 1 M (SA w os) (piecesOf (behindTheImports p) (enP p) (cdP p) zP [topFrame zP])).bind fun r=>
  (topRun treeTable p w 11 anV 5 r.2.1.abs (restOf [] (enP p) (cdP p) r.2.2.2 [topFrame zP])).map fun s=>(r.1,r.2.2.1,s)
abbrev qaU (p q:Program) (loose:List Str) (Xt:Shared->Bool) (w:World) (x:Flow×Code×Shared):=
 (x.1,x.2.1,(staticsOk (importedModules p.main.body) (boot_heap w.params) x.2.2.heap&&namesBound p x.2.2.heap&&gensDone x.2.2&&laidKept (boot_heap w.params) x.2.2.heap),openSeen q loose (importedModules p.main.body) Xt true x.2.2)
theorem left_T {p q:Program} {loose:List Str} {Xt:Shared->Bool} {α:Type} {Yf:Shared->α} {Ya:World->α} {N M:Nat}
  (e:opening p=plainProg p.main.scope.names) (hN:Nat.ble 600 N=true) (f:∀ s,fenceModules? p s=some s)
  (size:∀ w:World,((boot_heap w.params).isNs mainGlobals&&(Array.mk []:Array GenState).size == 0,(boot_heap w.params).objs.size,(boot_heap w.params).nsMap mainGlobals "__annotations__")=(true,11,anV))
  (pre:∀ (w:World) (os:OsState),topGo treeTable p w 11 anV 12 ⟨boot_heap w.params,Array.mk [],boot_drawn,boot_toks,os⟩ (topStub p)=some ((SA w os).abs,⟨denote treeTable (cdP p),cdP p,zP,[topFrame zP]⟩))
  (blk:∀ (w:World) (os:OsState),segRun treeTable p w 11 anV 1 1 (SA w os).abs (blockOf (behindTheImports p) (enP p) (cdP p) zP [topFrame zP])=some (.next,(SA w os).abs,cdP p,zP))
  (le:Nat.ble (12+(1+(M+5))) N=true)
  (m1:∀ (w:World) (os:OsState),(qfo p w M os).map (qaU p q loose Xt w)=some (.next,cdP p,true,openGood q loose))
  (m2:∀ (w:World) (os:OsState),(qfo p w M os).map (fun x=>Yf x.2.2)=some (Ya w)):LeftO p q loose Xt Yf Ya N:=fun w=>by
 obtain ⟨⟨h,gs,d,k,os⟩,a,a'⟩:=Option.map_eq_some_iff.mp (boot_open e hN f w)
 obtain ⟨rfl,rfl,rfl,rfl⟩:h=boot_heap w.params/\gs=Array.mk []/\d=boot_drawn/\k=boot_toks:=by simpa using a'
 obtain ⟨x,hx,hl⟩:=Option.map_eq_some_iff.mp (m1 w os)
 obtain ⟨y,hy,hY⟩:=Option.map_eq_some_iff.mp (m2 w os)
 obtain rfl:y=x:=Option.some.inj (hy.symm.trans hx)
 obtain ⟨r,hr,hz⟩:=Option.bind_eq_some_iff.mp hx
 obtain ⟨s,hs,rfl⟩:=Option.map_eq_some_iff.mp hz
 obtain ⟨fl,st,co,po⟩:=r
 unfold qaU at hl
 simp only [Prod.mk.injEq] at hl
 obtain ⟨rfl,rfl,l1,l2⟩:=hl
 have t1:=piece_app (rest:=[]) (segRun_of hr) hs
 rw [List.append_nil] at t1
 have t2:=piece_block (blk w os) t1
 have t3:=topRun_mono (N - (12+(1+(M+5)))) _ _ _ _ (go_top (pre w os) t2)
 rw [show 12+(1+(M+5))+(N - (12+(1+(M+5))))=N by have:=Nat.le_of_ble_eq_true le; omega] at t3
 obtain ⟨z1,z2,z3⟩:_/\_/\_:=by simpa only [Prod.mk.injEq] using size w
 have t:topFrom treeTable p w N ⟨boot_heap w.params,Array.mk [],boot_drawn,boot_toks,os⟩=some s:=by
  unfold topFrom
  dsimp only
  rw [z1,z2,z3,t3]
  show (match staticsOk (importedModules p.main.body) (boot_heap w.params) s.heap&&namesBound p s.heap&&gensDone s&&laidKept (boot_heap w.params) s.heap with | true=>_ | false=>_)=_
  rw [l1]
 unfold openEnds
 rw [a]
 show (topFrom treeTable p w N _).map _=_
 rw [t]
 exact congrArg some (Prod.ext l2 hY)
end
end Kx
noncomputable section
open PySem PySem.W PyProof.Rows
noncomputable def Kx.vq:Program:=view PySem.Challenge.pw_lookwords_k08_whole_named_otherwise [1,2,3,4,5,6,8,9,10,11,12,13,14,15,16,17,18,19,20,21,22,24,25,26,28,29,30,31,32,33,34,35,36,37,38,40,41,42,43,44,45,46,47,48,49,50,51,52,54,55,56,57,58,59,60,61]
noncomputable def Kx.xt (s:Shared):Bool:=xlAt Kx.vq [] s&&recOk (RowW.records (OpenRow.toRowW (OpenLaw.row PySem.Challenge.rw_lookwords_k08_whole_named_otherwise))) s
theorem Kx.m1:∀ (w:World) (os:OsState),(Kx.qfo PySem.Challenge.pw_lookwords_k08_whole_named_otherwise w 15000 os).map (Kx.qaU PySem.Challenge.pw_lookwords_k08_whole_named_otherwise Kx.vq [] Kx.xt w)=some (.next,Kx.cdP PySem.Challenge.pw_lookwords_k08_whole_named_otherwise,true,openGood Kx.vq []):=by intro w os; kernel_rfl
local macro_rules | `(tactic| o_head $H) => `(tactic| (refine holds_open (q := Kx.vq) (loose := []) (Xt := Kx.xt) (XP := XL Kx.vq []) (Yf := Hook.obs $H) (Ya := Hook.val $H) (YP := Hook.says $H) (N := 20000) ?hl (Hook.of $H) (Hook.keeps $H) (fun s e => xl_of s (Bool.and_eq_true_iff.mp e).1) XL.keeps (by rfl) (by rfl) (by rfl) (fun s e => recFacts_of (Bool.and_eq_true_iff.mp e).2) (by rfl) (by first | assumption | decide +kernel) (by decide +kernel) ⟨rfl, rfl, rfl, rfl, rfl, by decide +kernel⟩ ?hw ?hc; (case hl => refine Kx.left_T (p := PySem.Challenge.pw_lookwords_k08_whole_named_otherwise) (M := 15000) ?e rfl ?f ?s ?p ?b rfl Kx.m1 ?m; (case e => kernel_rfl); (case f => intro s; kernel_rfl); (case s => intro w; kernel_rfl); (case p => intro w os; kernel_rfl); (case b => intro w os; kernel_rfl); (case m => intro w os; kernel_rfl))))
set_option maxHeartbeats 0 in
open_top Kx.hd for PySem.Challenge.rw_lookwords_k08_whole_named_otherwise
end
namespace L2
open PySem PySem.Spec PyProof.Rows
abbrev Key:=Sum Int Str
noncomputable def gA:Key->Value->Bool
 | .inl k,v=>Value.isInt k v
 | .inr x,v=>Value.isStrOf x v
noncomputable def qha (w:World):Key->Int
 | .inl k=>hashInt k
 | .inr x=>hashStr w x
theorem jv:∀ {k:Key} {v:Value},gA k v=true->(∃ i t,k=Sum.inl i/\v=Value.int i t)\/(∃ x t,k=Sum.inr x/\v=Value.str x t)
 | .inl i,v,h=>by
  obtain ⟨t,e⟩:=Value.isInt_shape (k:=i) (v:=v) h
  exact .inl ⟨i,t,rfl,e⟩
 | .inr x,v,h=>by
  obtain ⟨t,e⟩:=Value.isStrOf_shape (x:=x) (v:=v) h
  exact .inr ⟨x,t,rfl,e⟩
theorem Jv (i:Int) (t:Tok):gA (.inl i) (.int i t)=true:=by simp [gA,Value.isInt]
theorem Jw (x:Str) (t:Tok):gA (.inr x) (.str x t)=true:=by simp [gA,Value.isStrOf]
theorem qcS (a b:Int):decide ((Sum.inl a:Key)=Sum.inl b)=(a == b):=by
 by_cases e:a=b
 ·subst e; simp
 ·have h:¬(Sum.inl a:Key)=Sum.inl b:=fun q=>e (Sum.inl.inj q)
  rw [decide_eq_false h]
  exact (beq_eq_false_iff_ne.mpr e).symm
theorem qcT (a b:Str):decide ((Sum.inr a:Key)=Sum.inr b)=decide (a=b):=by
 by_cases e:a=b
 ·subst e; simp
 ·have h:¬(Sum.inr a:Key)=Sum.inr b:=fun q=>e (Sum.inr.inj q)
  rw [decide_eq_false h,decide_eq_false e]
theorem qcU (a:Int) (b:Str):decide ((Sum.inl a:Key)=Sum.inr b)=false:=decide_eq_false (fun q=>nomatch q)
theorem qcV (a:Str) (b:Int):decide ((Sum.inr a:Key)=Sum.inl b)=false:=decide_eq_false (fun q=>nomatch q)
noncomputable def ji (prog:Program) (w:World):PySem.KeyKind prog w Key where
 is:=gA
 hash:=qha w
 inj:=fun v a b ha hb=>by
  rcases jv ha with ⟨i,t,rfl,rfl⟩ | ⟨x,t,rfl,rfl⟩
  ·rcases jv hb with ⟨j,u,rfl,e⟩ | ⟨y,u,rfl,e⟩
   ·injection e with e1 _; rw [e1]
   ·exact nomatch e
  ·rcases jv hb with ⟨j,u,rfl,e⟩ | ⟨y,u,rfl,e⟩
   ·exact nomatch e
   ·injection e with e1 _; rw [e1]
 byValue:=fun k v h=>by
  rcases jv h with ⟨i,t,rfl,rfl⟩ | ⟨x,t,rfl,rfl⟩ <;> rfl
 pyHash:=fun hv h=>by
  rcases jv hv with ⟨i,t,rfl,rfl⟩ | ⟨x,t,rfl,rfl⟩
  ·exact wpAny_pyHash_int h
  ·exact wpAny_pyHash_str h
 eqBool:=fun hu hv h=>by
  rcases jv hu with ⟨i,t,rfl,rfl⟩ | ⟨x,t,rfl,rfl⟩
  ·rcases jv hv with ⟨j,u,rfl,rfl⟩ | ⟨y,u,rfl,rfl⟩
   ·rw [qcS] at h; exact wpAny_eqBool_int h
   ·rw [qcU] at h; exact SeqAt.EqAt.int_str i t y u _ _ _ _ h
  ·rcases jv hv with ⟨j,u,rfl,rfl⟩ | ⟨y,u,rfl,rfl⟩
   ·rw [qcV] at h; exact SeqAt.EqAt.str_int x t j u _ _ _ _ h
   ·rw [qcT] at h; exact wpAny_eqBool_str h
 «strs»:=fun k x t v h=>by
  rcases jv h with ⟨i,u,rfl,e⟩ | ⟨y,u,rfl,e⟩
  ·exact nomatch e
  ·injection e with e1 _
   subst e1
   cases v <;> rfl
theorem KR (prog:Program) (w:World) (i:Int) (t:Tok):(ji prog w).is (.inl i) (.int i t)=true:=Jv i t
theorem KS (prog:Program) (w:World) (x:Str) (t:Tok):(ji prog w).is (.inr x) (.str x t)=true:=Jw x t
inductive V where
 | non | bl (b:Bool) | int (i:Int) | str (x:Str) | byt (b:Array UInt8) | flt (b:UInt64) | ref (a:Addr) | ty (n:String)
 deriving DecidableEq
def RelV:V->Value->Prop
 | .non,u=>u=Value.none
 | .bl b,u=>u=Value.bool b
 | .int i,u=>∃ t,u=Value.int i t
 | .str x,u=>∃ t,u=Value.str x t
 | .byt b,u=>∃ t,u=Value.bytes b t
 | .flt b,u=>∃ t,u=Value.float b t
 | .ref a,u=>u=Value.ref a
 | .ty n,u=>u=Value.type n
abbrev Vals:List V->List Value->Prop:=Paired RelV
theorem Vals.length {xs:List V} {us:List Value} (r:Vals xs us):xs.length=us.length:=Paired.length r
theorem Vals.get:∀ {xs:List V} {us:List Value} {i:Nat} {x:V},Vals xs us->xs[i]?=some x->∃ u,us[i]?=some u/\RelV x u
 | _,_,_,_,.nil,e=>by simp at e
 | _,_,0,_,.cons r _,e=>by simp at e; subst e; exact ⟨_,rfl,r⟩
 | _,_,i+1,x,.cons _ t,e=>by
  obtain ⟨u,h1,h2⟩:=Vals.get (i:=i) (x:=x) t (by simpa using e)
  exact ⟨u,by simpa using h1,h2⟩
theorem Vals.set {x:V} {u:Value} (r:RelV x u):∀ {xs:List V} {us:List Value} (i:Nat),Vals xs us->Vals (xs.set i x) (us.set i u)
 | _,_,_,.nil=>.nil
 | _,_,0,.cons _ t=>.cons r t
 | _,_,i+1,.cons q t=>.cons q (Vals.set r i t)
theorem Vals.append:∀ {xs ys:List V} {us ws:List Value},Vals xs us->Vals ys ws->Vals (xs++ys) (us++ws)
 | _,_,_,_,.nil,s=>s
 | _,_,_,_,.cons r t,s=>.cons r (Vals.append t s)
theorem Vals.take:∀ {xs:List V} {us:List Value} (n:Nat),Vals xs us->Vals (xs.take n) (us.take n)
 | _,_,0,_=>.nil
 | _,_,_+1,.nil=>.nil
 | _,_,n+1,.cons r t=>.cons r (Vals.take n t)
theorem Vals.drop:∀ {xs:List V} {us:List Value} (n:Nat),Vals xs us->Vals (xs.drop n) (us.drop n)
 | _,_,0,r=>r
 | _,_,_+1,.nil=>.nil
 | _,_,n+1,.cons _ t=>Vals.drop n t
theorem Vals.none_of:∀ {xs:List V} {us:List Value} {i:Nat},Vals xs us->xs[i]?=none->us[i]?=none:=fun {xs us i} r e=>by
 have h1:=r.length
 have h2:xs.length<=i:=List.getElem?_eq_none_iff.mp e
 exact List.getElem?_eq_none_iff.mpr (by omega)
def RelO:Option V->Option Value->Prop
 | some v,some u=>RelV v u
 | none,none=>True
 | _,_=>False
def KV {κ:Type}:List (κ×V)->List (κ×Value)->Prop:=Paired fun (p:κ×V) (q:κ×Value)=>p.1=q.1/\RelV p.2 q.2
noncomputable def kV:Key->V
 | .inl i=>.int i
 | .inr x=>.str x
inductive HO where
 /-- a list -/
 | lst (xs:List V)
 /-- a tuple (never changes) -/
 | tup (xs:List V)
 /-- a dict whose keys are ints and texts; one whose keys are tuples of ints and texts (the empty one is both) -/
 | dK (kvs:List (Key×V)) | dT (kvs:List (List Key×V))
 /-- a set of ints: its members,its size -/
 | set (S:Int->Bool) (n:Nat)
 /-- an instance of the class at C,its dict at dx,its attributes -/
 | ins (C dx:Addr) (fs:List (Str×V))
 /-- the dict of the instance at x -/
 | own (x:Addr)
 /-- the dict of an exception -/
 | xd (fs:List (Str×V))
 /-- a bound method,f of x -/
 | met (f x:Addr)
 /-- a range object lo,lo+1,.. below hi -/
 | rng (lo hi:Int)
 /-- a thing that is known to the object (the script; a dict while a loop walks it): read,never written while it is so -/
 | frz (o:Obj) (u:HO)
 /-- a code object's table -/
 | tbl (ps:Array Value)
 /-- any other thing,by what is true of its one object (a def of one's own: SetO a S n:=HO.ext fun h=>..) -/
 | ext (φ:Heap->Prop)
abbrev Hp:=Addr->Option HO
noncomputable def upd (H:Hp) (a:Addr) (o:HO):Hp:=fun b=>if b=a then some o else H b
theorem qp {H:Hp} {a:Addr} {o:HO}:upd H a o a=some o:=by unfold upd; rw [if_pos rfl]
theorem qA {H:Hp} {a b:Addr} {o:HO} (h:b≠a):upd H a o b=H b:=by unfold upd; rw [if_neg h]
theorem qfp {H:Hp} {a b:Addr} {o u:HO} (h:H a=some o) (h':H b=some u) (d:o≠u):a≠b:=by
 intro e; subst e; rw [h] at h'; exact d (Option.some.inj h')
theorem qF {H:Hp} {a b:Addr} {o:HO} (h:H a=some o) (h':H b=none):a≠b:=by
 intro e; subst e; rw [h] at h'; cases h'
section
variable (P:Program) (w:World)
def ObjOk (H:Hp) (h:Heap) (a:Addr):HO->Prop
 | .lst xs=>xs.length<=sizeLine/\∃ (its:List Value) (n:Nat),Vals xs its/\h.get? a=some { cls:=.type "list",data:=.seq its.toArray n }
 | .tup xs=>(xs.length<=sizeLine/\∃ o,h.get? a=some o/\o.dict=none)/\∃ its:List Value,Vals xs its/\IsTup h a its.toArray
 | .dK kvs=>kvs.length<=sizeLine/\(a == sysModules)=false/\∃ vs,KV kvs vs/\h.DictOf (ji P w) a vs
 | .dT kvs=>kvs.length<=sizeLine/\(a == sysModules)=false/\∃ xs:List (List Key×Addr×Value),
   Paired (fun (p:List Key×V) (q:List Key×Addr×Value)=>p.1=q.1/\H q.2.1=some (.tup (p.1.map kV))/\RelV p.2 q.2.2) kvs xs /\
   ∃ o es ep,h.get? a=some o/\o.ExactDict/\o.data=.dict es ep/\es.toList=xs.map (entryOfKey (tupleKind (ji P w)))/\(xs.map (·.1)).Nodup
 | .set S n=>h.SetOf (intKind P w) a S n
 | .ins C dx fs=>H dx=some (.own a)/\fs.length<=1000/\dx≠a/\h.get? a=some (PySem.W.instObj C dx) /\
   ∃ mA,h.Ns1 dx mA/\(∀ f,RelO (fs.lookup f) (mA f))/\PySem.Within mA (fs.map (·.1))
 | .own _=>∃ o,h.get? a=some o
 | .xd fs=>∃ mA,h.Ns1 a mA/\∀ f,RelO (fs.lookup f) (mA f)
 | .rng lo hi=>∃ t u v,h.get? a=some { cls:=.type "range",data:=.fields #[.int lo t,.int hi u,.int 1 v] }
 | .frz o u=>h.get? a=some o/\ObjOk H h a u
 | .tbl ps=>h.get? a=some { cls:=.none,data:=.fields ps }
 | .met f x=>h.get? a=some (PySem.W.methodObj (.ref f) (.ref x))
 | .ext φ=>φ h/\(∃ o,h.get? a=some o)/\∀ h1 h2:Heap,φ h1->(∀ o,h1.get? a=some o->h2.get? a=some o)->φ h2
def HOk (H:Hp) (h:Heap):Prop:=∀ a o,H a=some o->ObjOk P w H h a o
end
section
variable {P:Program} {w:World} {H H':Hp} {h h':Heap} {a:Addr} {o:HO}
theorem ObjOk.lt (x:ObjOk P w H h a o):a < h.objs.size:=by
 cases o with
 | lst xs=>obtain ⟨_,_,_,_,e⟩:=x; exact Heap.lt_size e
 | tup xs=>obtain ⟨_,_,_,p⟩:=x; exact p.lt
 | dK kvs=>obtain ⟨_,_,_,_,o,_,_,e,_⟩:=x; exact Heap.lt_size e
 | dT kvs=>obtain ⟨_,_,_,_,o,_,_,e,_⟩:=x; exact Heap.lt_size e
 | set S n=>obtain ⟨o,_,_,_,e,_⟩:=x; exact Heap.lt_size e
 | ins C dx fs=>obtain ⟨_,_,_,e,_⟩:=x; exact Heap.lt_size e
 | own y=>obtain ⟨_,e⟩:=x; exact Heap.lt_size e
 | xd fs=>obtain ⟨_,⟨_,_,_,e,_⟩,_⟩:=x; exact Heap.lt_size e
 | rng lo hi=>obtain ⟨_,_,_,e⟩:=x; exact Heap.lt_size e
 | frz ob u=>obtain ⟨e,_⟩:=x; exact Heap.lt_size e
 | tbl ps=>exact Heap.lt_size (show h.get? a=some _ from x)
 | met f y=>exact Heap.lt_size (show h.get? a=some _ from x)
 | ext φ=>obtain ⟨_,⟨_,e⟩,_⟩:=x; exact Heap.lt_size e
theorem Paired.mapP {α β:Type} {F G:α->β->Prop}:∀ {l₁:List α} {l₂:List β},Paired F l₁ l₂->(∀ a b,F a b->G a b)->Paired G l₁ l₂
 | _,_,.nil,_=>.nil
 | _,_,.cons r t,f=>.cons (f _ _ r) (Paired.mapP t f)
theorem ObjOk.stay (x:ObjOk P w H h a o) (k:∀ b u,(b=a\/H b=some (.own a))->h.get? b=some u->h'.get? b=some u)
  (ho:∀ b,H b=some (.own a)->H' b=some (.own a)) (ht:∀ b xs,H b=some (.tup xs)->H' b=some (.tup xs)):ObjOk P w H' h' a o:=by
 induction o with
 | lst xs=>obtain ⟨z,its,n,r,e⟩:=x; exact ⟨z,its,n,r,k _ _ (.inl rfl) e⟩
 | tup xs=>obtain ⟨⟨z,o2,e2,d2⟩,its,r,ob,e,c⟩:=x; exact ⟨⟨z,o2,k _ _ (.inl rfl) e2,d2⟩,its,r,ob,k _ _ (.inl rfl) e,c⟩
 | dK kvs=>obtain ⟨z,y,vs,r,ob,es,ep,e,c⟩:=x; exact ⟨z,y,vs,r,ob,es,ep,k _ _ (.inl rfl) e,c⟩
 | dT kvs=>
  obtain ⟨z,y,xs,r,ob,es,ep,e,c⟩:=x
  exact ⟨z,y,xs,Paired.mapP r fun p q z=>⟨z.1,ht _ _ z.2.1,z.2.2⟩,ob,es,ep,k _ _ (.inl rfl) e,c⟩
 | set S n=>obtain ⟨ob,es,ep,t,e,c⟩:=x; exact ⟨ob,es,ep,t,k _ _ (.inl rfl) e,c⟩
 | ins C dx fs=>
  obtain ⟨d,z,ne,e,mA,⟨od,es,ep,e2,c⟩,r⟩:=x
  exact ⟨ho _ d,z,ne,k _ _ (.inl rfl) e,mA,⟨od,es,ep,k _ _ (.inr d) e2,c⟩,r⟩
 | own y=>obtain ⟨ob,e⟩:=x; exact ⟨ob,k _ _ (.inl rfl) e⟩
 | xd fs=>obtain ⟨mA,⟨od,es,ep,e,c⟩,r⟩:=x; exact ⟨mA,⟨od,es,ep,k _ _ (.inl rfl) e,c⟩,r⟩
 | rng lo hi=>obtain ⟨t,u,v,e⟩:=x; exact ⟨t,u,v,k _ _ (.inl rfl) e⟩
 | frz ob u ih=>obtain ⟨e,q⟩:=x; exact ⟨k _ _ (.inl rfl) e,ih q⟩
 | tbl ps=>
  have e:h.get? a=some { cls:=.none,data:=.fields ps }:=x
  show h'.get? a=some { cls:=.none,data:=.fields ps }
  exact k a _ (.inl rfl) e
 | met f y=>
  have e:h.get? a=some (PySem.W.methodObj (.ref f) (.ref y)):=x
  show h'.get? a=some (PySem.W.methodObj (.ref f) (.ref y))
  exact k a _ (.inl rfl) e
 | ext φ=>obtain ⟨p,⟨o,e⟩,st⟩:=x; exact ⟨st _ _ p fun o q=>k _ _ (.inl rfl) q,⟨o,k _ _ (.inl rfl) e⟩,st⟩
theorem HOk.lt (x:HOk P w H h) (e:H a=some o):a < h.objs.size:=(x a o e).lt
theorem HOk.fresh (x:HOk P w H h) (e:h.objs.size<=a):H a=none:=by
 cases q:H a with
 | none=>rfl
 | some u=>exact absurd (Nat.lt_of_lt_of_le (x.lt q) e) (Nat.lt_irrefl _)
theorem HOk.kept (x:HOk P w H h) (k:∀ b u,h.get? b=some u->h'.get? b=some u):HOk P w H h':=fun a o e=>
 (x a o e).stay (fun b u _ q=>k b u q) (fun _ q=>q) fun _ _ q=>q
theorem HOk.laid (x:HOk P w H h) (k:∀ b u,h.get? b=some u->h'.get? b=some u) (hp:h.objs.size<=a) (new:ObjOk P w (upd H a o) h' a o):HOk P w (upd H a o) h':=fun b u e=>by
 have hn:=x.fresh hp
 by_cases hb:b=a
 ·subst hb; rw [qp] at e; cases e; exact new
 ·rw [qA hb] at e
  exact (x b u e).stay (fun c v _ q=>k c v q) (fun c q=>by rw [qA (qF q hn)]; exact q) fun c xs q=>by rw [qA (qF q hn)]; exact q
end
def Rd (H:Hp) (a:Addr) (u:HO):Prop:=H a=some u\/∃ o,H a=some (.frz o u)
theorem Rd.ok {P:Program} {w:World} {H:Hp} {h:Heap} {a:Addr} {u:HO} (r:Rd H a u) (x:HOk P w H h):ObjOk P w H h a u:=by
 rcases r with r | ⟨o,r⟩
 ·exact x a u r
 ·obtain ⟨_,q⟩:=x a _ r
  exact q
def Mut:Option HO->Prop
 | some (.lst _)=>True
 | some (.dK _)=>True
 | some (.dT _)=>True
 | some (.set _ _)=>True
 | some (.ins _ _ _)=>True
 | some (.ext _)=>True
 | _=>False
section
variable {P:Program} {w:World} {H:Hp} {h h':Heap} {x e:Addr} {o':HO}
theorem HOk.write (ok:HOk P w H h) (mu:Mut (H x)) (he:e=x\/H e=some (.own x)) (k:∀ b u,b≠e->h.get? b=some u->h'.get? b=some u) (heo:∃ u,h'.get? e=some u)
  (new:ObjOk P w (upd H x o') h' x o'):HOk P w (upd H x o') h':=fun b u q=>by
 have nown:∀ c y,H c=some (.own y)->c≠x:=fun c y r z=>by subst z; rw [r] at mu; exact mu
 have ntup:∀ c xs,H c=some (.tup xs)->c≠x:=fun c xs r z=>by subst z; rw [r] at mu; exact mu
 by_cases hb:b=x
 ·subst hb; rw [qp] at q; cases q; exact new
 ·rw [qA hb] at q
  by_cases hbe:b=e
  ·have q':H b=some (.own x):=by
    rcases he with z | z
    ·exact absurd (hbe.trans z) hb
    ·rw [hbe]; exact z
   rw [q] at q'; cases q'
   obtain ⟨v,hv⟩:=heo
   exact ⟨v,by rw [hbe]; exact hv⟩
  ·refine (ok b u q).stay (fun c v hc r=>k c v ?_ r) (fun c r=>by rw [qA (nown c b r)]; exact r) fun c xs r=>by rw [qA (ntup c xs r)]; exact r
   rcases hc with rfl | hc
   ·exact hbe
   ·rintro rfl
    rcases he with z | z
    ·exact nown c b hc z
    ·rw [hc] at z; cases z; exact hb rfl
end
structure Un (fs ex:List Addr) (H H':Hp) (h h':Heap):Prop where
 keep:∀ b o,h.get? b=some o->H b=none->b∉fs->b∉ex->h'.get? b=some o
 slot:∀ b o,h.get? b=some o->H b=none->b∈fs->b∉ex->∃ sl,h'.get? b=some { o with slots:=sl }
 free:∀ b o,h.get? b=some o->H b=none->b∉ex->H' b=none
 there:∀ b o,h.get? b=some o->b∉ex->∃ o',h'.get? b=some o'
 tups:∀ b xs,H b=some (.tup xs)->H' b=some (.tup xs)
 frzs:∀ b o u,H b=some (.frz o u)->H' b=some (.frz o u)
 tbls:∀ b ps,H b=some (.tbl ps)->∃ more,H' b=some (.tbl (ps++more))
section
variable {fs fs' ex ex':List Addr} {H H1 H2:Hp} {h h1 h2 h':Heap} {a x e:Addr} {o:HO}
theorem Un.any (u:Un fs ex H H1 h h1) {b:Addr} {ob:Obj} (q:h.get? b=some ob) (n:H b=none) (hx:b∉ex):∃ sl,h1.get? b=some { ob with slots:=sl }:=by
 by_cases hb:b∈fs
 ·exact u.slot b ob q n hb hx
 ·exact ⟨ob.slots,u.keep b ob q n hb hx⟩
theorem Un.kept (k:∀ b u,h.get? b=some u->h'.get? b=some u):Un fs ex H H h h':=
 ⟨fun b ob q _ _ _=>k b ob q,fun b ob q _ _ _=>⟨ob.slots,k b ob q⟩,fun _ _ _ n _=>n,fun b ob q _=>⟨ob,k b ob q⟩,fun _ _ q=>q,fun _ _ _ q=>q,fun _ ps q=>⟨#[],by rw [q]; simp⟩⟩
theorem Un.refl:Un fs ex H H h h:=Un.kept fun _ _ q=>q
theorem Un.laid (k:∀ b u,h.get? b=some u->h'.get? b=some u) (hp:h.objs.size<=a) (hn:H a=none):Un fs ex H (upd H a o) h h' where
 keep:=fun b u q _ _ _=>k b u q
 slot:=fun b u q _ _ _=>⟨u.slots,k b u q⟩
 free:=fun b u q n _=>by rw [qA (Nat.ne_of_lt (Nat.lt_of_lt_of_le (Heap.lt_size q) hp))]; exact n
 there:=fun b u q _=>⟨u,k b u q⟩
 tups:=fun b xs q=>by rw [qA (qF q hn)]; exact q
 frzs:=fun b u xs q=>by rw [qA (qF q hn)]; exact q
 tbls:=fun b ps q=>⟨#[],by rw [qA (qF q hn),q]; simp⟩
theorem Un.write (mu:Mut (H x)) (he:e=x\/H e=some (.own x)) (k:∀ b u,b≠e->h.get? b=some u->h'.get? b=some u) (heo:∃ u,h'.get? e=some u):Un fs ex H (upd H x o) h h':=by
 have hx:∀ b,H b=none->b≠x:=fun b n z=>by subst z; rw [n] at mu; exact mu
 have hb:∀ b,H b=none->b≠e:=fun b n z=>by
  subst z
  rcases he with r | r
  ·exact hx b n r
  ·rw [n] at r; cases r
 have hm:∀ b u,H b=some u->¬Mut (some u)->b≠x:=fun b u q nm z=>by subst z; rw [q] at mu; exact nm mu
 refine ⟨fun b u q n _ _=>k b u (hb b n) q,fun b u q n _ _=>⟨u.slots,k b u (hb b n) q⟩,fun b u q n _=>by rw [qA (hx b n)]; exact n,fun b u q _=>?_,
  fun b xs q=>by rw [qA (hm b _ q fun z=>z)]; exact q,fun b u xs q=>by rw [qA (hm b _ q fun z=>z)]; exact q,fun b ps q=>⟨#[],by rw [qA (hm b _ q fun z=>z),q]; simp⟩⟩
 by_cases hbe:b=e
 ·subst hbe; exact heo
 ·exact ⟨u,k b u hbe q⟩
end
noncomputable def trk (h:Heap) (H:Hp):List Addr:=(List.range h.objs.size).filter fun a=>(H a).isSome
noncomputable def Zs (h:Heap) (H:Hp):Heap:=PySem.W.hideAll h (trk h H)
theorem UM (h:Heap) (H:Hp):(Zs h H).objs.size=h.objs.size:=PySem.W.hideAll_size _ _
theorem Zu {h:Heap} {H:Hp} {b:Addr} {o:Obj} (e:h.get? b=some o) (n:H b=none):(Zs h H).get? b=some o:=
 PySem.W.hideAll_get _ e fun hm=>by
  have q:(H b).isSome=true:=(List.mem_filter.mp hm).2
  rw [n] at q; simp at q
theorem qaV {h:Heap} {H:Hp} {b:Addr} {o:Obj} (e:(Zs h H).get? b=some o):h.get? b=some o/\H b=none:=by
 have e':h.get? b=some o:=PySem.W.of_hideAll (trk h H) e
 refine ⟨e',?_⟩
 cases q:H b with
 | none=>rfl
 | some x=>
  have hm:b∈trk h H:=List.mem_filter.mpr ⟨List.mem_range.mpr (Heap.lt_size e'),by simp [q]⟩
  have z:(Zs h H).get? b=none:=PySem.W.hideAll_none (trk h H) hm
  rw [z] at e; cases e
noncomputable def qaW (g h:Heap) (L:Addr):List (Addr×Obj):=(List.range h.objs.size).filterMap fun a=>if a=L\/(g.get? a).isSome=true then none else (h.get? a).map fun o=>(a,o)
noncomputable def rest (g h:Heap) (L d:Addr):List (Addr×Obj):=(qaW g h L).filter fun p=>decide (p.1≠d)
structure Mod (K:Frag) (mg:Str->Option Value) (base:Heap):Prop where
 kin:K.In base
 glob:base.Ns mainGlobals mg
 blt:∃ mb,base.Ns builtinsNs mb/\∀ x:Str,x ≠ "__name__"->mb x=bootBuiltins x
 nolimit:base.NoLimit
structure Cx where
 prog:Program
 w:World
 K:Frag
 mg:Str->Option Value
 base:Heap
 A:Around
 N:List Str
 s₀:Shared
 H₀:Hp
 env:Env
 outer:List Env
 stack:List Env
 ex:List Addr
 fn:Str->Bool
 calm:Bool
 pn:List (Addr×Obj)
 xe:Value->Shared->Prop
noncomputable def frs (l:List Env):List Addr:=l.filterMap (·.frame)
abbrev Cx.fs (X:Cx):List Addr:=frs X.outer
def Vis (sc:Scope) (x:Str):Prop:=sc.names.lookup x=some .local\/sc.names.lookup x=some .cell\/sc.names.lookup x=some .free
def Loc (sc:Scope) (x:Str):Prop:=sc.names.lookup x=some .local\/sc.names.lookup x=some .cell
def KP (env:Env) (h:Heap) (m:Str->Option Value) (x:Str) (u:Value):Prop:=
 (env.kindOf x=some .local/\m x=some u)\/((env.kindOf x=some .cell\/env.kindOf x=some .free)/\∃ c,env.cells.lookup x=some c/\h.IsCell c (some u))
structure Cx.Ok (X:Cx):Prop where
 mod:Mod X.K X.mg X.base
 kind:X.env.scope.kind=.function
 glob:X.env.globals=mainGlobals
 blt:X.env.builtins=builtinsNs
 above:X.s₀.heap.objs.size<=X.env.locals
 inj:∀ x y c,X.env.cells.lookup x=some c->X.env.cells.lookup y=some c->x=y
 has:∀ x,(X.env.kindOf x=some .cell\/X.env.kindOf x=some .free)->∃ c,X.env.cells.lookup x=some c
 cab:∀ x c,X.fn x=true->X.env.cells.lookup x=some c->X.s₀.heap.objs.size<=c
 hd:X.calm=true->X.A.handled=none
 frames:X.A.frames=some X.stack
 stk:X.stack=X.outer\/(X.stack=X.env::X.outer/\X.env.frame=some X.env.locals)
 exf:∀ b∈X.ex,b≠X.env.locals/\∀ x c,X.env.cells.lookup x=some c->c≠b
 bs:∀ b o,X.base.get? b=some o->X.s₀.heap.get? b=some o/\X.H₀ b=none
 bsz:X.base.objs.size<=X.s₀.heap.objs.size
 noex:∀ b o,X.base.get? b=some o->b∉X.ex
 exfs:∀ b∈X.ex,b∉X.fs
 funs:X.s₀.heap.FunFrames X.base X.outer
 frf:∀ b∈X.fs,X.H₀ b=none
structure Inv (X:Cx) (pins:List (Addr×Obj)) (σ:List (Option V)) (H:Hp) (s:Shared):Prop where
 ok:X.Ok
 os:s.os=X.s₀.os
 bare:AllBare s.gens
 base:Un X.fs X.ex X.H₀ H X.s₀.heap s.heap
 loc:∃ m,s.heap.Ns X.env.locals m/\∀ (i:Nat) (x:Str) (v:V),X.N[i]?=some x->σ[i]?=some (some v)->Vis X.env.scope x->∃ u,RelV v u/\KP X.env s.heap m x u
 cell:∀ x c,X.env.cells.lookup x=some c->∃ v,s.heap.IsCell c v
 free:H X.env.locals=none
 freeC:∀ x c,X.env.cells.lookup x=some c->H c=none
 pin:∀ p∈X.pn++pins,s.heap.get? p.1=some p.2/\H p.1=none/\p.1≠X.env.locals/\p.1∉X.fs/\∀ v,p.2.data≠.cell v
 hok:HOk X.prog X.w H s.heap
 len:σ.length=X.N.length
section
variable {X:Cx} {pins:List (Addr×Obj)} {σ:List (Option V)} {H H':Hp} {s:Shared} {h':Heap}
theorem Cx.Ok.nofr (ok:X.Ok) {b:Addr} {o:Obj} (e:X.base.get? b=some o):b∉X.fs:=fun hb=>by
 have:=(ok.funs.mem hb).1
 rw [e] at this; cases this
theorem Inv.bs (I:Inv X pins σ H s):∀ b o,X.base.get? b=some o->s.heap.get? b=some o/\H b=none:=fun b o e=>
 ⟨I.base.keep b o (I.ok.bs b o e).1 (I.ok.bs b o e).2 (I.ok.nofr e) (I.ok.noex b o e),I.base.free b o (I.ok.bs b o e).1 (I.ok.bs b o e).2 (I.ok.noex b o e)⟩
theorem Inv.bk (I:Inv X pins σ H s):∀ b o,X.base.get? b=some o->s.heap.get? b=some o:=fun b o e=>(I.bs b o e).1
theorem Inv.mod (I:Inv X pins σ H s):Mod X.K X.mg X.base:=I.ok.mod
theorem Inv.kIn (I:Inv X pins σ H s):X.K.In s.heap:=I.ok.mod.kin.keeps I.bk
theorem Inv.nolimit (I:Inv X pins σ H s):s.heap.NoLimit:=I.ok.mod.nolimit.keeps I.bk
theorem Inv.fr (I:Inv X pins σ H s):∃ m,Fr X.base X.env.locals s.heap m:=
 let ⟨m,hn,_⟩:=I.loc
 ⟨m,hn,I.bk,Nat.le_trans I.ok.bsz I.ok.above⟩
theorem Inv.lt (I:Inv X pins σ H s):X.env.locals < s.heap.objs.size:=let ⟨_,hn,_⟩:=I.loc; hn.lt
theorem Inv.sz (I:Inv X pins σ H s):X.s₀.heap.objs.size<=s.heap.objs.size:=Nat.le_trans I.ok.above (Nat.le_of_lt I.lt)
theorem Inv.nofs (I:Inv X pins σ H s) {a:Addr} (h:s.heap.objs.size<=a):a∉X.fs:=fun hb=>by
 obtain ⟨_,o,ho,_⟩:=I.ok.funs.mem hb
 exact absurd (Nat.lt_of_lt_of_le (Heap.lt_size ho) (Nat.le_trans I.sz h)) (Nat.lt_irrefl _)
theorem Inv.cne (I:Inv X pins σ H s):∀ x c,X.env.cells.lookup x=some c->c≠X.env.locals:=fun x c e z=>by
 obtain ⟨v,o,ho,hd⟩:=I.cell x c e
 obtain ⟨m,⟨o',es,ep,ho',hd',_⟩,_⟩:=I.loc
 rw [z,ho'] at ho; cases ho; rw [hd'] at hd; cases hd
theorem Inv.funs (I:Inv X pins σ H s):s.heap.FunFrames X.base X.outer:=by
 have all:∀ (l:List Env),(∀ b∈frs l,b∈X.fs)->X.s₀.heap.FunFrames X.base l->s.heap.FunFrames X.base l:=by
  intro l
  induction l with
  | nil=>intro _ _; trivial
  | cons env r ih=>
   intro hs hl
   obtain ⟨hk,⟨L,o,hf,hn,ho,hd⟩,hr⟩:=hl
   have hL:L∈X.fs:=hs L (by unfold frs; rw [List.filterMap_cons,hf]; exact List.mem_cons_self)
   obtain ⟨sl,e⟩:=I.base.slot L o ho (I.ok.frf L hL) hL fun z=>I.ok.exfs L z hL
   exact ⟨hk,⟨L,_,hf,hn,e,hd⟩,ih (fun b hb=>hs b (by unfold frs; rw [List.filterMap_cons,hf]; exact List.mem_cons_of_mem _ hb)) hr⟩
 exact all X.outer (fun _ hb=>hb) I.ok.funs
theorem Inv.stack (I:Inv X pins σ H s):s.heap.FunFrames X.base X.stack:=by
 rcases I.ok.stk with e | ⟨e,hf⟩
 ·rw [e]; exact I.funs
 ·rw [e]
  obtain ⟨m,hn,_⟩:=I.loc
  refine .cons (by rw [I.ok.kind]; decide) hf hn ?_ I.funs
  exact Heap.get?_none_of_le (Nat.le_trans I.ok.bsz I.ok.above)
theorem Inv.stkSub (I:Inv X pins σ H s):∀ b∈frs X.stack,b∈X.env.locals::X.fs:=fun b hb=>by
 rcases I.ok.stk with e | ⟨e,hf⟩
 ·rw [e] at hb; exact List.mem_cons_of_mem _ hb
 ·rw [e] at hb
  unfold frs at hb
  rw [List.filterMap_cons,hf] at hb
  exact hb
theorem Inv.stkFree (I:Inv X pins σ H s):∀ b∈frs X.stack,H b=none:=fun b hb=>by
 rcases List.mem_cons.mp (I.stkSub b hb) with e | hb
 ·rw [e]; exact I.free
 ·obtain ⟨_,o,ho,_⟩:=I.ok.funs.mem hb
  exact I.base.free b o ho (I.ok.frf b hb) fun z=>I.ok.exfs b z hb
theorem Inv.step {g':Array GenState} {t':Nat} {d':Drawn} {ch:List Addr} (I:Inv X pins σ H s)
  (hch:∀ b∈ch,(b∈X.ex\/X.s₀.heap.objs.size<=b)/\b≠X.env.locals/\(∀ x c,X.env.cells.lookup x=some c->c≠b)/\∀ p∈X.pn++pins,p.1≠b)
  (keep:∀ b o,b≠X.env.locals->b∉X.fs->b∉ch->s.heap.get? b=some o->H b=none->h'.get? b=some o)
  (slot:∀ b o,b≠X.env.locals->b∈X.fs->b∉ch->s.heap.get? b=some o->H b=none->∃ sl,h'.get? b=some { o with slots:=sl }) (free:∀ b o,b∉ch->s.heap.get? b=some o->H b=none->H' b=none)
  (there:∀ b o,b∉ch->s.heap.get? b=some o->∃ o',h'.get? b=some o')
  (tups:∀ b xs,H b=some (.tup xs)->H' b=some (.tup xs)) (frzs:∀ b o u,H b=some (.frz o u)->H' b=some (.frz o u)) (tbls:∀ b ps,H b=some (.tbl ps)->∃ more,H' b=some (.tbl (ps++more)))
  (ns:∀ m,s.heap.Ns X.env.locals m->h'.Ns X.env.locals m) (hok:HOk X.prog X.w H' h') (hg:AllBare g') :
  Inv X pins σ H' { s with heap:=h',gens:=g',drawn:=d',toks:=t' }:=by
 have neL:∀ b o,X.s₀.heap.get? b=some o->b≠X.env.locals:=fun b o e=>Nat.ne_of_lt (Nat.lt_of_lt_of_le (Heap.lt_size e) I.ok.above)
 have neC:∀ b o,X.s₀.heap.get? b=some o->b∉X.ex->b∉ch:=fun b o e hx hb=>by
  rcases (hch b hb).1 with z | z
  ·exact hx z
  ·exact absurd (Nat.lt_of_lt_of_le (Heap.lt_size e) z) (Nat.lt_irrefl _)
 have cellK:∀ x c,X.env.cells.lookup x=some c->∀ v,s.heap.IsCell c v->h'.IsCell c v:=fun x c e v ⟨o,ho,hd⟩=>by
  have nch:c∉ch:=fun z=>(hch c z).2.2.1 x c e rfl
  by_cases hc:c∈X.fs
  ·obtain ⟨sl,q⟩:=slot c o (I.cne x c e) hc nch ho (I.freeC x c e)
   exact ⟨_,q,hd⟩
  ·exact ⟨o,keep c o (I.cne x c e) hc nch ho (I.freeC x c e),hd⟩
 refine ⟨I.ok,I.os,hg,⟨fun b o e n hb hx=>?_,fun b o e n hb hx=>?_,fun b o e n hx=>?_,fun b o e hx=>?_,fun b xs e=>tups b xs (I.base.tups b xs e),fun b o xs e=>frzs b o xs (I.base.frzs b o xs e),fun b ps e=>?_⟩,?_,fun x c e=>?_,?_,fun x c e=>?_,fun p hp=>?_,hok,I.len⟩
 ·exact keep b o (neL b o e) hb (neC b o e hx) (I.base.keep b o e n hb hx) (I.base.free b o e n hx)
 ·obtain ⟨sl,e1⟩:=I.base.slot b o e n hb hx
  obtain ⟨sl',e2⟩:=slot b _ (neL b o e) hb (neC b o e hx) e1 (I.base.free b o e n hx)
  exact ⟨sl',e2⟩
 ·obtain ⟨o',e1⟩:=I.base.there b o e hx
  exact free b o' (neC b o e hx) e1 (I.base.free b o e n hx)
 ·obtain ⟨o',e1⟩:=I.base.there b o e hx
  exact there b o' (neC b o e hx) e1
 ·obtain ⟨m1,e1⟩:=I.base.tbls b ps e
  obtain ⟨m2,e2⟩:=tbls b _ e1
  exact ⟨m1++m2,by rw [e2,Array.append_assoc]⟩
 ·obtain ⟨m,hn,hl⟩:=I.loc
  refine ⟨m,ns m hn,fun i x v e1 e2 e3=>?_⟩
  obtain ⟨u,r,l⟩:=hl i x v e1 e2 e3
  refine ⟨u,r,?_⟩
  rcases l with l | ⟨k,c,e,z⟩
  ·exact .inl l
  ·exact .inr ⟨k,c,e,cellK x c e _ z⟩
 ·obtain ⟨v,z⟩:=I.cell x c e
  exact ⟨v,cellK x c e v z⟩
 ·obtain ⟨m,⟨o,_,_,ho,_⟩,_⟩:=I.loc
  exact free _ o (fun z=>(hch _ z).2.1 rfl) ho I.free
 ·obtain ⟨v,o,ho,hd⟩:=I.cell x c e
  exact free c o (fun z=>(hch c z).2.2.1 x c e rfl) ho (I.freeC x c e)
 ·obtain ⟨e,n,ne,nf,d⟩:=I.pin p hp
  have nch:p.1∉ch:=fun z=>(hch p.1 z).2.2.2 p hp rfl
  exact ⟨keep p.1 p.2 ne nf nch e n,free p.1 p.2 nch e n,ne,nf,d⟩
theorem Inv.un {t':Nat} (I:Inv X pins σ H s) (u:Un X.fs [] H H' s.heap h') (hok:HOk X.prog X.w H' h'):Inv X pins σ H' { s with heap:=h',toks:=t' }:=by
 obtain ⟨m,⟨o,es,ep,ho,r⟩,_⟩:=id I.loc
 obtain ⟨sl,hL⟩:=u.any ho I.free (by simp)
 exact I.step (g':=s.gens) (d':=s.drawn) (ch:=[]) (fun _ z=>nomatch z) (fun b o _ hb _ e n=>u.keep b o e n hb (by simp)) (fun b o _ hb _ e n=>u.slot b o e n hb (by simp)) (fun b o _ e n=>u.free b o e n (by simp)) (fun b o _ e=>u.there b o e (by simp)) u.tups u.frzs u.tbls (fun m' hm=>by
  obtain ⟨o',es',ep',ho',r'⟩:=hm
  rw [ho] at ho'; cases ho'
  exact ⟨_,es',ep',hL,r'⟩) hok I.bare
theorem Inv.call {g':Array GenState} {t':Nat} {d':Drawn} {ch:List Addr} (I:Inv X pins σ H s) (u:Un (frs X.stack) ch H H' s.heap h') (hok:HOk X.prog X.w H' h') (hg:AllBare g')
  (hch:∀ b∈ch,(b∈X.ex\/X.s₀.heap.objs.size<=b)/\b≠X.env.locals/\(∀ x c,X.env.cells.lookup x=some c->c≠b)/\∀ p∈X.pn++pins,p.1≠b) :
  Inv X pins σ H' { s with heap:=h',gens:=g',drawn:=d',toks:=t' }:=by
 obtain ⟨m,⟨o,es,ep,ho,r⟩,_⟩:=id I.loc
 obtain ⟨sl,hL⟩:=u.any ho I.free fun z=>(hch _ z).2.1 rfl
 exact I.step (ch:=ch) hch (fun b o hL hb hc e n=>u.keep b o e n (fun z=>(List.mem_cons.mp (I.stkSub b z)).elim hL hb) hc) (fun b o _ _ hc e n=>u.any e n hc) (fun b o hc e n=>u.free b o e n hc) (fun b o hc e=>u.there b o e hc) u.tups u.frzs u.tbls (fun m' hm=>by
  obtain ⟨o',es',ep',ho',r'⟩:=hm
  rw [ho] at ho'; cases ho'
  exact ⟨_,es',ep',hL,r'⟩) hok hg
theorem Inv.turned {t':Nat} {it:Addr} (I:Inv X pins σ H s) (k:∀ b o,b≠it->s.heap.get? b=some o->h'.get? b=some o) (hn:H it=none) (hL:it≠X.env.locals)
  (h1:it∈X.ex\/X.s₀.heap.objs.size<=it) (h2:∀ x c,X.env.cells.lookup x=some c->c≠it) (h3:∀ p∈X.pn++pins,p.1≠it):Inv X pins σ H { s with heap:=h',toks:=t' }:=by
 have nit:∀ b u,H b=some u->b≠it:=fun b u e z=>by rw [z,hn] at e; cases e
 refine I.step (g':=s.gens) (d':=s.drawn) (ch:=[it]) (fun b hb=>?_) (fun b o _ _ hc e _=>k b o (fun z=>hc (by simp [z])) e) (fun b o _ _ hc e _=>⟨o.slots,k b o (fun z=>hc (by simp [z])) e⟩) (fun _ _ _ _ n=>n)
  (fun b o hc e=>⟨o,k b o (fun z=>hc (by simp [z])) e⟩) (fun _ _ e=>e) (fun _ _ _ e=>e) (fun b ps e=>⟨#[],by rw [e]; simp⟩) (fun m hm=>?_) (fun b u e=>?_) I.bare
 ·have e:b=it:=by simpa using hb
  subst e
  exact ⟨h1,hL,h2,h3⟩
 ·obtain ⟨o,es,ep,ho,r⟩:=hm
  exact ⟨o,es,ep,k _ o (Ne.symm hL) ho,r⟩
 ·refine (I.hok b u e).stay (fun c v hc q=>k c v ?_ q) (fun _ q=>q) fun _ _ q=>q
  rcases hc with z | z
  ·rw [z]; exact nit b u e
  ·exact nit c _ z
theorem Inv.tok (I:Inv X pins σ H s) (t:Nat):Inv X pins σ H { s with toks:=t }:=I.un (h':=s.heap) (t':=t) Un.refl I.hok
theorem Inv.kept {t':Nat} (I:Inv X pins σ H s) (k:∀ b u,s.heap.get? b=some u->h'.get? b=some u):Inv X pins σ H { s with heap:=h',toks:=t' }:=I.un (Un.kept k) (I.hok.kept k)
theorem Inv.laid {a:Addr} {o:HO} {t':Nat} (I:Inv X pins σ H s) (k:∀ b u,s.heap.get? b=some u->h'.get? b=some u) (hp:s.heap.objs.size<=a) (new:ObjOk X.prog X.w (upd H a o) h' a o) :
  Inv X pins σ (upd H a o) { s with heap:=h',toks:=t' }:=I.un (Un.laid k hp (I.hok.fresh hp)) (I.hok.laid k hp new)
theorem Inv.write {x e:Addr} {o:HO} {t':Nat} (I:Inv X pins σ H s) (mu:Mut (H x)) (he:e=x\/H e=some (.own x)) (k:∀ b u,b≠e->s.heap.get? b=some u->h'.get? b=some u) (heo:∃ u,h'.get? e=some u)
  (new:ObjOk X.prog X.w (upd H x o) h' x o):Inv X pins σ (upd H x o) { s with heap:=h',toks:=t' }:=I.un (Un.write mu he k heo) (I.hok.write mu he k heo new)
theorem Inv.pins_of {pins':List (Addr×Obj)} (I:Inv X pins σ H s) (h:∀ p∈pins',s.heap.get? p.1=some p.2/\H p.1=none/\p.1≠X.env.locals/\p.1∉X.fs/\∀ v,p.2.data≠.cell v):Inv X pins' σ H s:=
 ⟨I.ok,I.os,I.bare,I.base,I.loc,I.cell,I.free,I.freeC,fun p hp=>(List.mem_append.mp hp).elim (fun z=>I.pin p (List.mem_append_left _ z)) (h p),I.hok,I.len⟩
theorem VS {N:List Str} (hN:N.Nodup) {i j:Nat} {x:Str} (a:N[i]?=some x) (b:N[j]?=some x):i=j:=by
 obtain ⟨h1,e1⟩:=List.getElem?_eq_some_iff.mp a
 obtain ⟨h2,e2⟩:=List.getElem?_eq_some_iff.mp b
 exact (List.getElem_inj hN).mp (e1.trans e2.symm)
theorem Jx {M:Model} {A:Around} {E:Value->Shared->Prop} {i:Nat} {x:Str} {v:V} {u:Value} {Q:Unit->Shared->Prop} (I:Inv X pins σ H s) (hN:X.N.Nodup) (hi:X.N[i]?=some x) (hx:Loc X.env.scope x) (r:RelV v u)
  (h:∀ s',Inv X pins (σ.set i (some v)) H s'->(∃ a,Heap.SameBut a s.heap s'.heap/\(a=X.env.locals\/X.env.cells.lookup x=some a))->Q () s') (hf:X.fn x=true\/X.env.scope.names.lookup x=some .local:=by first | exact .inl rfl | exact .inr rfl | assumption):wpAny M A (storeName X.env x u) Q E s:=by
 obtain ⟨m,hn,hl⟩:=id I.loc
 have hcls:(X.env.scope.kind == .class||(X.env.scope.kind == .module&&X.env.locals != X.env.globals))=false:=by rw [I.ok.kind]; rfl
 have hiσ:i < σ.length:=by rw [I.len]; exact (List.getElem?_eq_some_iff.mp hi).1
 have cne:=I.cne
 have tracked:∀ {a:Addr} {h':Heap},(∃ o,s.heap.get? a=some o/\H a=none)->Heap.SameBut a s.heap h'->HOk X.prog X.w H h':=fun {a h'} ha hs b ob e=>by
  obtain ⟨_,_,hfree⟩:=ha
  refine (I.hok b ob e).stay (fun c w' hc q=>(hs.2 c ?_).trans q) (fun _ q=>q) fun _ _ q=>q
  rintro rfl
  rcases hc with rfl | hc
  ·rw [hfree] at e; cases e
  ·rw [hfree] at hc; cases hc
 rcases hx with hk | hk
 ·refine wpAny_storeName_local hk hn (fun h' hn' hs=>?_) hcls
  obtain ⟨oL,_,_,hoL,_⟩:=id hn
  refine h _ ⟨I.ok,I.os,I.bare,⟨fun b o e n hb hx=>?_,fun b o e n hb hx=>?_,I.base.free,fun b o e hx=>?_,I.base.tups,I.base.frzs,I.base.tbls⟩,⟨_,hn',fun j y v' e1 e2 e3=>?_⟩,fun y c e=>?_,I.free,I.freeC,fun p hp=>?_,tracked ⟨oL,hoL,I.free⟩ hs,by simpa using I.len⟩ ⟨_,hs,.inl rfl⟩
  ·exact (hs.2 b (Nat.ne_of_lt (Nat.lt_of_lt_of_le (Heap.lt_size e) I.ok.above))).trans (I.base.keep b o e n hb hx)
  ·obtain ⟨sl,e1⟩:=I.base.slot b o e n hb hx
   exact ⟨sl,(hs.2 b (Nat.ne_of_lt (Nat.lt_of_lt_of_le (Heap.lt_size e) I.ok.above))).trans e1⟩
  ·obtain ⟨o',e1⟩:=I.base.there b o e hx
   exact ⟨o',(hs.2 b (Nat.ne_of_lt (Nat.lt_of_lt_of_le (Heap.lt_size e) I.ok.above))).trans e1⟩
  ·by_cases hj:j=i
   ·subst hj
    rw [hi] at e1; cases e1
    rw [List.getElem?_set_self hiσ] at e2
    cases e2
    exact ⟨u,r,.inl ⟨hk,by simp⟩⟩
   ·rw [List.getElem?_set_ne (Ne.symm hj)] at e2
    obtain ⟨u',r',q⟩:=hl j y v' e1 e2 e3
    refine ⟨u',r',?_⟩
    rcases q with ⟨k,e⟩ | ⟨k,c,e,z⟩
    ·refine .inl ⟨k,?_⟩
     have:y≠x:=fun e=>hj (VS hN e1 (e ▸ hi))
     simp [this,e]
    ·exact .inr ⟨k,c,e,z.sameBut hs (cne y c e)⟩
  ·obtain ⟨w',z⟩:=I.cell y c e
   exact ⟨w',z.sameBut hs (cne y c e)⟩
  ·obtain ⟨e,n,ne,nf,d⟩:=I.pin p hp
   exact ⟨(hs.2 p.1 ne).trans e,n,ne,nf,d⟩
 ·have hfn:X.fn x=true:=by
   rcases hf with z | z
   ·exact z
   ·rw [z] at hk; cases hk
  obtain ⟨c,hc⟩:=I.ok.has x (.inl hk)
  obtain ⟨w',z⟩:=I.cell x c hc
  refine wpAny_storeName_cell I.ok.kind hk hc z (fun h' hc' hs=>?_)
  obtain ⟨oc,hoc,hocd⟩:=id z
  refine h { s with heap:=h' } ⟨I.ok,I.os,I.bare,⟨fun b o e n hb hx=>?_,fun b o e n hb hx=>?_,I.base.free,fun b o e hx=>?_,I.base.tups,I.base.frzs,I.base.tbls⟩,⟨m,hn.sameBut hs (Ne.symm (cne x c hc)),fun j y v' e1 e2 e3=>?_⟩,fun y c' e=>?_,I.free,I.freeC,fun p hp=>?_,tracked ⟨oc,hoc,I.freeC x c hc⟩ hs,by simpa using I.len⟩ ⟨c,hs,.inr hc⟩
  ·exact (hs.2 b (Nat.ne_of_lt (Nat.lt_of_lt_of_le (Heap.lt_size e) (I.ok.cab x c hfn hc)))).trans (I.base.keep b o e n hb hx)
  ·obtain ⟨sl,e1⟩:=I.base.slot b o e n hb hx
   exact ⟨sl,(hs.2 b (Nat.ne_of_lt (Nat.lt_of_lt_of_le (Heap.lt_size e) (I.ok.cab x c hfn hc)))).trans e1⟩
  ·obtain ⟨o',e1⟩:=I.base.there b o e hx
   exact ⟨o',(hs.2 b (Nat.ne_of_lt (Nat.lt_of_lt_of_le (Heap.lt_size e) (I.ok.cab x c hfn hc)))).trans e1⟩
  ·by_cases hj:j=i
   ·subst hj
    rw [hi] at e1; cases e1
    rw [List.getElem?_set_self hiσ] at e2
    cases e2
    exact ⟨u,r,.inr ⟨.inl hk,c,hc,hc'⟩⟩
   ·rw [List.getElem?_set_ne (Ne.symm hj)] at e2
    obtain ⟨u',r',q⟩:=hl j y v' e1 e2 e3
    refine ⟨u',r',?_⟩
    rcases q with q | ⟨k,c',e,z'⟩
    ·exact .inl q
    ·refine .inr ⟨k,c',e,z'.sameBut hs ?_⟩
     rintro rfl
     exact hj (VS hN e1 (I.ok.inj _ _ _ e hc ▸ hi))
  ·by_cases hcc:c'=c
   ·subst hcc; exact ⟨_,hc'⟩
   ·obtain ⟨w2,z2⟩:=I.cell y c' e
    exact ⟨w2,z2.sameBut hs hcc⟩
  ·obtain ⟨e,n,ne,nf,d⟩:=I.pin p hp
   refine ⟨(hs.2 p.1 ?_).trans e,n,ne,nf,d⟩
   intro q
   rw [q,hoc] at e
   have q':oc=p.2:=Option.some.inj e
   exact d w' (by rw [<-q']; exact hocd)
theorem VT {M:Model} {A:Around} {E:Value->Shared->Prop} {i:Nat} {x:Str} {v:V} {u:Value} {Q:Unit->Shared->Prop} (I:Inv X pins σ H s) (hN:X.N.Nodup) (hi:X.N[i]?=some x) (hx:Loc X.env.scope x) (r:RelV v u)
  (h:∀ s',Inv X pins (σ.set i (some v)) H s'->Q () s') (hf:X.fn x=true\/X.env.scope.names.lookup x=some .local:=by first | exact .inl rfl | exact .inr rfl | assumption):wpAny M A (storeName X.env x u) Q E s:=
 Jx I hN hi hx r (fun s' I' _=>h s' I') hf
theorem Inv.call' {s':Shared} {ch:List Addr} (I:Inv X pins σ H s) (ho:s'.os=s.os) (u:Un (frs X.stack) ch H H' s.heap s'.heap) (hok:HOk X.prog X.w H' s'.heap) (hg:AllBare s'.gens)
  (hch:∀ b∈ch,(b∈X.ex\/X.s₀.heap.objs.size<=b)/\b≠X.env.locals/\(∀ x c,X.env.cells.lookup x=some c->c≠b)/\∀ p∈X.pn++pins,p.1≠b):Inv X pins σ H' s':=by
 obtain ⟨h',g',d',t',o'⟩:=s'
 have e:o'=s.os:=ho
 subst e
 exact I.call (g':=g') (t':=t') (d':=d') u hok hg hch
end
abbrev XK:=Value->Option Addr->Hp->Prop
abbrev St:=List (Option V)
abbrev VK:=V->Hp->Prop
abbrev TE:=St->Hp->VK->Prop
abbrev TT:=St->Hp->(Bool->Hp->Prop)->Prop
abbrev TA:=St->Hp->(List V->Hp->Prop)->Prop
structure Ends where
 nx:St->Hp->Prop
 rt:VK
 bk:St->Hp->Prop:=fun _ _=>False
 ct:St->Hp->Prop:=fun _ _=>False
abbrev TS:=Ends->St->Hp->Prop
def EP (X:Cx) (pins:List (Addr×Obj)) (σ:St) (Q:VK) (u:Value) (s':Shared):Prop:=∃ v H',Inv X pins σ H' s'/\RelV v u/\Q v H'
def TP (X:Cx) (pins:List (Addr×Obj)) (σ:St) (Q:Bool->Hp->Prop) (b:Bool) (s':Shared):Prop:=∃ H',Inv X pins σ H' s'/\Q b H'
def AP (X:Cx) (pins:List (Addr×Obj)) (σ:St) (Q:List V->Hp->Prop) (us:List Value) (s':Shared):Prop:=∃ vs H',Inv X pins σ H' s'/\Vals vs us/\Q vs H'
def SP (X:Cx) (pins:List (Addr×Obj)) (D:Ends) (f:Flow) (s':Shared):Prop:=
 match f with
 | .next=>∃ σ' H',Inv X pins σ' H' s'/\D.nx σ' H'
 | .brk=>∃ σ' H',Inv X pins σ' H' s'/\D.bk σ' H'
 | .cont=>∃ σ' H',Inv X pins σ' H' s'/\D.ct σ' H'
 | .ret u=>∃ v σ' H',Inv X pins σ' H' s'/\RelV v u/\D.rt v H'
structure PE (X:Cx) (e:Expr) (t:TE):Prop where
 run:∀ (pins:List (Addr×Obj)) (s:Shared) (σ:St) (H:Hp) (Q:VK),Inv X pins σ H s->t σ H Q->wpAny (model X.prog X.w) X.A (eval e X.env) (EP X pins σ Q) X.xe s
instance {X:Cx} {e:Expr} {t:TE}:CoeFun (PE X e t) (fun _=>∀ (pins:List (Addr×Obj)) (s:Shared) (σ:St) (H:Hp) (Q:VK),Inv X pins σ H s->t σ H Q->wpAny (model X.prog X.w) X.A (eval e X.env) (EP X pins σ Q) X.xe s):=⟨fun h=>h.run⟩
structure PT (X:Cx) (e:Expr) (t:TT):Prop where
 run:∀ (pins:List (Addr×Obj)) (s:Shared) (σ:St) (H:Hp) (Q:Bool->Hp->Prop),Inv X pins σ H s->t σ H Q->wpAny (model X.prog X.w) X.A (isTrue e X.env (eval e X.env)) (TP X pins σ Q) X.xe s
instance {X:Cx} {e:Expr} {t:TT}:CoeFun (PT X e t) (fun _=>∀ (pins:List (Addr×Obj)) (s:Shared) (σ:St) (H:Hp) (Q:Bool->Hp->Prop),Inv X pins σ H s->t σ H Q->wpAny (model X.prog X.w) X.A (isTrue e X.env (eval e X.env)) (TP X pins σ Q) X.xe s):=⟨fun h=>h.run⟩
structure PW (X:Cx) (e:Expr) (t:TT):Prop where
 run:∀ (whole:Sem Value) (pins:List (Addr×Obj)) (s:Shared) (σ:St) (H:Hp) (Q:Bool->Hp->Prop),Inv X pins σ H s->t σ H Q->wpAny (model X.prog X.w) X.A (isTrue e X.env whole) (TP X pins σ Q) X.xe s
instance {X:Cx} {e:Expr} {t:TT}:CoeFun (PW X e t) (fun _=>∀ (whole:Sem Value) (pins:List (Addr×Obj)) (s:Shared) (σ:St) (H:Hp) (Q:Bool->Hp->Prop),Inv X pins σ H s->t σ H Q->wpAny (model X.prog X.w) X.A (isTrue e X.env whole) (TP X pins σ Q) X.xe s):=⟨fun h=>h.run⟩
theorem PW.pt {X:Cx} {e:Expr} {t:TT} (h:PW X e t):PT X e t:=⟨h.run _⟩
structure PA (X:Cx) (es:List Expr) (t:TA):Prop where
 run:∀ (pos:Pos) (pins:List (Addr×Obj)) (s:Shared) (σ:St) (H:Hp) (Q:List V->Hp->Prop),Inv X pins σ H s->t σ H Q->wpAny (model X.prog X.w) X.A (spliced (backTo pos (starEach es X.env))) (AP X pins σ Q) X.xe s
instance {X:Cx} {es:List Expr} {t:TA}:CoeFun (PA X es t) (fun _=>∀ (pos:Pos) (pins:List (Addr×Obj)) (s:Shared) (σ:St) (H:Hp) (Q:List V->Hp->Prop),Inv X pins σ H s->t σ H Q->wpAny (model X.prog X.w) X.A (spliced (backTo pos (starEach es X.env))) (AP X pins σ Q) X.xe s):=⟨fun h=>h.run⟩
structure PS (X:Cx) (st:Stmt) (t:TS):Prop where
 run:∀ (pins:List (Addr×Obj)) (s:Shared) (σ:St) (H:Hp) (D:Ends),Inv X pins σ H s->t D σ H->wpAny (model X.prog X.w) X.A (exec st X.env) (SP X pins D) X.xe s
instance {X:Cx} {st:Stmt} {t:TS}:CoeFun (PS X st t) (fun _=>∀ (pins:List (Addr×Obj)) (s:Shared) (σ:St) (H:Hp) (D:Ends),Inv X pins σ H s->t D σ H->wpAny (model X.prog X.w) X.A (exec st X.env) (SP X pins D) X.xe s):=⟨fun h=>h.run⟩
structure PSs (X:Cx) (st:List Stmt) (t:TS):Prop where
 run:∀ (pins:List (Addr×Obj)) (s:Shared) (σ:St) (H:Hp) (D:Ends),Inv X pins σ H s->t D σ H->wpAny (model X.prog X.w) X.A (execs st X.env) (SP X pins D) X.xe s
instance {X:Cx} {st:List Stmt} {t:TS}:CoeFun (PSs X st t) (fun _=>∀ (pins:List (Addr×Obj)) (s:Shared) (σ:St) (H:Hp) (D:Ends),Inv X pins σ H s->t D σ H->wpAny (model X.prog X.w) X.A (execs st X.env) (SP X pins D) X.xe s):=⟨fun h=>h.run⟩
theorem thn {α:Type} {t:Sem α} {Q Q':α->Shared->Prop} {M:Model} {A:Around} {E:Value->Shared->Prop} {s:Shared} (h:wpAny M A t Q E s) (hQ:∀ a s,Q a s->Q' a s):wpAny M A t Q' E s:=wpAny_mono h hQ fun _ _ x=>x
section
variable {X:Cx}
def qfq (i:Nat):TE:=fun σ H Q=>∃ v,σ[i]?=some (some v)/\Q v H
def tC (v:V):TE:=fun _ H Q=>Q v H
theorem uI {i:Nat} {x:Str} {pos:Pos} (hN:X.N[i]?=some x) (hv:Vis X.env.scope x) (hd:(x == ("__debug__":Str))=false:=by decide) (hcd:(x == ("__classdict__":Str))=false:=by decide):PE X (.Name x pos) (qfq i):=by
 refine ⟨?_⟩
 intro pins s σ H Q I h
 obtain ⟨v,e,h⟩:=h
 obtain ⟨m,hn,hl⟩:=I.loc
 obtain ⟨u,r,l⟩:=hl i x v hN e hv
 have fin:EP X pins σ Q u s:=⟨v,H,I,r,h⟩
 rcases l with ⟨hk,hm⟩ | ⟨hk,c,hc,hcell⟩
 ·exact wpAny_Name (wpAny_loadName_local I.ok.kind hk hn hm fin) hd
 ·rcases hk with hk | hk
  ·exact wpAny_Name (wpAny_loadName_cell I.ok.kind hk hc hcell fin) hd
  ·exact wpAny_Name (wpAny_loadName_free I.ok.kind hk hc hcell fin hcd) hd
theorem qae {i j pos}:PE X (.Constant (.int i) j pos) (tC (.int i)):=⟨fun _ _ _ H _ I h=>wpAny_Constant_int ⟨.int i,H,I.tok _,⟨_,rfl⟩,h⟩⟩
theorem qfr {b j pos}:PE X (.Constant (.bool b) j pos) (tC (.bl b)):=⟨fun _ _ _ H _ I h=>Constant_bool ⟨.bl b,H,I,rfl,h⟩⟩
theorem qcW {j pos}:PE X (.Constant .none j pos) (tC .non):=⟨fun _ _ _ H _ I h=>Constant_none ⟨.non,H,I,rfl,h⟩⟩
theorem qaf {x j pos}:PE X (.Constant (.str x) j pos) (tC (.str x)):=⟨fun _ _ _ H _ I h=>Calls.Constant_str ⟨.str x,H,I.tok _,⟨_,rfl⟩,h⟩⟩
def Gl (X:Cx) (x:Str):Prop:=X.env.kindOf x=some .globalImplicit
theorem KU {E:Value->Shared->Prop} {pins:List (Addr×Obj)} {s:Shared} {σ:St} {H:Hp} {x:Str} {u:Value} {pos:Pos} {Q:Value->Shared->Prop} (I:Inv X pins σ H s) (hg:Gl X x) (hm:X.mg x=some u) (h:Q u s)
  (hd:(x == ("__debug__":Str))=false:=by decide):wpAny (model X.prog X.w) X.A (eval (.Name x pos) X.env) Q E s:=
 Calls.Name_function_global I.ok.kind hg (Calls.loadGlobal_global (by rw [I.ok.glob]; exact I.mod.glob.keeps I.bk) hm h) hd
theorem zp {E:Value->Shared->Prop} {pins:List (Addr×Obj)} {s:Shared} {σ:St} {H:Hp} {x:Str} {u:Value} {pos:Pos} {Q:Value->Shared->Prop} (I:Inv X pins σ H s) (hg:Gl X x) (hm:X.mg x=none) (hv:bootBuiltins x=some u) (h:Q u s)
  (hn:x ≠ "__name__":=by decide) (hd:(x == ("__debug__":Str))=false:=by decide):wpAny (model X.prog X.w) X.A (eval (.Name x pos) X.env) Q E s:=by
 obtain ⟨mb,h1,h2⟩:=I.mod.blt
 exact Calls.Name_function_global I.ok.kind hg (Calls.loadGlobal_builtin (by rw [I.ok.glob]; exact I.mod.glob.keeps I.bk) hm (by rw [I.ok.blt]; exact h1.keeps I.bk) ((h2 x hn).trans hv) h) hd
theorem qaX {x:Str} {v:V} {u:Value} {pos:Pos} (hg:Gl X x) (hm:X.mg x=some u) (r:RelV v u) (hd:(x == ("__debug__":Str))=false:=by decide):PE X (.Name x pos) (tC v):=⟨fun _ _ _ H _ I h=>KU I hg hm ⟨v,H,I,r,h⟩ hd⟩
theorem qaY {x:Str} {v:V} {u:Value} {pos:Pos} (hg:Gl X x) (hm:X.mg x=none) (hv:bootBuiltins x=some u) (r:RelV v u) (hn:x ≠ "__name__":=by decide) (hd:(x == ("__debug__":Str))=false:=by decide):PE X (.Name x pos) (tC v):=⟨fun _ _ _ H _ I h=>zp I hg hm hv ⟨v,H,I,r,h⟩ hn hd⟩
variable {a b:Expr} {ta tb:TE} {pos:Pos}
variable {tA tB':TT} {rest:List Expr}
def qhb (t u:TT):TT:=fun σ H Q=>t σ H fun c H1=>if c=true then u σ H1 Q else Q false H1
def tOr (t u:TT):TT:=fun σ H Q=>t σ H fun c H1=>if c=true then Q true H1 else u σ H1 Q
def qhc (t:TT):TT:=fun σ H Q=>t σ H fun c H1=>Q (!c) H1
theorem qaZ (ha:PT X a tA):PW X (.BoolOp .And [a] pos) tA:=by
 refine ⟨?_⟩
 intro wh pins s σ H Q I h
 refine isTrue_and (thn (ha pins s σ H Q I h) fun c s1 e=>?_)
 cases c with
 | true=>exact isTrue_and_nil e
 | false=>exact e
theorem qcX (ha:PT X a tA):PW X (.BoolOp .Or [a] pos) tA:=by
 refine ⟨?_⟩
 intro wh pins s σ H Q I h
 refine isTrue_or (thn (ha pins s σ H Q I h) fun c s1 e=>?_)
 cases c with
 | false=>exact isTrue_or_nil e
 | true=>exact e
theorem qcY (ha:PT X a tA) (hb:PW X (.BoolOp .And (b::rest) pos) tB'):PW X (.BoolOp .And (a::b::rest) pos) (qhb tA tB'):=by
 refine ⟨?_⟩
 intro wh pins s σ H Q I h
 refine isTrue_and (thn (ha pins s σ H _ I h) fun c s1 ⟨H1,I1,q1⟩=>?_)
 cases c with
 | true=>exact hb wh pins s1 σ H1 Q I1 q1
 | false=>exact ⟨H1,I1,q1⟩
theorem qfs (ha:PT X a tA) (hb:PW X (.BoolOp .Or (b::rest) pos) tB'):PW X (.BoolOp .Or (a::b::rest) pos) (tOr tA tB'):=by
 refine ⟨?_⟩
 intro wh pins s σ H Q I h
 refine isTrue_or (thn (ha pins s σ H _ I h) fun c s1 ⟨H1,I1,q1⟩=>?_)
 cases c with
 | true=>exact ⟨H1,I1,q1⟩
 | false=>exact hb wh pins s1 σ H1 Q I1 q1
theorem qcZ (ha:PT X a tA):PT X (.UnaryOp .Not a pos) (qhc tA):=by
 refine ⟨?_⟩
 intro pins s σ H Q I h
 exact isTrue_not (ha pins s σ H (fun c H1=>Q (!c) H1) I h)
def qft (ta tb:TE):TE:=fun σ H Q=>ta σ H fun x H1=>∃ c,x=.bl c/\if c=true then tb σ H1 Q else Q (.bl false) H1
def qhd (ta tb:TE):TE:=fun σ H Q=>ta σ H fun x H1=>∃ c,x=.bl c/\if c=true then Q (.bl true) H1 else tb σ H1 Q
theorem qc0 {op} {t:TE} (h:PE X a t):PE X (.BoolOp op [a] pos) t:=⟨fun pins s σ H Q I hw=>BoolOp_one (h pins s σ H Q I hw)⟩
theorem qc1 (ha:PE X a ta) (hb:PE X (.BoolOp .And (b::rest) pos) tb):PE X (.BoolOp .And (a::b::rest) pos) (qft ta tb):=by
 refine ⟨?_⟩
 intro pins s σ H Q I h
 refine BoolOp_and (thn (ha pins s σ H _ I h) fun v s1 ⟨x,H1,I1,r1,q1⟩=>?_)
 obtain ⟨c,rfl,q1⟩:=q1
 cases r1
 refine wpAny_truthy_bool ?_
 cases c with
 | true=>exact hb pins s1 σ H1 Q I1 q1
 | false=>exact ⟨.bl false,H1,I1,rfl,q1⟩
theorem qfu (ha:PE X a ta) (hb:PE X (.BoolOp .Or (b::rest) pos) tb):PE X (.BoolOp .Or (a::b::rest) pos) (qhd ta tb):=by
 refine ⟨?_⟩
 intro pins s σ H Q I h
 refine BoolOp_or (thn (ha pins s σ H _ I h) fun v s1 ⟨x,H1,I1,r1,q1⟩=>?_)
 obtain ⟨c,rfl,q1⟩:=q1
 cases r1
 refine wpAny_truthy_bool ?_
 cases c with
 | false=>exact hb pins s1 σ H1 Q I1 q1
 | true=>exact ⟨.bl true,H1,I1,rfl,q1⟩
def tIf (t:TT) (ta tb:TE):TE:=fun σ H Q=>t σ H fun c H1=>if c=true then ta σ H1 Q else tb σ H1 Q
theorem Zv {c:Expr} (hc:PT X c tA) (ha:PE X a ta) (hb:PE X b tb):PE X (.IfExp c a b pos) (tIf tA ta tb):=by
 refine ⟨?_⟩
 intro pins s σ H Q I h
 refine wpAny_IfExp (thn (hc pins s σ H _ I h) fun d s1 ⟨H1,I1,q1⟩=>?_)
 cases d with
 | true=>exact ha pins s1 σ H1 Q I1 q1
 | false=>exact hb pins s1 σ H1 Q I1 q1
end
def SqL (K:Frag) (H:Hp) (a:Addr) (xs:List V):Prop:=
 Rd H a (.lst xs) \/
  ∃ (o:Obj) (its:Array Value) (n:Nat),K.lookup a=some o/\o.cls=.type "list"/\o.dict=none/\o.data=.seq its n/\its.size<=sizeLine/\Vals xs its.toList
def SqT (K:Frag) (H:Hp) (a:Addr) (xs:List V):Prop:=
 Rd H a (.tup xs) \/
  ∃ (o:Obj) (its:Array Value) (n:Nat),K.lookup a=some o/\(o.cls=.type "tuple"/\o.dict=none)/\o.data=.seq its n/\its.size<=sizeLine/\Vals xs its.toList
noncomputable def qhe:Value->Option V
 | .none=>some .non
 | .bool b=>some (.bl b)
 | .int i _=>some (.int i)
 | .str x _=>some (.str x)
 | .bytes b _=>some (.byt b)
 | .float b _=>some (.flt b)
 | .ref a=>some (.ref a)
 | .type n=>some (.ty n)
 | _=>none
theorem RelV.abs {x:V} {u:Value} (r:RelV x u):qhe u=some x:=by
 cases x with
 | non=>cases r; rfl
 | bl _=>cases r; rfl
 | int _=>obtain ⟨t,rfl⟩:=r; rfl
 | str _=>obtain ⟨t,rfl⟩:=r; rfl
 | byt _=>obtain ⟨t,rfl⟩:=r; rfl
 | flt _=>obtain ⟨t,rfl⟩:=r; rfl
 | ref _=>cases r; rfl
 | ty _=>cases r; rfl
theorem RelV.inj {x y:V} {u:Value} (r:RelV x u) (q:RelV y u):x=y:=Option.some.inj (r.abs.symm.trans q.abs)
theorem Vals.inj:∀ {xs ys:List V} {us:List Value},Vals xs us->Vals ys us->xs=ys
 | _,_,_,.nil,.nil=>rfl
 | _,_,_,.cons r t,.cons r' t'=>by rw [r.inj r',Vals.inj t t']
section
variable {X:Cx} {pins:List (Addr×Obj)} {σ:St} {H:Hp} {s:Shared} {a:Addr} {xs ys:List V}
theorem SqT.of {K:Frag} (h:H a=some (.tup xs)):SqT K H a xs:=.inl (.inl h)
theorem Inv.list (I:Inv X pins σ H s) (h:SqL X.K H a xs):∃ its:List Value,Vals xs its/\PlainL s.heap a its.toArray/\xs.length<=sizeLine:=by
 rcases h with h | ⟨o,its,n,hk,hc,hd,hs,hz,r⟩
 ·obtain ⟨z,its,n,r,e⟩:=h.ok I.hok
  exact ⟨its,r,⟨_,n,e,rfl,rfl,rfl⟩,z⟩
 ·refine ⟨its.toList,r,⟨o,n,I.kIn a o hk,hc,hd,by simpa using hs⟩,?_⟩
  have e:=r.length
  simp only [Array.length_toList] at e
  omega
theorem Inv.tuple (I:Inv X pins σ H s) (h:SqT X.K H a xs):∃ its:List Value,Vals xs its/\IsTup s.heap a its.toArray/\xs.length<=sizeLine:=by
 rcases h with h | ⟨o,its,n,hk,hc,hs,hz,r⟩
 ·obtain ⟨⟨z,_⟩,its,r,p⟩:=h.ok I.hok
  exact ⟨its,r,p,z⟩
 ·refine ⟨its.toList,r,⟨o,I.kIn a o hk,hc.1,n,by simpa using hs⟩,?_⟩
  have e:=r.length
  simp only [Array.length_toList] at e
  omega
theorem Inv.tupleN (I:Inv X pins σ H s) (h:SqT X.K H a xs):∃ o,s.heap.get? a=some o/\o.dict=none:=by
 rcases h with h | ⟨o,its,n,hk,hc,hs,hz,r⟩
 ·obtain ⟨⟨z,w⟩,its,r,p⟩:=h.ok I.hok
  exact w
 ·exact ⟨o,I.kIn a o hk,hc.2⟩
theorem Inv.list_inj (I:Inv X pins σ H s) (h:SqL X.K H a xs) (h':SqL X.K H a ys):xs=ys:=by
 obtain ⟨its,r,⟨o,n,e,_,_,d⟩,_⟩:=I.list h
 obtain ⟨its',r',⟨o',n',e',_,_,d'⟩,_⟩:=I.list h'
 rw [e] at e'; cases e'
 rw [d] at d'
 injection d' with d1 _
 have:its=its':=by simpa using congrArg Array.toList d1
 subst this
 exact r.inj r'
theorem Inv.tuple_inj (I:Inv X pins σ H s) (h:SqT X.K H a xs) (h':SqT X.K H a ys):xs=ys:=by
 obtain ⟨its,r,⟨o,e,_,n,d⟩,_⟩:=I.tuple h
 obtain ⟨its',r',⟨o',e',_,n',d'⟩,_⟩:=I.tuple h'
 rw [e] at e'; cases e'
 rw [d] at d'
 injection d' with d1 _
 have:its=its':=by simpa using congrArg Array.toList d1
 subst this
 exact r.inj r'
end
section
variable {X:Cx} {st:Stmt} {rest:List Stmt} {t u:TS} {e:Expr} {te:TE} {pos:Pos}
def qfv:TS:=fun D σ H=>D.nx σ H
def qhf (t u:TS):TS:=fun D σ H=>t { D with nx:=u D } σ H
theorem qa0:PSs X [] qfv:=⟨fun _ _ σ H _ I h=>wpAny_execs_nil ⟨σ,H,I,h⟩⟩
theorem Zw (h1:PS X st t) (h2:PSs X rest u):PSs X (st::rest) (qhf t u):=by
 refine ⟨?_⟩
 intro pins s σ H D I h
 refine wpAny_execs_cons (thn (h1 pins s σ H { D with nx:=u D } I h) fun f s1 q=>?_)
 cases f with
 | next=>
  obtain ⟨σ',H',I',q⟩:=q
  exact h2 pins s1 σ' H' D I' q
 | ret v=>exact q
 | brk=>exact q
 | cont=>exact q
theorem qa1 (h1:PS X st t):PSs X [st] t:=by
 refine ⟨?_⟩
 intro pins s σ H D I h
 refine wpAny_execs_cons (thn (h1 pins s σ H D I h) fun f s1 q=>?_)
 cases f with
 | next=>exact wpAny_execs_nil q
 | ret v=>exact q
 | brk=>exact q
 | cont=>exact q
theorem Inv.quiet {pins:List (Addr×Obj)} {σ:St} {H:Hp} {s:Shared} (I:Inv X pins σ H s):interactive X.env=false:=by simp [interactive,I.ok.kind]
def qfw (te:TE):TS:=fun D σ H=>te σ H fun _ H1=>D.nx σ H1
theorem qa2 (he:PE X e te) (hs:swapsWith e none pos.line X.env=pure false:=by rfl):PS X (.Expr e pos) (qfw te):=by
 refine ⟨?_⟩
 intro pins s σ H D I h
 exact wpAny_Expr_any (thn (he pins s σ H _ I h) fun v s1 ⟨x,H1,I1,r1,q1⟩=>⟨σ,H1,I1,q1⟩) I.quiet hs
def qhg (te:TE):TS:=fun D σ H=>te σ H D.rt
theorem qc2 (he:PE X e te):PS X (.Return (some e) pos) (qhg te):=by
 refine ⟨?_⟩
 intro pins s σ H D I h
 exact wpAny_Return_some (thn (he pins s σ H _ I h) fun v s1 ⟨x,H1,I1,r1,q1⟩=>⟨x,σ,H1,I1,r1,q1⟩)
def qhh (c:TT) (t u:TS):TS:=fun D σ H=>c σ H fun b H1=>if b=true then t D σ H1 else u D σ H1
theorem qfx {c:Expr} {a b:List Stmt} {tc:TT} (hc:PT X c tc) (ha:PSs X a t) (hb:PSs X b u):PS X (.If c a b pos) (qhh tc t u):=by
 refine ⟨?_⟩
 intro pins s σ H D I h
 refine wpAny_If (thn (hc pins s σ H _ I h) fun d s1 ⟨H1,I1,q1⟩=>?_)
 cases d with
 | true=>exact ha pins s1 σ H1 D I1 q1
 | false=>exact hb pins s1 σ H1 D I1 q1
end
abbrev TG:=V->St->Hp->(St->Hp->Prop)->Prop
abbrev TGs:=List V->St->Hp->(St->Hp->Prop)->Prop
structure PG (X:Cx) (target:Expr) (t:TG):Prop where
 run:∀ (pins:List (Addr×Obj)) (s:Shared) (σ:St) (H:Hp) (v:V) (u:Value) (Q:St->Hp->Prop),Inv X pins σ H s->RelV v u->t v σ H Q ->
  wpAny (model X.prog X.w) X.A (assign target X.env u) (fun _ s'=>∃ σ' H',Inv X pins σ' H' s'/\Q σ' H') X.xe s
instance {X:Cx} {target:Expr} {t:TG}:CoeFun (PG X target t) (fun _=>∀ (pins:List (Addr×Obj)) (s:Shared) (σ:St) (H:Hp) (v:V) (u:Value) (Q:St->Hp->Prop),Inv X pins σ H s->RelV v u->t v σ H Q ->
  wpAny (model X.prog X.w) X.A (assign target X.env u) (fun _ s'=>∃ σ' H',Inv X pins σ' H' s'/\Q σ' H') X.xe s):=⟨fun h=>h.run⟩
structure PGs (X:Cx) (ts:List Expr) (t:TGs):Prop where
 run:∀ (pins:List (Addr×Obj)) (s:Shared) (σ:St) (H:Hp) (vs:List V) (us:List Value) (Q:St->Hp->Prop),Inv X pins σ H s->Vals vs us->t vs σ H Q ->
  wpAny (model X.prog X.w) X.A (assignInOrder ((assignEach ts X.env).map (·.2)) us) (fun _ s'=>∃ σ' H',Inv X pins σ' H' s'/\Q σ' H') X.xe s
instance {X:Cx} {ts:List Expr} {t:TGs}:CoeFun (PGs X ts t) (fun _=>∀ (pins:List (Addr×Obj)) (s:Shared) (σ:St) (H:Hp) (vs:List V) (us:List Value) (Q:St->Hp->Prop),Inv X pins σ H s->Vals vs us->t vs σ H Q ->
  wpAny (model X.prog X.w) X.A (assignInOrder ((assignEach ts X.env).map (·.2)) us) (fun _ s'=>∃ σ' H',Inv X pins σ' H' s'/\Q σ' H') X.xe s):=⟨fun h=>h.run⟩
section
variable {X:Cx} {pos:Pos}
def qc3 (i:Nat):TG:=fun v σ H Q=>Q (σ.set i (some v)) H
theorem qa3 {i:Nat} {x:Str} (hN:X.N.Nodup) (hi:X.N[i]?=some x) (hx:Loc X.env.scope x) (hf:X.fn x=true\/X.env.scope.names.lookup x=some .local:=by first | exact .inl rfl | exact .inr rfl | assumption):PG X (.Name x pos) (qc3 i):=by
 refine ⟨?_⟩
 intro pins s σ H v u Q I r h
 exact wpAny_assign_Name (VT I hN hi hx r (fun s' I'=>⟨_,H,I',h⟩) hf)
def qhi:TGs:=fun vs σ H Q=>vs=[]/\Q σ H
def qfy (t:TG) (u:TGs):TGs:=fun vs σ H Q=>∃ v r,vs=v::r/\t v σ H fun σ' H'=>u r σ' H' Q
theorem qa4:PGs X [] qhi:=by
 refine ⟨?_⟩
 intro pins s σ H vs us Q I r h
 obtain ⟨e,h⟩:=h
 subst e
 cases r
 exact assignInOrder_nil ⟨σ,H,I,h⟩
theorem Zx {e:Expr} {es:List Expr} {t:TG} {u:TGs} (h1:PG X e t) (h2:PGs X es u)
  (hs:(assignEach (e::es) X.env).map (·.2)=assign e X.env::(assignEach es X.env).map (·.2):=by rfl):PGs X (e::es) (qfy t u):=by
 refine ⟨?_⟩
 intro pins s σ H vs us Q I r h
 obtain ⟨v,vr,e1,h⟩:=h
 subst e1
 cases r with
 | cons r rr=>
  rw [hs]
  refine assignInOrder_cons (thn (h1 pins s σ H _ _ _ I r h) fun _ s1 ⟨σ1,H1,I1,q1⟩=>?_)
  exact h2 pins s1 σ1 H1 _ _ Q I1 rr q1
def qhj (K:Frag) (n:Nat) (t:TGs):TG:=fun v σ H Q=>∃ a xs,v=.ref a/\SqT K H a xs/\xs.length=n/\t xs σ H Q
theorem qc4 {es:List Expr} {k:Nat} {t:TGs} {n:Nat} (hc:X.calm=true) (h:PGs X es t)
  (hn:(assignEach es X.env).length=n:=by rfl) (hst:(assignEach es X.env).findIdx? (·.1)=none:=by rfl):PG X (.Tuple es k pos) (qhj X.K n t):=by
 refine ⟨?_⟩
 intro pins s σ H v u Q I r hw
 obtain ⟨a,xs,e1,hq,hl,hw⟩:=hw
 subst e1
 cases r
 obtain ⟨its,rv,ht,hz⟩:=I.tuple hq
 refine assign_Tuple_tuple (I.ok.hd hc) ht (by simp [hn,<-hl,rv.length]) hst fun h' hx=>?_
 have I1:Inv X pins σ H { s with heap:=h' }:=I.kept (t':=s.toks) fun b o e=>hx b o (Nat.ne_of_lt (Heap.lt_size e)) e
 exact h pins _ σ H xs _ Q I1 (by simpa using rv) hw
def qhk (te:TE) (g:TG):TS:=fun D σ H=>te σ H fun x H1=>g x σ H1 D.nx
theorem qag {i:Nat} {x:Str} {e:Expr} {te:TE} {pos':Pos} (hN:X.N.Nodup) (hi:X.N[i]?=some x) (hx:Loc X.env.scope x) (he:PE X e te) (hs:swapsWith e (some (.Name x pos')) pos.line X.env=pure false:=by rfl) (hf:X.fn x=true\/X.env.scope.names.lookup x=some .local:=by first | exact .inl rfl | exact .inr rfl | assumption) :
  PS X (.Assign [.Name x pos'] e pos) (qhk te (qc3 i)):=by
 refine ⟨?_⟩
 intro pins s σ H D I h
 refine wpAny_Assign_Name (thn (he pins s σ H _ I h) fun v s1 ⟨y,H1,I1,r1,q1⟩=>?_) hs
 exact VT I1 hN hi hx r1 (fun s2 I2=>⟨_,H1,I2,q1⟩) hf
end
section
variable {X:Cx} {pos:Pos}
def qc5 (c:TT) (tb:TS):TS:=fun D σ H=>∃ W:Nat->St->Hp->Prop,(∃ m,W m σ H)/\∀ m σ H,W m σ H ->
 c σ H fun b H1=>if b=true then ∃ N:St->Hp->Prop,(∀ σ' H',N σ' H'->∃ m',m' < m/\W m' σ' H')/\tb { D with nx:=N,ct:=N,bk:=D.nx } σ H1 else D.nx σ H1
theorem Zy {c:Expr} {body:List Stmt} {tc:TT} {tb:TS} (hp:PassesOwn (model X.prog X.w) X.A X.env X.xe) (hc:PT X c tc) (hb:PSs X body tb):PS X (.While c body [] pos) (qc5 tc tb):=by
 refine ⟨?_⟩
 intro pins s σ H D I h
 obtain ⟨W,⟨m0,w0⟩,turn⟩:=h
 refine wpAny_While (codeAny_whileLoop (fun n s'=>∃ σ' H',Inv X pins σ' H' s'/\W n σ' H') ?_ m0 ⟨σ,H,I,w0⟩)
 rintro n s1 ⟨σ1,H1,I1,w1⟩
 refine wpAny_passesOwn hp (thn (hc pins s1 σ1 H1 _ I1 (turn n σ1 H1 w1)) fun b s2 ⟨H2,I2,q2⟩=>?_)
 cases b with
 | true=>
  obtain ⟨N,hN,q2⟩:=q2
  rw [if_pos rfl]
  refine wpAny_passesOwn hp (thn (hb pins s2 σ1 H2 _ I2 q2) fun f s3 q3=>?_)
  cases f with
  | next=>
   obtain ⟨σ3,H3,I3,n3⟩:=q3
   obtain ⟨m',hm,w3⟩:=hN σ3 H3 n3
   exact ⟨m',hm,σ3,H3,I3,w3⟩
  | cont=>
   obtain ⟨σ3,H3,I3,n3⟩:=q3
   obtain ⟨m',hm,w3⟩:=hN σ3 H3 n3
   exact ⟨m',hm,σ3,H3,I3,w3⟩
  | brk=>exact q3
  | ret v=>exact q3
 | false=>
  rw [if_neg Bool.false_ne_true]
  exact wpAny_execs_nil ⟨σ1,H2,I2,q2⟩
end
structure It where
 go:Nat->Hp->Prop
 yld:Nat->Hp->V->Hp->Prop
 stop:Nat->Hp->Prop
def KQ (X:Cx) (pins:List (Addr×Obj)) (H:Hp) (b:Addr):Prop:=
 H b=none/\b≠X.env.locals/\b∉X.fs/\(b∈X.ex\/X.s₀.heap.objs.size<=b)/\(∀ x c,X.env.cells.lookup x=some c->c≠b)/\∀ p∈X.pn++pins,p.1≠b
theorem Inv.fpOk {X:Cx} {pins:List (Addr×Obj)} {σ:St} {H H':Hp} {s:Shared} {b:Addr} (I:Inv X pins σ H s) (hb:s.heap.objs.size<=b) (hn:H' b=none):KQ X pins H' b:=by
 refine ⟨hn,Nat.ne_of_gt (Nat.lt_of_lt_of_le I.lt hb),I.nofs hb,.inr (Nat.le_trans I.sz hb),fun x c e z=>?_,fun p hp z=>?_⟩
 ·obtain ⟨v,q⟩:=I.cell x c e
  exact absurd (Nat.lt_of_lt_of_le q.lt (by rw [z]; exact hb)) (Nat.lt_irrefl _)
 ·exact absurd (Nat.lt_of_lt_of_le (Heap.lt_size (I.pin p hp).1) (by rw [z]; exact hb)) (Nat.lt_irrefl _)
structure Turn (P:Program) (w:World) (K:Frag) (tg:Expr) (J:It) (fp:List Addr) (it:Addr) (tn:Nat->Heap->Prop):Prop where
 mem:it∈fp
 obj:∀ i h,tn i h->∀ b∈fp,∃ o,h.get? b=some o/\∀ v,o.data≠.cell v
 keep:∀ i h h',tn i h->(∀ b∈fp,∀ o,h.get? b=some o->h'.get? b=some o)->tn i h'
 item:∀ (X:Cx),X.prog=P->X.w=w->X.K=K->X.calm=true->∀ (i:Nat) (pins:List (Addr×Obj)) (s:Shared) (σ:St) (H:Hp) (E:Value->Shared->Prop),Inv X pins σ H s->(∀ b∈fp,KQ X pins H b)->tn i s.heap->J.go i H ->
  wpAny (model P w) X.A (pyNext (.ref it)) (fun r s1=>∃ u,r=some u /\
   wpAny (model P w) X.A (letOwnedTupleGo tg (.ref it) u) (fun _ s2=>∃ x H',Inv X pins σ H' s2/\RelV x u/\J.yld i H x H'/\tn (i+1) s2.heap/\∀ b∈fp,H' b=none) E s1) E s
 done:∀ (X:Cx),X.prog=P->X.w=w->X.K=K->X.calm=true->∀ (i:Nat) (pins:List (Addr×Obj)) (s:Shared) (σ:St) (H:Hp) (E:Value->Shared->Prop),Inv X pins σ H s->(∀ b∈fp,KQ X pins H b)->tn i s.heap->J.stop i H ->
  wpAny (model P w) X.A (pyNext (.ref it)) (fun r s1=>r=none/\Inv X pins σ H s1) E s
 self:∀ (A:Around) (i:Nat) (s:Shared) (Q:Value->Shared->Prop) (E:Value->Shared->Prop),tn i s.heap->Q (.ref it) s->wpAny (model P w) A (pyIter (.ref it)) Q E s
abbrev TI:=St->Hp->(It->Hp->Prop)->Prop
def PIE (X:Cx) (pins:List (Addr×Obj)) (σ:St) (tg:Expr) (R:It->Hp->Prop) (itv:Value) (s2:Shared):Prop:=
 ∃ (it:Addr) (fp:List Addr) (tn:Nat->Heap->Prop) (J:It) (H':Hp),itv=.ref it/\Inv X pins σ H' s2/\Turn X.prog X.w X.K tg J fp it tn/\tn 0 s2.heap/\(∀ b∈fp,KQ X pins H' b)/\R J H'
structure PI (X:Cx) (tg iter:Expr) (wi:TI):Prop where
 run:∀ (pins:List (Addr×Obj)) (s:Shared) (σ:St) (H:Hp) (R:It->Hp->Prop),Inv X pins σ H s->wi σ H R ->
  wpAny (model X.prog X.w) X.A (eval iter X.env) (fun v s1=>wpAny (model X.prog X.w) X.A (pyIter v) (PIE X pins σ tg R) X.xe s1) X.xe s
instance {X:Cx} {tg iter:Expr} {wi:TI}:CoeFun (PI X tg iter wi) (fun _=>∀ (pins:List (Addr×Obj)) (s:Shared) (σ:St) (H:Hp) (R:It->Hp->Prop),Inv X pins σ H s->wi σ H R ->
  wpAny (model X.prog X.w) X.A (eval iter X.env) (fun v s1=>wpAny (model X.prog X.w) X.A (pyIter v) (PIE X pins σ tg R) X.xe s1) X.xe s):=⟨fun h=>h.run⟩
theorem Zz {M:Model} {A:Around} {E:Value->Shared->Prop} {s:Shared} {tg:Expr} {it:Addr} {u:Value} {o:Obj} {n:String} {vs:Array Value} {Q:Unit->Shared->Prop} (ho:s.heap.get? it=some o) (hc:o.cls=.type n) (hd:o.data=.fields vs)
    (hn:["enumerate", "zip", "dict_itemiterator", "dict_reverseitemiterator", "odict_iterator", "itertools.zip_longest", "itertools.pairwise"].contains n=false) (hQ:Q () s):wpAny M A (letOwnedTupleGo tg (.ref it) u) Q E s:=by
  unfold letOwnedTupleGo
  cases tg <;> first
    | exact wpAny_pure hQ
    | (cases u <;> first
        | exact wpAny_pure hQ
        | (refine wpAny_bind (wpAny_load ho ?_)
           rw [hc,hd]
           show wpAny M A (if (["enumerate", "zip", "dict_itemiterator", "dict_reverseitemiterator", "odict_iterator", "itertools.zip_longest", "itertools.pairwise"].contains n&&vs[0]? == some (rawInt _))=true then _ else _) Q E s
           rw [if_neg (by intro h; rw [hn,Bool.false_and] at h; cases h)]
           exact wpAny_pure hQ))
noncomputable def Itl (K:Frag) (a:Addr):It:=
 ⟨fun i H=>∃ xs x,SqL K H a xs/\xs[i]?=some x,fun i H x H'=>H'=H/\∀ xs,SqL K H a xs->xs[i]?=some x,fun i H=>∃ xs,SqL K H a xs/\xs.length<=i⟩
noncomputable def Itt (K:Frag) (a:Addr):It:=
 ⟨fun i H=>∃ xs x,SqT K H a xs/\xs[i]?=some x,fun i H x H'=>H'=H/\∀ xs,SqT K H a xs->xs[i]?=some x,fun i H=>∃ xs,SqT K H a xs/\xs.length<=i⟩
noncomputable def Itr (lo:Int) (n:Nat):It:=⟨fun i _=>i < n,fun i H x H'=>H'=H/\x=.int (lo+i),fun i _=>n<=i⟩
theorem UN {P:Program} {w:World} {K:Frag} {tg:Expr} (a it:Addr):Turn P w K tg (Itl K a) [it] it (fun i h=>h.IsListIter it a i) where
 mem:=by simp
 obj:=fun i h st b hb=>by
  have e:b=it:=by simpa using hb
  subst e
  obtain ⟨o,e,c,d⟩:=st
  exact ⟨o,e,fun v z=>by rw [d] at z; cases z⟩
 keep:=fun i h h' st k=>st.at fun o e=>k it (by simp) o e
 item:=by
  intro X hP hw hK hc i pins s σ H E I hf st hg
  subst hP hw hK
  obtain ⟨xs,x,hq,hx⟩:=hg
  obtain ⟨its,rv,p,hz⟩:=I.list hq
  obtain ⟨u,hu,ru⟩:=rv.get hx
  obtain ⟨f0,f1,f2,f3,f4,f5⟩:=hf it (by simp)
  refine wpAny_pyNext_list_item st p.isList (x:=u) (by simpa using hu) fun h' st' sb=>?_
  have I1:Inv X pins σ H { s with heap:=h' }:=I.turned (t':=s.toks) (fun b o hb e=>(sb.2 b hb).trans e) f0 f1 f3 f4 f5
  obtain ⟨o,e,c,d⟩:=id st'
  exact ⟨u,rfl,Zz (s:={ s with heap:=h' }) e c d (by decide) ⟨x,H,I1,ru,⟨rfl,fun ys hy=>by rw [I.list_inj hy hq]; exact hx⟩,st',fun b hb=>(hf b hb).1⟩⟩
 done:=by
  intro X hP hw hK hc i pins s σ H E I hf st hg
  subst hP hw hK
  obtain ⟨xs,hq,hx⟩:=hg
  obtain ⟨its,rv,p,hz⟩:=I.list hq
  obtain ⟨f0,f1,f2,f3,f4,f5⟩:=hf it (by simp)
  have hl:=rv.length
  exact wpAny_pyNext_list_end (I.ok.hd hc) st p.isList (by simp; omega) fun h' eb=>⟨rfl,I.turned (t':=s.toks) (fun b o hb e=>eb b o hb e) f0 f1 f3 f4 f5⟩
 self:=fun _ _ _ _ _ st h=>wpAny_pyIter_listiter st h
theorem Ua {P:Program} {w:World} {K:Frag} {tg:Expr} (a it:Addr):Turn P w K tg (Itt K a) [it] it (fun i h=>h.IsTupleIter it a i) where
 mem:=by simp
 obj:=fun i h st b hb=>by
  have e:b=it:=by simpa using hb
  subst e
  obtain ⟨o,e,c,d⟩:=st
  exact ⟨o,e,fun v z=>by rw [d] at z; cases z⟩
 keep:=fun i h h' st k=>st.at fun o e=>k it (by simp) o e
 item:=by
  intro X hP hw hK hc i pins s σ H E I hf st hg
  subst hP hw hK
  obtain ⟨xs,x,hq,hx⟩:=hg
  obtain ⟨its,rv,p,hz⟩:=I.tuple hq
  obtain ⟨u,hu,ru⟩:=rv.get hx
  obtain ⟨f0,f1,f2,f3,f4,f5⟩:=hf it (by simp)
  refine wpAny_pyNext_tuple_item st (show s.heap.IsTuple a its.toArray from p) (x:=u) (by simpa using hu) fun h' st' sb=>?_
  have I1:Inv X pins σ H { s with heap:=h' }:=I.turned (t':=s.toks) (fun b o hb e=>(sb.2 b hb).trans e) f0 f1 f3 f4 f5
  obtain ⟨o,e,c,d⟩:=id st'
  exact ⟨u,rfl,Zz (s:={ s with heap:=h' }) e c d (by decide) ⟨x,H,I1,ru,⟨rfl,fun ys hy=>by rw [I.tuple_inj hy hq]; exact hx⟩,st',fun b hb=>(hf b hb).1⟩⟩
 done:=by
  intro X hP hw hK hc i pins s σ H E I hf st hg
  subst hP hw hK
  obtain ⟨xs,hq,hx⟩:=hg
  obtain ⟨its,rv,p,hz⟩:=I.tuple hq
  obtain ⟨f0,f1,f2,f3,f4,f5⟩:=hf it (by simp)
  have hl:=rv.length
  exact wpAny_pyNext_tuple_end (I.ok.hd hc) st (show s.heap.IsTuple a its.toArray from p) (by simp; omega) fun h' eb=>⟨rfl,I.turned (t':=s.toks) (fun b o hb e=>eb b o hb e) f0 f1 f3 f4 f5⟩
 self:=fun _ _ _ _ _ st h=>wpAny_pyIter_tupleiter st h
theorem Ub {P:Program} {w:World} {K:Frag} {tg:Expr} (it:Addr) (lo:Int) (n:Nat):Turn P w K tg (Itr lo n) [it] it (fun i h=>IsRangeIter h it (lo+(i:Nat) * 1) ((n:Int) - (i:Nat)) 1) where
 mem:=by simp
 obj:=fun i h st b hb=>by
  have e:b=it:=by simpa using hb
  subst e
  exact ⟨_,st,fun v z=>by
   have z':Data.fields _=Data.cell v:=z
   cases z'⟩
 keep:=fun i h h' st k=>k it (by simp) _ st
 item:=by
  intro X hP hw hK hc i pins s σ H E I hf st hg
  subst hP hw hK
  obtain ⟨f0,f1,f2,f3,f4,f5⟩:=hf it (by simp)
  have W:=Walks.range (prog:=X.prog) (w:=X.w) (I.ok.hd hc) it lo 1 n
  refine W.item i s _ _ hg st fun v h' tk hv st' kk=>?_
  obtain ⟨t,rfl⟩:=hv
  have I1:Inv X pins σ H { s with heap:=h',toks:=tk }:=I.turned (fun b o hb e=>kk b o (by simpa using hb) e) f0 f1 f3 f4 f5
  refine ⟨_,rfl,Zz (s:={ s with heap:=h',toks:=tk }) (n := "range_iterator") st' rfl rfl (by decide) ⟨.int (lo+i),H,I1,⟨t,?_⟩,⟨rfl,rfl⟩,st',fun b hb=>(hf b hb).1⟩⟩
  rw [Int.mul_one]
 done:=by
  intro X hP hw hK hc i pins s σ H E I hf st hg
  subst hP hw hK
  obtain ⟨f0,f1,f2,f3,f4,f5⟩:=hf it (by simp)
  exact wpAny_pyNext_range_end (I.ok.hd hc) st (by have:n<=i:=hg; omega) fun h' eb=>⟨rfl,I.turned (t':=s.toks) (fun b o hb e=>eb b o hb e) f0 f1 f3 f4 f5⟩
 self:=fun _ _ _ _ _ st h=>wpAny_pyIter_rangeiter st h
section
variable {X:Cx} {tg:Expr}
theorem ZA {pins:List (Addr×Obj)} {σ:St} {H:Hp} {s:Shared} {R:It->Hp->Prop} {E:Value->Shared->Prop} {lo hi:Int} {t u v:Tok} {tk:Nat} (I:Inv X pins σ H s) (h1:-(2 ^ 62)<=lo) (h2:lo < 2 ^ 62) (h3:-(2 ^ 62)<=hi) (h4:hi < 2 ^ 62)
  (q:R (Itr lo (hi - lo).toNat) H):wpAny (model X.prog X.w) X.A (pyIter (.ref s.heap.objs.size)) (PIE X pins σ tg R) E { s with heap:=s.heap.push { cls:=.type "range",data:=.fields #[.int lo t,.int hi u,.int 1 v] },toks:=tk }:=by
 refine wpAny_pyIter_range (IsRange.new ..) (small_one h1 h2 h3 h4) ?_
 have I1:Inv X pins σ H { s with heap:=s.heap.push { cls:=.type "range",data:=.fields #[.int lo t,.int hi u,.int 1 v] },toks:=tk }:=I.kept fun b o e=>Heap.get?_push_of_some _ e
 refine ⟨(s.heap.push { cls:=.type "range",data:=.fields #[.int lo t,.int hi u,.int 1 v] }).objs.size,[(s.heap.push { cls:=.type "range",data:=.fields #[.int lo t,.int hi u,.int 1 v] }).objs.size],_,_,H,rfl,
  I1.kept (t':=tk) fun b o e=>Heap.get?_push_of_some _ e,Ub _ lo (hi - lo).toNat,?_,fun b hb=>?_,q⟩
 ·have e1:lo+((0:Nat):Int) * 1=lo:=by simp
  have e2:(((hi - lo).toNat:Nat):Int) - ((0:Nat):Int)=Builtin.Range.rangeSize lo hi 1:=by rw [rangeSize_one]; split <;> omega
  show IsRangeIter _ _ (lo+((0:Nat):Int) * 1) ((((hi - lo).toNat:Nat):Int) - ((0:Nat):Int)) 1
  rw [e1,e2]
  exact Heap.get?_push_size _ rfl
 ·have e:b=(s.heap.push { cls:=.type "range",data:=.fields #[.int lo t,.int hi u,.int 1 v] }).objs.size:=by simpa using hb
  subst e
  exact I1.fpOk (Nat.le_refl _) (I1.hok.fresh (Nat.le_refl _))
def qfz (ta:TA):TI:=fun σ H R=>ta σ H fun vs H1=>∃ j:Int,vs=[.int j]/\-(2 ^ 62)<=j/\j < 2 ^ 62/\R (Itr 0 j.toNat) H1
theorem UO {a:Expr} {ta:TA} {p pos:Pos} (hg:Gl X "range") (hm:X.mg "range"=none) (ha:PA X [a] ta) (hs:starEach [a] X.env=[(false,eval a X.env)]:=by rfl):PI X tg (.Call (.Name "range" p) [a] [] pos) (qfz ta):=by
 refine ⟨?_⟩
 intro pins s σ H R I h
 refine Call_ (zp I hg hm boot_range (PyProof.Rows.callWith_type1 (thn (ha pos pins s σ H _ I h) fun us s1 ⟨vs,H1,I1,r1,q1⟩=>?_) hs rfl))
 obtain ⟨j,e,q1,q2,q⟩:=q1
 subst e
 cases r1 with
 | cons r rr=>
  cases rr
  obtain ⟨t,rfl⟩:=r
  exact call_range_1 (ZA I1 (by omega) (by omega) q1 q2 (by simpa using q))
def qhl (wi:TI) (g:TG) (tb:TS):TS:=fun D σ H=>wi σ H fun J H1=>∃ W:Nat->Nat->St->Hp->Prop,(∃ m,W 0 m σ H1)/\∀ i m σ H,W i m σ H ->
 (J.stop i H/\D.nx σ H)\/(J.go i H/\∃ N:St->Hp->Prop,(∀ σ' H',N σ' H'->∃ m',m' < m/\W (i+1) m' σ' H')/\∀ x H',J.yld i H x H'->g x σ H' fun σ2 H2=>tb { D with nx:=N,ct:=N,bk:=D.nx } σ2 H2)
noncomputable def Jy (fp:List Addr) (h:Heap):List (Addr×Obj):=fp.filterMap fun b=>(h.get? b).map fun o=>(b,o)
theorem uo {fp:List Addr} {h:Heap} {b:Addr} {o:Obj} (hb:b∈fp) (e:h.get? b=some o):(b,o)∈Jy fp h:=List.mem_filterMap.mpr ⟨b,hb,by rw [e]; rfl⟩
theorem UP {fp:List Addr} {h:Heap} {p:Addr×Obj} (hp:p∈Jy fp h):p.1∈fp/\h.get? p.1=some p.2:=by
 obtain ⟨b,hb,e⟩:=List.mem_filterMap.mp hp
 cases q:h.get? b with
 | none=>rw [q] at e; cases e
 | some o=>
  rw [q] at e
  have e':(b,o)=p:=Option.some.inj e
  subst e'
  exact ⟨hb,q⟩
theorem Inv.pinned {pins:List (Addr×Obj)} {σ:St} {H:Hp} {s:Shared} {fp:List Addr} (I:Inv X pins σ H s) (hf:∀ b∈fp,KQ X pins H b) (ho:∀ b∈fp,∃ o,s.heap.get? b=some o/\∀ v,o.data≠.cell v):Inv X (pins++Jy fp s.heap) σ H s:=
 I.pins_of fun p hp=>(List.mem_append.mp hp).elim (fun z=>I.pin p (List.mem_append_right _ z)) fun z=>by
  obtain ⟨hb,e⟩:=UP z
  obtain ⟨f0,f1,f2,_⟩:=hf p.1 hb
  obtain ⟨o,e',d⟩:=ho p.1 hb
  rw [e] at e'; cases e'
  exact ⟨e,f0,f1,f2,d⟩
theorem Inv.unpinned {pins pl:List (Addr×Obj)} {σ:St} {H:Hp} {s:Shared} (I:Inv X (pins++pl) σ H s):Inv X pins σ H s:=I.pins_of fun p hp=>I.pin p (List.mem_append_right _ (List.mem_append_left _ hp))
theorem qc6 {iter:Expr} {body:List Stmt} {wi:TI} {g:TG} {tb:TS} {pos:Pos} (hp:PassesOwn (model X.prog X.w) X.A X.env X.xe) (hc:X.calm=true) (hi:PI X tg iter wi) (hg:PG X tg g) (hb:PSs X body tb)
  (hs:∀ x,foldedSetIterable iter X.env x=pure x:=by intro _; rfl):PS X (.For tg iter body [] pos) (qhl wi g tb):=by
 refine ⟨?_⟩
 intro pins s σ H D I h
 refine wpAny_For (thn (hi pins s σ H _ I h) fun v s1 h1=>thn h1 fun itv s2 h2=>?_) hs
 obtain ⟨it,fp,tn,J,H2,e,I2,T,st2,f2,W,⟨m0,w0⟩,turn⟩:=h2
 subst e
 have stat:∀ {H':Hp},(∀ b∈fp,H' b=none)->∀ b∈fp,KQ X pins H' b:=fun hn b hb=>⟨hn b hb,(f2 b hb).2⟩
 refine codeAny_forLoop_any (fun n s'=>∃ i σ' H',Inv X pins σ' H' s'/\tn i s'.heap/\(∀ b∈fp,H' b=none)/\W i n σ' H') ?_ m0 ⟨0,σ,H2,I2,st2,fun b hb=>(f2 b hb).1,w0⟩
 rintro n s3 ⟨i,σ3,H3,I3,st3,fr3,w3⟩
 rcases turn i n σ3 H3 w3 with ⟨stop,qn⟩ | ⟨go,N,hN,step⟩
 ·refine wpAny_passesOwn hp (thn (T.done X rfl rfl rfl hc i pins s3 σ3 H3 X.xe I3 (stat fr3) st3 stop) fun r s4 ⟨hr,I4⟩=>?_)
  subst hr
  exact wpAny_execs_nil ⟨σ3,H3,I4,qn⟩
 ·refine wpAny_passesOwn hp (thn (T.item X rfl rfl rfl hc i pins s3 σ3 H3 X.xe I3 (stat fr3) st3 go) fun r s4 ⟨u,hr,h4⟩=>?_)
  subst hr
  refine wpAny_passesOwn hp (thn h4 fun _ s5 ⟨x,H5,I5,r5,y5,st5,fr5⟩=>?_)
  have I5':=I5.pinned (stat fr5) (T.obj _ _ st5)
  refine wpAny_passesOwn hp (thn (hg _ s5 σ3 H5 x u _ I5' r5 (step x H5 y5)) fun _ s6 ⟨σ6,H6,I6,q6⟩=>?_)
  refine wpAny_passesOwn hp (thn (hb _ s6 σ6 H6 _ I6 q6) fun f s7 q7=>?_)
  have again:∀ {σ7:St} {H7:Hp},Inv X (pins++Jy fp s5.heap) σ7 H7 s7->N σ7 H7->∃ m,m < n/\∃ i σ' H',Inv X pins σ' H' s7/\tn i s7.heap/\(∀ b∈fp,H' b=none)/\W i m σ' H':=fun {σ7 H7} I7 n7=>by
   obtain ⟨m',hm,w7⟩:=hN σ7 H7 n7
   refine ⟨m',hm,i+1,σ7,H7,I7.unpinned,T.keep _ _ _ st5 fun b hb o e=>(I7.pin (b,o) (List.mem_append_right _ (List.mem_append_right _ (uo hb e)))).1,fun b hb=>?_,w7⟩
   obtain ⟨o,e,d⟩:=T.obj _ _ st5 b hb
   exact (I7.pin (b,o) (List.mem_append_right _ (List.mem_append_right _ (uo hb e)))).2.1
  cases f with
  | next=>obtain ⟨σ7,H7,I7,n7⟩:=q7; exact again I7 n7
  | cont=>obtain ⟨σ7,H7,I7,n7⟩:=q7; exact again I7 n7
  | brk=>obtain ⟨σ7,H7,I7,q7⟩:=q7; exact ⟨σ7,H7,I7.unpinned,q7⟩
  | ret v=>obtain ⟨x7,σ7,H7,I7,r7,q7⟩:=q7; exact ⟨x7,σ7,H7,I7.unpinned,r7,q7⟩
end
abbrev R2:=V->V->Hp->VK->Prop
def OpR (X:Cx) (f:Value->Value->Sem Value) (r:R2):Prop:=
 ∀ (pins:List (Addr×Obj)) (s:Shared) (σ:St) (H:Hp) (x y:V) (v u:Value) (Q:VK),Inv X pins σ H s->RelV x v->RelV y u->r x y H Q ->
  wpAny (model X.prog X.w) X.A (f v u) (EP X pins σ Q) X.xe s
def UnR (X:Cx) (f:Value->Sem Value) (r:V->Hp->VK->Prop):Prop:=
 ∀ (pins:List (Addr×Obj)) (s:Shared) (σ:St) (H:Hp) (x:V) (v:Value) (Q:VK),Inv X pins σ H s->RelV x v->r x H Q ->
  wpAny (model X.prog X.w) X.A (f v) (EP X pins σ Q) X.xe s
def uG (X:Cx) (f:Value) (r:List V->Hp->VK->Prop):Prop:=
 ∀ (pins:List (Addr×Obj)) (s:Shared) (σ:St) (H:Hp) (xs:List V) (us:List Value) (Q:VK),Inv X pins σ H s->Vals xs us->r xs H Q ->
  wpAny (model X.prog X.w) X.A (call f us) (EP X pins σ Q) X.xe s
def qhm (X:Cx) (r:V->Hp->(Bool->Hp->Prop)->Prop):Prop:=
 ∀ (pins:List (Addr×Obj)) (s:Shared) (σ:St) (H:Hp) (x:V) (v:Value) (Q:Bool->Hp->Prop),Inv X pins σ H s->RelV x v->r x H Q ->
  wpAny (model X.prog X.w) X.A (truthy v) (TP X pins σ Q) X.xe s
def tOp (r:R2) (ta tb:TE):TE:=fun σ H Q=>ta σ H fun x H1=>tb σ H1 fun y H2=>r x y H2 Q
def tUn (r:V->Hp->VK->Prop) (ta:TE):TE:=fun σ H Q=>ta σ H fun x H1=>r x H1 Q
def rI (C:Int->Int->Prop) (g:Int->Int->V):R2:=fun x y H Q=>∃ i j,x=.int i/\y=.int j/\C i j/\Q (g i j) H
def rI0 (g:Int->Int->V):R2:=fun x y H Q=>∃ i j,x=.int i/\y=.int j/\Q (g i j) H
def rU (g:Int->V):V->Hp->VK->Prop:=fun x H Q=>∃ i,x=.int i/\Q (g i) H
section
variable {X:Cx} {a b c:Expr} {ta tb tc:TE} {pos:Pos}
theorem qfA (ha:PE X a ta) (hb:PE X b tb) {pins:List (Addr×Obj)} {s:Shared} {σ:St} {H:Hp} {R:V->V->Hp->Prop} (I:Inv X pins σ H s)
  (h:ta σ H fun x H1=>tb σ H1 fun y H2=>R x y H2) {Q:Value->Shared->Prop} {f:Value->Value->Sem Value}
  (hf:∀ v u s2 x y H2,Inv X pins σ H2 s2->RelV x v->RelV y u->R x y H2->wpAny (model X.prog X.w) X.A (f v u) Q X.xe s2) :
  wpAny (model X.prog X.w) X.A (eval a X.env) (fun v s₁=>wpAny (model X.prog X.w) X.A (eval b X.env) (fun u s₂=>wpAny (model X.prog X.w) X.A (f v u) Q X.xe s₂) X.xe s₁) X.xe s:=by
 refine thn (ha pins s σ H _ I h) fun v s1 ⟨x,H1,I1,r1,q1⟩=>?_
 refine thn (hb pins s1 σ H1 _ I1 q1) fun u s2 ⟨y,H2,I2,r2,q2⟩=>?_
 exact hf v u s2 x y H2 I2 r1 r2 q2
theorem qfB {op:Operator} {r:R2} (ho:OpR X (binaryOp op) r) (ha:PE X a ta) (hb:PE X b tb):PE X (.BinOp a op b pos) (tOp r ta tb):=by
 refine ⟨?_⟩
 intro pins s σ H Q I h
 exact wpAny_BinOp (qfA ha hb I h fun v u s2 x y H2 I2 rx ry q=>ho pins s2 σ H2 x y v u Q I2 rx ry q)
theorem qfC {op:UnaryOp} {r:V->Hp->VK->Prop} (ho:UnR X (unaryOp op) r) (ha:PE X a ta):PE X (.UnaryOp op a pos) (tUn r ta):=by
 refine ⟨?_⟩
 intro pins s σ H Q I h
 exact UnaryOp_ (thn (ha pins s σ H _ I h) fun v s1 ⟨x,H1,I1,r1,q1⟩=>ho pins s1 σ H1 x v Q I1 r1 q1)
theorem opI {f:Value->Value->Sem Value} {C:Int->Int->Prop} {g:Int->Int->Int}
  (rule:∀ (i j:Int) (t u:Tok) (s:Shared) (Q:Value->Shared->Prop) (E:Value->Shared->Prop),C i j->Q (.int (g i j) s.toks) { s with toks:=s.toks+1 }->wpAny (model X.prog X.w) X.A (f (.int i t) (.int j u)) Q E s) :
  OpR X f (rI C fun i j=>.int (g i j)):=by
 intro pins s σ H x y v u Q I rx ry h
 obtain ⟨i,j,rfl,rfl,hc,q⟩:=h
 obtain ⟨t,rfl⟩:=rx
 obtain ⟨t',rfl⟩:=ry
 exact rule i j t t' s _ _ hc ⟨.int (g i j),H,I.tok _,⟨_,rfl⟩,q⟩
theorem qgE {f:Value->Value->Sem Value} {g:Int->Int->Int}
  (rule:∀ (i j:Int) (t u:Tok) (s:Shared) (Q:Value->Shared->Prop) (E:Value->Shared->Prop),Q (.int (g i j) s.toks) { s with toks:=s.toks+1 }->wpAny (model X.prog X.w) X.A (f (.int i t) (.int j u)) Q E s) :
  OpR X f (rI0 fun i j=>.int (g i j)):=by
 intro pins s σ H x y v u Q I rx ry h
 obtain ⟨i,j,rfl,rfl,q⟩:=h
 obtain ⟨t,rfl⟩:=rx
 obtain ⟨t',rfl⟩:=ry
 exact rule i j t t' s _ _ ⟨.int (g i j),H,I.tok _,⟨_,rfl⟩,q⟩
theorem qe6 {f:Value->Value->Sem Value} {g:Int->Int->Bool}
  (rule:∀ (i j:Int) (t u:Tok) (s:Shared) (Q:Value->Shared->Prop) (E:Value->Shared->Prop),Q (.bool (g i j)) s->wpAny (model X.prog X.w) X.A (f (.int i t) (.int j u)) Q E s) :
  OpR X f (rI0 fun i j=>.bl (g i j)):=by
 intro pins s σ H x y v u Q I rx ry h
 obtain ⟨i,j,rfl,rfl,q⟩:=h
 obtain ⟨t,rfl⟩:=rx
 obtain ⟨t',rfl⟩:=ry
 exact rule i j t t' s _ _ ⟨.bl (g i j),H,I,rfl,q⟩
def qhn (i j:Int):Prop:=0 < j/\j < 1073741824
def qgF (i j:Int):Prop:=0<=j/\j<=1000000/\i.natAbs < 2 ^ 64
def CMul (i j:Int):Prop:=(-(2 ^ 64) < i/\i < 2 ^ 64)\/(-(2 ^ 64) < j/\j < 2 ^ 64)
theorem CMul.ok {i j:Int} (h:CMul i j):IntMulOk i j:=by
 rcases h with ⟨h1,h2⟩ | ⟨h1,h2⟩
 ·exact .of_left (intBits_le_64 h1 h2)
 ·exact .of_right (intBits_le_64 h1 h2)
theorem qc7:OpR X (binaryOp .Add) (rI0 fun i j=>.int (i+j)):=qgE fun _ _ _ _ _ _ _ q=>add_int q
theorem qc8:OpR X (binaryOp .Sub) (rI0 fun i j=>.int (i - j)):=qgE fun _ _ _ _ _ _ _ q=>sub_int q
theorem qc9:OpR X (binaryOp .Mult) (rI CMul fun i j=>.int (i * j)):=opI fun _ _ _ _ _ _ _ hc q=>mul_int q hc.ok
theorem qda:OpR X (binaryOp .Mod) (rI (fun _ j=>0 < j) fun i j=>.int (i % j)):=opI fun i j _ _ _ _ _ hc q=>by
 have h1:(0:Int) < j:=hc
 exact mod_int' (by omega) (by rw [Int.fmod_eq_emod_of_nonneg i (by omega)]; exact q)
theorem unI {f:Value->Sem Value} {g:Int->Int}
  (rule:∀ (i:Int) (t:Tok) (s:Shared) (Q:Value->Shared->Prop) (E:Value->Shared->Prop),Q (.int (g i) s.toks) { s with toks:=s.toks+1 }->wpAny (model X.prog X.w) X.A (f (.int i t)) Q E s) :
  UnR X f (rU fun i=>.int (g i)):=by
 intro pins s σ H x v Q I rx h
 obtain ⟨i,rfl,q⟩:=h
 obtain ⟨t,rfl⟩:=rx
 exact rule i t s _ _ ⟨.int (g i),H,I.tok _,⟨_,rfl⟩,q⟩
theorem qdb:UnR X (unaryOp .USub) (rU fun i=>.int (-i)):=unI fun _ _ _ _ _ q=>neg_int q
end
section
variable {X:Cx} {a b c:Expr} {ta tb tc:TE} {pos:Pos}
theorem VU {pins:List (Addr×Obj)} {σ:St} {H:Hp} {s:Shared} {Q:VK} {k k':Bool} (I:Inv X pins σ H s) (q:Q (.bl k) H) (e:k=k'):EP X pins σ Q (.bool k') s:=by
 subst e
 exact ⟨.bl k,H,I,rfl,q⟩
theorem qfD:OpR X (compareOp .Lt) (rI0 fun i j=>.bl (decide (i < j))):=qe6 fun _ _ _ _ _ _ _ q=>lt_int q
theorem qfE:OpR X (compareOp .LtE) (rI0 fun i j=>.bl (decide (i<=j))):=qe6 fun _ _ _ _ _ _ _ q=>le_int q
theorem qfF:OpR X (compareOp .Gt) (rI0 fun i j=>.bl (decide (j < i))):=qe6 fun _ _ _ _ _ _ _ q=>gt_int q
theorem qfG:OpR X (compareOp .GtE) (rI0 fun i j=>.bl (decide (j<=i))):=qe6 fun _ _ _ _ _ _ _ q=>ge_int q
theorem UQ:OpR X (compareOp .Lt) (fun x y H Q=>∃ i j,x=.str i/\y=.str j/\Q (.bl (decide (i.cps.toList < j.cps.toList))) H):=by
 intro pins s σ H x y v u Q I rx ry h
 obtain ⟨i,j,rfl,rfl,q⟩:=h
 obtain ⟨t,rfl⟩:=rx
 obtain ⟨t',rfl⟩:=ry
 exact lt_str (VU I q rfl)
theorem qdc:OpR X (compareOp .Is) (fun x y H Q=>y=.non/\Q (.bl (decide (x=.non))) H):=by
 intro pins s σ H x y v u Q I rx ry h
 obtain ⟨rfl,q⟩:=h
 cases ry
 refine is_none_gen (VU I q ?_)
 cases x <;> first
  | (cases rx; rfl)
  | (obtain ⟨t,rfl⟩:=rx; rfl)
theorem qa5:OpR X (compareOp .IsNot) (fun x y H Q=>y=.non/\Q (.bl (!decide (x=.non))) H):=by
 intro pins s σ H x y v u Q I rx ry h
 obtain ⟨rfl,q⟩:=h
 cases ry
 refine isnot_none_gen (VU I q ?_)
 cases x <;> first
  | (cases rx; rfl)
  | (obtain ⟨t,rfl⟩:=rx; rfl)
theorem qah (b:Expr) {op:CmpOp} (h:op≠.In:=by decide) (h2:op≠.NotIn:=by decide):behindInMarks op b=false:=by
 have e1:(op == CmpOp.In)=false:=by cases op <;> first | rfl | exact absurd rfl h
 have e2:(op == CmpOp.NotIn)=false:=by cases op <;> first | rfl | exact absurd rfl h2
 cases b <;> simp [behindInMarks,e1,e2]
theorem qa6 {op:CmpOp} {r:R2} (ho:OpR X (compareOp op) r) (ha:PE X a ta) (hb:PE X b tb) (hm:behindInMarks op b=false):PE X (.Compare a [op] [b] pos) (tOp r ta tb):=by
 refine ⟨?_⟩
 intro pins s σ H Q I h
 exact wpAny_Compare1 (qfA ha hb I h fun v u s2 x y H2 I2 rx ry q=>ho pins s2 σ H2 x y v u Q I2 rx ry q) hm
def qdd (t:TE):TT:=fun σ H Q=>t σ H fun x H'=>∃ k,x=.bl k/\Q k H'
theorem qa7 {op:CmpOp} {r:R2} (ho:OpR X (compareOp op) r) (ha:PE X a ta) (hb:PE X b tb) (hm:behindInMarks op b=false):PT X (.Compare a [op] [b] pos) (qdd (tOp r ta tb)):=by
 refine ⟨?_⟩
 intro pins s σ H Q I h
 refine wpAny_isTrue_Compare1 (thn (ha pins s σ H _ I h) fun v s1 ⟨x,H1,I1,r1,q1⟩=>thn (hb pins s1 σ H1 _ I1 q1) fun u s2 ⟨y,H2,I2,r2,q2⟩=>
  thn (ho pins s2 σ H2 x y v u _ I2 r1 r2 q2) fun c s3 ⟨z,H3,I3,r3,k,e,q3⟩=>?_) hm
 subst e
 cases r3
 exact wpAny_truthy_bool ⟨H3,I3,q3⟩
def UR (r r':R2) (ta tb tc:TE):TE:=fun σ H Q=>ta σ H fun x H1=>tb σ H1 fun y H2=>r x y H2 fun z H3=>∃ k,z=.bl k /\
 (if k=true then tc σ H3 fun w' H4=>r' y w' H4 Q else Q (.bl false) H3)
theorem ZC {op op':CmpOp} {r r':R2} (ho:OpR X (compareOp op) r) (ho':OpR X (compareOp op') r') (ha:PE X a ta) (hb:PE X b tb) (hc:PE X c tc)
  (hm:lastMarks [op,op'] [b,c]=false:=by with_unfolding_all rfl):PE X (.Compare a [op,op'] [b,c] pos) (UR r r' ta tb tc):=by
 refine ⟨?_⟩
 intro pins s σ H Q I h
 refine Compare_chain (thn (ha pins s σ H _ I h) fun v s1 ⟨x,H1,I1,r1,q1⟩=>chain_link (thn (hb pins s1 σ H1 _ I1 q1) fun u s2 ⟨y,H2,I2,r2,q2⟩=>
  thn (ho pins s2 σ H2 x y v u _ I2 r1 r2 q2) fun d s3 ⟨z,H3,I3,r3,k,e,q3⟩=>?_)) hm
 subst e
 cases r3
 refine wpAny_truthy_bool ?_
 cases k with
 | false=>exact ite_ff ⟨.bl false,H3,I3,rfl,q3⟩
 | true=>exact ite_tt (chain_last (thn (hc pins s3 σ H3 _ I3 q3) fun w' s4 ⟨z',H4,I4,r4,q4⟩=>ho' pins s4 σ H4 y z' u w' Q I4 r2 r4 q4))
theorem ZD {op op':CmpOp} {r r':R2} (ho:OpR X (compareOp op) r) (ho':OpR X (compareOp op') r') (ha:PE X a ta) (hb:PE X b tb) (hc:PE X c tc)
  (hm:lastMarks [op,op'] [b,c]=false:=by with_unfolding_all rfl):PT X (.Compare a [op,op'] [b,c] pos) (qdd (UR r r' ta tb tc)):=by
 refine ⟨?_⟩
 intro pins s σ H Q I h
 refine isTrue_chain (thn (ha pins s σ H _ I h) fun v s1 ⟨x,H1,I1,r1,q1⟩=>test_link (thn (hb pins s1 σ H1 _ I1 q1) fun u s2 ⟨y,H2,I2,r2,q2⟩=>
  thn (ho pins s2 σ H2 x y v u _ I2 r1 r2 q2) fun d s3 ⟨z,H3,I3,r3,k,e,q3⟩=>?_)) hm
 subst e
 cases r3
 refine wpAny_truthy_bool ?_
 cases k with
 | false=>
  obtain ⟨k',e',q'⟩:=q3
  cases e'
  exact ite_ff ⟨H3,I3,q'⟩
 | true=>
  refine ite_tt (test_last (thn (hc pins s3 σ H3 _ I3 q3) fun w' s4 ⟨z',H4,I4,r4,q4⟩=>thn (ho' pins s4 σ H4 y z' u w' _ I4 r2 r4 q4) fun d' s5 ⟨z2,H5,I5,r5,k2,e2,q5⟩=>?_))
  subst e2
  cases r5
  exact wpAny_truthy_bool ⟨H5,I5,q5⟩
def qfH (K:Frag) (x:V) (H:Hp) (k:Bool):Prop:=
 match x with
 | .non=>k=false
 | .bl b=>k=b
 | .int i=>k=(i != 0)
 | .str y=>y.length<=sizeLine/\k=((y.length:Int) != 0)
 | .byt y=>y.size<=sizeLine/\k=((y.size:Int) != 0)
 | .ref p=>(∃ xs,SqL K H p xs/\k=!xs.isEmpty)\/(∃ xs,SqT K H p xs/\k=!xs.isEmpty)\/∃ kvs,H p=some (.dK kvs)/\k=!kvs.isEmpty
 | _=>False
theorem Uc {κ:Type} {kvs:List (κ×V)} {vs:List (κ×Value)} (r:KV kvs vs):(!vs.isEmpty)=!kvs.isEmpty:=by
 cases r <;> rfl
theorem gL {xs:List V} {its:List Value} (r:Vals xs its):(!its.toArray.isEmpty)=!xs.isEmpty:=by
 cases r <;> simp
theorem Jz:(sizeLine:Nat) < 2 ^ 63:=by rw [sizeLine_eq]; decide
theorem qde:qhm X (fun x H Q=>∃ k,qfH X.K x H k/\Q k H):=by
 intro pins s σ H x v Q I rx h
 obtain ⟨k,e,q⟩:=h
 have hl:=Jz
 have hs:sizeLine=16777216:=sizeLine_eq
 cases x with
 | non=>
  cases rx
  have e':k=false:=e
  subst e'
  exact truthy_none ⟨H,I,q⟩
 | bl b=>
  cases rx
  have e':k=b:=e
  subst e'
  exact wpAny_truthy_bool ⟨H,I,q⟩
 | int i=>
  obtain ⟨t,rfl⟩:=rx
  have e':k=(i != 0):=e
  subst e'
  exact PySem.P.truthy_int ⟨H,I,q⟩
 | str y=>
  obtain ⟨t,rfl⟩:=rx
  obtain ⟨hy,e'⟩:y.length<=sizeLine/\k=((y.length:Int) != 0):=e
  subst e'
  exact PySem.P.truthy_str (by omega) ⟨H,I.tok _,q⟩
 | byt y=>
  obtain ⟨t,rfl⟩:=rx
  obtain ⟨hy,e'⟩:y.size<=sizeLine/\k=((y.size:Int) != 0):=e
  subst e'
  exact PySem.W.truthy_bytes (by omega) ⟨H,I.tok _,q⟩
 | ref p=>
  cases rx
  have e':(∃ xs,SqL X.K H p xs/\k=!xs.isEmpty)\/(∃ xs,SqT X.K H p xs/\k=!xs.isEmpty)\/∃ kvs,H p=some (.dK kvs)/\k=!kvs.isEmpty:=e
  rcases e' with ⟨xs,hx,e'⟩ | ⟨xs,hx,e'⟩ | ⟨kvs,hx,e'⟩
  ·subst e'
   obtain ⟨its,r,pl,hz⟩:=I.list hx
   have hlen:=r.length
   exact wpAny_truthy_list pl.isList (by simp only [List.size_toArray]; omega) ⟨H,I.tok _,by rw [gL r]; exact q⟩
  ·subst e'
   obtain ⟨its,r,pl,hz⟩:=I.tuple hx
   have hlen:=r.length
   exact truthy_tuple pl (by simp only [List.size_toArray]; omega) ⟨H,I.tok _,by rw [gL r]; exact q⟩
  ·subst e'
   obtain ⟨hz,hS,vs,r,m⟩:kvs.length<=sizeLine/\(p == sysModules)=false/\∃ vs,KV kvs vs/\s.heap.DictOf (ji X.prog X.w) p vs:=I.hok p _ hx
   have hlen:kvs.length=vs.length:=Paired.length r
   exact wpAny_truthy_dict hS m (by omega) ⟨H,I.tok _,by rw [Uc r]; exact q⟩
 | _=>exact (show False from e).elim
theorem ZE (ha:PE X a ta) (he:∀ whole,isTrue a X.env whole=(do let v <-whole; standAt a.pos; holding [v] (truthy v))) :
  PT X a (fun σ H Q=>ta σ H fun x H'=>∃ k,qfH X.K x H' k/\Q k H'):=by
 refine ⟨?_⟩
 intro pins s σ H Q I h
 exact isTrue_plain (thn (ha pins s σ H _ I h) fun v s1 ⟨x,H1,I1,r1,q1⟩=>qde pins s1 σ H1 x v Q I1 r1 q1) (he _)
theorem Ud:OpR X (binaryOp .Add) (fun x y H Q=>∃ i j,x=.str i/\y=.str j/\i.length+j.length<=sizeLine/\Q (.str (i++j)) H):=by
 intro pins s σ H x y v u Q I rx ry h
 obtain ⟨i,j,rfl,rfl,hz,q⟩:=h
 obtain ⟨t,rfl⟩:=rx
 obtain ⟨t',rfl⟩:=ry
 exact add_str (fun t' tk=>⟨.str (i++j),H,I.tok _,⟨_,rfl⟩,q⟩) hz
theorem uQ {x:V} {us:List Value} (r:Vals [x] us):∃ u,us=[u]/\RelV x u:=by
 cases r with
 | cons r1 r2=>cases r2; exact ⟨_,rfl,r1⟩
theorem qa8 {x y:V} {us:List Value} (r:Vals [x,y] us):∃ u w',us=[u,w']/\RelV x u/\RelV y w':=by
 cases r with
 | cons r1 r2=>
  cases r2 with
  | cons r3 r4=>cases r4; exact ⟨_,_,rfl,r1,r3⟩
theorem US (hc:X.calm=true):uG X (.builtin "max") (fun xs H Q=>∃ i j,xs=[.int i,.int j]/\Q (.int (if j > i then j else i)) H):=by
 intro pins s σ H xs us Q I r h
 obtain ⟨i,j,rfl,q⟩:=h
 obtain ⟨u,w',rfl,⟨t,rfl⟩,⟨t',rfl⟩⟩:=qa8 r
 refine max_two_ints (I.ok.hd hc) fun h' tk k=>⟨_,H,I.kept k,?_,q⟩
 by_cases hj:j > i
 ·rw [if_pos hj,if_pos hj]; exact ⟨_,rfl⟩
 ·rw [if_neg hj,if_neg hj]; exact ⟨_,rfl⟩
theorem UT (hc:X.calm=true):uG X (.builtin "min") (fun xs H Q=>∃ i j,xs=[.int i,.int j]/\Q (.int (if j < i then j else i)) H):=by
 intro pins s σ H xs us Q I r h
 obtain ⟨i,j,rfl,q⟩:=h
 obtain ⟨u,w',rfl,⟨t,rfl⟩,⟨t',rfl⟩⟩:=qa8 r
 refine min_two_ints (I.ok.hd hc) fun h' tk k=>⟨_,H,I.kept k,?_,q⟩
 by_cases hj:j < i
 ·rw [if_pos hj,if_pos hj]; exact ⟨_,rfl⟩
 ·rw [if_neg hj,if_neg hj]; exact ⟨_,rfl⟩
def qho (K:Frag) (x:V) (H:Hp) (n:Nat):Prop:=
 match x with
 | .str y=>y.length<=sizeLine/\n=y.length
 | .byt y=>y.size<=sizeLine/\n=y.size
 | .ref p=>(∃ xs,SqL K H p xs/\n=xs.length)\/∃ xs,SqT K H p xs/\n=xs.length
 | _=>False
theorem Qi:uG X (.builtin "len") (fun xs H Q=>∃ x n,xs=[x]/\qho X.K x H n/\Q (.int n) H):=by
 intro pins s σ H xs us Q I r h
 obtain ⟨x,n,rfl,e,q⟩:=h
 obtain ⟨u,rfl,rx⟩:=uQ r
 have hl:=Jz
 have hs:sizeLine=16777216:=sizeLine_eq
 cases x with
 | str y=>
  obtain ⟨t,rfl⟩:=rx
  obtain ⟨hy,e'⟩:y.length<=sizeLine/\n=y.length:=e
  subst e'
  exact len_str (by omega) ⟨.int _,H,I.tok _,⟨_,rfl⟩,q⟩
 | byt y=>
  obtain ⟨t,rfl⟩:=rx
  obtain ⟨hy,e'⟩:y.size<=sizeLine/\n=y.size:=e
  subst e'
  exact PySem.W.len_bytes (by omega) ⟨.int _,H,I.tok _,⟨_,rfl⟩,q⟩
 | ref p=>
  cases rx
  have e':(∃ xs,SqL X.K H p xs/\n=xs.length)\/∃ xs,SqT X.K H p xs/\n=xs.length:=e
  rcases e' with ⟨xs,hx,e'⟩ | ⟨xs,hx,e'⟩
  ·subst e'
   obtain ⟨its,r',pl,hz⟩:=I.list hx
   have hlen:=r'.length
   exact Calls.call_len_list pl.isList (by simp only [List.size_toArray]; omega) ⟨.int xs.length,H,I.tok _,⟨_,by simp only [List.size_toArray]; rw [hlen]⟩,q⟩
  ·subst e'
   obtain ⟨its,r',pl,hz⟩:=I.tuple hx
   have hlen:=r'.length
   exact len_tuple pl (by simp only [List.size_toArray]; omega) ⟨.int xs.length,H,I.tok _,⟨_,by simp only [List.size_toArray]; rw [hlen]⟩,q⟩
 | _=>exact (show False from e).elim
end
structure ObjM (h:Heap) (x dx C:Addr) (mA:Str->Option Value):Prop where
 obj:h.get? x=some (PySem.W.instObj C dx)
 ns:h.Ns1 dx mA
 ne:dx≠x
theorem UU {h:Heap} {dx:Addr} {mA:Str->Option Value} (n:h.Ns1 dx mA):∃ od,h.get? dx=some od/\∀ name,PySem.W.lookIn name od=some (mA name):=by
 obtain ⟨o,es,ep,ho,hd,hk,_,hm⟩:=n
 refine ⟨o,ho,fun name=>?_⟩
 have e:=hm name
 unfold nsFind findBy at e
 rw [<-Array.find?_toList] at e
 unfold PySem.W.lookIn
 rw [hd]
 dsimp only
 split
 ·rename_i y q
  rw [q] at e
  exact congrArg some e
 ·rename_i q
  rw [q] at e
  have a:es.toList.any (·.refKey)=false:=by
   rw [List.any_eq_false]
   intro y hy
   obtain ⟨z,t,hkey⟩:=hk y (Array.mem_toList_iff.mp hy)
   simp [DictEntry.refKey,hkey]
  have a':¬es.toList.any (·.refKey)=true:=by rw [a]; exact Bool.false_ne_true
  rw [if_neg a']
  exact congrArg some e
theorem ObjM.look {h:Heap} {x dx C:Addr} {mA:Str->Option Value} (I:ObjM h x dx C mA):∃ od,PySem.W.InstAt h x (PySem.W.instObj C dx) C (some od)/\∀ name,PySem.W.lookIn name od=some (mA name):=
 let ⟨od,ho,hl⟩:=UU I.ns
 ⟨od,⟨I.obj,rfl,rfl,ho⟩,hl⟩
theorem RelO.some_of {v:V} {o:Option Value} (r:RelO (some v) o):∃ u,o=some u/\RelV v u:=by
 cases o with
 | none=>exact (show False from r).elim
 | some u=>exact ⟨u,rfl,r⟩
section
variable {X:Cx} {pins:List (Addr×Obj)} {σ:St} {H:Hp} {s:Shared} {a C dx:Addr} {fs:List (Str×V)} {f:Str} {v:V} {A:Around} {E:Value->Shared->Prop}
theorem Inv.made (I:Inv X pins σ H s):Inv X pins σ (upd (upd H s.heap.objs.size (.own (s.heap.objs.size+1))) (s.heap.objs.size+1) (.ins C s.heap.objs.size []))
  { s with heap:=(s.heap.push PySem.W.emptyDict).push (PySem.W.instObj C s.heap.objs.size) }:=by
 have e1:(s.heap.push PySem.W.emptyDict).get? s.heap.objs.size=some PySem.W.emptyDict:=Heap.get?_push_size s.heap rfl
 have e2:((s.heap.push PySem.W.emptyDict).push (PySem.W.instObj C s.heap.objs.size)).get? (s.heap.objs.size+1)=some (PySem.W.instObj C s.heap.objs.size):=by
  have:=Heap.get?_push_size (s.heap.push PySem.W.emptyDict) (o:=PySem.W.instObj C s.heap.objs.size) rfl
  rwa [Heap.size_push] at this
 have e3:(s.heap.push PySem.W.emptyDict).Ns s.heap.objs.size (fun _=>none):=⟨PySem.W.emptyDict,#[],_,e1,rfl,(fun e he=>absurd he (by simp)),fun _=>rfl⟩
 have I1:=I.laid (a:=s.heap.objs.size) (o:=.own (s.heap.objs.size+1)) (h':=s.heap.push PySem.W.emptyDict) (t':=s.toks) (fun b u q=>Heap.get?_push_of_some _ q) (Nat.le_refl _) ⟨_,e1⟩
 refine I1.laid (a:=s.heap.objs.size+1) (o:=.ins C s.heap.objs.size []) (t':=s.toks) (fun b u q=>Heap.get?_push_of_some _ q) (Nat.le_of_eq (Heap.size_push _ _)) ?_
 have ne:s.heap.objs.size≠s.heap.objs.size+1:=Nat.ne_of_lt (Nat.lt_succ_self _)
 refine ⟨by rw [qA ne,qp],Nat.zero_le _,ne,e2,fun _=>none,(Heap.Ns1.of_empty e3).at fun o q=>Heap.get?_push_of_some _ q,fun _=>True.intro,fun y hy=>absurd rfl hy⟩
end
structure Room (k:Nat) (A:Around):Prop where
 hd:A.handled=none
 dp:A.depth+3 * k+5 < recursionLimit
 un:A.units+16 * k+200 < cLine
theorem Room.mono {j k:Nat} {A:Around} (r:Room k A) (h:j<=k):Room j A:=⟨r.hd,by have:=r.dp; omega,by have:=r.un; omega⟩
theorem Room.deeper {k:Nat} {A:Around} (r:Room (k+1) A) (env:Env):Room k (A.deeper env):=
 ⟨r.hd,by have:=r.dp; show A.depth+1+3 * k+5 < _; omega,by have:=r.un; show A.units+3+16 * k+200 < _; omega⟩
theorem Room.in1 {k:Nat} {A:Around} (r:Room (k+1) A):Room k A.in1:=
 ⟨r.hd,by have:=r.dp; show A.depth+3 * k+5 < _; omega,by have:=r.un; show A.units+1+16 * k+200 < _; omega⟩
theorem Room.depth {k:Nat} {A:Around} (r:Room k A):A.depth < recursionLimit:=by have:=r.dp; omega
theorem Room.units {k:Nat} {A:Around} (r:Room k A):A.units+64 < cLine:=by have:=r.un; omega
def qfI:TA:=fun _ H Q=>Q [] H
def ZF (ta:TE) (tr:TA):TA:=fun σ H Q=>ta σ H fun x H1=>tr σ H1 fun xs H2=>Q (x::xs) H2
section
variable {X:Cx} {e:Expr} {es:List Expr} {te:TE} {t:TA} {pos:Pos}
theorem jQ:PA X [] qfI:=⟨fun _ _ _ _ H Q I h=>Calls.spliced_nil ⟨[],H,I,.nil,h⟩⟩
theorem qW (ha:PE X e te) (hr:PA X es t) (hs:starEach (e::es) X.env=(false,eval e X.env)::starEach es X.env:=by rfl):PA X (e::es) (ZF te t):=by
 refine ⟨?_⟩
 intro pos pins s σ H Q I h
 rw [hs]
 show wpAny _ _ (spliced ((false,eval e X.env)::backTo pos (starEach es X.env))) _ _ s
 refine Calls.spliced_cons (thn (ha pins s σ H _ I h) fun u s1 ⟨x,H1,I1,r1,q1⟩=>?_)
 exact thn (hr pos pins s1 σ H1 _ I1 q1) fun us s2 ⟨xs,H2,I2,r2,q2⟩=>⟨x::xs,H2,I2,.cons r1 r2,q2⟩
def qhp (t:TA):TE:=fun σ H Q=>t σ H fun xs H1=>xs.length<=sizeLine/\∀ p,H1 p=none->Q (.ref p) (upd H1 p (.tup xs))
def qhq (t:TA):TE:=fun σ H Q=>t σ H fun xs H1=>xs.length<=sizeLine/\∀ p,H1 p=none->Q (.ref p) (upd H1 p (.lst xs))
theorem qdf {x1} (h:PA X es t):PE X (.Tuple es x1 pos) (qhp t):=by
 refine ⟨?_⟩
 intro pins s σ H Q I hq
 refine wpAny_Tuple_spliced (thn (h pos pins s σ H _ I hq) fun us s1 ⟨xs,H1,I1,r,z,q⟩=>⟨by rw [<-r.length]; exact z,?_⟩)
 have hf:H1 s1.heap.objs.size=none:=I1.hok.fresh (Nat.le_refl _)
 refine ⟨.ref s1.heap.objs.size,upd H1 s1.heap.objs.size (.tup xs),I1.laid (t':=s1.toks) (fun b u e=>Heap.get?_push_of_some _ e) (Nat.le_refl _) ?_,rfl,q _ hf⟩
 exact ⟨⟨z,_,Heap.get?_push_size _ rfl,rfl⟩,us,r,⟨_,Heap.get?_push_size _ rfl,rfl,_,rfl⟩⟩
theorem qdg (h:PA X es t):PE X (.List es pos) (qhq t):=by
 refine ⟨?_⟩
 intro pins s σ H Q I hq
 refine wpAny_List_spliced (thn (h pos pins s σ H _ I hq) fun us s1 ⟨xs,H1,I1,r,z,q⟩=>⟨by rw [<-r.length]; exact z,?_⟩)
 have hf:H1 s1.heap.objs.size=none:=I1.hok.fresh (Nat.le_refl _)
 refine ⟨.ref s1.heap.objs.size,upd H1 s1.heap.objs.size (.lst xs),I1.laid (t':=s1.toks) (fun b u e=>Heap.get?_push_of_some _ e) (Nat.le_refl _) ?_,rfl,q _ hf⟩
 exact ⟨z,us,0,r,Heap.get?_push_size _ rfl⟩
end
abbrev Sp:=List V->Hp->VK->XK->Prop
abbrev CXT:=List Env->Hp->Shared->XK->Value->Shared->Prop
structure Env0 (P:Program) (w:World) (K:Frag) (mg:Str->Option Value) (base:Heap) (A:Around) (outer:List Env) (s:Shared) (H:Hp):Prop where
 frames:A.frames=some outer
 mod:Mod K mg base
 bs:∀ b o,base.get? b=some o->s.heap.get? b=some o/\H b=none
 bsz:base.objs.size<=s.heap.objs.size
 funs:s.heap.FunFrames base outer
 frf:∀ b∈frs outer,H b=none
 hok:HOk P w H s.heap
 bare:AllBare s.gens
def CE (outer:List Env) (P:Program) (w:World) (H:Hp) (s:Shared) (Q:VK) (u:Value) (s':Shared):Prop:=
 ∃ v H',s'.os=s.os/\AllBare s'.gens/\Un (frs outer) [] H H' s.heap s'.heap/\HOk P w H' s'.heap/\RelV v u/\Q v H'
def CR (CX:CXT) (outer:List Env) (P:Program) (w:World) (H:Hp) (s:Shared) (Q:VK) (E:XK) (r:Result) (s':Shared):Prop:=
 match r with
 | .ok (.ret u)=>CE outer P w H s Q u s'
 | .ok _=>False
 | .error e=>CX outer H s E e s'
structure FnOk (P:Program) (w:World) (K:Frag) (mg:Str->Option Value) (base:Heap) (CX:CXT) (k:Nat) (f:Addr) (fd:FuncData) (ps:List Str) (sp:Sp):Prop where
 len:∀ vs H Q E,sp vs H Q E->vs.length=ps.length
 run:∀ (A:Around) (outer:List Env) (s:Shared) (H:Hp) (args:Args) (us:List Value) (vs:List V) (Q:VK) (E:XK),Room k A->Env0 P w K mg base A outer s H->BindsTo s fd args (ps.zip us)->Vals vs us->sp vs H Q E ->
  codeAny (model P w) A (.call (.ref f) args) (CR CX outer P w H s Q E) s
theorem FnOk.imp {P:Program} {w:World} {K:Frag} {mg:Str->Option Value} {base:Heap} {CX:CXT} {k:Nat} {f:Addr} {fd:FuncData} {ps:List Str} {sp sp':Sp} (F:FnOk P w K mg base CX k f fd ps sp)
  (h:∀ vs H Q E,sp' vs H Q E->sp vs H Q E):FnOk P w K mg base CX k f fd ps sp':=
 ⟨fun vs H Q E q=>F.len vs H Q E (h _ _ _ _ q),fun A outer s H args us vs Q E hr he hb hv hs=>F.run A outer s H args us vs Q E hr he hb hv (h _ _ _ _ hs)⟩
theorem Env0.in1 {P:Program} {w:World} {K:Frag} {mg:Str->Option Value} {base:Heap} {A:Around} {outer:List Env} {s:Shared} {H:Hp} (e:Env0 P w K mg base A outer s H) :
  Env0 P w K mg base A.in1 outer s H:=⟨e.frames,e.mod,e.bs,e.bsz,e.funs,e.frf,e.hok,e.bare⟩
section
variable {X:Cx} {pins:List (Addr×Obj)} {σ:St} {H:Hp} {s s':Shared}
theorem Inv.env0 (I:Inv X pins σ H s):Env0 X.prog X.w X.K X.mg X.base X.A X.stack s H:=
 ⟨I.ok.frames,I.ok.mod,I.bs,Nat.le_trans I.ok.bsz I.sz,I.stack,I.stkFree,I.hok,I.bare⟩
theorem Inv.after {Q:VK} {u:Value} (I:Inv X pins σ H s) (h:CE X.stack X.prog X.w H s Q u s'):EP X pins σ Q u s':=by
 obtain ⟨v,H',os,bare,un,hok,r,q⟩:=h
 obtain ⟨hh,g,d,t,os'⟩:=s'
 obtain rfl:os'=s.os:=os
 exact ⟨v,H',I.call (h':=hh) (g':=g) (d':=d) (t':=t) (ch:=[]) un hok bare (fun b z=>absurd z (by simp)),r,q⟩
end
def qfJ (sp:Sp) (dvs:List V) (E:XK) (t:TA):TE:=fun σ H Q=>t σ H fun vs H1=>sp (vs++dvs) H1 Q E
def Binds (K:Frag) (fd:FuncData) (ps:List Str) (ds:List Value):Prop:=
 ∀ (s:Shared) (us:List Value),K.In s.heap->(us++ds).length=ps.length->BindsTo s fd ⟨us,[]⟩ (ps.zip (us++ds))
theorem Binds.all {K:Frag} {fd:FuncData} {ps:List Str} (h:∀ us:List Value,us.length=ps.length->bindArgs fd ⟨us,[]⟩=pure (ps.zip us)):Binds K fd ps []:=fun s us _ hl=>by
 rw [List.append_nil] at hl ⊢
 exact .of_eq (h us hl)
def gM (CX:CXT) (X:Cx) (E:XK):Prop:=∀ (pins:List (Addr×Obj)) (σ:St) (H:Hp) (s:Shared) (e:Value) (s':Shared),Inv X pins σ H s->CX X.stack H s E e s'->X.xe e s'
section
variable {X:Cx} {CX:CXT} {k:Nat} {f C:Addr} {fd:FuncData} {ps:List Str} {sp:Sp} {dvs:List V} {ds:List Value} {E:XK} {x m:Str} {p pos apos:Pos} {e o:Expr} {es:List Expr} {ta:TE} {t:TA}
theorem qdh {pins:List (Addr×Obj)} {σ:St} {H:Hp} {s:Shared} {Q:VK} {us:List Value} {vs:List V} (F:FnOk X.prog X.w X.K X.mg X.base CX k f fd ps sp) (hr:Room k X.A) (hb:Binds X.K fd ps ds) (hd:Vals dvs ds) (hx:gM CX X E)
  (I:Inv X pins σ H s) (r:Vals vs us) (h:sp (vs++dvs) H Q E):wpAny (model X.prog X.w) X.A (call (.ref f) us) (EP X pins σ Q) X.xe s:=by
 have r2:Vals (vs++dvs) (us++ds):=r.append hd
 have hl:(us++ds).length=ps.length:=by rw [<-r2.length]; exact F.len _ _ _ _ h
 refine wpAny_call (codeAny_mono (F.run X.A X.stack s H ⟨us,[]⟩ (us++ds) (vs++dvs) Q E hr I.env0 (hb s us I.kIn hl) r2 h) fun r s' hq=>?_)
 cases r with
 | error e=>exact hx pins σ H s e s' I hq
 | ok fl=>
  cases fl with
  | ret u=>exact I.after hq
  | next=>exact False.elim hq
  | brk=>exact False.elim hq
  | cont=>exact False.elim hq
theorem qa9 (F:FnOk X.prog X.w X.K X.mg X.base CX k f fd ps sp) (hr:Room k X.A) (hg:Gl X x) (hm:X.mg x=some (.ref f)) (hk:keepIn X.K (.ref f)=true) (hb:Binds X.K fd ps ds) (hd:Vals dvs ds) (hx:gM CX X E)
  (ha:PA X (e::es) t) (hdb:(x == ("__debug__":Str))=false:=by decide) (he:starEach (e::es) X.env=(false,eval e X.env)::starEach es X.env:=by rfl) (hpl:(backTo pos (starEach es X.env)).any (·.1)=false:=by rfl) :
  PE X (.Call (.Name x p) (e::es) [] pos) (qfJ sp dvs E t):=by
 refine ⟨?_⟩
 intro pins s σ H Q I h
 refine wpAny_Call_Name_kw (KU I hg hm ?_ hdb)
 refine PySem.W.callWith_K (h₀:=X.base) I.ok.mod.kin hk (thn (ha pos pins s σ H _ I h) fun us s1 ⟨vs,H1,I1,r,q⟩=>⟨I1.kIn,?_⟩) he hpl
 exact qdh F hr hb hd hx I1 r q
end
section
variable {X:Cx} {CX:CXT} {k:Nat} {f C:Addr} {fd:FuncData} {ps ks:List Str} {sp:Sp} {E:XK} {x m:Str} {p pos apos kpos:Pos} {e o:Expr} {es:List Expr} {kws:List Keyword} {te ta:TE} {t tk:TA} {nm:Option Str}
variable {g:List Value->List Value->List Value} {gV:List V->List V->List V}
end
structure FnScope (N P:List Str) (sc:Scope):Prop where
 kind:sc.kind=.function
 co:sc.isCoroutine=false
 gen:sc.isGenerator=false
 nd:N.Nodup
 pre:N.take P.length=P
 par:∀ x∈P,sc.names.lookup x=some .local\/sc.names.lookup x=some .cell
 nofree:∀ y∈sc.names,y.2≠.free
theorem JA {kindOf:Str->Option NameKind} {x:Str}:∀ {binds:List (Str×Value)} {m:Str->Option Value},(∀ v,(x,v)∉binds)->bindL kindOf binds m x=m x
 | [],_,_=>rfl
 | (n,v)::r,m,h=>by
  unfold bindL
  rw [JA fun w hw=>h w (List.mem_cons_of_mem _ hw)]
  split
  ·have:x≠n:=by rintro rfl; exact h v List.mem_cons_self
   simp [this]
  ·rfl
theorem JB {kindOf:Str->Option NameKind} {x:Str}:∀ {binds:List (Str×Value)} {m:Str->Option Value},(∀ v,(x,v)∉binds)->bindC kindOf binds m x=m x
 | [],_,_=>rfl
 | (n,v)::r,m,h=>by
  unfold bindC
  rw [JB fun w hw=>h w (List.mem_cons_of_mem _ hw)]
  split
  ·rfl
  ·have:x≠n:=by rintro rfl; exact h v List.mem_cons_self
   simp [this]
theorem JC {kindOf:Str->Option NameKind} {x:Str} {v:Value}:∀ {P:List Str} {vs:List Value} {i:Nat} {m:Str->Option Value},P.Nodup->P[i]?=some x->vs[i]?=some v->kindOf x=some .local ->
  bindL kindOf (P.zip vs) m x=some v
 | [],_,_,_,_,h,_,_=>by simp at h
 | _::_,[],_,_,_,_,h,_=>by simp at h
 | p::P,w::vs,0,m,nd,h1,h2,hk=>by
  simp at h1 h2; subst h1; subst h2
  show bindL kindOf ((p,w)::P.zip vs) m p=_
  unfold bindL
  rw [JA fun v hv=>(List.nodup_cons.mp nd).1 (List.of_mem_zip hv).1,if_pos hk]
  simp
 | p::P,w::vs,i+1,m,nd,h1,h2,hk=>by
  show bindL kindOf ((p,w)::P.zip vs) m x=_
  unfold bindL
  exact JC (i:=i) (List.nodup_cons.mp nd).2 (by simpa using h1) (by simpa using h2) hk
theorem JD {kindOf:Str->Option NameKind} {x:Str} {v:Value}:∀ {P:List Str} {vs:List Value} {i:Nat} {m:Str->Option Value},P.Nodup->P[i]?=some x->vs[i]?=some v->kindOf x≠some .local ->
  bindC kindOf (P.zip vs) m x=some v
 | [],_,_,_,_,h,_,_=>by simp at h
 | _::_,[],_,_,_,_,h,_=>by simp at h
 | p::P,w::vs,0,m,nd,h1,h2,hk=>by
  simp at h1 h2; subst h1; subst h2
  show bindC kindOf ((p,w)::P.zip vs) m p=_
  unfold bindC
  rw [JB fun v hv=>(List.nodup_cons.mp nd).1 (List.of_mem_zip hv).1,if_neg hk]
  simp
 | p::P,w::vs,i+1,m,nd,h1,h2,hk=>by
  show bindC kindOf ((p,w)::P.zip vs) m x=_
  unfold bindC
  exact JD (i:=i) (List.nodup_cons.mp nd).2 (by simpa using h1) (by simpa using h2) hk
noncomputable def yh (N:List Str) (vs:List V):St:=vs.map some++List.replicate (N.length - vs.length) none
def qba (CX:CXT) (P:Program) (w:World) (K:Frag) (mg:Str->Option Value) (base:Heap) (N:List Str) (qual:Str) (scope:Scope) (f:Addr) (cd:Value) (A:Around) (outer:List Env) (s:Shared) (H:Hp) (E:XK):Cx where
 prog:=P
 w:=w
 K:=K
 mg:=mg
 base:=base
 A:=A.deeper (envOfC qual scope s.heap.objs.size f cd)
 N:=N
 s₀:=s
 H₀:=H
 env:=envOfC qual scope s.heap.objs.size f cd
 outer:=outer
 stack:=envOfC qual scope s.heap.objs.size f cd::outer
 ex:=[]
 calm:=true
 fn:=fun _=>true
 pn:=[]
 xe:=fun e s'=>wpAny (model P w) (A.deeper (envOfC qual scope s.heap.objs.size f cd)) (leaving (envOfC qual scope s.heap.objs.size f cd) e) (fun _ s''=>CX outer H s E e s'') (fun e' s''=>CX outer H s E e' s'') s'
theorem VV {sc:Scope} {n:Nat} {x:Str} (h:sc.names.lookup x=some .cell):∃ c,(cellsFrom n sc.names []).lookup x=some c:=by
 have q:=PySem.W.cellsFrom_some sc.names n [] (.inl h)
 exact Option.isSome_iff_exists.mp q
theorem UV {CX:CXT} {P:Program} {w:World} {K:Frag} {mg:Str->Option Value} {base:Heap} {N ps:List Str} {qual:Str} {scope:Scope} {f:Addr} {cd:Value} {A:Around} {outer:List Env} {s s1:Shared} {H:Hp} {E:XK} {us:List Value} {vs:List V}
  (S:FnScope N ps scope) (hd:A.handled=none) (e0:Env0 P w K mg base A outer s H) (hl:vs.length=ps.length) (r:Vals vs us)
  (x:InCallC s s.heap.objs.size (bindL (envOfC qual scope s.heap.objs.size f cd).kindOf (ps.zip us) fun _=>none) (cellsFrom (s.heap.objs.size+1) scope.names []) (bindC (envOfC qual scope s.heap.objs.size f cd).kindOf (ps.zip us) fun _=>none) s1) :
  Inv (qba CX P w K mg base N qual scope f cd A outer s H E) [] (yh N vs) H s1:=by
 have hpl:ps.length<=N.length:=by have:=congrArg List.length S.pre; rw [List.length_take] at this; omega
 obtain ⟨h1,tk,rfl,hk⟩:=x.done
 have noA:∀ b:Addr,b∉(qba CX P w K mg base N qual scope f cd A outer s H E).ex:=fun b z=>absurd (show b∈([]:List Addr) from z) (by simp)
 refine ⟨⟨e0.mod,S.kind,rfl,rfl,Nat.le_refl _,fun y z c h1 h2=>?_,fun y hy=>?_,fun y c _ h=>?_,fun _=>hd,Around.frames_deeper e0.frames,.inr ⟨rfl,rfl⟩,fun b z=>absurd z (noA b),e0.bs,e0.bsz,fun b _ _=>noA b,fun b z=>absurd z (noA b),e0.funs,e0.frf⟩,
  rfl,e0.bare,Un.kept hk,⟨_,x.toInCall.ns,fun i y v h1 h2 h3=>?_⟩,fun y c h=>⟨_,x.cell y c h⟩,e0.hok.fresh (Nat.le_refl _),fun y c h=>?_,fun p hp=>absurd (show p∈([]:List (Addr×Obj)) from hp) (by simp),e0.hok.kept hk,?_⟩
 ·exact name_of_addr x.apart (PySem.mem_of_lookup h1) (PySem.mem_of_lookup h2)
 ·have hy:scope.names.lookup y=some .cell\/scope.names.lookup y=some .free:=hy
  rcases hy with hy | hy
  ·exact VV hy
  ·exact absurd rfl (S.nofree _ (PySem.mem_of_lookup hy))
 ·exact Nat.le_of_lt (x.above y c (PySem.mem_of_lookup h))
 ·have hi:i < vs.length:=by
   unfold yh at h2
   by_cases hi:i < vs.length
   ·exact hi
   ·rw [List.getElem?_append_right (by simpa using hi)] at h2
    rw [List.getElem?_replicate] at h2
    split at h2 <;> cases h2
  have ha:vs[i]?=some v:=by
   unfold yh at h2
   rw [List.getElem?_append_left (by simpa using hi),List.getElem?_map] at h2
   cases e:vs[i]? with
   | none=>rw [e] at h2; cases h2
   | some a=>rw [e] at h2; cases h2; rfl
  obtain ⟨u,hu,rv⟩:=r.get ha
  have hp:ps[i]?=some y:=by
   rw [<-S.pre,List.getElem?_take_of_lt (by omega)]; exact h1
  have ndP:ps.Nodup:=by rw [<-S.pre]; exact S.nd.sublist (List.take_sublist _ _)
  refine ⟨u,rv,?_⟩
  rcases S.par y (List.mem_of_getElem? hp) with k | k
  ·exact .inl ⟨k,JC ndP hp hu k⟩
  ·obtain ⟨c,e⟩:=VV (n:=s.heap.objs.size+1) k
   refine .inr ⟨.inl k,c,e,?_⟩
   have q:=x.cell y c e
   rw [JD ndP hp hu (by show scope.names.lookup y≠_; rw [k]; decide)] at q
   exact q
 ·exact e0.hok.fresh (Nat.le_of_lt (x.above y c (PySem.mem_of_lookup h)))
 ·unfold yh
  show _=N.length
  rw [List.length_append,List.length_map,List.length_replicate]
  omega
theorem qfK {CX:CXT} {P:Program} {w:World} {K:Frag} {mg:Str->Option Value} {base:Heap} {k:Nat} {f:Addr} {name qual:Str} {params:Arguments} {body:List Stmt} {scope:Scope} {dV kV doc pm cdv ct oc:Value} {an od:Option Addr}
  {osl:Array (Option Value)} {N ps:List Str} {sp:Sp} (lk:K.lookup f=some ⟨oc,od,.func (PySem.W.fnOf name qual params body scope dV kV doc pm an cdv ct),osl⟩) (hcd:codeIn K cdv qual=true) (S:FnScope N ps scope)
  (len:∀ vs H Q E,sp vs H Q E->vs.length=ps.length)
  (hbody:∀ (A:Around) (outer:List Env) (s:Shared) (H:Hp) (vs:List V) (Q:VK) (E:XK),Room k (A.deeper (envOfC qual scope s.heap.objs.size f cdv))->sp vs H Q E ->
   ∃ t,PSs (qba CX P w K mg base N qual scope f cdv A outer s H E) body t/\t { nx:=fun _ H'=>Q .non H',rt:=Q } (yh N vs) H) :
  FnOk P w K mg base CX (k+1) f (PySem.W.fnOf name qual params body scope dV kV doc pm an cdv ct) ps sp:=by
 refine ⟨len,fun A outer s H args us vs Q E hr e0 hb r hsp=>?_⟩
 have hl:=len _ _ _ _ hsp
 have KX:K.In s.heap:=e0.mod.kin.keeps fun b o e=>(e0.bs b o e).1
 have lim:s.heap.NoLimit:=e0.mod.nolimit.keeps fun b o e=>(e0.bs b o e).1
 have hkind:∀ y∈ps.zip us,scope.names.lookup y.1=some .local\/(scope.names.lookup y.1=some .cell/\((cellsFrom (s.heap.objs.size+1) scope.names []).lookup y.1).isSome=true):=fun ⟨n,v⟩ hy=>by
  rcases S.par n (List.of_mem_zip hy).1 with q | q
  ·exact .inl q
  ·exact .inr ⟨q,PySem.W.cellsFrom_some _ _ _ (.inl q)⟩
 refine codeAny_call_function hr.depth (KX _ _ lk) rfl S.co S.gen rfl (PySem.W.codeRec_of KX hcd) (hb _ _ _ _ ?_)
 refine wpAny_newFunctionEnv_cells S.kind hkind fun env he s1 x=>?_
 subst he
 refine ⟨lim.keeps x.toInCall.keep,codeAny_func ?_⟩
 obtain ⟨t,ht,hq⟩:=hbody A outer s H vs Q E (hr.deeper _) hsp
 have I:Inv (qba CX P w K mg base N qual scope f cdv A outer s H E) [] (yh N vs) H s1:=UV S hr.hd e0 hl r x
 refine wpAny_mono (ht [] s1 (yh N vs) H _ I hq) (fun fl s' hs=>?_) fun e s' hs=>hs
 have fin:∀ {σ':St} {H':Hp} {v:V} {u:Value},Inv (qba CX P w K mg base N qual scope f cdv A outer s H E) [] σ' H' s'->RelV v u->Q v H'->CE outer P w H s Q u s':=
  fun {σ' H' v u} J rv q=>⟨v,H',J.os,J.bare,J.base,J.hok,rv,q⟩
 cases fl with
 | ret u=>
  obtain ⟨v,σ',H',J,rv,q⟩:=hs
  exact fin J rv q
 | next=>
  obtain ⟨σ',H',J,q⟩:=hs
  exact fin (v:=V.non) (u:=Value.none) J rfl q
 | brk=>
  obtain ⟨_,_,_,q⟩:=hs
  exact False.elim q
 | cont=>
  obtain ⟨_,_,_,q⟩:=hs
  exact False.elim q
section
variable {X:Cx} {x:Str} {p pos:Pos} {e:Expr} {es:List Expr} {t:TA} {id T:String} {r:List V->Hp->VK->Prop}
def tCB (r:List V->Hp->VK->Prop) (t:TA):TE:=fun σ H Q=>t σ H fun vs H1=>r vs H1 Q
theorem yi (hc:uG X (.builtin id) r) (hg:Gl X x) (hm:X.mg x=none) (hv:bootBuiltins x=some (.builtin id)) (ha:PA X (e::es) t) (hn:x ≠ "__name__":=by decide) (hdb:(x == ("__debug__":Str))=false:=by decide)
  (he:starEach (e::es) X.env=(false,eval e X.env)::starEach es X.env:=by rfl) (hpl:(backTo pos (starEach es X.env)).any (·.1)=false:=by rfl):PE X (.Call (.Name x p) (e::es) [] pos) (tCB r t):=by
 refine ⟨?_⟩
 intro pins s σ H Q I h
 refine wpAny_Call_Name_kw (zp I hg hm hv ?_ hn hdb)
 exact PyProof.Rows.callWith_builtin1 (thn (ha pos pins s σ H _ I h) fun us s1 ⟨vs,H1,I1,r1,q1⟩=>hc pins s1 σ H1 vs us Q I1 r1 q1) he hpl
theorem wC (hc:uG X (.type T) r) (hg:Gl X x) (hm:X.mg x=none) (hv:bootBuiltins x=some (.type T)) (ha:PA X (e::es) t) (hn:x ≠ "__name__":=by decide) (hdb:(x == ("__debug__":Str))=false:=by decide)
  (he:starEach (e::es) X.env=(false,eval e X.env)::starEach es X.env:=by rfl) (hpl:(backTo pos (starEach es X.env)).any (·.1)=false:=by rfl):PE X (.Call (.Name x p) (e::es) [] pos) (tCB r t):=by
 refine ⟨?_⟩
 intro pins s σ H Q I h
 refine wpAny_Call_Name_kw (zp I hg hm hv ?_ hn hdb)
 exact PyProof.Rows.callWith_type1 (thn (ha pos pins s σ H _ I h) fun us s1 ⟨vs,H1,I1,r1,q1⟩=>hc pins s1 σ H1 vs us Q I1 r1 q1) he hpl
end
end L2
namespace HT
open PySem PyProof.Rows
section
open PySem.SeqAt
open PySem.AutoSeq1 (wpAny_loadPart')
open PySem.MeetsSeq PySem.MeetsSeq2 PySem.MeetsSeq3
end
section
variable {prog:Program} {w:World} {A:Around} {E:Value->Shared->Prop} {s:Shared}
theorem cat_tup {t b:Addr} {vs ws:List Value} {Q:Value->Shared->Prop} (ht:IsTup s.heap t vs.toArray) (hb:IsTup s.heap b ws.toArray) (hv:vs≠[])
  (h1:ws=[]->Q (.ref t) s) (h2:ws≠[]->Q (.ref s.heap.objs.size) { s with heap:=s.heap.push { cls:=.type "tuple",data:=.seq (vs++ws).toArray } })
  (hsz:vs.length+ws.length<=sizeLine):wpAny (model prog w) A (binaryOp .Add (.ref t) (.ref b)) Q E s:=by
 obtain ⟨⟨cls,dd,data,sl⟩,ho,hc,n,hd⟩:=id ht
 obtain ⟨⟨cls2,dd2,data2,sl2⟩,ho2,hc2,n2,hd2⟩:=id hb
 simp only at hc hd hc2 hd2
 subst hc hd hc2 hd2
 have e:vs.toArray++ws.toArray=(vs++ws).toArray:=by simp
 by_cases hw:ws=[]
 ·exact concat_meets ⟨_,ho,rfl⟩ ⟨_,ho2,rfl⟩ noFill_tuple_add seq_tuple_add PySem.F.slot_tuple_add PySem.F.entry_tuple_add (PySem.F.args_tuple_add_2 _ _)
   (tuple_addW1 t b vs.toArray ws.toArray n n2 dd dd2 sl sl2 (by simpa using hv) (by simp [hw])) ⟨ho,ho2,h1 hw⟩
 ·refine concat_meets ⟨_,ho,rfl⟩ ⟨_,ho2,rfl⟩ noFill_tuple_add seq_tuple_add PySem.F.slot_tuple_add PySem.F.entry_tuple_add (PySem.F.args_tuple_add_2 _ _)
   (tuple_addW2 t b vs.toArray ws.toArray n n2 dd dd2 sl sl2 (by simpa using hv) (by simpa using hw) (by rw [List.size_toArray,List.size_toArray]; exact hsz)) ⟨ho,ho2,?_⟩
  rw [e]
  exact h2 hw
noncomputable def sIx (n d:Nat):Option Int->Nat
 | none=>d
 | some v=>if v < 0 then (v+(n:Int)).toNat else min v.toNat n
theorem sIx_none (n d:Nat):sIx n d none=d:=rfl
theorem sIx_nat (n d k:Nat):sIx n d (some (k:Int))=min k n:=by
 show (if (k:Int) < 0 then ((k:Int)+(n:Int)).toNat else min (k:Int).toNat n)=min k n
 rw [if_neg (by omega),Int.toNat_natCast]
theorem slicePart_ {v:Value} {o:Option Int} {Q:Option Int->Shared->Prop} (p:IsPart v o) (h:Q o s):wpAny (model prog w) A (Builtin.Slice.slicePartIndex v) Q E s:=by
 cases p with
 | none=>exact slicePart_none h
 | int i t=>exact slicePart_int h
end
end HT
namespace L2
open PySem PySem.Spec PyProof.Rows
abbrev TO:=St->Hp->(Option Int->Hp->Prop)->Prop
def PO (X:Cx) (e:Option Expr) (t:TO):Prop:=
 ∀ (pins:List (Addr×Obj)) (s:Shared) (σ:St) (H:Hp) (Q:Option Int->Hp->Prop),Inv X pins σ H s->t σ H Q ->
  wpAny (model X.prog X.w) X.A (evalPart e X.env) (fun u s'=>∃ o H',Inv X pins σ H' s'/\IsPart u o/\Q o H') X.xe s
def qbb:TO:=fun _ H Q=>Q none H
def qfL (t:TE):TO:=fun σ H Q=>t σ H fun x H1=>∃ i,x=.int i/\Q (some i) H1
section
variable {X:Cx} {e:Expr} {te:TE} {lo hi:Option Expr} {tl th:TO} {pos p2:Pos}
theorem qbc:PO X none qbb:=by
 intro pins s σ H Q I h
 rw [evalPart_none]
 exact wpAny_pure ⟨none,H,I,.none,h⟩
theorem qbd (h:PE X e te):PO X (some e) (qfL te):=by
 intro pins s σ H Q I hw
 rw [evalPart_some]
 refine thn (h pins s σ H _ I hw) fun u s1 ⟨x,H1,I1,r1,q1⟩=>?_
 obtain ⟨i,rfl,q⟩:=q1
 obtain ⟨t,rfl⟩:=r1
 exact ⟨some i,H1,I1,.int i t,q⟩
def SlR (X:Cx) (r:V->Option Int->Option Int->Hp->VK->Prop):Prop:=
 ∀ (pins:List (Addr×Obj)) (s:Shared) (σ:St) (H:Hp) (x:V) (v vl vu:Value) (lo hi:Option Int) (sl:Addr) (Q:VK),Inv X pins σ H s->RelV x v->s.heap.IsSliceOf sl vl vu .none->IsPart vl lo->IsPart vu hi->r x lo hi H Q ->
  ∃ T id,typeLookup (.type T) "__getitem__"=pure (some (.builtin id))/\s.TypeIs v T/\wpAny (model X.prog X.w) X.A (getItem v (.ref sl)) (EP X pins σ Q) X.xe s
def tSl (r:V->Option Int->Option Int->Hp->VK->Prop) (te:TE) (tl th:TO):TE:=fun σ H Q=>te σ H fun x H1=>tl σ H1 fun l H2=>th σ H2 fun u H3=>r x l u H3 Q
theorem ZG {r:V->Option Int->Option Int->Hp->VK->Prop} (hr:SlR X r) (he:PE X e te) (hl:PO X lo tl) (hu:PO X hi th):PE X (.Subscript e (.Slice lo hi none p2) pos) (tSl r te tl th):=by
 refine ⟨?_⟩
 intro pins s σ H Q I h
 refine Subscript_ (thn (he pins s σ H _ I h) fun v s1 ⟨x,H1,I1,r1,q1⟩=>?_)
 refine wpAny_Slice (thn (hl pins s1 σ H1 _ I1 q1) fun vl s2 ⟨l,H2,I2,pl,q2⟩=>thn (hu pins s2 σ H2 _ I2 q2) fun vu s3 ⟨u,H3,I3,pu,q3⟩=>?_)
 rw [evalPart_none]
 refine wpAny_pure ?_
 have I4:Inv X pins σ H3 { s3 with heap:=s3.heap.push { cls:=.type "slice",data:=.fields #[vl,vu,.none] } }:=I3.kept (t':=s3.toks) fun b ob q=>Heap.get?_push_of_some _ q
 obtain ⟨T,id,hT,ht,hg⟩:=hr pins { s3 with heap:=s3.heap.push { cls:=.type "slice",data:=.fields #[vl,vu,.none] } } σ H3 x v vl vu l u s3.heap.objs.size Q I4 r1 (Heap.IsSliceOf.new ..) pl pu q3
 show wpAny (model X.prog X.w) X.A (subscriptTail e (.Slice lo hi none p2) v (.ref s3.heap.objs.size)) (EP X pins σ Q) X.xe { s3 with heap:=s3.heap.push { cls:=.type "slice",data:=.fields #[vl,vu,.none] } }
 exact tail_any (ops:=[.ref s3.heap.objs.size,v]) ht hT hg (by with_unfolding_all rfl)
noncomputable def qbe (xs:List V) (lo hi:Option Int):List V:=(xs.drop (HT.sIx xs.length 0 lo)).take (HT.sIx xs.length xs.length hi - HT.sIx xs.length 0 lo)
theorem KW (xs:List V) (lo hi:Option Int):(qbe xs lo hi).length<=xs.length:=by
 unfold qbe
 rw [List.length_take,List.length_drop]
 omega
def qfM (K:Frag):R2:=fun x y H Q=>∃ a b xs ys,x=.ref a/\y=.ref b/\SqT K H a xs/\SqT K H b ys/\xs≠[]/\xs.length+ys.length<=sizeLine /\
 (ys=[]->Q (.ref a) H)/\(ys≠[]->∀ p,H p=none->Q (.ref p) (upd H p (.tup (xs++ys))))
theorem Vals.nil_iff {xs:List V} {us:List Value} (r:Vals xs us):us=[]↔xs=[]:=by
 cases r with
 | nil=>simp
 | cons _ _=>simp
theorem qbf:OpR X (binaryOp .Add) (qfM X.K):=by
 intro pins s σ H x y v u Q I rx ry h
 obtain ⟨a,b,xs,ys,rfl,rfl,ha,hb,hx,hz,q1,q2⟩:=h
 cases rx
 cases ry
 obtain ⟨its,r1,p1,_⟩:=I.tuple ha
 obtain ⟨its2,r2,p2,_⟩:=I.tuple hb
 refine HT.cat_tup p1 p2 (fun z=>hx (r1.nil_iff.mp z)) (fun z=>⟨.ref a,H,I,rfl,q1 (r2.nil_iff.mp z)⟩) (fun z=>?_) (by rw [<-r1.length,<-r2.length]; exact hz)
 refine ⟨.ref s.heap.objs.size,_,I.laid (t':=s.toks) (o:=.tup (xs++ys)) (fun b ob q=>Heap.get?_push_of_some _ q) (Nat.le_refl _) ?_,rfl,q2 (fun w=>z (r2.nil_iff.mpr w)) _ (I.hok.fresh (Nat.le_refl _))⟩
 exact ⟨⟨by rw [List.length_append]; exact hz,_,Heap.get?_push_size _ rfl,rfl⟩,_,r1.append r2,IsTup.new _ _⟩
end
noncomputable def ixN (n:Nat) (i:Int):Option Nat:=if 0<=i then (if i < n then some i.toNat else none) else if -(n:Int)<=i then some (i+n).toNat else none
noncomputable def atI {α:Type} (xs:List α) (i:Int):Option α:=(ixN xs.length i).bind fun j=>xs[j]?
theorem qbg {n:Nat} {i:Int} {j:Nat} (h:ixN n i=some j):seqIndex? i n=some j/\j < n/\-(n:Int)<=i/\i < n:=by
 unfold ixN at h
 by_cases h0:0<=i
 ·rw [if_pos h0] at h
  by_cases h1:i < n
  ·rw [if_pos h1] at h
   have e:i.toNat=j:=Option.some.inj h
   exact ⟨by rw [seqIndex_of h0 h1,e],by omega,by omega,h1⟩
  ·rw [if_neg h1] at h; cases h
 ·rw [if_neg h0] at h
  by_cases h1:-(n:Int)<=i
  ·rw [if_pos h1] at h
   have e:(i+n).toNat=j:=Option.some.inj h
   exact ⟨by rw [seqIndex_neg (by omega) h1,e],by omega,h1,by omega⟩
  ·rw [if_neg h1] at h; cases h
theorem KY {α:Type} {xs:List α} {i:Int} {v:α} (h:atI xs i=some v):∃ j,seqIndex? i xs.length=some j/\xs[j]?=some v/\j < xs.length/\-(xs.length:Int)<=i/\i < xs.length:=by
 unfold atI at h
 cases e:ixN xs.length i with
 | none=>rw [e] at h; cases h
 | some j=>
  rw [e] at h
  obtain ⟨h1,h2,h3,h4⟩:=qbg e
  exact ⟨j,h1,h,h2,h3,h4⟩
theorem kO {α:Type} {xs:List α} {j:Nat} {v:α} (h:xs[j]?=some v):atI xs (j:Int)=some v:=by
 have hj:j < xs.length:=(List.getElem?_eq_some_iff.mp h).1
 have e:ixN xs.length (j:Int)=some j:=by
  unfold ixN
  rw [if_pos (by omega),if_pos (by omega)]; simp
 unfold atI; rw [e]; exact h
def KZ (b:Expr):Prop:=∀ o i,subscripted b false o i=operate [o,i] (getItem o i)
def IxR (X:Cx) (r:R2):Prop:=
 ∀ (value slice:Expr) (pins:List (Addr×Obj)) (s:Shared) (σ:St) (H:Hp) (x y:V) (v u:Value) (Q:VK),Inv X pins σ H s->RelV x v->RelV y u->r x y H Q ->
  subscripted slice false v u=operate [v,u] (getItem v u)->wpAny (model X.prog X.w) X.A (subscriptTail value slice v u) (EP X pins σ Q) X.xe s
def MtR (X:Cx) (id:String) (r:V->List V->Hp->VK->Prop):Prop:=
 ∀ (pins:List (Addr×Obj)) (s:Shared) (σ:St) (H:Hp) (x:V) (xs:List V) (v:Value) (us:List Value) (Q:VK),Inv X pins σ H s->RelV x v->Vals xs us->r x xs H Q ->
  wpAny (model X.prog X.w) X.A (call (.builtin id) (v::us)) (EP X pins σ Q) X.xe s
section
variable {X:Cx} {a b:Expr} {ta tb:TE} {pos:Pos}
theorem IxR.or {r r':R2} (h:IxR X r) (h':IxR X r'):IxR X (fun x y H Q=>r x y H Q\/r' x y H Q):=by
 intro value slice pins s σ H x y v u Q I rx ry q hs
 rcases q with q | q
 ·exact h value slice pins s σ H x y v u Q I rx ry q hs
 ·exact h' value slice pins s σ H x y v u Q I rx ry q hs
theorem qdi {r:R2} (hr:IxR X r) (ha:PE X a ta) (hb:PE X b tb) (hs:KZ b):PE X (.Subscript a b pos) (tOp r ta tb):=by
 refine ⟨?_⟩
 intro pins s σ H Q I h
 exact Subscript_ (qfA ha hb I h fun v u s2 x y H2 I2 rx ry q=>hr a b pins s2 σ H2 x y v u Q I2 rx ry q (hs _ _))
def qgG (K:Frag):R2:=fun x y H Q=>∃ p xs i v,x=.ref p/\y=.int i/\SqL K H p xs/\atI xs i=some v/\Q v H
def qgH (K:Frag):R2:=fun x y H Q=>∃ p xs i v,x=.ref p/\y=.int i/\SqT K H p xs/\atI xs i=some v/\Q v H
def qgI:R2:=fun x y H Q=>∃ z i c,x=.str z/\y=.int i/\z.length<=sizeLine/\atI z.cps.toList i=some c/\Q (.str ⟨#[c]⟩) H
theorem ix_list:IxR X (qgG X.K):=by
 intro value slice pins s σ H x y v u Q I rx ry h hs
 obtain ⟨p,xs,i,z,rfl,rfl,hq,he,q⟩:=h
 cases rx
 obtain ⟨t,rfl⟩:=ry
 obtain ⟨its,r,pl,hz⟩:=I.list hq
 obtain ⟨j,h1,h2,h3,h4,h5⟩:=KY he
 obtain ⟨w,ew,rw'⟩:=r.get h2
 have hl:=r.length
 have hn:=Jz
 have fin:EP X pins σ Q w s:=⟨z,H,I,rw',q⟩
 by_cases h0:0<=i
 ·have hj:i.toNat=j:=by
   rw [seqIndex_of h0 h5] at h1
   exact Option.some.inj h1
  exact item_listR pl.isList h0 (by omega) (by rw [hj]; simpa using ew) fin hs
 ·have hj:(i+(its.toArray.size:Int)).toNat=j:=by
   rw [seqIndex_neg (by omega) h4] at h1
   rw [List.size_toArray,<-hl]
   exact Option.some.inj h1
  exact subscriptTail_builtinR (x:=w) pl.isList.typeIs slot_list_getitem.lookup
   (wpAny_getItem_list_neg (Q:=fun r s'=>r=w/\EP X pins σ Q r s') pl.isList (by omega) (by rw [List.size_toArray] <;> omega) (by omega) (by rw [hj]; simpa using ew) ⟨rfl,fin⟩) hs
theorem ix_tup:IxR X (qgH X.K):=by
 intro value slice pins s σ H x y v u Q I rx ry h hs
 obtain ⟨p,xs,i,z,rfl,rfl,hq,he,q⟩:=h
 cases rx
 obtain ⟨t,rfl⟩:=ry
 obtain ⟨its,r,pl,hz⟩:=I.tuple hq
 obtain ⟨j,h1,h2,h3,h4,h5⟩:=KY he
 obtain ⟨w,ew,rw'⟩:=r.get h2
 have hl:=r.length
 have hn:=Jz
 have fin:EP X pins σ Q w s:=⟨z,H,I,rw',q⟩
 exact subscriptTail_builtinR (x:=w) pl.typeIs slot_tuple_getitem.lookup
  (getItem_tuple (j:=j) (Q:=fun r s'=>r=w/\EP X pins σ Q r s') pl (by omega) (by omega) (by rw [List.size_toArray,<-hl]; exact h1) (by simpa using ew) ⟨rfl,fin⟩) hs
theorem qdj:IxR X qgI:=by
 intro value slice pins s σ H x y v u Q I rx ry h hs
 obtain ⟨z,i,c,rfl,rfl,hz,he,q⟩:=h
 obtain ⟨t,rfl⟩:=rx
 obtain ⟨t',rfl⟩:=ry
 obtain ⟨j,h1,h2,h3,h4,h5⟩:=KY he
 have hl:z.cps.toList.length=z.length:=by simp [Str.length]
 rw [hl] at h1 h4 h5
 have hn:=Jz
 exact tail_any (typeIs_str s z t) slot_str_getitem.lookup (getItem_str (c:=c) (by
  have e1:decide (i < -(2 ^ 63:Int))=false:=decide_eq_false (by omega)
  have e2:decide (i ≥ 2 ^ 63)=false:=decide_eq_false (by omega)
  rw [e1,e2,Bool.or_false]) (by rw [h1]; simpa using h2) ⟨.str ⟨#[c]⟩,H,I.tok _,⟨_,rfl⟩,q⟩) hs
def rIx (K:Frag):R2:=fun x y H Q=>qgG K x y H Q\/qgH K x y H Q\/qgI x y H Q
theorem qdk:IxR X (rIx X.K):=ix_list.or (ix_tup.or qdj)
theorem JE (lo hi:Option Int) (n:Nat):(sliceBounds lo hi none n).1=((HT.sIx n 0 lo:Nat):Int)/\(sliceBounds lo hi none n).2.1=((HT.sIx n n hi:Nat):Int)/\(sliceBounds lo hi none n).2.2=1:=by
 refine ⟨?_,?_,rfl⟩
 ·cases lo with
  | none=>simp [sliceBounds,HT.sIx]
  | some i=>
   simp only [sliceBounds,HT.sIx,Option.getD_none,show (1:Int) > 0 by decide,if_true]
   by_cases h:i < 0
   ·simp only [h,if_true] <;> omega
   ·simp only [h,if_false] <;> omega
 ·cases hi with
  | none=>simp [sliceBounds,HT.sIx]
  | some i=>
   simp only [sliceBounds,HT.sIx,Option.getD_none,show (1:Int) > 0 by decide,if_true]
   by_cases h:i < 0
   ·simp only [h,if_true] <;> omega
   ·simp only [h,if_false] <;> omega
theorem Qj (its:List Value) (lo hi:Option Int):slicePick its.toArray lo hi none=((its.drop (HT.sIx its.length 0 lo)).take (HT.sIx its.length its.length hi - HT.sIx its.length 0 lo)).toArray:=by
 obtain ⟨h1,h2,h3⟩:=JE lo hi its.toArray.size
 unfold slicePick
 rw [h1,h2,h3]
 simp only [sliceRange_one,pick_run,List.size_toArray] <;> rfl
def qhr (K:Frag):V->Option Int->Option Int->Hp->VK->Prop:=fun x lo hi H Q=>∃ a xs,x=.ref a/\SqL K H a xs/\∀ p,H p=none->Q (.ref p) (upd H p (.lst (qbe xs lo hi)))
theorem qbh:SlR X (qhr X.K):=by
 intro pins s σ H x v vl vu lo hi sl Q I rx hs pl pu h
 obtain ⟨a,xs,rfl,hx,q⟩:=h
 cases rx
 obtain ⟨its,r,ht,hz⟩:=I.list hx
 have hlen:=r.length
 refine ⟨"list",_,slot_list_getitem.lookup,ht.isList.typeIs,?_⟩
 refine wpAny_getItem_list_slice ht.isList hs pl pu .none (by simp) ?_ (by rw [List.size_toArray] <;> omega)
 rw [Qj,<-hlen]
 refine ⟨.ref s.heap.objs.size,_,I.laid (t':=s.toks) (o:=.lst (qbe xs lo hi)) (fun b ob q=>Heap.get?_push_of_some _ q) (Nat.le_refl _) ?_,rfl,q _ (I.hok.fresh (Nat.le_refl _))⟩
 exact ⟨Nat.le_trans (KW xs lo hi) hz,_,0,(r.drop (HT.sIx xs.length 0 lo)).take (HT.sIx xs.length xs.length hi - HT.sIx xs.length 0 lo),Heap.get?_push_size _ rfl⟩
theorem xl:uG X (.type "list") (fun xs H Q=>∃ p ys,xs=[.ref p]/\(SqL X.K H p ys\/SqT X.K H p ys)/\∀ l,H l=none->Q (.ref l) (upd H l (.lst ys))):=by
 intro pins s σ H xs us Q I r h
 obtain ⟨p,ys,rfl,hq,q⟩:=h
 obtain ⟨u,rfl,rx⟩:=uQ r
 cases rx
 have fin:∀ (its:List Value),Vals ys its->ys.length<=sizeLine->∀ (h':Heap) (c':Nat),(∀ b o',s.heap.get? b=some o'->h'.get? b=some o') ->
   h'.get? s.heap.objs.size=some { cls:=.type "list",dict:=none,data:=.seq its.toArray c',slots:=#[] }->EP X pins σ Q (.ref s.heap.objs.size) { s with heap:=h' }:=fun its r' hz h' c' kp e=>
  ⟨.ref s.heap.objs.size,_,I.laid (t':=s.toks) kp (Nat.le_refl _) (show ObjOk X.prog X.w _ h' _ (.lst ys) from ⟨hz,its,c',r',e⟩),rfl,q _ (I.hok.fresh (Nat.le_refl _))⟩
 rcases hq with hq | hq
 ·obtain ⟨its,r',pl,hz⟩:=I.list hq
  have hlen:=r'.length
  obtain ⟨o,ho,hc,n,hd⟩:=pl.isList
  exact call_list_seq p (.inl rfl) ho hc hd (fun h' c' kp e=>fin its r' hz h' c' kp e) (by simp only [List.size_toArray] <;> omega)
 ·obtain ⟨its,r',pl,hz⟩:=I.tuple hq
  have hlen:=r'.length
  obtain ⟨o,ho,hc,n,hd⟩:=pl
  exact call_list_seq p (.inr rfl) ho hc hd (fun h' c' kp e=>fin its r' hz h' c' kp e) (by simp only [List.size_toArray] <;> omega)
theorem yj:uG X (.type "tuple") (fun xs H Q=>∃ p ys,xs=[.ref p]/\((SqL X.K H p ys/\∀ l,H l=none->Q (.ref l) (upd H l (.tup ys)))\/(SqT X.K H p ys/\Q (.ref p) H))):=by
 intro pins s σ H xs us Q I r h
 obtain ⟨p,ys,rfl,h⟩:=h
 obtain ⟨u,rfl,rx⟩:=uQ r
 cases rx
 rcases h with ⟨hq,q⟩ | ⟨hq,q⟩
 ·obtain ⟨its,r',pl,hz⟩:=I.list hq
  have hlen:=r'.length
  refine call_tuple_list pl.isList (fun h' kp=>?_) (by simp only [List.size_toArray] <;> omega)
  have I1:Inv X pins σ H { s with heap:=h' }:=I.kept (t':=s.toks) kp
  have I2:Inv X pins σ (upd H h'.objs.size (.tup ys)) { s with heap:=h'.push { cls:=.type "tuple",data:=.seq its.toArray } }:=
   I1.laid (t':=s.toks) (fun b o e=>Heap.get?_push_of_some _ e) (Nat.le_refl _) (show ObjOk X.prog X.w _ _ _ (.tup ys) from ⟨⟨hz,_,Heap.get?_push_size _ rfl,rfl⟩,its,r',IsTup.new _ _⟩)
  exact ⟨.ref h'.objs.size,_,I2,rfl,q _ (I1.hok.fresh (Nat.le_refl _))⟩
 ·obtain ⟨its,r',pl,hz⟩:=I.tuple hq
  exact call_tuple_same pl ⟨.ref p,H,I,rfl,q⟩
def tyV (K:Frag) (T:String) (x:V) (H:Hp):Prop:=match x with
 | .str _=>T = "str"
 | .int _=>T = "int"
 | .ref p=>(T = "list"/\∃ xs,SqL K H p xs)\/(T = "tuple"/\∃ o,K.lookup p=some o/\o.cls=.type "tuple"/\o.dict=none) \/
   (T = "dict"/\((∃ kvs,H p=some (.dK kvs))\/∃ kvs,H p=some (.dT kvs)))\/(T = "set"/\∃ S n,H p=some (.set S n))
 | _=>False
theorem qdl {pins:List (Addr×Obj)} {σ:St} {H:Hp} {s:Shared} {T:String} {x:V} {v:Value} (I:Inv X pins σ H s) (r:RelV x v) (ty:tyV X.K T x H) :
  s.TypeIs v T/\∀ a,v=.ref a->∃ ob,s.heap.get? a=some ob/\ob.dict=none:=by
 cases x with
 | str z=>
  obtain ⟨t,rfl⟩:=r
  cases (show T = "str" from ty)
  exact ⟨typeIs_str s z t,fun _ e=>nomatch e⟩
 | int i=>
  obtain ⟨t,rfl⟩:=r
  cases (show T = "int" from ty)
  exact ⟨typeIs_int s i t,fun _ e=>nomatch e⟩
 | ref p=>
  cases r
  rcases ty with ⟨rfl,xs,hq⟩ | ⟨rfl,o,hk,hc,hd⟩ | ⟨rfl,hk⟩ | ⟨rfl,S,n,hk⟩
  ·obtain ⟨its,_,pl,_⟩:=I.list hq
   refine ⟨pl.isList.typeIs,fun a e=>?_⟩
   cases e
   obtain ⟨o,n,e,c,hd,_⟩:=pl
   exact ⟨o,e,hd⟩
  ·refine ⟨⟨o,I.kIn p o hk,hc⟩,fun a e=>?_⟩
   cases e
   exact ⟨o,I.kIn _ o hk,hd⟩
  ·have z:∃ o,s.heap.get? p=some o/\o.ExactDict:=by
    rcases hk with ⟨kvs,hk⟩ | ⟨kvs,hk⟩
    ·obtain ⟨_,_,_,_,o,_,_,e,ex,_⟩:=I.hok p _ hk
     exact ⟨o,e,ex⟩
    ·obtain ⟨_,_,_,_,o,_,_,e,ex,_⟩:=I.hok p _ hk
     exact ⟨o,e,ex⟩
   obtain ⟨o,e,ex⟩:=z
   refine ⟨⟨o,e,ex.1⟩,fun a e2=>?_⟩
   cases e2
   exact ⟨o,e,ex.2.1⟩
  ·obtain ⟨o,_,_,_,e,ex,_⟩:=I.hok p _ hk
   refine ⟨⟨o,e,ex.1⟩,fun a e2=>?_⟩
   cases e2
   exact ⟨o,e,ex.2.1⟩
 | _=>exact False.elim ty
def tBM (K:Frag) (T:String) (r:V->List V->Hp->VK->Prop) (to:TE) (t:TA):TE:=fun σ H Q=>to σ H fun x H1=>tyV K T x H1/\t σ H1 fun xs H2=>r x xs H2 Q
variable {o e:Expr} {es:List Expr} {to:TE} {t:TA} {name:Str} {apos cpos:Pos} {T id:String} {r:V->List V->Hp->VK->Prop}
theorem UW (pa:PlainAttrs T) (slot:Slot T name id) (hty:typeOf (.builtin id)=pure (.type "method_descriptor")) (hm:MtR X id r) (ho:PE X o to) (ha:PA X (e::es) t)
  (hbase:attributeBase o name X.env (eval o X.env)=eval o X.env:=by rfl)
  (hfew:((backTo cpos (starEach (e::es) X.env)).all (fun x=>!x.1)&&(backToKw cpos (keywordEach [] X.env)).all (fun x=>x.1.isSome)
   && decide ((e::es).length+([]:List Keyword).length+(if ([]:List Keyword).isEmpty then 0 else 1) < 30))=true:=by rfl)
  (hline:(apos.endLine == cpos.line)=true:=by rfl) (hs:starEach (e::es) X.env=(false,eval e X.env)::starEach es X.env:=by rfl) (hplain:(backTo cpos (starEach es X.env)).any (·.1)=false:=by rfl) :
  PE X (.Call (.Attribute o name apos) (e::es) [] cpos) (tBM X.K T r to t):=by
 refine ⟨?_⟩
 intro pins s σ H Q I h
 refine wpAny_Call_method_late hbase hfew hline rfl (thn (ho pins s σ H _ I h) fun v s1 ⟨x,H1,I1,r1,ty,q1⟩=>?_)
 obtain ⟨h1,h2⟩:=qdl I1 r1 ty
 refine ⟨T,id,pa,slot,hty,h1,h2,?_⟩
 have hA:=ha cpos pins s1 σ H1 _ I1 q1
 rw [hs] at hA ⊢
 refine Calls.callWith_builtin (by show (false||(backTo cpos (starEach es X.env)).any (·.1))=false; rw [hplain] <;> rfl) (Calls.evalArgs_plain ?_)
 exact thn hA fun us s2 ⟨vs,H2,I2,r2,q2⟩=>hm pins s2 σ H2 x vs v us Q I2 r1 r2 q2
end
def MtM (X:Cx) (id:String) (r:V->List V->Hp->VK->Prop):Prop:=
 ∀ (pins:List (Addr×Obj)) (s:Shared) (σ:St) (H:Hp) (x:V) (xs:List V) (v:Value) (us:List Value) (Q:VK),Inv X pins σ H s->RelV x v->Vals xs us->r x xs H Q ->
  wpAny (model X.prog X.w) X.A (call (.builtin id) (v::us)) (EP X pins σ Q) X.xe s
theorem Vals.one:∀ {x:V} {us:List Value},Vals [x] us->∃ u,us=[u]/\RelV x u
 | _,_,.cons r .nil=>⟨_,rfl,r⟩
theorem Vals.two:∀ {x y:V} {us:List Value},Vals [x,y] us->∃ u v,us=[u,v]/\RelV x u/\RelV y v
 | _,_,_,.cons r (.cons q .nil)=>⟨_,_,rfl,r,q⟩
theorem Vals.zero:∀ {us:List Value},Vals [] us->us=[]
 | _,.nil=>rfl
theorem Vals.eraseIdx:∀ {xs:List V} {us:List Value} (i:Nat),Vals xs us->Vals (xs.eraseIdx i) (us.eraseIdx i)
 | _,_,_,.nil=>.nil
 | _,_,0,.cons _ t=>t
 | _,_,i+1,.cons r t=>.cons r (Vals.eraseIdx i t)
theorem Vals.reverse {xs:List V} {us:List Value} (h:Vals xs us):Vals xs.reverse us.reverse:=by
 induction h with
 | nil=>exact .nil
 | cons r t ih=>rw [List.reverse_cons,List.reverse_cons]; exact Vals.append ih (.cons r .nil)
theorem Vals.rep {xs:List V} {us:List Value} (h:Vals xs us):∀ k:Nat,Vals (List.replicate k xs).flatten (List.replicate k us).flatten
 | 0=>.nil
 | k+1=>by
  rw [List.replicate_succ,List.replicate_succ,List.flatten_cons,List.flatten_cons]
  exact Vals.append h (Vals.rep h k)
theorem JF {α:Type}:∀ (l:List α) (i:Nat),(l.eraseIdx i).length<=l.length
 | [],_=>Nat.le_refl _
 | _::_,0=>Nat.le_succ _
 | _::r,i+1=>Nat.succ_le_succ (JF r i)
section
variable {X:Cx} {pins:List (Addr×Obj)} {σ:St} {H:Hp} {s:Shared} {l b:Addr} {xs ys zs:List V}
theorem Inv.lset {its its':List Value} {n:Nat} {f:Array Value->Array Value} {t':Nat} (I:Inv X pins σ H s) (hH:H l=some (.lst xs))
  (e:s.heap.get? l=some { cls:=.type "list",data:=.seq its.toArray n }) (hf:f its.toArray=its'.toArray) (hv:Vals ys its') (hz:ys.length<=sizeLine) :
  Inv X pins σ (upd H l (.lst ys)) { s with heap:=s.heap.update l (Obj.mapSeq f),toks:=t' }:=by
 have q:=PySem.IsL.update e f
 rw [hf] at q
 refine I.write (x:=l) (e:=l) (by rw [hH]; exact trivial) (.inl rfl) (fun b' u hb hu=>(Heap.get?_update_other s.heap (Obj.mapSeq f) (Ne.symm hb)).trans hu) ⟨_,q⟩ ?_
 exact ⟨hz,its',_,hv,q⟩
theorem Inv.lnew {its:List Value} {t':Nat} (I:Inv X pins σ H s) (hv:Vals ys its) (hz:ys.length<=sizeLine) :
  Inv X pins σ (upd H s.heap.objs.size (.lst ys)) { s with heap:=s.heap.push { cls:=.type "list",data:=.seq its.toArray },toks:=t' }:=
 I.laid (fun _ _ q=>Heap.get?_push_of_some _ q) (Nat.le_refl _) ⟨hz,its,0,hv,Heap.get?_push_size _ rfl⟩
theorem Inv.fresh (I:Inv X pins σ H s):H s.heap.objs.size=none:=I.hok.fresh (Nat.le_refl _)
theorem Inv.lstM (I:Inv X pins σ H s) (hH:H l=some (.lst xs)):xs.length<=sizeLine/\∃ (its:List Value) (n:Nat),Vals xs its/\xs.length=its.length/\s.heap.get? l=some { cls:=.type "list",data:=.seq its.toArray n }:=by
 obtain ⟨z,its,n,r,e⟩:=I.hok l _ hH
 exact ⟨z,its,n,r,r.length,e⟩
theorem ZH {n:Nat} (h:n<=sizeLine):Builtin.List.listTooLong n=false:=by
 unfold Builtin.List.listTooLong
 exact decide_eq_false (by omega)
end
section
variable {X:Cx}
def Va:V->List V->Hp->VK->Prop:=fun x vs H Q=>∃ l xs y,x=.ref l/\vs=[y]/\H l=some (.lst xs)/\xs.length < sizeLine/\Q .non (upd H l (.lst (xs++[y])))
theorem JG:MtM X "list.append" Va:=by
 intro pins s σ H x vs v us Q I rx rv h
 obtain ⟨l,xs,y,rfl,rfl,hH,hz,q⟩:=h
 cases rx
 obtain ⟨u,rfl,ru⟩:=rv.one
 obtain ⟨z,its,n,r,hl,e⟩:=I.lstM hH
 refine call_meets F.slot_list_append ⟨_,e,rfl⟩ F.entry_list_append (F.args_list_append_2 _ _) (PySem.list_append l its.toArray n u (by rw [List.size_toArray]; omega)) ⟨e,?_⟩
 refine ⟨.non,_,I.lset (its':=its++[u]) hH e (by simp) (r.append (.cons ru .nil)) ?_,rfl,q⟩
 rw [List.length_append,List.length_singleton]
 omega
def qbi:V->List V->Hp->VK->Prop:=fun x vs H Q=>∃ l b xs zs,x=.ref l/\vs=[.ref b]/\H l=some (.lst xs)/\H b=some (.lst zs)/\xs.length+zs.length<=sizeLine/\Q .non (upd H l (.lst (xs++zs)))
theorem UX:MtM X "list.extend" qbi:=by
 intro pins s σ H x vs v us Q I rx rv h
 obtain ⟨l,b,xs,zs,rfl,rfl,hH,hB,hz,q⟩:=h
 cases rx
 obtain ⟨u,rfl,ru⟩:=rv.one
 cases ru
 obtain ⟨z,its,n,r,hl,e⟩:=I.lstM hH
 obtain ⟨z2,its2,n2,r2,hl2,e2⟩:=I.lstM hB
 have hsz:its.toArray.size+its2.toArray.size<=sizeLine:=by rw [List.size_toArray,List.size_toArray]; omega
 have hlong:¬(!its.toArray.isEmpty&&Builtin.List.listTooLong (its.toArray.size+its2.toArray.size))=true:=by
  rw [ZH hsz,Bool.and_false]
  exact Bool.false_ne_true
 refine call_meets F.slot_list_extend ⟨_,e,rfl⟩ F.entry_list_extend (F.args_list_extend_2 _ _)
  (AutoSeq1.list_extend_list_list_0 l its.toArray n b its2.toArray n2 hlong (by rw [List.size_toArray]; omega) (by omega)) ⟨e,e2,?_⟩
 refine ⟨.non,_,I.lset (its':=its++its2) hH e (by simp) (r.append r2) ?_,rfl,q⟩
 rw [List.length_append]
 omega
def qdm:V->List V->Hp->VK->Prop:=fun x vs H Q=>∃ l xs i k y,x=.ref l/\vs=[.int i]/\H l=some (.lst xs)/\-(2 ^ 63)<=i/\i < 2 ^ 63/\seqIndex? i xs.length=some k/\xs[k]?=some y/\Q y (upd H l (.lst (xs.eraseIdx k)))
theorem ZI:MtM X "list.pop" qdm:=by
 intro pins s σ H x vs v us Q I rx rv h
 obtain ⟨l,xs,i,k,y,rfl,rfl,hH,h1,h2,hk,hy,q⟩:=h
 cases rx
 obtain ⟨u,rfl,ru⟩:=rv.one
 obtain ⟨t,rfl⟩:=ru
 obtain ⟨z,its,n,r,hl,e⟩:=I.lstM hH
 obtain ⟨w,hw,rw'⟩:=r.get hy
 refine call_meets F.slot_list_pop ⟨_,e,rfl⟩ F.entry_list_pop (F.args_list_pop_2 _ _)
  (MeetsSeq.list_pop_at l its.toArray n i t k w (fitsIndex_both h1 h2) (by rw [List.size_toArray,<-hl]; exact hk) (by rw [<-Array.getElem?_toList]; exact hw) (by rw [List.size_toArray]; omega)) ⟨e,?_⟩
 refine ⟨y,_,I.lset (its':=its.eraseIdx k) hH e ?_ (r.eraseIdx k) ?_,rw',q⟩
 ·show its.toArray.eraseIdxIfInBounds k=(its.eraseIdx k).toArray
  rw [List.eraseIdxIfInBounds_toArray]
 ·have:=JF xs k
  omega
end
end L2
namespace Att
open PySem PySem.W PySem.Calls PyProof.Rows
theorem zq {P:Params} {h:Heap}:∀ (ns:List Int) (vs:List Value),WellAll P h vs (ns.map WData.int)->IntsAre vs ns:=by
 intro ns
 induction ns with
 | nil=>
  intro vs w
  rw [List.map_nil] at w
  cases w
  exact .nil
 | cons n ns ih=>
  intro vs w
  rw [List.map_cons] at w
  cases w with
  | cons a b=>
   cases a
   exact .cons _ _ (ih _ b)
theorem UY {l:OpenLaw} {n:Nat} (hn:l.most=some n) {P:Params} {h:Heap} {args:List WData} {vals:List Value}
  (hpre:l.row.toRowW.claim.pre args=true) (hwl:WellAll P h vals args) :
  ∃ a vs ns,vals=[Value.ref a]/\args=[WData.list (ns.map WData.int)]/\h.get? a=some { cls:=.type "list",data:=.seq vs.toArray }/\IntsAre vs ns/\ns.length<=n:=by
 have hsh:WShape.hasAll [] args [.list .int]=true:=(pre_splitW hpre).1
 have hc:l.pre.holds [] { args:=args }=true:=(pre_splitW hpre).2
 obtain ⟨d,r,rfl,h1,h2⟩:=hasAllW_cons hsh
 obtain rfl:=hasAllW_nil h2
 obtain ⟨xs,rfl,h3⟩:=hasW_list h1
 obtain ⟨ns,rfl⟩:=items_int h3
 have hlen:ns.length<=n:=by
  unfold OpenLaw.pre at hc
  have h4:(WTm.not (.lt (.lit (.int (n:Int))) (.len (.arg 0)))).holds [] { args:=[.list (ns.map .int)] }=true:=by
   have h4:=(holds_andW hc).1
   rw [hn] at h4
   exact h4
  have h5:=condW_of h4 (w_not (w_lt w_lit (w_len_list (w_arg rfl))))
  rw [List.length_map] at h5
  refine Nat.le_of_not_lt fun q=>?_
  have q':(n:Int) < ((ns.length:Nat):Int):=by omega
  first
   | (rw [decide_eq_true q'] at h5; exact absurd h5 (by decide))
   | (simp at h5; omega)
 cases hwl with
 | cons w1 w2=>
  cases w2
  cases w1 with
  | list ho hall=>exact ⟨_,_,ns,rfl,rfl,ho,zq ns _ hall,hlen⟩
theorem UZ (l:OpenLaw) (args:List WData):l.row.toRowW.claim.post args (.bool true) args=true:=
 postW_of (r:=l.row.toRowW) (X:=(true == true))
  (show WShape.has [] (.bool true) .bool=true by first | rfl | decide | simp [WShape.has,WShape.arms,WShape.armsAll])
  (show (WTm.eq .res (.lit (.bool true))).value [] { args:=args,res:=some (.bool true),after:=args }=some (.bool (true == true)) from w_eq_bool (w_res rfl) w_lit) rfl
theorem attach_call {l:OpenLaw} {n:Nat} {q:Program} {loose:List Str} {XP:(Str->Option Value)->Heap->Prop} {YP:World->Heap->Prop} {d:DefRec}
  (hn:l.most=some n) (hdf:d.params.defaults=[])
  (call:∀ (w:World) (s₀ s₁:Shared) (mg mb:Str->Option Value) (fa:Addr) (o:Obj) (pm cd doc:Value) (a:Addr) (vs:List Value) (ns:List Int),
   Ground q loose [] XP w s₀ mg mb s₁.heap->YP w s₁.heap ->
   s₁.heap.get? fa=some o->o.data=.func (docDef d.name d.params d.body d.scope pm cd doc)->s₁.heap.CodeRec cd d.name->mg d.name=some (.ref fa) ->
   s₁.heap.get? a=some { cls:=.type "list",data:=.seq vs.toArray }->IntsAre vs ns->ns.length<=n->s₁.gens=#[] ->
   codeAny (model l.prog w) callerA (.call (.ref fa) ⟨[.ref a],[]⟩) (fun r s'=>r=.ok (.ret (.bool true))/\OldK s₁.heap s'.heap/\s'.os=s₁.os/\AllBare s'.gens) s₁) :
  WalkO q loose XP YP l.row.toRowW d [] (fun f vs=>PySem.call f vs):=by
 intro w s₀ s₁ mg mb G Y fa o pm cd doc dV kV ho hd hcd hD hmg hg args vals as hpre hlay hrd hwl hlo
 obtain rfl:dV=.none:=Dflts.none hD hdf
 obtain rfl:kV=.none:=Dflts.noKw hD
 obtain ⟨a,vs,ns,rfl,rfl,hobj,hints,hlen⟩:=UY hn hpre hwl
 refine enter_call (codeAny_mono (call w s₀ s₁ mg mb fa o pm cd doc a vs ns G Y ho (fd_plain hd) hcd hmg hobj hints hlen hg) fun r s' hq=>?_)
 obtain ⟨rfl,h2,h3,h4⟩:=hq
 exact ⟨.inl ⟨.bool true,.bool true,[],rfl,fun _=>rfl,.bool true,UZ l _,fun _=>⟨List.Pairwise.nil,fun _ hm=>(nomatch hm)⟩⟩,h2,h3,h4⟩
end Att
namespace L2
open PySem PySem.Spec PyProof.Rows
theorem JH:∀ {vs:List Value} {ns:List Int},IntsAre vs ns->Vals (ns.map V.int) vs
 | _,_,.nil=>.nil
 | _,_,.cons n t h=>.cons ⟨t,rfl⟩ (JH h)
def qfN (H:Hp):Prop:=∀ b,H b=none\/∃ o xs,H b=some (.frz o (.lst xs))
theorem ZJ {P:Program} {w:World} {K:Frag} {mg mb:Str->Option Value} {CX:CXT} {k:Nat} {fa a:Addr} {fd:FuncData} {x:Str} {sp:Sp} {s₁:Shared} {vs:List Value} {ns:List Int}
  (KX:K.In s₁.heap) (hns:s₁.heap.Ns mainGlobals mg) (hb:s₁.heap.Ns builtinsNs mb) (hbb:∀ x:Str,x ≠ "__name__"->mb x=bootBuiltins x) (hlim:s₁.heap.NoLimit) (hg:s₁.gens=#[])
  (ha:s₁.heap.get? a=some { cls:=.type "list",data:=.seq vs.toArray }) (hi:IntsAre vs ns) (hl:ns.length<=sizeLine) (hr:Room k callerA)
  (F:∀ base:Heap,K.In base->base.Ns mainGlobals mg->FnOk P w K mg base CX k fa fd [x] sp) (hbind:∀ (s:Shared) (u:Value),BindsTo s fd ⟨[u],[]⟩ [(x,u)])
  (hsp:∀ H:Hp,qfN H->SqL K H a (ns.map V.int)->sp [.ref a] H (fun v _=>v=.bl true) fun _ _ _=>False)
  (hCX:∀ H e s',CX [] H s₁ (fun _ _ _=>False) e s'->False) :
  codeAny (model P w) callerA (.call (.ref fa) ⟨[.ref a],[]⟩) (fun r s'=>r=.ok (.ret (.bool true))/\OldK s₁.heap s'.heap/\s'.os=s₁.os/\AllBare s'.gens) s₁:=by
 have rv:=JH hi
 have lenV:=hi.length
 have core:∀ H:Hp,qfN H->SqL K H a (ns.map V.int)->HOk P w H s₁.heap->(∀ b,H b≠none->b=a)->(H a≠none->K.lookup a=none) ->
   codeAny (model P w) callerA (.call (.ref fa) ⟨[.ref a],[]⟩) (fun r s'=>r=.ok (.ret (.bool true))/\OldK s₁.heap s'.heap/\s'.os=s₁.os/\AllBare s'.gens) s₁:=by
  intro H hO hS hok hA hK
  have base_of:∀ {b:Addr} {o:Obj},s₁.heap.get? b=some o->H b=none->(Zs s₁.heap H).get? b=some o:=fun e n=>Zu e n
  have noA:∀ {b:Addr} {o:Obj} {es:Array DictEntry} {ep:Nat},s₁.heap.get? b=some o->o.data=.dict es ep->H b=none:=fun {b o es ep} e d=>by
   cases q:H b with
   | none=>rfl
   | some u=>
    have e':b=a:=hA b (by rw [q]; simp)
    subst e'
    rw [ha] at e; cases e
    have d':Data.seq vs.toArray _=Data.dict es ep:=d
    cases d'
  have nsK:∀ {b:Addr} {m:Str->Option Value},s₁.heap.Ns b m->(Zs s₁.heap H).Ns b m:=fun {b m} ⟨o,es,ep,e,d,r⟩=>⟨o,es,ep,base_of e (noA e d),d,r⟩
  have hKb:K.In (Zs s₁.heap H):=fun b o e=>base_of (KX b o e) (by
   cases q:H b with
   | none=>rfl
   | some u=>
    have e':b=a:=hA b (by rw [q]; simp)
    subst e'
    rw [hK (by rw [q]; simp)] at e; cases e)
  have hM:Mod K mg (Zs s₁.heap H):=⟨hKb,nsK hns,⟨mb,nsK hb,hbb⟩,let ⟨mc,h1,h2⟩:=hlim; ⟨mc,nsK h1,h2⟩⟩
  have e0:Env0 P w K mg (Zs s₁.heap H) callerA [] s₁ H:=⟨rfl,hM,fun b o e=>qaV e,Nat.le_of_eq (UM _ _),trivial,fun b hb=>absurd (show b∈([]:List Addr) from hb) (by simp),hok,.of_eq hg⟩
  refine codeAny_mono ((F _ hKb (nsK hns)).run callerA [] s₁ H ⟨[.ref a],[]⟩ [.ref a] [.ref a] _ _ hr e0 (hbind s₁ (.ref a)) (.cons rfl .nil) (hsp H hO hS)) fun r s' h=>?_
  cases r with
  | error e=>exact (hCX H e s' h).elim
  | ok fl=>
   cases fl with
   | next=>exact False.elim h
   | brk=>exact False.elim h
   | cont=>exact False.elim h
   | ret u=>
    obtain ⟨v,H',os,bare,un,hok',r',q⟩:=h
    have q':v=.bl true:=q
    subst q'
    obtain rfl:u=Value.bool true:=r'
    refine ⟨rfl,OldK.of_keep fun b o e=>?_,os,bare⟩
    cases q:H b with
    | none=>exact un.keep b o e q (by intro z; exact absurd (show b∈([]:List Addr) from z) (by simp)) (by simp)
    | some u=>
     rcases hO b with z | ⟨ob,xs,z⟩
     ·rw [q] at z; cases z
     ·have z2:=un.frzs b ob _ z
      obtain ⟨e1,_⟩:=hok b _ z
      obtain ⟨e2,_⟩:=hok' b _ z2
      rw [e] at e1; cases e1
      exact e2
 cases hk:K.lookup a with
 | some o=>
  have e:=KX a o hk
  rw [ha] at e
  cases e
  refine core (fun _=>none) (fun _=>.inl rfl) (.inr ⟨_,vs.toArray,_,hk,rfl,rfl,rfl,by rw [List.size_toArray,lenV]; exact hl,by simpa using rv⟩) (fun b u z=>by have z':(none:Option HO)=some u:=z; cases z') (fun b z=>absurd rfl z) fun z=>absurd rfl z
 | none=>
  refine core (fun b=>if b=a then some (.frz { cls:=.type "list",data:=.seq vs.toArray } (.lst (ns.map V.int))) else none) (fun b=>?_) (.inl (.inr ⟨{ cls:=.type "list",data:=.seq vs.toArray },if_pos rfl⟩)) (fun b u z=>?_) (fun b z=>?_) fun _=>hk
  ·by_cases hb:b=a
   ·exact .inr ⟨_,_,if_pos hb⟩
   ·exact .inl (if_neg hb)
  ·by_cases hb:b=a
   ·have z':=(if_pos hb).symm.trans z
    cases z'
    subst hb
    exact ⟨ha,by rw [List.length_map]; exact hl,vs,_,rv,ha⟩
   ·have z':=(if_neg hb).symm.trans z
    cases z'
  ·by_cases hb:b=a
   ·exact hb
   ·exact absurd (if_neg hb) z
theorem qbj {l:PySem.W.OpenLaw} {n k:Nat} {q:Program} {loose:List Str} {XP:(Str->Option Value)->Heap->Prop} {YP:World->Heap->Prop} {d:DefRec} {K:Params->Frag} {CX:World->CXT} {sp:World->Sp} {x:Str}
  (hn:l.most=some n) (hn2:n<=sizeLine) (hdf:d.params.defaults=[]) (hr:Room k callerA)
  (hY:∀ (w:World) (h:Heap),YP w h->(K w.params).In h)
  (F:∀ (w:World) (mg:Str->Option Value) (fa:Addr) (h:Heap),(K w.params).In h->h.Ns mainGlobals mg->mg d.name=some (.ref fa) ->
   ∃ fd:FuncData,(∀ (s:Shared) (u:Value),BindsTo s fd ⟨[u],[]⟩ [(x,u)]) /\
    ∀ base:Heap,(K w.params).In base->base.Ns mainGlobals mg->FnOk l.prog w (K w.params) mg base (CX w) k fa fd [x] (sp w))
  (hsp:∀ (w:World) (H:Hp) (a:Addr) (ns:List Int),ns.length<=n->qfN H->SqL (K w.params) H a (ns.map V.int)->sp w [.ref a] H (fun v _=>v=.bl true) fun _ _ _=>False)
  (hCX:∀ (w:World) (H:Hp) (s:Shared) (e:Value) (s':Shared),CX w [] H s (fun _ _ _=>False) e s'->False) :
  PySem.W.WalkO q loose XP YP l.row.toRowW d [] (fun f vs=>PySem.call f vs):=by
 refine Att.attach_call hn hdf fun w s₀ s₁ mg mb fa o pm cd doc a vs ns G Y ho hd hcd hmg hobj hints hlen hg=>?_
 have KX:=hY w _ Y
 obtain ⟨fd,hb,hF⟩:=F w mg fa _ KX G.T.g hmg
 exact ZJ KX G.T.g G.T.b G.T.builtins G.T.nolimit hg hobj hints (Nat.le_trans hlen hn2) hr hF hb (fun H hO hS=>hsp w H a ns hlen hO hS) fun H e s'=>hCX w H s₁ e s'
noncomputable def wE (s:Stmt):Arguments:=match s with
 | .FunctionDef _ a _ _ _ _ _ _ _ _=>a
 | _=>{ posonlyargs:=[],args:=[],vararg:=none,kwonlyargs:=[],kw_defaults:=[],kwarg:=none,defaults:=[] }
noncomputable def vB (s:Stmt):List Stmt:=match s with
 | .FunctionDef _ _ b _ _ _ _ _ _ _=>b
 | _=>[]
noncomputable def qe (s:Stmt):Scope:=match s with
 | .FunctionDef _ _ _ _ _ _ sc _ _ _=>sc
 | _=>{ kind:=.function,names:=[],isGenerator:=false,isCoroutine:=false }
structure Fun (K:Frag) (x qual:Str) (st:Stmt) (f:Addr) (fd:FuncData):Prop where
 ex:∃ (oc:Value) (od:Option Addr) (kV doc pm:Value) (an:Option Addr) (cdv ct:Value) (osl:Array (Option Value)),
  fd=PySem.W.fnOf x qual (wE st) (vB st) (qe st) .none kV doc pm an cdv ct/\K.lookup f=some ⟨oc,od,.func fd,osl⟩/\codeIn K cdv qual=true
 kp:keepIn K (.ref f)=true
section
variable {P:Program} {w:World} {K:Frag} {mg:Str->Option Value} {base:Heap}
theorem Fun.binds {x qual:Str} {st:Stmt} {f:Addr} {fd:FuncData} {ps:List Str} (F:Fun K x qual st f fd)
  (h:∀ (kV doc pm:Value) (an:Option Addr) (cdv ct:Value) (us:List Value),us.length=ps.length->bindArgs (PySem.W.fnOf x qual (wE st) (vB st) (qe st) .none kV doc pm an cdv ct) ⟨us,[]⟩=pure (ps.zip us)):Binds K fd ps []:=by
 obtain ⟨oc,od,kV,doc,pm,an,cdv,ct,osl,rfl,lk,hcd⟩:=F.ex
 exact .all (h kV doc pm an cdv ct)
theorem Yb {x qual:Str} {st:Stmt} {f:Addr} {oc:Value} {od an:Option Addr} {osl:Array (Option Value)} {kV doc pm cdv ct:Value} (l:K.lookup f=some ⟨oc,od,.func (PySem.W.fnOf x qual (wE st) (vB st) (qe st) .none kV doc pm an cdv ct),osl⟩)
  (c:codeIn K cdv qual=true) (k:keepIn K (.ref f)=true):Fun K x qual st f (PySem.W.fnOf x qual (wE st) (vB st) (qe st) .none kV doc pm an cdv ct):=⟨⟨oc,od,kV,doc,pm,an,cdv,ct,osl,rfl,l,c⟩,k⟩
end
section
variable {X:Cx}
theorem pv (i:Nat) {x:Str} {pos:Pos} (hN:X.N[i]?=some x:=by rfl) (hv:Vis X.env.scope x:=by first | exact Or.inl rfl | exact Or.inr (Or.inl rfl) | exact Or.inr (Or.inr rfl)) (hd:(x == ("__debug__":Str))=false:=by decide)
  (hcd:(x == ("__classdict__":Str))=false:=by decide):PE X (.Name x pos) (qfq i):=uI hN hv hd hcd
end
def Same (H H':Hp):Prop:=∀ b o,H b=some o->H' b=some o
theorem Same.refl (H:Hp):Same H H:=fun _ _ h=>h
theorem Same.trans {H H1 H2:Hp} (a:Same H H1) (b:Same H1 H2):Same H H2:=fun c o h=>b c o (a c o h)
theorem Same.free {H H':Hp} (e:Same H H') {l:Addr} (h:H' l=Option.none):H l=Option.none:=by
 cases q:H l with
 | none=>rfl
 | some o=>
  rw [e l o q] at h
  cases h
theorem Same.seq {K:Frag} {H H':Hp} {a:Addr} {xs:List V} (e:Same H H') (h:SqL K H a xs):SqL K H' a xs:=by
 rcases h with (h | ⟨o,h⟩) | h
 ·exact .inl (.inl (e _ _ h))
 ·exact .inl (.inr ⟨o,e _ _ h⟩)
 ·exact .inr h
section
variable {κ:Type} [DecidableEq κ]
noncomputable def VW (kvs:List (κ×V)) (k:κ):Option V:=(kvs.find? fun kv=>decide (kv.1=k)).map (·.2)
noncomputable def gx (kvs:List (κ×V)) (k:κ) (v:V):List (κ×V):=
 if (kvs.any fun kv=>decide (kv.1=k))=true then kvs.map (fun kv=>if kv.1=k then (kv.1,v) else kv) else kvs++[(k,v)]
theorem xX {p:κ×V} {r:List (κ×V)} {k:κ} (e:p.1=k):VW (p::r) k=some p.2:=by simp [VW,List.find?_cons,e]
theorem xY {p:κ×V} {r:List (κ×V)} {k:κ} (e:¬p.1=k):VW (p::r) k=VW r k:=by simp [VW,List.find?_cons,e]
theorem Qk (k:κ):∀ kvs:List (κ×V),(kvs.any fun kv=>decide (kv.1=k))=(VW kvs k).isSome
 | []=>rfl
 | p::r=>by
  rw [List.any_cons]
  by_cases e:p.1=k
  ·simp only [xX e,decide_eq_true e,Bool.true_or,Option.isSome_some]
  ·rw [xY e,decide_eq_false e,Bool.false_or]; exact Qk k r
theorem uR (kvs:List (κ×V)) (k:κ) (v:V):(gx kvs k v).length<=kvs.length+1:=by
 unfold gx
 split
 ·rw [List.length_map]; omega
 ·rw [List.length_append,List.length_cons,List.length_nil]; omega
theorem RelO.isSome_eq {o:Option V} {u:Option Value} (r:RelO o u):o.isSome=u.isSome:=by
 cases o with
 | none=>cases u with
  | none=>rfl
  | some _=>exact (show False from r).elim
 | some _=>cases u with
  | none=>exact (show False from r).elim
  | some _=>rfl
theorem KV.val {kvs:List (κ×V)} {vs:List (κ×Value)} (r:KV kvs vs) (k:κ):RelO (VW kvs k) (valueAt vs k):=by
 unfold KV at r
 induction r with
 | nil=>exact True.intro
 | @cons p q ps qs h t ih=>
  obtain ⟨h1,h2⟩:=h
  by_cases e:p.1=k
  ·have e':q.1=k:=h1.symm.trans e
   have b:valueAt (q::qs) k=some q.2:=by simp [valueAt,List.find?_cons,e']
   rw [xX e,b]; exact h2
  ·have e':¬q.1=k:=fun z=>e (h1.trans z)
   have b:valueAt (q::qs) k=valueAt qs k:=by simp [valueAt,List.find?_cons,e']
   rw [xY e,b]; exact ih
theorem KV.any {kvs:List (κ×V)} {vs:List (κ×Value)} (r:KV kvs vs) (k:κ):(kvs.any fun kv=>decide (kv.1=k))=vs.any fun kv=>decide (kv.1=k):=by
 unfold KV at r
 induction r with
 | nil=>rfl
 | cons h t ih=>rw [List.any_cons,List.any_cons,ih,h.1]
theorem KV.repl {kvs:List (κ×V)} {vs:List (κ×Value)} (r:KV kvs vs) (k:κ) {y:V} {u:Value} (ry:RelV y u) :
  KV (kvs.map fun kv=>if kv.1=k then (kv.1,y) else kv) (vs.map fun kv=>if kv.1=k then (kv.1,u) else kv):=by
 unfold KV at r ⊢
 induction r with
 | nil=>exact .nil
 | @cons p q ps qs h t ih=>
  rw [List.map_cons,List.map_cons]
  refine .cons ?_ ih
  obtain ⟨h1,h2⟩:=h
  by_cases e:p.1=k
  ·rw [if_pos e,if_pos (h1.symm.trans e)]; exact ⟨h1,ry⟩
  ·rw [if_neg e,if_neg (fun z=>e (h1.trans z))]; exact ⟨h1,h2⟩
theorem KV.put {kvs:List (κ×V)} {vs:List (κ×Value)} (r:KV kvs vs) (k:κ) {y:V} {u:Value} (ry:RelV y u):KV (gx kvs k y) (stored vs k u):=by
 unfold gx stored
 rw [r.any k]
 by_cases e:(vs.any fun kv=>decide (kv.1=k))=true
 ·rw [if_pos e,if_pos e]; exact r.repl k ry
 ·rw [if_neg e,if_neg e]; exact Paired.snoc r ⟨rfl,ry⟩
theorem KV.keys {kvs:List (κ×V)} {vs:List (κ×Value)} (r:KV kvs vs):kvs.map (·.1)=vs.map (·.1):=by
 unfold KV at r
 induction r with
 | nil=>rfl
 | cons h t ih=>rw [List.map_cons,List.map_cons,ih,h.1]
theorem KV.length {kvs:List (κ×V)} {vs:List (κ×Value)} (r:KV kvs vs):kvs.length=vs.length:=Paired.length r
end
theorem Yc {P:Program} {w:World} {k:Key} {u:Value} (r:RelV (kV k) u):(ji P w).is k u=true:=by
 cases k with
 | inl i=>obtain ⟨t,e⟩:=(show ∃ t,u=Value.int i t from r); subst e; exact KR P w i t
 | inr x=>obtain ⟨t,e⟩:=(show ∃ t,u=Value.str x t from r); subst e; exact KS P w x t
theorem JI {P:Program} {w:World}:∀ {ks:List Key} {us:List Value},Vals (ks.map kV) us->ItemsAre (ji P w) ks us
 | [],_,r=>by rw [List.map_nil] at r; cases r; exact .nil
 | k::ks,_,r=>by
  rw [List.map_cons] at r
  cases r with
  | cons h t=>exact .cons (Yc h) (JI t)
abbrev KT (H:Hp):List (List Key×V)->List (List Key×Addr×Value)->Prop:=Paired fun p q=>p.1=q.1/\H q.2.1=some (.tup (p.1.map kV))/\RelV p.2 q.2.2
theorem KT.val {H:Hp} {kvs:List (List Key×V)} {xs:List (List Key×Addr×Value)} (r:KT H kvs xs) (k:List Key):RelO (VW kvs k) ((atKey xs k).map (·.2)):=by
 induction r with
 | nil=>exact True.intro
 | @cons p q ps qs h t ih=>
  obtain ⟨h1,_,h2⟩:=h
  by_cases e:p.1=k
  ·have e':q.1=k:=h1.symm.trans e
   have b:atKey (q::qs) k=some q.2:=by simp [atKey,List.find?_cons,e']
   rw [xX e,b]; exact h2
  ·have e':¬q.1=k:=fun z=>e (h1.trans z)
   have b:atKey (q::qs) k=atKey qs k:=by simp [atKey,List.find?_cons,e']
   rw [xY e,b]; exact ih
theorem KT.repl {H:Hp} {kvs:List (List Key×V)} {xs:List (List Key×Addr×Value)} (r:KT H kvs xs) (k:List Key) {y:V} {u:Value} (ry:RelV y u) :
  KT H (kvs.map fun kv=>if kv.1=k then (kv.1,y) else kv) (xs.map (putAt k u)):=by
 induction r with
 | nil=>exact .nil
 | @cons p q ps qs h t ih=>
  rw [List.map_cons,List.map_cons]
  refine .cons ?_ ih
  obtain ⟨h1,h2,h3⟩:=h
  unfold putAt
  by_cases e:p.1=k
  ·rw [if_pos e,if_pos (h1.symm.trans e)]; exact ⟨h1,h2,ry⟩
  ·rw [if_neg e,if_neg (fun z=>e (h1.trans z))]; exact ⟨h1,h2,h3⟩
theorem KT.put {H:Hp} {kvs:List (List Key×V)} {xs:List (List Key×Addr×Value)} (r:KT H kvs xs) (k:List Key) {b:Addr} {y:V} {u:Value} (hb:H b=some (.tup (k.map kV))) (ry:RelV y u) :
  KT H (gx kvs k y) (storedH xs k b u):=by
 have e:(kvs.any fun kv=>decide (kv.1=k))=(atKey xs k).isSome:=by
  rw [Qk,(r.val k).isSome_eq,Option.isSome_map]
 unfold gx storedH
 rw [e]
 by_cases q:(atKey xs k).isSome=true
 ·rw [if_pos q,if_pos q]; exact r.repl k ry
 ·rw [if_neg q,if_neg q]; exact Paired.snoc r ⟨rfl,hb,ry⟩
theorem KT.keeps {H H':Hp} {kvs:List (List Key×V)} {xs:List (List Key×Addr×Value)} (r:KT H kvs xs) (ht:∀ b ys,H b=some (.tup ys)->H' b=some (.tup ys)):KT H' kvs xs:=
 Paired.mapP r fun _ _ z=>⟨z.1,ht _ _ z.2.1,z.2.2⟩
section
variable {P:Program} {w:World} {H:Hp} {h:Heap} {a:Addr}
theorem qdn {u:HO} (ok:HOk P w H h) (e:Rd H a u):ObjOk P w H h a u:=e.ok ok
theorem Ue {kvs:List (Key×V)} (ok:HOk P w H h) (e:Rd H a (.dK kvs)):kvs.length<=sizeLine/\(a == sysModules)=false/\∃ vs,KV kvs vs/\h.DictOf (ji P w) a vs:=
 show ObjOk P w H h a (.dK kvs) from qdn ok e
theorem qfO {kvs:List (Key×V)} (ok:HOk P w H h) (e:H a=some (.dK kvs)):kvs.length<=sizeLine/\(a == sysModules)=false/\∃ vs,KV kvs vs/\h.DictOf (ji P w) a vs:=Ue ok (.inl e)
theorem zr {ks:List Key} (ok:HOk P w H h) (e:H a=some (.tup (ks.map kV))):(tupleKind (ji P w)).is h ks a:=by
 obtain ⟨_,its,r,o,h1,h2,n,h3⟩:=(show ObjOk P w H h a (.tup (ks.map kV)) from ok a _ e)
 exact ⟨o,its.toArray,n,h1,h2,h3,by simpa using JI r⟩
theorem Yd {kvs:List (List Key×V)} (ok:HOk P w H h) (e:Rd H a (.dT kvs)):kvs.length<=sizeLine/\(a == sysModules)=false /\
  ∃ xs,KT H kvs xs/\h.DictOfH (tupleKind (ji P w)) a xs:=by
 obtain ⟨z,y,xs,r,o,es,ep,h1,h2,h3,h4,h5⟩:=(show ObjOk P w H h a (.dT kvs) from qdn ok e)
 refine ⟨z,y,xs,r,o,es,ep,h1,h2,h3,h4,fun x hx=>?_,h5⟩
 have all:∀ {l:List (List Key×V)} {m:List (List Key×Addr×Value)},KT H l m->∀ x∈m,(tupleKind (ji P w)).is h x.1 x.2.1:=by
  intro l m q
  induction q with
  | nil=>intro x hx; exact nomatch hx
  | @cons p q ps qs hq t ih=>
   intro x hx
   rcases List.mem_cons.mp hx with e | hx
   ·subst e
    exact zr ok (by rw [<-hq.1]; exact hq.2.1)
   ·exact ih x hx
 exact all r x hx
theorem qfP {kvs:List (List Key×V)} (ok:HOk P w H h) (e:H a=some (.dT kvs)):kvs.length<=sizeLine/\(a == sysModules)=false /\
  ∃ xs,KT H kvs xs/\h.DictOfH (tupleKind (ji P w)) a xs:=Yd ok (.inl e)
end
def DGet (H:Hp) (a:Addr) (y:V) (r:Option V):Prop:=
 (∃ kvs k,Rd H a (.dK kvs)/\y=kV k/\r=VW kvs k)\/∃ kvs k b,Rd H a (.dT kvs)/\y=.ref b/\H b=some (.tup (k.map kV))/\r=VW kvs k
def DPut (H:Hp) (a:Addr) (y v:V) (H':Hp):Prop:=
 (∃ kvs k,H a=some (.dK kvs)/\y=kV k/\kvs.length < sizeLine/\H'=upd H a (.dK (gx kvs k v))) \/
 ∃ kvs k b,H a=some (.dT kvs)/\y=.ref b/\H b=some (.tup (k.map kV))/\kvs.length < sizeLine/\H'=upd H a (.dT (gx kvs k v))
theorem DGet.k {H:Hp} {a:Addr} {kvs:List (Key×V)} {k:Key} (e:H a=some (.dK kvs)):DGet H a (kV k) (VW kvs k):=.inl ⟨kvs,k,.inl e,rfl,rfl⟩
theorem DGet.t {H:Hp} {a b:Addr} {kvs:List (List Key×V)} {k:List Key} (e:H a=some (.dT kvs)) (eb:H b=some (.tup (k.map kV))):DGet H a (.ref b) (VW kvs k):=.inr ⟨kvs,k,b,.inl e,rfl,eb,rfl⟩
theorem DPut.k {H:Hp} {a:Addr} {kvs:List (Key×V)} {k:Key} {v:V} (e:H a=some (.dK kvs)) (hl:kvs.length < sizeLine):DPut H a (kV k) v (upd H a (.dK (gx kvs k v))):=.inl ⟨kvs,k,e,rfl,hl,rfl⟩
theorem DPut.t {H:Hp} {a b:Addr} {kvs:List (List Key×V)} {k:List Key} {v:V} (e:H a=some (.dT kvs)) (eb:H b=some (.tup (k.map kV))) (hl:kvs.length < sizeLine) :
  DPut H a (.ref b) v (upd H a (.dT (gx kvs k v))):=.inr ⟨kvs,k,b,e,rfl,eb,hl,rfl⟩
section
variable {X:Cx} {pins:List (Addr×Obj)} {σ:St} {H:Hp} {s:Shared} {a:Addr} {y v:V} {u r:Value} {o:Option V} {A:Around} {E:Value->Shared->Prop}
theorem Inv.big (I:Inv X pins σ H s):sysModules < s.heap.objs.size:=by
 have h:mainGlobals < s.heap.objs.size:=(I.mod.glob.keeps I.bk).lt
 exact Nat.lt_trans (by decide) h
theorem Ye {Q:Value->Shared->Prop} (hu:A.units+1 < cLine) (I:Inv X pins σ H s) (g:DGet H a y (some v)) (ry:RelV y u) (h:∀ w' s',Inv X pins σ H s'->RelV v w'->Q w' s') :
  wpAny (model X.prog X.w) A (getItem (.ref a) u) Q E s:=by
 rcases g with ⟨kvs,k,e,ey,l⟩ | ⟨kvs,k,b,e,ey,eb,l⟩
 ·subst ey
  obtain ⟨z,hd,vs,rel,dd⟩:=Ue I.hok e
  obtain ⟨w',hw,rw'⟩:=RelO.some_of (v:=v) (o:=valueAt vs k) (by rw [l]; exact rel.val k)
  exact wpAny_getItem_of (Yc ry) dd.mapOf hw (h w' _ (I.tok _) rw')
 ·subst ey
  cases (show u=Value.ref b from ry)
  obtain ⟨z,hd,xs,rel,dd⟩:=Yd I.hok e
  obtain ⟨w',hw,rw'⟩:=RelO.some_of (v:=v) (o:=(atKey xs k).map (·.2)) (by rw [l]; exact rel.val k)
  obtain ⟨p,hp,hp2⟩:=Option.map_eq_some_iff.mp hw
  refine wpAny_getItem_heap (tupleKind_room_in1 hu) (zr I.hok eb) dd hp ?_
  rw [hp2]
  exact h w' _ (I.tok _) rw'
theorem qhs {Q:Value->Shared->Prop} (hu:A.units+1 < cLine) (I:Inv X pins σ H s) (g:DGet H a y o) (ry:RelV y u) (h:∀ s',Inv X pins σ H s'->Q (.bool o.isSome) s') :
  wpAny (model X.prog X.w) A (compareOp .In u (.ref a)) Q E s:=by
 rcases g with ⟨kvs,k,e,ey,l⟩ | ⟨kvs,k,b,e,ey,eb,l⟩
 ·subst ey
  obtain ⟨z,hd,vs,rel,dd⟩:=Ue I.hok e
  refine wpAny_in_of (Yc ry) hd dd.mapOf ?_
  rw [<-(rel.val k).isSome_eq,<-l]
  exact h _ (I.tok _)
 ·subst ey
  cases (show u=Value.ref b from ry)
  obtain ⟨z,hd,xs,rel,dd⟩:=Yd I.hok e
  refine wpAny_in_heap (tupleKind_room_in1 hu) (zr I.hok eb) hd dd ?_
  have q:=(rel.val k).isSome_eq
  rw [Option.isSome_map] at q
  rw [<-q,<-l]
  exact h _ (I.tok _)
theorem qbk {Q:Value->Shared->Prop} (hu:A.units+1 < cLine) (I:Inv X pins σ H s) (g:DGet H a y o) (ry:RelV y u) (h:∀ s',Inv X pins σ H s'->Q (.bool (!o.isSome)) s') :
  wpAny (model X.prog X.w) A (compareOp .NotIn u (.ref a)) Q E s:=by
 rcases g with ⟨kvs,k,e,ey,l⟩ | ⟨kvs,k,b,e,ey,eb,l⟩
 ·subst ey
  obtain ⟨z,hd,vs,rel,dd⟩:=Ue I.hok e
  refine wpAny_notIn_of (Yc ry) hd dd.mapOf ?_
  rw [<-(rel.val k).isSome_eq,<-l]
  exact h _ (I.tok _)
 ·subst ey
  cases (show u=Value.ref b from ry)
  obtain ⟨z,hd,xs,rel,dd⟩:=Yd I.hok e
  refine wpAny_notIn_heap (tupleKind_room_in1 hu) (zr I.hok eb) hd dd ?_
  have q:=(rel.val k).isSome_eq
  rw [Option.isSome_map] at q
  rw [<-q,<-l]
  exact h _ (I.tok _)
theorem Yg {h':Heap} {t':Nat} {ob:HO} (I:Inv X pins σ H s) (mu:Mut (H a)) (hs:Heap.SameBut a s.heap h') (he:∃ q,h'.get? a=some q) (new:ObjOk X.prog X.w (upd H a ob) h' a ob) :
  Inv X pins σ (upd H a ob) { s with heap:=h',toks:=t' }:=
 I.write (x:=a) (e:=a) mu (.inl rfl) (fun b q hb z=>(hs.2 b hb).trans z) he new
theorem Yh {P:Program} {w:World} {H':Hp} {h':Heap} {kvs:List (Key×V)} {vs:List (Key×Value)} (z:kvs.length<=sizeLine) (hd:(a == sysModules)=false) (rel:KV kvs vs) (dd:h'.DictOf (ji P w) a vs) :
  ObjOk P w H' h' a (.dK kvs):=⟨z,hd,vs,rel,dd⟩
theorem Yi {H':Hp} {Q:Unit->Shared->Prop} (hu:A.units+1 < cLine) (I:Inv X pins σ H s) (g:DPut H a y v H') (ry:RelV y u) (rv:RelV v r) (h:∀ s',Inv X pins σ H' s'->Q () s') :
  wpAny (model X.prog X.w) A (setItem (.ref a) u r) Q E s:=by
 rcases g with ⟨kvs,k,e,ey,l,eH⟩ | ⟨kvs,k,b,e,ey,eb,l,eH⟩
 ·subst ey eH
  obtain ⟨z,hd,vs,rel,dd⟩:=qfO I.hok e
  have hz:vs.length<=sizeLine:=by rw [<-rel.length]; exact z
  have hl:(gx kvs k v).length<=sizeLine:=by have:=uR kvs k v; omega
  refine wpAny_setItem_pairs (hsz:=hz) (Yc ry) dd fun h' dd' hs=>h _ ?_
  have he:∃ q,h'.get? a=some q:=let ⟨q,_,_,hq,_⟩:=dd'; ⟨q,hq⟩
  exact Yg I (by rw [e]; exact True.intro) hs he (Yh hl hd (rel.put k rv) dd')
 ·subst ey eH
  cases (show u=Value.ref b from ry)
  obtain ⟨z,hd,xs,rel,dd⟩:=qfP I.hok e
  have hz:xs.length<=sizeLine:=by rw [<-Paired.length rel]; exact z
  have hl:(gx kvs k v).length<=sizeLine:=by have:=uR kvs k v; omega
  refine wpAny_setItem_heap (hsz:=hz) (tupleKind_room_in1 hu) (zr I.hok eb) dd fun h' dd' hs=>h _ ?_
  obtain ⟨q,es,ep,hq,h2,h3,h4,_,h5⟩:=dd'
  refine Yg I (by rw [e]; exact True.intro) hs ⟨q,hq⟩ ⟨hl,hd,_,(rel.put k eb rv).keeps fun c ys ec=>?_,q,es,ep,hq,h2,h3,h4,h5⟩
  rw [qA (qfp ec e (fun z=>nomatch z))]
  exact ec
end
section
variable {X:Cx} {pins:List (Addr×Obj)} {σ:St} {H:Hp} {s:Shared} {a:Addr} {kvs:List (Key×V)} {k:Key} {u:Value} {A:Around} {E:Value->Shared->Prop}
theorem qfQ {Q:Value->Shared->Prop} (I:Inv X pins σ H s) (e:Rd H a (.dK kvs)) (h:∀ t s',Inv X pins σ H s'->Q (.int kvs.length t) s'):wpAny (model X.prog X.w) A (call (.builtin "len") [.ref a]) Q E s:=by
 obtain ⟨z,hd,vs,rel,dd⟩:=Ue I.hok e
 refine call_len_dict hd dd (by rw [<-rel.length]; rw [sizeLine_eq] at z; omega) ?_
 rw [<-rel.length]
 exact h _ _ (I.tok _)
end
theorem Vb {X:Cx} {pins:List (Addr×Obj)} {σ:St} {H:Hp} {s:Shared} {a:Addr} {y:V} {o:Option V} (I:Inv X pins σ H s) (g:DGet H a y o):s.TypeIs (.ref a) "dict":=by
 rcases g with ⟨kvs,k,e,_,_⟩ | ⟨kvs,k,b,e,_,_,_⟩
 ·obtain ⟨_,_,vs,_,dd⟩:=Ue I.hok e
  exact dd.typeIs
 ·obtain ⟨_,_,xs,_,dd⟩:=Yd I.hok e
  exact dd.typeIs
def qfR (td ty tv:TE):TS:=fun D σ H=>tv σ H fun v H1=>td σ H1 fun x H2=>ty σ H2 fun y H3=>∃ a H4,x=.ref a/\DPut H3 a y v H4/\D.nx σ H4
section
variable {X:Cx} {o i e value:Expr} {pos pos' tpos:Pos} {td ty tv:TE}
theorem qbl (hu:X.A.units+1 < cLine) (ho:PE X o td) (hi:PE X i ty) (hv:PE X value tv) (hs:swapsWith value (some (.Subscript o i pos')) pos.line X.env=pure false) :
  PS X (.Assign [.Subscript o i pos'] value pos) (qfR td ty tv):=by
 refine ⟨?_⟩
 intro pins s σ H D I h
 refine wpAny_Assign_Subscript (thn (hv pins s σ H _ I h) fun r s1 ⟨v,H1,I1,rv,q1⟩=>thn (ho pins s1 σ H1 _ I1 q1) fun u s2 ⟨x,H2,I2,rx,q2⟩=>thn (hi pins s2 σ H2 _ I2 q2) fun iv s3 ⟨y,H3,I3,ry,a,H4,ex,g,q3⟩=>?_) hs
 subst ex
 obtain rfl:u=Value.ref a:=rx
 exact Yi hu I3 g ry rv fun s4 I4=>⟨σ,H4,I4,q3⟩
end
theorem ZK {P:Program} {w:World} {H:Hp} (h:Heap) (hb:sysModules < h.objs.size):ObjOk P w H (h.push { cls:=.type "dict",data:=.dict #[] }) h.objs.size (.dK []):=
 ⟨Nat.zero_le _,beq_eq_false_iff_ne.mpr (Ne.symm (Nat.ne_of_lt hb)),[],.nil,Heap.DictOf.new h⟩
def qdo:TE:=fun _ H Q=>∀ p,H p=none->Q (.ref p) (upd H p (.dK []))
section
variable {X:Cx} {pos:Pos}
theorem ZL:PE X (.Dict [] [] pos) qdo:=⟨fun pins s σ H Q I h=>
 wpAny_Dict_empty ⟨.ref s.heap.objs.size,_,I.laid (a:=s.heap.objs.size) (o:=.dK []) (t':=s.toks) (fun _ _ q=>Heap.get?_push_of_some _ q) (Nat.le_refl _) (ZK s.heap I.big),rfl,h _ (I.hok.fresh (Nat.le_refl _))⟩⟩
end
structure M1 (X:Cx) (o:Expr) (m:Str) (apos:Pos) (e:Expr) (cpos:Pos):Prop where
 base:attributeBase o m X.env (eval o X.env)=eval o X.env
 few:((backTo cpos (starEach [e] X.env)).all (fun x=>!x.1)&&(backToKw cpos (keywordEach [] X.env)).all (fun x=>x.1.isSome)
  && decide (([e]:List Expr).length+([]:List Keyword).length+(if ([]:List Keyword).isEmpty then 0 else 1) < 30))=true
 line:(apos.endLine == cpos.line)=true
 trees:backTo cpos (starEach [e] X.env)=[(false,eval e X.env)]
structure M2 (X:Cx) (o:Expr) (m:Str) (apos:Pos) (e f:Expr) (cpos:Pos):Prop where
 base:attributeBase o m X.env (eval o X.env)=eval o X.env
 few:((backTo cpos (starEach [e,f] X.env)).all (fun x=>!x.1)&&(backToKw cpos (keywordEach [] X.env)).all (fun x=>x.1.isSome)
  && decide (([e,f]:List Expr).length+([]:List Keyword).length+(if ([]:List Keyword).isEmpty then 0 else 1) < 30))=true
 line:(apos.endLine == cpos.line)=true
 trees:backTo cpos (starEach [e,f] X.env)=[(false,eval e X.env),(false,eval f X.env)]
section
variable {X:Cx}
theorem Yj:uG X (.builtin "len") (fun xs H Q=>∃ a kvs,xs=[V.ref a]/\H a=some (.dK kvs)/\Q (.int kvs.length) H):=by
 intro pins s σ H xs us Q I r h
 obtain ⟨a,kvs,rfl,ha,q⟩:=h
 obtain ⟨u,rfl,ru⟩:=uQ r
 cases ru
 exact qfQ I (.inl ha) fun t s' I'=>⟨.int kvs.length,H,I',⟨t,rfl⟩,q⟩
end
end L2
namespace L2.D2
open PySem PySem.Spec PyProof.Rows
theorem zt {a b:List Nat} (h:(a.all fun i=>decide (i∈b))=true):∀ i∈a,i∈b:=fun i hi=>of_decide_eq_true (List.all_eq_true.mp h i hi)
theorem VX {i:Nat} {b:List Nat} (h:decide (i∈b)=false):i∉b:=of_decide_eq_false h
noncomputable def Yk:Expr->Bool
 | .Starred ..=>false
 | _=>true
theorem kP {e:Expr} {es:List Expr} {env:Env} (h:Yk e=true):starEach (e::es) env=(false,eval e env)::starEach es env:=by cases e <;> first | rfl | cases h
theorem qQ {e:Expr} {env:Env} (h:Yk e=true):starEach [e] env=[(false,eval e env)]:=kP h
theorem Ql {pos:Pos} {env:Env}:∀ {es:List Expr},es.all Yk=true->(backTo pos (starEach es env)).any (·.1)=false
 | [],_=>rfl
 | e::es,h=>by
  rw [List.all_cons,Bool.and_eq_true] at h
  rw [kP h.1]
  exact Ql h.2
theorem uq {pos:Pos} {env:Env} {e:Expr} (h:Yk e=true):((backTo pos (starEach [e] env)).all (fun x=>!x.1)&&(backToKw pos (keywordEach [] env)).all (fun x=>x.1.isSome)
   && decide ([e].length+([]:List Keyword).length+(if ([]:List Keyword).isEmpty then 0 else 1) < 30))=true:=by rw [qQ h]; rfl
inductive D where
 | non | bl (b:Bool) | int (i:Int) | str (x:Str)
 | tup (xs:List D) | lst (xs:List D) | dct (kvs:List (Key×D)) | raw (v:V)
 | xcp (C:Addr) | ins (C:Addr) (fs:List (Str×D)) | at_ (a:Addr) (xs:List D)
 deriving Inhabited
abbrev Sl:=List (Option D)
inductive Out (α:Type) where
 | ok (a:α) | exc (c:Str) (o:Sl) | bad
noncomputable def Out.bind {α β:Type} (o:Out α) (k:α->Out β):Out β:=match o with
 | .ok a=>k a
 | .exc c o=>.exc c o
 | .bad=>.bad
@[simp] theorem Out.ok_bind {α β:Type} (a:α) (k:α->Out β):(Out.ok a).bind k=k a:=rfl
@[simp] theorem Out.exc_bind {α β:Type} (c:Str) (o:Sl) (k:α->Out β):(Out.exc c o:Out α).bind k=.exc c o:=rfl
@[simp] theorem Out.bad_bind {α β:Type} (k:α->Out β):(Out.bad:Out α).bind k=.bad:=rfl
noncomputable def qht (a C:Addr):HO:=.ext fun h=>∃ oe vs,h.get? a=some oe/\oe.cls=.ref C/\oe.data=.fields vs
mutual
/-- the value v is the data d,all its objects in F -/
inductive Is (K:Frag) (F:Hp):V->D->Prop
 | non:Is K F .non .non
 | bl (b:Bool):Is K F (.bl b) (.bl b)
 | int (i:Int):Is K F (.int i) (.int i)
 | str {x:Str} (h:x.length<=sizeLine):Is K F (.str x) (.str x)
 | tup {a:Addr} {xs:List V} {ds:List D} (h:SqT K F a xs) (t:IsL K F xs ds):Is K F (.ref a) (.tup ds)
 | lst {a:Addr} {xs:List V} {ds:List D} (h:SqL K F a xs) (t:IsL K F xs ds):Is K F (.ref a) (.lst ds)
 | dct {a:Addr} {kv:List (Key×V)} {kvs:List (Key×D)} (h:F a=some (.dK kv)) (t:IsK K F kv kvs):Is K F (.ref a) (.dct kvs)
 | raw (v:V):Is K F v (.raw v)
 | xcp {a C:Addr} (h:F a=some (qht a C)):Is K F (.ref a) (.xcp C)
 | ins {a C dx:Addr} {fv:List (Str×V)} {fs:List (Str×D)} (h:F a=some (.ins C dx fv)) (t:IsF K F fv fs):Is K F (.ref a) (.ins C fs)
 | at_ {a:Addr} {xs:List V} {ds:List D} (h:SqL K F a xs) (t:IsL K F xs ds):Is K F (.ref a) (.at_ a ds)
inductive IsL (K:Frag) (F:Hp):List V->List D->Prop
 | nil:IsL K F [] []
 | cons {v:V} {d:D} {vs:List V} {ds:List D} (h:Is K F v d) (t:IsL K F vs ds):IsL K F (v::vs) (d::ds)
inductive IsK (K:Frag) (F:Hp):List (Key×V)->List (Key×D)->Prop
 | nil:IsK K F [] []
 | cons {k:Key} {v:V} {d:D} {vs:List (Key×V)} {ds:List (Key×D)} (h:Is K F v d) (t:IsK K F vs ds):IsK K F ((k,v)::vs) ((k,d)::ds)
inductive IsF (K:Frag) (F:Hp):List (Str×V)->List (Str×D)->Prop
 | nil:IsF K F [] []
 | cons {k:Str} {v:V} {d:D} {vs:List (Str×V)} {ds:List (Str×D)} (h:Is K F v d) (t:IsF K F vs ds):IsF K F ((k,v)::vs) ((k,d)::ds)
end
theorem qO {K:Frag} {H H':Hp} {a:Addr} {xs:List V} (e:Same H H') (h:SqT K H a xs):SqT K H' a xs:=by
 rcases h with (h | ⟨o,h⟩) | h
 ·exact .inl (.inl (e _ _ h))
 ·exact .inl (.inr ⟨o,e _ _ h⟩)
 ·exact .inr h
mutual
theorem Is.mono {K:Frag} {F F':Hp} (e:Same F F'):∀ {v:V} {d:D},Is K F v d->Is K F' v d
 | _,_,.non=>.non
 | _,_,.bl b=>.bl b
 | _,_,.int i=>.int i
 | _,_,.str h=>.str h
 | _,_,.tup h t=>.tup (qO e h) (IsL.mono e t)
 | _,_,.lst h t=>.lst (e.seq h) (IsL.mono e t)
 | _,_,.dct h t=>.dct (e _ _ h) (IsK.mono e t)
 | _,_,.raw v=>.raw v
 | _,_,.xcp h=>.xcp (e _ _ h)
 | _,_,.ins h t=>.ins (e _ _ h) (IsF.mono e t)
 | _,_,.at_ h t=>.at_ (e.seq h) (IsL.mono e t)
theorem IsL.mono {K:Frag} {F F':Hp} (e:Same F F'):∀ {vs:List V} {ds:List D},IsL K F vs ds->IsL K F' vs ds
 | _,_,.nil=>.nil
 | _,_,.cons h t=>.cons (Is.mono e h) (IsL.mono e t)
theorem IsK.mono {K:Frag} {F F':Hp} (e:Same F F'):∀ {vs:List (Key×V)} {ds:List (Key×D)},IsK K F vs ds->IsK K F' vs ds
 | _,_,.nil=>.nil
 | _,_,.cons h t=>.cons (Is.mono e h) (IsK.mono e t)
theorem IsF.mono {K:Frag} {F F':Hp} (e:Same F F'):∀ {vs:List (Str×V)} {ds:List (Str×D)},IsF K F vs ds->IsF K F' vs ds
 | _,_,.nil=>.nil
 | _,_,.cons h t=>.cons (Is.mono e h) (IsF.mono e t)
end
theorem IsL.length {K:Frag} {F:Hp}:∀ {vs:List V} {ds:List D},IsL K F vs ds->vs.length=ds.length
 | _,_,.nil=>rfl
 | _,_,.cons _ t=>congrArg (·+1) (IsL.length t)
theorem IsL.get {K:Frag} {F:Hp}:∀ {vs:List V} {ds:List D} {i:Nat} {v:V},IsL K F vs ds->vs[i]?=some v->∃ d,ds[i]?=some d/\Is K F v d
 | _,_,_,_,.nil,e=>by simp at e
 | _,_,0,_,.cons h _,e=>by simp at e; subst e; exact ⟨_,rfl,h⟩
 | _,_,i+1,v,.cons _ t,e=>by
  obtain ⟨d,h1,h2⟩:=IsL.get (i:=i) (v:=v) t (by simpa using e)
  exact ⟨d,by simpa using h1,h2⟩
theorem IsL.getD {K:Frag} {F:Hp}:∀ {vs:List V} {ds:List D} {i:Nat} {d:D},IsL K F vs ds->ds[i]?=some d->∃ v,vs[i]?=some v/\Is K F v d
 | _,_,_,_,.nil,e=>by simp at e
 | _,_,0,_,.cons h _,e=>by simp at e; subst e; exact ⟨_,rfl,h⟩
 | _,_,i+1,v,.cons _ t,e=>by
  obtain ⟨d,h1,h2⟩:=IsL.getD (i:=i) (d:=v) t (by simpa using e)
  exact ⟨d,by simpa using h1,h2⟩
theorem IsL.append {K:Frag} {F:Hp}:∀ {vs ws:List V} {ds es:List D},IsL K F vs ds->IsL K F ws es->IsL K F (vs++ws) (ds++es)
 | _,_,_,_,.nil,s=>s
 | _,_,_,_,.cons h t,s=>.cons h (IsL.append t s)
theorem IsL.drop {K:Frag} {F:Hp}:∀ {vs:List V} {ds:List D} (n:Nat),IsL K F vs ds->IsL K F (vs.drop n) (ds.drop n)
 | _,_,0,r=>r
 | _,_,_+1,.nil=>.nil
 | _,_,n+1,.cons _ t=>IsL.drop n t
theorem IsL.take {K:Frag} {F:Hp}:∀ {vs:List V} {ds:List D} (n:Nat),IsL K F vs ds->IsL K F (vs.take n) (ds.take n)
 | _,_,0,_=>.nil
 | _,_,_+1,.nil=>.nil
 | _,_,n+1,.cons h t=>.cons h (IsL.take n t)
def OwnIs (K:Frag) (F H:Hp) (a:Addr):D->Prop
 | .lst ds=>∃ xs,H a=some (.lst xs)/\IsL K F xs ds
 | .dct kvs=>∃ kv,H a=some (.dK kv)/\IsK K F kv kvs
 | .ins C fs=>∃ dx fv,H a=some (.ins C dx fv)/\IsF K F fv fs
 | .at_ b ds=>b=a/\∃ xs,H a=some (.lst xs)/\IsL K F xs ds
 | _=>False
def TopIs (K:Frag) (F H:Hp) (v:V) (d:D):Prop:=Is K F v d\/∃ a,v=.ref a/\OwnIs K F H a d
inductive Mo where
 | sh | fr | any
def MoIs (K:Frag) (m:Mo) (H0 F H:Hp) (v:V) (d:D):Prop:=match m with
 | .sh=>Is K F v d
 | .fr=>∃ a,v=.ref a/\H0 a=none/\F a=none/\OwnIs K F H a d
 | .any=>TopIs K F H v d
theorem MoIs.top {K:Frag} {m:Mo} {H0 F H:Hp} {v:V} {d:D} (h:MoIs K m H0 F H v d):TopIs K F H v d:=by
 cases m with
 | sh=>exact .inl h
 | fr=>obtain ⟨a,e,_,_,o⟩:=h; exact .inr ⟨a,e,o⟩
 | any=>exact h
structure Chg (A:Addr->Prop) (F H F' H':Hp):Prop where
 keep:∀ b o,H b=some o->¬A b->H' b=some o
 stay:∀ b,H b≠none->H' b≠none
 grow:Same F F'
 new:∀ b,F' b≠none->F b≠none\/H b=none\/A b
theorem Chg.refl {A:Addr->Prop} {F H:Hp}:Chg A F H F H:=⟨fun _ _ e _=>e,fun _ h=>h,Same.refl _,fun _ h=>.inl h⟩
theorem Chg.trans {A A1:Addr->Prop} {F H F1 H1 F2 H2:Hp} (a:Chg A F H F1 H1) (b:Chg A1 F1 H1 F2 H2) (hA:∀ x,A1 x->A x\/H x=none):Chg A F H F2 H2 where
 keep:=fun x o e n=>b.keep x o (a.keep x o e n) fun z=>(hA x z).elim n fun q=>by rw [e] at q; cases q
 stay:=fun x h=>b.stay x (a.stay x h)
 grow:=a.grow.trans b.grow
 new:=fun x h=>by
  rcases b.new x h with q | q | q
  ·exact a.new x q
  ·refine .inr (.inl ?_)
   cases e:H x with
   | none=>rfl
   | some o=>exact absurd q (a.stay x (by rw [e]; simp))
  ·rcases hA x q with z | z
   ·exact .inr (.inr z)
   ·exact .inr (.inl z)
theorem Chg.trans' {A:Addr->Prop} {F H F1 H1 F2 H2:Hp} (a:Chg A F H F1 H1) (b:Chg A F1 H1 F2 H2):Chg A F H F2 H2:=a.trans b fun _ z=>.inl z
theorem Chg.mono {A A':Addr->Prop} {F H F1 H1:Hp} (a:Chg A F H F1 H1) (h:∀ x,A x->A' x):Chg A' F H F1 H1:=
 ⟨fun b o e n=>a.keep b o e fun z=>n (h b z),a.stay,a.grow,fun b z=>(a.new b z).imp id (Or.imp id (h b))⟩
abbrev No:Addr->Prop:=fun _=>False
theorem Chg.ofNo {A:Addr->Prop} {F H F1 H1:Hp} (a:Chg No F H F1 H1):Chg A F H F1 H1:=a.mono fun _ z=>z.elim
structure Rep (K:Frag) (own:List Nat) (F H:Hp) (σ:St) (ρ:Sl):Prop where
 sub:Same F H
 len:σ.length=ρ.length
 val:∀ i d,i∉own->ρ[i]?=some (some d)->∃ v,σ[i]?=some (some v)/\Is K F v d
 ow:∀ i d,i∈own->ρ[i]?=some (some d)->∃ a,σ[i]?=some (some (.ref a))/\F a=none/\OwnIs K F H a d
 opn:∀ i,i∈own->∃ d,ρ[i]?=some (some d)
 dis:∀ i j a,i∈own->j∈own->σ[i]?=some (some (V.ref a))->σ[j]?=some (some (V.ref a))->i=j
def OA (own:List Nat) (σ:St):Addr->Prop:=fun b=>∃ i∈own,σ[i]?=some (some (V.ref b))
theorem OwnIs.there {K:Frag} {F H:Hp} {a:Addr} {d:D} (h:OwnIs K F H a d):H a≠none:=by
 cases d with
 | lst ds=>obtain ⟨xs,e,_⟩:=h; rw [e]; simp
 | dct ds=>obtain ⟨xs,e,_⟩:=h; rw [e]; simp
 | ins C fs=>obtain ⟨dx,xs,e,_⟩:=h; rw [e]; simp
 | at_ b ds=>obtain ⟨_,xs,e,_⟩:=h; rw [e]; simp
 | _=>exact h.elim
theorem OwnIs.grow {K:Frag} {F H F' H':Hp} {a:Addr} {d:D} (h:OwnIs K F H a d) (g:Same F F') (k:∀ o,H a=some o->H' a=some o):OwnIs K F' H' a d:=by
 cases d with
 | lst ds=>obtain ⟨xs,e,t⟩:=h; exact ⟨xs,k _ e,t.mono g⟩
 | dct ds=>obtain ⟨xs,e,t⟩:=h; exact ⟨xs,k _ e,t.mono g⟩
 | ins C fs=>obtain ⟨dx,xs,e,t⟩:=h; exact ⟨dx,xs,k _ e,t.mono g⟩
 | at_ b ds=>obtain ⟨eb,xs,e,t⟩:=h; exact ⟨eb,xs,k _ e,t.mono g⟩
 | _=>exact h.elim
theorem Rep.OA_there {K:Frag} {own:List Nat} {F H:Hp} {σ:St} {ρ:Sl} (r:Rep K own F H σ ρ) {b:Addr} (h:OA own σ b):H b≠none/\F b=none:=by
 obtain ⟨i,hi,e⟩:=h
 obtain ⟨d,hd⟩:=r.opn i hi
 obtain ⟨a,e1,e2,o⟩:=r.ow i d hi hd
 rw [e] at e1
 cases e1
 exact ⟨o.there,e2⟩
theorem Rep.grow {K:Frag} {own:List Nat} {F H F' H':Hp} {σ:St} {ρ:Sl} (r:Rep K own F H σ ρ) (c:Chg No F H F' H') (s:Same F' H'):Rep K own F' H' σ ρ where
 sub:=s
 len:=r.len
 val:=fun i d hi e=>let ⟨v,h1,h2⟩:=r.val i d hi e; ⟨v,h1,h2.mono c.grow⟩
 ow:=fun i d hi e=>by
  obtain ⟨a,h1,h2,h3⟩:=r.ow i d hi e
  refine ⟨a,h1,?_,h3.grow c.grow fun o q=>c.keep a o q fun z=>z⟩
  cases q:F' a with
  | none=>rfl
  | some o=>
   rcases c.new a (by rw [q]; simp) with z | z | z
   ·exact absurd h2 z
   ·exact absurd z h3.there
   ·exact z.elim
 opn:=r.opn
 dis:=r.dis
theorem MoIs.grow {K:Frag} {A:Addr->Prop} {m:Mo} {H0 F H F' H':Hp} {v:V} {d:D} (h:MoIs K m H0 F H v d) (hm:m≠.any) (c:Chg A F H F' H') (hA:∀ x,A x->H0 x≠none):MoIs K m H0 F' H' v d:=by
 cases m with
 | sh=>exact Is.mono c.grow h
 | fr=>
  obtain ⟨a,e,h0,hF,o⟩:=h
  have nA:¬A a:=fun z=>hA a z h0
  refine ⟨a,e,h0,?_,o.grow c.grow fun o q=>c.keep a o q nA⟩
  cases q:F' a with
  | none=>rfl
  | some u=>
   rcases c.new a (by rw [q]; simp) with z | z | z
   ·exact absurd hF z
   ·exact absurd z o.there
   ·exact absurd z nA
 | any=>exact absurd rfl hm
def Zr (K:Frag) (io:List Nat) (F H:Hp) (σ:St) (ρ:Sl):Prop:=∀ i∈io,∃ d a,ρ[i]?=some (some d)/\σ[i]?=some (some (V.ref a))/\F a=none/\OwnIs K F H a d
theorem Rep.ioIs {K:Frag} {own io:List Nat} {F H:Hp} {σ:St} {ρ:Sl} (r:Rep K own F H σ ρ) (h:∀ i∈io,i∈own):Zr K io F H σ ρ:=fun i hi=>by
 obtain ⟨d,hd⟩:=r.opn i (h i hi)
 obtain ⟨a,h1,h2,h3⟩:=r.ow i d (h i hi) hd
 exact ⟨d,a,hd,h1,h2,h3⟩
structure Ct where
 K:Frag
 cv:Str->Value
 E:XK
 io:List Nat
 mr:Mo
 ol:List Nat
 ox:List Nat
 oxs:∀ i∈ox,i∈io
def Po (C:Ct) (own:List Nat) (m:Mo) (σ:St) (F H:Hp) (r:Out (D×Sl)) (Q:VK):Prop:=match r with
 | .ok (d,ρ')=>∀ v F' H',Rep C.K own F' H' σ ρ'->Chg (OA own σ) F H F' H'->MoIs C.K m H F' H' v d->Q v H'
 | .exc c ρ'=>∀ F' H',Same F' H'->Zr C.K C.ox F' H' σ ρ'->Chg (OA own σ) F H F' H'->C.E (C.cv c) none H'
 | .bad=>False
def tE (C:Ct) (own:List Nat) (m:Mo) (f:Sl->Out (D×Sl)):TE:=fun σ H Q=>∃ F ρ,Rep C.K own F H σ ρ/\Po C own m σ F H (f ρ) Q
theorem MoIs.back {K:Frag} {m:Mo} {A:Addr->Prop} {H0 F H F1 H1:Hp} {Fa Ha:Hp} {v:V} {d:D} (c:Chg A Fa H0 F1 H1) (h:MoIs K m H1 F H v d):MoIs K m H0 F H v d:=by
 cases m with
 | sh=>exact h
 | fr=>
  obtain ⟨a,e,h0,r⟩:=h
  refine ⟨a,e,?_,r⟩
  cases q:H0 a with
  | none=>rfl
  | some o=>exact absurd h0 (c.stay a (by rw [q]; simp))
 | any=>exact h
theorem Po.shift {C:Ct} {own:List Nat} {m:Mo} {σ:St} {F H F1 H1:Hp} {r:Out (D×Sl)} {Q:VK} (h:Po C own m σ F H r Q) (c:Chg (OA own σ) F H F1 H1):Po C own m σ F1 H1 r Q:=by
 cases r with
 | ok p=>exact fun v F' H' rp c' mo=>h v F' H' rp (c.trans' c') (MoIs.back (Ha:=H1) c mo)
 | exc x=>exact fun F' H' s io c'=>h F' H' s io (c.trans' c')
 | bad=>exact h.elim
theorem Po.bind {C:Ct} {own:List Nat} {m ma:Mo} {σ:St} {F H:Hp} {o:Out (D×Sl)} {k:D×Sl->Out (D×Sl)} {Q R:VK} (hp:Po C own m σ F H (o.bind k) Q)
  (h:∀ v F1 H1 d ρ1,Rep C.K own F1 H1 σ ρ1->Chg (OA own σ) F H F1 H1->MoIs C.K ma H F1 H1 v d->Po C own m σ F1 H1 (k (d,ρ1)) Q->R v H1):Po C own ma σ F H o R:=by
 cases o with
 | ok p=>
  obtain ⟨d,ρ1⟩:=p
  exact fun v F1 H1 rp c mo=>h v F1 H1 d ρ1 rp c mo (Po.shift (show Po C own m σ F H (k (d,ρ1)) Q from hp) c)
 | exc x=>exact hp
 | bad=>exact hp.elim
def PoV (C:Ct) (m:Mo) (F H:Hp) (r:Out D) (Q:VK):Prop:=match r with
 | .ok d=>∀ v F' H',Same F' H'->Chg No F H F' H'->MoIs C.K m H F' H' v d->Q v H'
 | _=>False
def OpD (X:Cx) (C:Ct) (m:Mo) (f:Value->Value->Sem Value) (g:D->D->Out D):Prop:=
 OpR X f (fun x y H Q=>∃ F dx dy,Same F H/\TopIs C.K F H x dx/\TopIs C.K F H y dy/\PoV C m F H (g dx dy) Q)
def UnD (X:Cx) (C:Ct) (m:Mo) (f:Value->Sem Value) (g:D->Out D):Prop:=
 UnR X f (fun x H Q=>∃ F dx,Same F H/\TopIs C.K F H x dx/\PoV C m F H (g dx) Q)
noncomputable def Out.plain {α:Type}:Out α->Out α
 | .ok a=>.ok a
 | _=>.bad
theorem PoV.of {C:Ct} {own:List Nat} {m:Mo} {σ:St} {F H:Hp} {o:Out D} {ρ:Sl} {Q:VK} (rp:Rep C.K own F H σ ρ) (h:Po C own m σ F H (o.plain.bind fun d=>.ok (d,ρ)) Q):PoV C m F H o Q:=by
 cases o with
 | ok d=>exact fun v F' H' s c mo=>h v F' H' (rp.grow c s) c.ofNo mo
 | exc c=>exact h.elim
 | bad=>exact h.elim
noncomputable def d2 (g:D->D->Out D) (fa fb:Sl->Out (D×Sl)):Sl->Out (D×Sl):=fun ρ=>(fa ρ).bind fun p=>(fb p.2).bind fun q=>(g p.1 q.1).plain.bind fun d=>.ok (d,q.2)
noncomputable def d1 (g:D->Out D) (fa:Sl->Out (D×Sl)):Sl->Out (D×Sl):=fun ρ=>(fa ρ).bind fun p=>(g p.1).plain.bind fun d=>.ok (d,p.2)
section
variable {X:Cx} {C:Ct} {own:List Nat} {a b:Expr} {fa fb:Sl->Out (D×Sl)} {m ma mb:Mo} {pos:Pos}
theorem JJ {g:D->D->Out D} {σ:St} {H:Hp} {Q:VK} (hma:ma≠.any) (h:tE C own m (d2 g fa fb) σ H Q) :
  tE C own ma fa σ H fun x H1=>tE C own mb fb σ H1 fun y H2=>∃ F dx dy,Same F H2/\TopIs C.K F H2 x dx/\TopIs C.K F H2 y dy/\PoV C m F H2 (g dx dy) Q:=by
 obtain ⟨F,ρ,rp,h⟩:=h
 refine ⟨F,ρ,rp,Po.bind h fun v F1 H1 d ρ1 rp1 c1 mo1 h1=>⟨F1,ρ1,rp1,Po.bind h1 fun w F2 H2 e ρ2 rp2 c2 mo2 h2=>?_⟩⟩
 exact ⟨F2,d,e,rp2.sub,(mo1.grow hma c2 fun x z=>(rp.OA_there z).1).top,mo2.top,PoV.of rp2 h2⟩
theorem ZM {g:D->Out D} {σ:St} {H:Hp} {Q:VK} (h:tE C own m (d1 g fa) σ H Q) :
  tE C own ma fa σ H fun x H1=>∃ F dx,Same F H1/\TopIs C.K F H1 x dx/\PoV C m F H1 (g dx) Q:=by
 obtain ⟨F,ρ,rp,h⟩:=h
 refine ⟨F,ρ,rp,Po.bind h fun v F1 H1 d ρ1 rp1 c1 mo1 h1=>?_⟩
 exact ⟨F1,d,rp1.sub,mo1.top,PoV.of rp1 h1⟩
theorem jJ {e:Expr} {t t':TE} (h:PE X e t) (i:∀ σ H Q,t' σ H Q->t σ H Q):PE X e t':=⟨fun pins s σ H Q I hw=>h pins s σ H Q I (i σ H Q hw)⟩
theorem ZN {e:Expr} {t t':TT} (h:PT X e t) (i:∀ σ H Q,t' σ H Q->t σ H Q):PT X e t':=⟨fun pins s σ H Q I hw=>h pins s σ H Q I (i σ H Q hw)⟩
theorem jb {op:Operator} {g:D->D->Out D} (ho:OpD X C m (binaryOp op) g) (ha:PE X a (tE C own ma fa)) (hb:PE X b (tE C own mb fb)) (hma:ma≠.any:=by decide):PE X (.BinOp a op b pos) (tE C own m (d2 g fa fb)):=
 jJ (qfB ho ha hb) fun _ _ _ h=>JJ hma h
theorem kQ {op:CmpOp} {g:D->D->Out D} (ho:OpD X C m (compareOp op) g) (ha:PE X a (tE C own ma fa)) (hb:PE X b (tE C own mb fb)) (hma:ma≠.any:=by decide)
  (hk:behindInMarks op b=false:=by first | exact qah _ | with_unfolding_all rfl):PE X (.Compare a [op] [b] pos) (tE C own m (d2 g fa fb)):=
 jJ (qa6 ho ha hb hk) fun _ _ _ h=>JJ hma h
theorem ZO {op:UnaryOp} {g:D->Out D} (ho:UnD X C m (unaryOp op) g) (ha:PE X a (tE C own ma fa)):PE X (.UnaryOp op a pos) (tE C own m (d1 g fa)):=
 jJ (qfC ho ha) fun _ _ _ h=>ZM h
end
instance:DecidableEq Mo:=fun a b=>by cases a <;> cases b <;> first | exact isTrue rfl | exact isFalse (by intro h; cases h)
theorem ZP {K:Frag} {own:List Nat} {H0 F H:Hp} {σ:St} {ρ:Sl} {v:V} {d:D} (rp:Rep K own F H σ ρ) (hA:∀ b,OA own σ b->H0 b≠none) (h:MoIs K .fr H0 F H v d) :
  ∃ F',Rep K own F' H σ ρ/\Same F F'/\Is K F' v d/\∀ b,F' b≠none->F b≠none\/H0 b=none:=by
 obtain ⟨a,rfl,h0,hF,o⟩:=h
 obtain ⟨u,hu⟩:∃ u,H a=some u:=by
  cases q:H a with
  | none=>exact absurd q o.there
  | some u=>exact ⟨u,rfl⟩
 have gr:Same F (upd F a u):=fun b w e=>by rw [qA (qF e hF)]; exact e
 have sb:Same (upd F a u) H:=fun b w e=>by
  by_cases q:b=a
  ·subst q; rw [qp] at e; cases e; exact hu
  ·rw [qA q] at e; exact rp.sub b w e
 refine ⟨upd F a u,⟨sb,rp.len,fun i d hi e=>?_,fun i d hi e=>?_,rp.opn,rp.dis⟩,gr,?_,fun b hb=>?_⟩
 ·obtain ⟨v,h1,h2⟩:=rp.val i d hi e
  exact ⟨v,h1,h2.mono gr⟩
 ·obtain ⟨c,h1,h2,h3⟩:=rp.ow i d hi e
  refine ⟨c,h1,?_,h3.grow gr fun _ q=>q⟩
  have nc:c≠a:=fun q=>by subst q; exact hA c ⟨i,hi,h1⟩ h0
  rw [qA nc]; exact h2
 ·cases d with
  | lst ds=>obtain ⟨xs,e,t⟩:=o; rw [hu] at e; cases e; exact .lst (.inl (.inl qp)) (t.mono gr)
  | dct ds=>obtain ⟨xs,e,t⟩:=o; rw [hu] at e; cases e; exact .dct qp (t.mono gr)
  | ins C fs=>obtain ⟨dx,xs,e,t⟩:=o; rw [hu] at e; cases e; exact .ins qp (t.mono gr)
  | at_ b ds=>obtain ⟨eb,xs,e,t⟩:=o; rw [hu] at e; cases e; subst eb; exact .at_ (.inl (.inl qp)) (t.mono gr)
  | _=>exact o.elim
 ·by_cases q:b=a
  ·exact .inr (by rw [q]; exact h0)
  ·rw [qA q] at hb; exact .inl hb
theorem Po.toSh {C:Ct} {own:List Nat} {m:Mo} {σ:St} {F H:Hp} {ρ0:Sl} {r:Out (D×Sl)} {Q:VK} (rp:Rep C.K own F H σ ρ0) (hm:m≠.any) (h:Po C own .sh σ F H r Q):Po C own m σ F H r Q:=by
 cases r with
 | ok p=>
  intro v F' H' rp' c mo
  cases m with
  | sh=>exact h v F' H' rp' c mo
  | fr=>
   obtain ⟨F2,rp2,gr,is,nw⟩:=ZP rp' (fun b z=>(rp.OA_there z).1) mo
   refine h v F2 H' rp2 ⟨c.keep,c.stay,c.grow.trans gr,fun b hb=>?_⟩ is
   rcases nw b hb with z | z
   ·exact c.new b z
   ·exact .inr (.inl z)
  | any=>exact absurd rfl hm
 | exc x=>exact h
 | bad=>exact h.elim
section
variable {X:Cx} {C:Ct} {own:List Nat} {a b e:Expr} {f fa fb:Sl->Out (D×Sl)} {m ma mb:Mo} {pos:Pos}
theorem yk (h:PE X e (tE C own m f)) (hm:m≠.any):PE X e (tE C own .sh f):=jJ h fun _ _ _ ⟨F,ρ,rp,p⟩=>⟨F,ρ,rp,p.toSh rp hm⟩
noncomputable def qd (i:Nat):Sl->Out (D×Sl):=fun ρ=>match ρ[i]? with
 | some (some d)=>.ok (d,ρ)
 | _=>.bad
noncomputable def dC (d:D):Sl->Out (D×Sl):=fun ρ=>.ok (d,ρ)
theorem qdp {i:Nat} {x:Str} (hN:X.N[i]?=some x) (hv:Vis X.env.scope x) (ho:i∉own) (hd:(x == ("__debug__":Str))=false:=by decide) (hcd:(x == ("__classdict__":Str))=false:=by decide):PE X (.Name x pos) (tE C own .sh (qd i)):=by
 refine jJ (uI hN hv hd hcd) fun σ H Q ⟨F,ρ,rp,h⟩=>?_
 unfold qd at h
 cases e:ρ[i]? with
 | none=>rw [e] at h; exact h.elim
 | some o=>
  cases o with
  | none=>rw [e] at h; exact h.elim
  | some d=>
   rw [e] at h
   obtain ⟨v,h1,h2⟩:=rp.val i d ho e
   exact ⟨v,h1,h v F H rp .refl h2⟩
theorem vT {i:Nat} {x:Str} (hN:X.N[i]?=some x) (hv:Vis X.env.scope x) (ho:i∈own) (hd:(x == ("__debug__":Str))=false:=by decide) (hcd:(x == ("__classdict__":Str))=false:=by decide):PE X (.Name x pos) (tE C own .any (qd i)):=by
 refine jJ (uI hN hv hd hcd) fun σ H Q ⟨F,ρ,rp,h⟩=>?_
 unfold qd at h
 cases e:ρ[i]? with
 | none=>rw [e] at h; exact h.elim
 | some o=>
  cases o with
  | none=>rw [e] at h; exact h.elim
  | some d=>
   rw [e] at h
   obtain ⟨a,h1,h2,h3⟩:=rp.ow i d ho e
   exact ⟨_,h1,h _ F H rp .refl (.inr ⟨a,rfl,h3⟩)⟩
theorem qdq {v:V} {d:D} (h:PE X e (tC v)) (i:∀ F,Is C.K F v d):PE X e (tE C own .sh (dC d)):=jJ h fun σ H Q ⟨F,ρ,rp,h⟩=>h v F H rp .refl (i F)
theorem qr {i j pos}:PE X (.Constant (.int i) j pos) (tE C own .sh (dC (.int i))):=qdq qae fun _=>.int i
theorem wz {i j pos}:PE X (.Constant (.bool i) j pos) (tE C own .sh (dC (.bl i))):=qdq qfr fun _=>.bl i
theorem yl {j pos}:PE X (.Constant .none j pos) (tE C own .sh (dC .non)):=qdq qcW fun _=>.non
theorem wF {x j pos} (h:Str.length x<=sizeLine:=by decide):PE X (.Constant (.str x) j pos) (tE C own .sh (dC (.str x))):=qdq qaf fun _=>.str h
theorem qbm {x:Str} {v:V} {d:D} {u:Value} (hg:Gl X x) (hm:X.mg x=some u) (r:RelV v u) (i:∀ F,Is C.K F v d) (hd:(x == ("__debug__":Str))=false:=by decide):PE X (.Name x pos) (tE C own .sh (dC d)):=qdq (qaX hg hm r hd) i
noncomputable def xm (g:Int->Int->Out D):D->D->Out D
 | .int i,.int j=>g i j
 | _,_=>.bad
theorem TopIs.int {K:Frag} {F H:Hp} {v:V} {i:Int} (h:TopIs K F H v (.int i)):v=.int i:=by
 rcases h with h | ⟨a,_,h⟩
 ·cases h; rfl
 ·exact h.elim
theorem TopIs.str {K:Frag} {F H:Hp} {v:V} {x:Str} (h:TopIs K F H v (.str x)):v=.str x/\x.length<=sizeLine:=by
 rcases h with h | ⟨a,_,h⟩
 ·cases h; exact ⟨rfl,by assumption⟩
 ·exact h.elim
theorem TopIs.bl {K:Frag} {F H:Hp} {v:V} {x:Bool} (h:TopIs K F H v (.bl x)):v=.bl x:=by
 rcases h with h | ⟨a,_,h⟩
 ·cases h; rfl
 ·exact h.elim
theorem TopIs.non {K:Frag} {F H:Hp} {v:V} (h:TopIs K F H v .non):v=.non:=by
 rcases h with h | ⟨a,_,h⟩
 ·cases h; rfl
 ·exact h.elim
theorem TopIs.raw {K:Frag} {F H:Hp} {v u:V} (h:TopIs K F H v (.raw u)):v=u:=by
 rcases h with h | ⟨a,_,h⟩
 ·cases h; rfl
 ·exact h.elim
theorem TopIs.lst {K:Frag} {F H:Hp} {v:V} {ds:List D} (s:Same F H) (h:TopIs K F H v (.lst ds)):∃ a xs,v=.ref a/\SqL K H a xs/\IsL K F xs ds:=by
 rcases h with h | ⟨a,e,h⟩
 ·cases h with
  | lst h t=>exact ⟨_,_,rfl,s.seq h,t⟩
 ·obtain ⟨xs,e2,t⟩:=h
  exact ⟨a,xs,e,.inl (.inl e2),t⟩
theorem TopIs.tup {K:Frag} {F H:Hp} {v:V} {ds:List D} (s:Same F H) (h:TopIs K F H v (.tup ds)):∃ a xs,v=.ref a/\SqT K H a xs/\IsL K F xs ds:=by
 rcases h with h | ⟨a,e,h⟩
 ·cases h with
  | tup h t=>exact ⟨_,_,rfl,qO s h,t⟩
 ·exact h.elim
theorem TopIs.dct {K:Frag} {F H:Hp} {v:V} {ds:List (Key×D)} (s:Same F H) (h:TopIs K F H v (.dct ds)):∃ a kv,v=.ref a/\H a=some (.dK kv)/\IsK K F kv ds:=by
 rcases h with h | ⟨a,e,h⟩
 ·cases h with
  | dct h t=>exact ⟨_,_,rfl,s _ _ h,t⟩
 ·obtain ⟨xs,e2,t⟩:=h
  exact ⟨a,xs,e,e2,t⟩
theorem qai {fn:Value->Value->Sem Value} {P:Int->Int->Prop} [∀ i j,Decidable (P i j)] {g:Int->Int->V} {gd:Int->Int->D} (ho:OpR X fn (rI P g)) (hg:∀ F i j,Is C.K F (g i j) (gd i j)) :
  OpD X C .sh fn (xm fun i j=>if P i j then .ok (gd i j) else .bad):=by
 intro pins s σ H x y v u Q I rx ry h
 obtain ⟨F,dx,dy,sb,tx,ty,po⟩:=h
 cases dx <;> try exact po.elim
 cases dy <;> try exact po.elim
 rename_i i j
 have po:PoV C .sh F H (if P i j then .ok (gd i j) else .bad) Q:=po
 obtain rfl:=tx.int
 obtain rfl:=ty.int
 by_cases q:P i j
 ·rw [if_pos q] at po
  exact ho pins s σ H _ _ v u Q I rx ry ⟨i,j,rfl,rfl,q,po (g i j) F H sb .refl (hg F i j)⟩
 ·rw [if_neg q] at po; exact po.elim
theorem Vc {fn:Value->Value->Sem Value} {g:Int->Int->V} {gd:Int->Int->D} (ho:OpR X fn (rI0 g)) (hg:∀ F i j,Is C.K F (g i j) (gd i j)):OpD X C .sh fn (xm fun i j=>.ok (gd i j)):=by
 intro pins s σ H x y v u Q I rx ry h
 obtain ⟨F,dx,dy,sb,tx,ty,po⟩:=h
 cases dx <;> try exact po.elim
 cases dy <;> try exact po.elim
 rename_i i j
 obtain rfl:=tx.int
 obtain rfl:=ty.int
 exact ho pins s σ H _ _ v u Q I rx ry ⟨i,j,rfl,rfl,po (g i j) F H sb .refl (hg F i j)⟩
noncomputable def Jr:D->D->Out D:=xm fun i j=>.ok (.int (i - j))
theorem xn:OpD X C .sh (binaryOp .Sub) Jr:=Vc qc8 fun _ _ _=>.int _
instance:∀ i j,Decidable (CMul i j):=fun i j=>inferInstanceAs (Decidable (_\/_))
instance:∀ i j,Decidable (qhn i j):=fun i j=>inferInstanceAs (Decidable (_/\_))
noncomputable def VY:D->D->Out D:=xm fun i j=>if CMul i j then .ok (.int (i * j)) else .bad
theorem zu:OpD X C .sh (binaryOp .Mult) VY:=qai qc9 fun _ _ _=>.int _
noncomputable def gB:D->D->Out D:=xm fun i j=>if 0 < j then .ok (.int (i % j)) else .bad
theorem uJ:OpD X C .sh (binaryOp .Mod) gB:=qai qda fun _ _ _=>.int _
noncomputable def uS (x y:Str):Bool:=decide (x.cps.toList < y.cps.toList)
noncomputable def ltD:D->D->Out D
 | .int i,.int j=>.ok (.bl (decide (i < j)))
 | .str x,.str y=>.ok (.bl (uS x y))
 | _,_=>.bad
theorem qbn:OpD X C .sh (compareOp .Lt) ltD:=by
 intro pins s σ H x y v u Q I rx ry h
 obtain ⟨F,dx,dy,sb,tx,ty,po⟩:=h
 cases dx <;> try exact po.elim
 ·cases dy <;> try exact po.elim
  obtain rfl:=tx.int
  obtain rfl:=ty.int
  exact qfD pins s σ H _ _ v u Q I rx ry ⟨_,_,rfl,rfl,po _ F H sb .refl (.bl _)⟩
 ·cases dy <;> try exact po.elim
  obtain ⟨rfl,_⟩:=tx.str
  obtain ⟨rfl,_⟩:=ty.str
  exact UQ pins s σ H _ _ v u Q I rx ry ⟨_,_,rfl,rfl,po _ F H sb .refl (.bl _)⟩
end
noncomputable def eqS:D->D->Option Bool
 | .non,.non=>some true
 | .non,.bl _=>some false
 | .non,.int _=>some false
 | .non,.str _=>some false
 | .non,.tup _=>some false
 | .non,.lst _=>some false
 | .bl _,.non=>some false
 | .bl a,.bl b=>some (a == b)
 | .bl a,.int b=>some ((if a then 1 else 0) == b)
 | .bl _,.str _=>some false
 | .bl _,.tup _=>some false
 | .bl _,.lst _=>some false
 | .int _,.non=>some false
 | .int a,.bl b=>some (a == (if b then 1 else 0))
 | .int a,.int b=>some (a == b)
 | .int _,.str _=>some false
 | .int _,.tup _=>some false
 | .int _,.lst _=>some false
 | .str _,.non=>some false
 | .str _,.bl _=>some false
 | .str _,.int _=>some false
 | .str a,.str b=>some (a == b)
 | .str _,.tup _=>some false
 | .str _,.lst _=>some false
 | .tup _,.non=>some false
 | .tup _,.bl _=>some false
 | .tup _,.int _=>some false
 | .tup _,.str _=>some false
 | .tup _,.lst _=>some false
 | .lst _,.non=>some false
 | .lst _,.bl _=>some false
 | .lst _,.int _=>some false
 | .lst _,.str _=>some false
 | .lst _,.tup _=>some false
 | _,_=>none
noncomputable def wG (f:D->D->Option Bool):List D->List D->Option Bool
 | x::xs,y::ys=>(f x y).bind fun a=>(wG f xs ys).bind fun b=>some (a&&b)
 | _,_=>some true
noncomputable def eqN:Nat->D->D->Option Bool
 | n+1,.tup xs,.tup ys=>(wG (eqN n) xs ys).map fun b=>b&&xs.length == ys.length
 | n+1,.lst xs,.lst ys=>if xs.length=ys.length then wG (eqN n) xs ys else some false
 | _,a,b=>eqS a b
theorem VZ {n:Nat} {a b:D} (h1:∀ xs ys,a=.tup xs->b≠.tup ys) (h2:∀ xs ys,a=.lst xs->b≠.lst ys):eqN n a b=eqS a b:=by
 cases n with
 | zero=>rfl
 | succ n=>
  cases a with
  | tup xs=>cases b with
   | tup ys=>exact absurd rfl (h1 xs ys rfl)
   | _=>rfl
  | lst xs=>cases b with
   | lst ys=>exact absurd rfl (h2 xs ys rfl)
   | _=>rfl
  | _=>rfl
noncomputable def itE (f:D->D->Option Bool) (xs ys:List D) (j:Nat):Bool:=((xs[j]?).bind fun x=>(ys[j]?).bind fun y=>f x y).getD false
theorem vJ {f:D->D->Option Bool}:∀ {xs ys:List D} {b:Bool},wG f xs ys=some b->b=(List.range (min xs.length ys.length)).all (itE f xs ys)
 | [],ys,b,h=>by simp [wG] at h ⊢; exact h
 | x::xs,[],b,h=>by simp [wG] at h ⊢; exact h
 | x::xs,y::ys,b,h=>by
  unfold wG at h
  cases e:f x y with
  | none=>rw [e] at h; simp at h
  | some a=>
   cases e2:wG f xs ys with
   | none=>rw [e,e2] at h; simp at h
   | some c=>
    rw [e,e2] at h
    have h:(a&&c)=b:=by simpa using h
    have ih:=vJ e2
    have hm:min (x::xs).length (y::ys).length=min xs.length ys.length+1:=by simp only [List.length_cons]; omega
    rw [hm,List.range_succ_eq_map,List.all_cons,List.all_map]
    have e0:itE f (x::xs) (y::ys) 0=a:=by simp [itE,e]
    have e1:(itE f (x::xs) (y::ys)) ∘ Nat.succ=itE f xs ys:=by
     funext j
     simp [itE]
    rw [e0,e1,<-ih]
    exact h.symm
theorem Yl {f:D->D->Option Bool}:∀ {xs ys:List D} {b:Bool},wG f xs ys=some b->∀ (j:Nat) (x y:D),xs[j]?=some x->ys[j]?=some y->f x y=some (itE f xs ys j)
 | [],ys,b,_,j,x,y,hx,_=>by simp at hx
 | x::xs,[],b,_,j,_,y,_,hy=>by simp at hy
 | x::xs,y::ys,b,h,0,x',y',hx,hy=>by
  simp at hx hy
  subst hx hy
  unfold wG at h
  cases e:f x y with
  | none=>rw [e] at h; simp at h
  | some a=>simp [itE,e]
 | x::xs,y::ys,b,h,j+1,x',y',hx,hy=>by
  unfold wG at h
  cases e:f x y with
  | none=>rw [e] at h; simp at h
  | some a=>
   cases e2:wG f xs ys with
   | none=>rw [e,e2] at h; simp at h
   | some c=>
    have q:=Yl e2 j x' y' (by simpa using hx) (by simpa using hy)
    rw [q]
    simp [itE]
section
variable {X:Cx} {pins:List (Addr×Obj)} {σ:St} {F H:Hp} {s:Shared}
theorem Ym (I:Inv X pins σ H s) (sb:Same F H):∀ (n:Nat) {v:V} {d e:D} {b:Bool},Is X.K F v d->Is X.K F v e->eqN n d e=some b->b=true:=by
 intro n
 induction n with
 | zero=>
  intro v d e b h1 h2 h
  cases h1 <;> cases h2 <;> simp [eqN,eqS] at h <;> try exact h.symm
  all_goals first
   | exact h
   | (rename_i p1 _ _ _ p2 _; obtain ⟨_,_,q1,_⟩:=I.list (sb.seq (by assumption)); obtain ⟨_,_,q2,_⟩:=I.tuple (qO sb (by assumption)); exact absurd rfl (PySem.SeqAt.ne_of_list_tuple q1.isList q2))
   | (rename_i p1 _ _ _ p2 _; obtain ⟨_,_,q1,_⟩:=I.list (sb.seq (by assumption)); obtain ⟨_,_,q2,_⟩:=I.tuple (qO sb (by assumption)); exact absurd rfl (PySem.SeqAt.ne_of_list_tuple q1.isList q2).symm)
   | skip
 | succ n ih=>
  have lists:∀ {xs:List V} {ds es:List D} {b:Bool},IsL X.K F xs ds->IsL X.K F xs es->wG (eqN n) ds es=some b->b=true:=by
   intro xs
   induction xs with
   | nil=>intro ds es b h1 h2 h; cases h1; cases h2; simp [wG] at h; exact h
   | cons x xs ihx=>
    intro ds es b h1 h2 h
    cases h1 with
    | cons a1 t1=>
     cases h2 with
     | cons a2 t2=>
      rename_i d ds e es
      unfold wG at h
      cases q:eqN n d e with
      | none=>rw [q] at h; simp at h
      | some a=>
       cases q2:wG (eqN n) ds es with
       | none=>rw [q,q2] at h; simp at h
       | some c=>
        rw [q,q2] at h
        rw [ih a1 a2 q,ihx t1 t2 q2] at h
        simpa using h.symm
  intro v d e b h1 h2 h
  cases h1 with
  | tup p1 t1=>
   cases h2 with
   | tup p2 t2=>
    have e:=I.tuple_inj (qO sb p1) (qO sb p2)
    subst e
    simp only [eqN] at h
    rename_i xs ds es
    cases q:wG (eqN n) ds es with
    | none=>rw [q] at h; simp at h
    | some c=>
     rw [q] at h
     have hl:ds.length=es.length:=by rw [<-t1.length,<-t2.length]
     have hb:(ds.length == es.length)=true:=by simp [hl]
     rw [lists t1 t2 q] at h
     simpa [hb] using h.symm
   | lst p2 t2=>
    obtain ⟨_,_,q1,_⟩:=I.list (sb.seq p2)
    obtain ⟨_,_,q2,_⟩:=I.tuple (qO sb p1)
    exact absurd rfl (PySem.SeqAt.ne_of_list_tuple q1.isList q2)
   | _=>simp [eqN,eqS] at h
  | lst p1 t1=>
   cases h2 with
   | lst p2 t2=>
    have e:=I.list_inj (sb.seq p1) (sb.seq p2)
    subst e
    simp only [eqN] at h
    have hl:=t1.length.symm.trans t2.length
    rw [if_pos hl] at h
    exact lists t1 t2 h
   | tup p2 t2=>
    obtain ⟨_,_,q1,_⟩:=I.list (sb.seq p1)
    obtain ⟨_,_,q2,_⟩:=I.tuple (qO sb p2)
    exact absurd rfl (PySem.SeqAt.ne_of_list_tuple q1.isList q2)
   | _=>simp [eqN,eqS] at h
  | _=>cases h2 <;> simp [eqN,eqS] at h <;> first | exact h.symm | exact h | skip
end
open PySem.SeqAt
section
variable {X:Cx} {pins:List (Addr×Obj)} {σ:St} {F H:Hp} {s:Shared}
theorem Vals.getE {xs:List V} {us:List Value} (r:Vals xs us) {j:Nat} (h:j < us.length):∃ x,xs[j]?=some x/\RelV x us[j]:=by
 have hl:=r.length
 have hj:j < xs.length:=by omega
 obtain ⟨u,e1,e2⟩:=Vals.get (i:=j) (x:=xs[j]) r (by simp [hj])
 refine ⟨xs[j],by simp [hj],?_⟩
 rw [List.getElem?_eq_getElem h] at e1
 cases e1
 exact e2
theorem ur {A:Around} {n:Nat} {xs ys:List V} {ds es:List D} {us ws:List Value} {b:Bool} (ih:∀ {v w:V} {d e:D} {u t:Value} {b:Bool},Is X.K F v d->Is X.K F w e->RelV v u->RelV w t->eqN n d e=some b->EqAt A s u t b)
  (r1:Vals xs us) (r2:Vals ys ws) (i1:IsL X.K F xs ds) (i2:IsL X.K F ys es) (h:wG (eqN n) ds es=some b) :
  ∀ j (h1:j < us.toArray.size) (h2:j < ws.toArray.size),EqAt A s us.toArray[j] ws.toArray[j] (itE (eqN n) ds es j):=by
 intro j h1 h2
 have h1':j < us.length:=by simpa using h1
 have h2':j < ws.length:=by simpa using h2
 obtain ⟨x,ex,rx⟩:=Vals.getE r1 h1'
 obtain ⟨y,ey,ry⟩:=Vals.getE r2 h2'
 obtain ⟨d,ed,idd⟩:=i1.get ex
 obtain ⟨e,ee,ie⟩:=i2.get ey
 have q:=Yl h j d e ed ee
 simpa using ih idd ie rx ry q
theorem Wb {A:Around} {n:Nat} {a c:Addr} {xs ys:List V} {ds es:List D} {b:Bool} (I:Inv X pins σ H s) (ih:∀ {v w:V} {d e:D} {u t:Value} {b:Bool},Is X.K F v d->Is X.K F w e->RelV v u->RelV w t->eqN n d e=some b->EqAt A.in1 s u t b)
  (p1:SqT X.K H a xs) (p2:SqT X.K H c ys) (i1:IsL X.K F xs ds) (i2:IsL X.K F ys es) (h:eqN (n+1) (.tup ds) (.tup es)=some b) (hu:A.units < cLine):RcAt A s (.ref a) (.ref c) b:=by
 obtain ⟨us,r1,t1,_⟩:=I.tuple p1
 obtain ⟨ws,r2,t2,_⟩:=I.tuple p2
 simp only [eqN] at h
 cases q:wG (eqN n) ds es with
 | none=>rw [q] at h; simp at h
 | some k=>
  rw [q] at h
  have l1:us.toArray.size=ds.length:=by rw [List.size_toArray,<-r1.length,i1.length]
  have l2:ws.toArray.size=es.length:=by rw [List.size_toArray,<-r2.length,i2.length]
  have z:=RcAt.tuples (A:=A) t1 t2 hu (ur (A:=A.in1) ih r1 r2 i1 i2 q)
  rw [l1,l2,<-vJ q] at z
  have e:b=(k&&ds.length == es.length):=by simpa using h.symm
  rw [e]; exact z
theorem Wc {A:Around} {n:Nat} {a c:Addr} {xs ys:List V} {ds es:List D} {b:Bool} (I:Inv X pins σ H s) (ih:∀ {v w:V} {d e:D} {u t:Value} {b:Bool},Is X.K F v d->Is X.K F w e->RelV v u->RelV w t->eqN n d e=some b->EqAt A.in1 s u t b)
  (p1:SqL X.K H a xs) (p2:SqL X.K H c ys) (i1:IsL X.K F xs ds) (i2:IsL X.K F ys es) (h:eqN (n+1) (.lst ds) (.lst es)=some b) (hu:A.units < cLine):RcAt A s (.ref a) (.ref c) b:=by
 obtain ⟨us,r1,t1,_⟩:=I.list p1
 obtain ⟨ws,r2,t2,_⟩:=I.list p2
 have l1:us.toArray.size=ds.length:=by rw [List.size_toArray,<-r1.length,i1.length]
 have l2:ws.toArray.size=es.length:=by rw [List.size_toArray,<-r2.length,i2.length]
 simp only [eqN] at h
 by_cases hl:ds.length=es.length
 ·rw [if_pos hl] at h
  have z:=RcAt.lists (A:=A) t1.isList t2.isList (by omega) hu (ur (A:=A.in1) ih r1 r2 i1 i2 h)
  have e:=vJ h
  rw [l1] at z
  rw [e,show min ds.length es.length=ds.length by omega]
  exact z
 ·rw [if_neg hl] at h
  cases h
  exact RcAt.lists_lengths t1.isList t2.isList (bne_iff_ne.mpr (by rw [l1,l2]; exact hl)) hu
def Kd (s:Shared):D->Value->Prop
 | .non,u=>u=.none
 | .bl b,u=>u=.bool b
 | .int i,u=>∃ t,u=.int i t
 | .str x,u=>∃ t,u=.str x t
 | .tup _,u=>∃ a its,u=.ref a/\s.heap.IsTuple a its
 | .lst _,u=>∃ a its,u=.ref a/\s.heap.IsList a its
 | _,_=>True
theorem Uf (I:Inv X pins σ H s) (sb:Same F H) {v:V} {d:D} {u:Value} (t:TopIs X.K F H v d) (r:RelV v u):Kd s d u:=by
 cases d with
 | non=>obtain rfl:=t.non; exact r
 | bl=>obtain rfl:=t.bl; exact r
 | int=>obtain rfl:=t.int; exact r
 | str=>obtain ⟨rfl,_⟩:=t.str; exact r
 | tup=>obtain ⟨a,_,rfl,p,_⟩:=t.tup sb; obtain ⟨_,_,q,_⟩:=I.tuple p; exact ⟨a,_,r,q⟩
 | lst=>obtain ⟨a,_,rfl,p,_⟩:=t.lst sb; obtain ⟨_,_,q,_⟩:=I.list p; exact ⟨a,_,r,q.isList⟩
 | _=>trivial
theorem qdr {A:Around} {d e:D} {u t:Value} {b:Bool} (hu:A.units < cLine) (k1:Kd s d u) (k2:Kd s e t) (h:eqS d e=some b):EqAt A s u t b:=by
 cases d <;> cases e <;> try (cases h; done)
 all_goals
  cases h
  first | obtain ⟨_,_,rfl,q1⟩:=k1 | obtain ⟨_,rfl⟩:=k1 | cases k1
  first | obtain ⟨_,_,rfl,q2⟩:=k2 | obtain ⟨_,rfl⟩:=k2 | cases k2
  with_reducible first | exact EqAt.same _ | exact EqAt.none_bool _ | exact EqAt.none_int _ _ | exact EqAt.none_str _ _ | exact EqAt.bool_none _ | exact EqAt.bool_bool _ _ | exact EqAt.bool_int _ _ _ | exact EqAt.bool_str _ _ _ | exact EqAt.int_none _ _ | exact EqAt.int_bool _ _ _ | exact EqAt.int_int _ _ _ _ | exact EqAt.int_str _ _ _ _ | exact EqAt.str_none _ _ | exact EqAt.str_bool _ _ _ | exact EqAt.str_int _ _ _ _ | exact EqAt.str_str _ _ _ _ | exact EqAt.none_tuple q2 hu | exact EqAt.tuple_none q1 hu | exact EqAt.none_list q2 hu | exact EqAt.list_none q1 hu | exact EqAt.bool_tuple _ q2 hu | exact EqAt.tuple_bool _ q1 hu | exact EqAt.bool_list _ q2 hu | exact EqAt.list_bool _ q1 hu | exact EqAt.int_tuple _ _ q2 hu | exact EqAt.tuple_int _ _ q1 hu | exact EqAt.int_list _ _ q2 hu | exact EqAt.list_int _ _ q1 hu | exact EqAt.str_tuple _ _ q2 hu | exact EqAt.tuple_str _ _ q1 hu | exact EqAt.str_list _ _ q2 hu | exact EqAt.list_str _ _ q1 hu | exact EqAt.tuple_list q1 q2 hu | exact EqAt.list_tuple q1 q2 hu
theorem Yn (I:Inv X pins σ H s) (sb:Same F H):∀ (n:Nat) {A:Around} {v w:V} {d e:D} {u t:Value} {b:Bool},A.units+n < cLine->Is X.K F v d->Is X.K F w e->RelV v u->RelV w t->eqN n d e=some b->EqAt A s u t b:=by
 intro n
 induction n with
 | zero=>exact fun hu h1 h2 rx ry h=>qdr (by omega) (Uf I sb (.inl h1) rx) (Uf I sb (.inl h2) ry) h
 | succ n ih=>
  intro A v w d e u t b hu h1 h2 rx ry h
  have hu1:A.in1.units+n < cLine:=by show A.units+1+n < cLine; omega
  by_cases both:(∃ xs ys,d=.tup xs/\e=.tup ys)\/(∃ xs ys,d=.lst xs/\e=.lst ys)
  ·rcases both with ⟨ds,es,rfl,rfl⟩ | ⟨ds,es,rfl,rfl⟩
   ·have h1':=h1
    have h2':=h2
    cases h1 with
    | tup p1 t1=>
     cases h2 with
     | tup p2 t2=>
      rename_i a xs c ys
      cases rx
      cases ry
      by_cases ne:a=c
      ·subst ne
       rw [Ym I sb (n+1) h1' h2' h]
       exact EqAt.same _
      ·exact EqAt.of_refs ne (Wb I (fun a1 a2 a3 a4 a5=>ih hu1 a1 a2 a3 a4 a5) (qO sb p1) (qO sb p2) t1 t2 h (by omega))
   ·have h1':=h1
    have h2':=h2
    cases h1 with
    | lst p1 t1=>
     cases h2 with
     | lst p2 t2=>
      rename_i a xs c ys
      cases rx
      cases ry
      by_cases ne:a=c
      ·subst ne
       rw [Ym I sb (n+1) h1' h2' h]
       exact EqAt.same _
      ·exact EqAt.of_refs ne (Wc I (fun a1 a2 a3 a4 a5=>ih hu1 a1 a2 a3 a4 a5) (sb.seq p1) (sb.seq p2) t1 t2 h (by omega))
  ·have e1:eqN (n+1) d e=eqS d e:=VZ (fun xs ys a1 a2=>both (.inl ⟨xs,ys,a1,a2⟩)) (fun xs ys a1 a2=>both (.inr ⟨xs,ys,a1,a2⟩))
   have e2:eqN n d e=eqS d e:=VZ (fun xs ys a1 a2=>both (.inl ⟨xs,ys,a1,a2⟩)) (fun xs ys a1 a2=>both (.inr ⟨xs,ys,a1,a2⟩))
   exact ih (by omega) h1 h2 rx ry (by rw [e2,<-e1]; exact h)
end
end L2.D2
namespace L2.D2
open PySem PySem.Spec PyProof.Rows
open PySem.SeqAt
section
variable {X:Cx} {pins:List (Addr×Obj)} {σ:St} {F H:Hp} {s:Shared}
theorem ZQ {A:Around} {n:Nat} {a c:Addr} {xs ys:List V} {ds es:List D} {b:Bool} (I:Inv X pins σ H s) (ih:∀ {v w:V} {d e:D} {u t:Value} {b:Bool},Is X.K F v d->Is X.K F w e->RelV v u->RelV w t->eqN n d e=some b->EqAt A.in1 s u t b)
  (p1:SqT X.K H a xs) (p2:SqT X.K H c ys) (i1:IsL X.K F xs ds) (i2:IsL X.K F ys es) (h:eqN (n+1) (.tup ds) (.tup es)=some b) (hu:A.units < cLine):RcNeAt A s (.ref a) (.ref c) (!b):=by
 obtain ⟨us,r1,t1,_⟩:=I.tuple p1
 obtain ⟨ws,r2,t2,_⟩:=I.tuple p2
 simp only [eqN] at h
 cases q:wG (eqN n) ds es with
 | none=>rw [q] at h; simp at h
 | some k=>
  rw [q] at h
  have l1:us.toArray.size=ds.length:=by rw [List.size_toArray,<-r1.length,i1.length]
  have l2:ws.toArray.size=es.length:=by rw [List.size_toArray,<-r2.length,i2.length]
  have z:=RcNeAt.tuples (A:=A) t1 t2 hu (ur (A:=A.in1) ih r1 r2 i1 i2 q)
  rw [l1,l2,<-vJ q] at z
  have e:b=(k&&ds.length == es.length):=by simpa using h.symm
  rw [e]; exact z
theorem ZR {A:Around} {n:Nat} {a c:Addr} {xs ys:List V} {ds es:List D} {b:Bool} (I:Inv X pins σ H s) (ih:∀ {v w:V} {d e:D} {u t:Value} {b:Bool},Is X.K F v d->Is X.K F w e->RelV v u->RelV w t->eqN n d e=some b->EqAt A.in1 s u t b)
  (p1:SqL X.K H a xs) (p2:SqL X.K H c ys) (i1:IsL X.K F xs ds) (i2:IsL X.K F ys es) (h:eqN (n+1) (.lst ds) (.lst es)=some b) (hu:A.units < cLine):RcNeAt A s (.ref a) (.ref c) (!b):=by
 obtain ⟨us,r1,t1,_⟩:=I.list p1
 obtain ⟨ws,r2,t2,_⟩:=I.list p2
 have l1:us.toArray.size=ds.length:=by rw [List.size_toArray,<-r1.length,i1.length]
 have l2:ws.toArray.size=es.length:=by rw [List.size_toArray,<-r2.length,i2.length]
 simp only [eqN] at h
 by_cases hl:ds.length=es.length
 ·rw [if_pos hl] at h
  have z:=RcNeAt.lists (A:=A) t1.isList t2.isList (by omega) hu (ur (A:=A.in1) ih r1 r2 i1 i2 h)
  have e:=vJ h
  rw [l1] at z
  rw [e,show min ds.length es.length=ds.length by omega]
  exact z
 ·rw [if_neg hl] at h
  cases h
  exact RcNeAt.lists_lengths t1.isList t2.isList (bne_iff_ne.mpr (by rw [l1,l2]; exact hl)) hu
theorem qds (I:Inv X pins σ H s) (sb:Same F H) {n:Nat} {A:Around} {v w:V} {d e:D} {u t:Value} {b:Bool} (hu':A.units+n+1 < cLine) (t1:TopIs X.K F H v d) (t2:TopIs X.K F H w e) (rx:RelV v u) (ry:RelV w t) (h:eqN (n+1) d e=some b):RcAt A s u t b:=by
 have hu:A.units < cLine:=by omega
 have ih:∀ {v w:V} {d e:D} {u t:Value} {b:Bool},Is X.K F v d->Is X.K F w e->RelV v u->RelV w t->eqN n d e=some b->EqAt A.in1 s u t b:=fun a1 a2 a3 a4 a5=>Yn I sb n (by show A.units+1+n < cLine; omega) a1 a2 a3 a4 a5
 have k1:=Uf I sb t1 rx
 have k2:=Uf I sb t2 ry
 cases d <;> cases e <;> try (cases h; done)
 case tup.tup=>
  obtain ⟨a,xs,rfl,p1,i1⟩:=t1.tup sb; obtain ⟨c,ys,rfl,p2,i2⟩:=t2.tup sb; cases rx; cases ry
  exact Wb I ih p1 p2 i1 i2 h hu
 case lst.lst=>
  obtain ⟨a,xs,rfl,p1,i1⟩:=t1.lst sb; obtain ⟨c,ys,rfl,p2,i2⟩:=t2.lst sb; cases rx; cases ry
  exact Wc I ih p1 p2 i1 i2 h hu
 all_goals
  cases h
  clear rx ry t1 t2
  first | obtain ⟨_,_,rfl,q1⟩:=k1 | obtain ⟨_,rfl⟩:=k1 | cases k1
  first | obtain ⟨_,_,rfl,q2⟩:=k2 | obtain ⟨_,rfl⟩:=k2 | cases k2
  with_reducible first | exact RcAt.none_none | exact RcAt.none_bool _ | exact RcAt.none_int _ _ | exact RcAt.none_str _ _ | exact RcAt.bool_none _ | exact RcAt.bool_bool _ _ | exact RcAt.bool_int _ _ _ | exact RcAt.bool_str _ _ _ | exact RcAt.int_none _ _ | exact RcAt.int_bool _ _ _ | exact RcAt.int_int _ _ _ _ | exact RcAt.int_str _ _ _ _ | exact RcAt.str_none _ _ | exact RcAt.str_bool _ _ _ | exact RcAt.str_int _ _ _ _ | exact RcAt.str_str _ _ _ _ | exact RcAt.none_tuple q2 hu | exact RcAt.tuple_none q1 hu | exact RcAt.none_list q2 hu | exact RcAt.list_none q1 hu | exact RcAt.bool_tuple _ q2 hu | exact RcAt.tuple_bool _ q1 hu | exact RcAt.bool_list _ q2 hu | exact RcAt.list_bool _ q1 hu | exact RcAt.int_tuple _ _ q2 hu | exact RcAt.tuple_int _ _ q1 hu | exact RcAt.int_list _ _ q2 hu | exact RcAt.list_int _ _ q1 hu | exact RcAt.str_tuple _ _ q2 hu | exact RcAt.tuple_str _ _ q1 hu | exact RcAt.str_list _ _ q2 hu | exact RcAt.list_str _ _ q1 hu | exact RcAt.tuple_list q1 q2 hu | exact RcAt.list_tuple q1 q2 hu
theorem qdt (I:Inv X pins σ H s) (sb:Same F H) {n:Nat} {A:Around} {v w:V} {d e:D} {u t:Value} {b:Bool} (hu':A.units+n+1 < cLine) (t1:TopIs X.K F H v d) (t2:TopIs X.K F H w e) (rx:RelV v u) (ry:RelV w t) (h:eqN (n+1) d e=some b):RcNeAt A s u t (!b):=by
 have hu:A.units < cLine:=by omega
 have ih:∀ {v w:V} {d e:D} {u t:Value} {b:Bool},Is X.K F v d->Is X.K F w e->RelV v u->RelV w t->eqN n d e=some b->EqAt A.in1 s u t b:=fun a1 a2 a3 a4 a5=>Yn I sb n (by show A.units+1+n < cLine; omega) a1 a2 a3 a4 a5
 have k1:=Uf I sb t1 rx
 have k2:=Uf I sb t2 ry
 cases d <;> cases e <;> try (cases h; done)
 case tup.tup=>
  obtain ⟨a,xs,rfl,p1,i1⟩:=t1.tup sb; obtain ⟨c,ys,rfl,p2,i2⟩:=t2.tup sb; cases rx; cases ry
  exact ZQ I ih p1 p2 i1 i2 h hu
 case lst.lst=>
  obtain ⟨a,xs,rfl,p1,i1⟩:=t1.lst sb; obtain ⟨c,ys,rfl,p2,i2⟩:=t2.lst sb; cases rx; cases ry
  exact ZR I ih p1 p2 i1 i2 h hu
 all_goals
  cases h
  clear rx ry t1 t2
  first | obtain ⟨_,_,rfl,q1⟩:=k1 | obtain ⟨_,rfl⟩:=k1 | cases k1
  first | obtain ⟨_,_,rfl,q2⟩:=k2 | obtain ⟨_,rfl⟩:=k2 | cases k2
  try simp only [Bool.not_true,Bool.not_false]
  with_reducible first | exact RcNeAt.none_none | exact RcNeAt.none_bool _ | exact RcNeAt.none_int _ _ | exact RcNeAt.none_str _ _ | exact RcNeAt.bool_none _ | exact RcNeAt.bool_bool _ _ | exact RcNeAt.bool_int _ _ _ | exact RcNeAt.bool_str _ _ _ | exact RcNeAt.int_none _ _ | exact RcNeAt.int_bool _ _ _ | exact RcNeAt.int_int _ _ _ _ | exact RcNeAt.int_str _ _ _ _ | exact RcNeAt.str_none _ _ | exact RcNeAt.str_bool _ _ _ | exact RcNeAt.str_int _ _ _ _ | exact RcNeAt.str_str _ _ _ _ | exact RcNeAt.none_tuple q2 hu | exact RcNeAt.tuple_none q1 hu | exact RcNeAt.none_list q2 hu | exact RcNeAt.list_none q1 hu | exact RcNeAt.bool_tuple _ q2 hu | exact RcNeAt.tuple_bool _ q1 hu | exact RcNeAt.bool_list _ q2 hu | exact RcNeAt.list_bool _ q1 hu | exact RcNeAt.int_tuple _ _ q2 hu | exact RcNeAt.tuple_int _ _ q1 hu | exact RcNeAt.int_list _ _ q2 hu | exact RcNeAt.list_int _ _ q1 hu | exact RcNeAt.str_tuple _ _ q2 hu | exact RcNeAt.tuple_str _ _ q1 hu | exact RcNeAt.str_list _ _ q2 hu | exact RcNeAt.list_str _ _ q1 hu | exact RcNeAt.tuple_list q1 q2 hu | exact RcNeAt.list_tuple q1 q2 hu | with_unfolding_all first | exact RcNeAt.bool_bool _ _ | exact RcNeAt.bool_int _ _ _ | exact RcNeAt.int_bool _ _ _ | exact RcNeAt.int_int _ _ _ _ | exact RcNeAt.str_str _ _ _ _
end
noncomputable def eqD (a b:D):Out D:=match eqN 8 a b with
 | some c=>.ok (.bl c)
 | none=>.bad
noncomputable def neD (a b:D):Out D:=match eqN 8 a b with
 | some c=>.ok (.bl (!c))
 | none=>.bad
section
variable {X:Cx} {C:Ct}
theorem yM (hK:C.K=X.K) (hu:X.A.units+64 < cLine):OpD X C .sh (compareOp .Eq) eqD:=by
 intro pins s σ H x y v u Q I rx ry h
 obtain ⟨F,dx,dy,sb,tx,ty,po⟩:=h
 rw [hK] at tx ty
 unfold eqD at po
 cases e:eqN 8 dx dy with
 | none=>rw [e] at po; exact po.elim
 | some c=>
  rw [e] at po
  exact qds I sb (n:=7) (by omega) tx ty rx ry e _ _ _ _ ⟨.bl c,H,I,rfl,po _ F H sb .refl (.bl _)⟩
theorem zv (hK:C.K=X.K) (hu:X.A.units+64 < cLine):OpD X C .sh (compareOp .NotEq) neD:=by
 intro pins s σ H x y v u Q I rx ry h
 obtain ⟨F,dx,dy,sb,tx,ty,po⟩:=h
 rw [hK] at tx ty
 unfold neD at po
 cases e:eqN 8 dx dy with
 | none=>rw [e] at po; exact po.elim
 | some c=>
  rw [e] at po
  exact qdt I sb (n:=7) (by omega) tx ty rx ry e _ _ _ _ ⟨.bl _,H,I,rfl,po _ F H sb .refl (.bl _)⟩
end
end L2.D2
namespace L2.D2
open PySem PySem.Spec PyProof.Rows
open PySem.SeqAt
section
variable {X:Cx} {pins:List (Addr×Obj)} {σ:St} {F H:Hp} {s:Shared}
theorem qbo (I:Inv X pins σ H s) (sb:Same F H):∀ (n:Nat) {v:V} {d d' e:D} {b b':Bool},Is X.K F v d->Is X.K F v d'->eqN n d e=some b->eqN n d' e=some b'->b=b':=by
 have notTL:∀ {a:Addr} {xs ys:List V},SqT X.K F a xs->SqL X.K F a ys->False:=fun p q=>by
  obtain ⟨_,_,q1,_⟩:=I.list (sb.seq q)
  obtain ⟨_,_,q2,_⟩:=I.tuple (qO sb p)
  exact absurd rfl (ne_of_list_tuple q1.isList q2)
 intro n
 induction n with
 | zero=>
  intro v d d' e b b' h1 h2 e1 e2
  have e1:eqS d e=some b:=e1
  have e2:eqS d' e=some b':=e2
  cases h1 <;> cases h2 <;> cases e <;> simp only [eqS] at e1 e2 <;> first
   | (cases e1; cases e2; rfl)
   | (cases e1; done)
   | (cases e2; done)
   | exact (notTL (by assumption) (by assumption)).elim
 | succ n ih=>
  have lists:∀ {xs:List V} {ds ds' es:List D} {b b':Bool},IsL X.K F xs ds->IsL X.K F xs ds'->wG (eqN n) ds es=some b->wG (eqN n) ds' es=some b'->b=b':=by
   intro xs
   induction xs with
   | nil=>intro ds ds' es b b' h1 h2 e1 e2; cases h1; cases h2; simp only [wG] at e1 e2; cases e1; cases e2; rfl
   | cons x xs ihx=>
    intro ds ds' es b b' h1 h2 e1 e2
    cases h1 with
    | cons a1 t1=>
     cases h2 with
     | cons a2 t2=>
      rename_i d ds d' ds'
      cases es with
      | nil=>simp only [wG] at e1 e2; cases e1; cases e2; rfl
      | cons e es=>
       unfold wG at e1 e2
       cases q:eqN n d e with
       | none=>rw [q] at e1; simp at e1
       | some k=>
        cases q2:eqN n d' e with
        | none=>rw [q2] at e2; simp at e2
        | some k'=>
         cases q3:wG (eqN n) ds es with
         | none=>rw [q,q3] at e1; simp at e1
         | some k3=>
          cases q4:wG (eqN n) ds' es with
          | none=>rw [q2,q4] at e2; simp at e2
          | some k4=>
           rw [q,q3] at e1
           rw [q2,q4] at e2
           rw [ih a1 a2 q q2,ihx t1 t2 q3 q4] at e1
           have e1:some (k'&&k4)=some b:=e1
           have e2:some (k'&&k4)=some b':=e2
           rw [e1] at e2
           exact Option.some.inj e2
  intro v d d' e b b' h1 h2 e1 e2
  cases h1 with
  | tup p1 t1=>
   cases h2 with
   | tup p2 t2=>
    have q:=I.tuple_inj (qO sb p1) (qO sb p2)
    subst q
    have hl:=t1.length.symm.trans t2.length
    cases e with
    | tup es=>
     rename_i ds ds'
     simp only [eqN] at e1 e2
     cases q3:wG (eqN n) ds es with
     | none=>rw [q3] at e1; simp at e1
     | some k3=>
      cases q4:wG (eqN n) ds' es with
      | none=>rw [q4] at e2; simp at e2
      | some k4=>
       rw [q3] at e1
       rw [q4] at e2
       rw [lists t1 t2 q3 q4,hl] at e1
       exact Option.some.inj (e1.symm.trans e2)
    | _=>simp only [eqN,eqS] at e1 e2 <;> first | (cases e1; cases e2; rfl) | (cases e1; done)
   | lst p2 t2=>exact (notTL p1 p2).elim
   | _=>cases e <;> simp [eqN,eqS] at e2
  | lst p1 t1=>
   cases h2 with
   | lst p2 t2=>
    have q:=I.list_inj (sb.seq p1) (sb.seq p2)
    subst q
    have hl:=t1.length.symm.trans t2.length
    cases e with
    | lst es=>
     rename_i ds ds'
     simp only [eqN] at e1 e2
     rw [hl] at e1
     by_cases z:ds'.length=es.length
     ·rw [if_pos z] at e1 e2
      exact lists t1 t2 e1 e2
     ·rw [if_neg z] at e1 e2
      exact Option.some.inj (e1.symm.trans e2)
    | _=>simp only [eqN,eqS] at e1 e2 <;> first | (cases e1; cases e2; rfl) | (cases e1; done)
   | tup p2 t2=>exact (notTL p2 p1).elim
   | _=>cases e <;> simp [eqN,eqS] at e2
  | _=>cases h2 <;> cases e <;> simp only [eqN,eqS] at e1 e2 <;> first
   | (cases e1; cases e2; rfl)
   | (cases e1; done)
   | (cases e2; done)
open Classical in
noncomputable def UK (X:Cx) (F:Hp) (n:Nat) (e:D) (u:Value):Bool:=decide (∃ v d,Is X.K F v d/\RelV v u/\eqN n d e=some true)
open Classical in
theorem Yo (I:Inv X pins σ H s) (sb:Same F H) {n:Nat} {v:V} {d e:D} {u:Value} {b:Bool} (h:Is X.K F v d) (r:RelV v u) (q:eqN n d e=some b):UK X F n e u=b:=by
 unfold UK
 cases b with
 | true=>exact decide_eq_true ⟨v,d,h,r,q⟩
 | false=>
  refine decide_eq_false ?_
  rintro ⟨w,d',h',r',q'⟩
  have e:=r.inj r'
  subst e
  exact absurd (qbo I sb n h h' q q') (by decide)
noncomputable def gN (n:Nat) (e:D):List D->Option Bool
 | []=>some false
 | d::ds=>(eqN n d e).bind fun a=>(gN n e ds).bind fun b=>some (a||b)
theorem JK {n:Nat} {e d:D} {ds:List D} {b:Bool} (h:gN n e (d::ds)=some b):∃ a c,eqN n d e=some a/\gN n e ds=some c/\b=(a||c):=by
 unfold gN at h
 cases q:eqN n d e with
 | none=>rw [q] at h; simp at h
 | some a=>
  cases q2:gN n e ds with
  | none=>rw [q,q2] at h; simp at h
  | some c=>rw [q,q2] at h; exact ⟨a,c,rfl,rfl,(Option.some.inj h).symm⟩
theorem Yp (I:Inv X pins σ H s) (sb:Same F H) {n:Nat} {e:D}:∀ {vs:List V} {ds:List D} {us:List Value} {b:Bool},IsL X.K F vs ds->Vals vs us->gN n e ds=some b->us.any (UK X F n e)=b/\∀ u∈us,∃ v d a,Is X.K F v d/\RelV v u/\eqN n d e=some a/\UK X F n e u=a
 | _,_,_,b,.nil,.nil,h=>⟨by simpa using (Option.some.inj h),fun u hu=>nomatch hu⟩
 | _,_,_,b,.cons i t,.cons r rs,h=>by
  obtain ⟨a,c,q1,q2,rfl⟩:=JK h
  obtain ⟨ih1,ih2⟩:=Yp I sb t rs q2
  have e1:=Yo I sb i r q1
  refine ⟨by rw [List.any_cons,e1,ih1],fun u hu=>?_⟩
  rcases List.mem_cons.mp hu with rfl | hu
  ·exact ⟨_,_,a,i,r,q1,e1⟩
  ·exact ih2 u hu
end
noncomputable def inD (x y:D):Out Bool:=match y with
 | .lst ds=>match gN 7 x ds with
  | some b=>.ok b
  | none=>.bad
 | .tup ds=>match gN 7 x ds with
  | some b=>.ok b
  | none=>.bad
 | _=>.bad
noncomputable def qe7 (x y:D):Out D:=(inD x y).bind fun b=>.ok (.bl b)
noncomputable def Ug (x y:D):Out D:=(inD x y).bind fun b=>.ok (.bl (!b))
theorem TopIs.is {K:Frag} {F H:Hp} {v:V} {d:D} (s:Same F H) (h:TopIs K F H v d):∃ F',Same F F'/\Same F' H/\Is K F' v d:=by
 rcases h with h | ⟨a,rfl,o⟩
 ·exact ⟨F,Same.refl _,s,h⟩
 ·obtain ⟨u,hu⟩:∃ u,H a=some u:=by
   cases q:H a with
   | none=>exact absurd q o.there
   | some u=>exact ⟨u,rfl⟩
  by_cases hF:F a=none
  ·have gr:Same F (upd F a u):=fun b w e=>by rw [qA (qF e hF)]; exact e
   refine ⟨upd F a u,gr,fun b w e=>?_,?_⟩
   ·by_cases q:b=a
    ·subst q; rw [qp] at e; cases e; exact hu
    ·rw [qA q] at e; exact s b w e
   ·cases d with
    | lst ds=>obtain ⟨xs,e,t⟩:=o; rw [hu] at e; cases e; exact .lst (.inl (.inl qp)) (t.mono gr)
    | dct ds=>obtain ⟨xs,e,t⟩:=o; rw [hu] at e; cases e; exact .dct qp (t.mono gr)
    | ins C fs=>obtain ⟨dx,xs,e,t⟩:=o; rw [hu] at e; cases e; exact .ins qp (t.mono gr)
    | at_ b ds=>obtain ⟨eb,xs,e,t⟩:=o; rw [hu] at e; cases e; subst eb; exact .at_ (.inl (.inl qp)) (t.mono gr)
    | _=>exact o.elim
  ·obtain ⟨w,hw⟩:∃ w,F a=some w:=by
    cases q:F a with
    | none=>exact absurd q hF
    | some w=>exact ⟨w,rfl⟩
   have e:=s a w hw
   cases d with
   | lst ds=>obtain ⟨xs,e',t⟩:=o; rw [e'] at e; cases e; exact ⟨F,Same.refl _,s,.lst (.inl (.inl hw)) t⟩
   | dct ds=>obtain ⟨xs,e',t⟩:=o; rw [e'] at e; cases e; exact ⟨F,Same.refl _,s,.dct hw t⟩
   | ins C fs=>obtain ⟨dx,xs,e',t⟩:=o; rw [e'] at e; cases e; exact ⟨F,Same.refl _,s,.ins hw t⟩
   | at_ b ds=>obtain ⟨eb,xs,e',t⟩:=o; rw [e'] at e; cases e; subst eb; exact ⟨F,Same.refl _,s,.at_ (.inl (.inl hw)) t⟩
   | _=>exact o.elim
section
variable {X:Cx} {C:Ct}
theorem JL {pins:List (Addr×Obj)} {σ:St} {F H:Hp} {s:Shared} {A:Around} {y x:V} {dx:D} {ds:List D} {b:Bool} {u v:Value} {a:Addr} {us:List Value} {xs:List V} (I:Inv X pins σ H s) (hu:A.units+64 < cLine) (sb:Same F H) (ix:Is X.K F x dx) (rx:RelV x v)
  (il:IsL X.K F xs ds) (r:Vals xs us) (h:gN 7 dx ds=some b):us.any (UK X F 7 dx)=b/\∀ w,w∈us.toArray->EqAt A.in1 s w v (UK X F 7 dx w):=by
 obtain ⟨h1,h2⟩:=Yp I sb il r h
 refine ⟨h1,fun w hw=>?_⟩
 obtain ⟨vv,d,k,i1,r1,q,e⟩:=h2 w (by simpa using hw)
 rw [e]
 exact Yn I sb 7 (by show A.units+1+7 < cLine; omega) i1 ix r1 rx q
theorem qfS (hK:C.K=X.K) (hu:X.A.units+64 < cLine):OpD X C .sh (compareOp .In) qe7:=by
 intro pins s σ H x y v u Q I rx ry h
 obtain ⟨F,dx,dy,sb,tx,ty,po⟩:=h
 rw [hK] at tx ty
 unfold qe7 inD at po
 obtain ⟨F',g',sb',ix⟩:=tx.is sb
 cases dy with
 | lst ds=>
  cases e:gN 7 dx ds with
  | none=>simp only [e] at po; exact po.elim
  | some b=>
   simp only [e] at po
   obtain ⟨a,xs,rfl,p,il⟩:=ty.lst sb
   cases ry
   obtain ⟨us,r,pl,_⟩:=I.list p
   obtain ⟨h1,h2⟩:=JL (A:=X.A) (y:=.non) (a:=a) (u:=.none) I hu sb' ix rx (il.mono g') r e
   refine in_listAt (UK X F' 7 dx) pl.isList h2 ⟨.bl b,H,I,by show _=_; rw [<-h1]; simp,po _ F H sb .refl (.bl _)⟩
 | tup ds=>
  cases e:gN 7 dx ds with
  | none=>simp only [e] at po; exact po.elim
  | some b=>
   simp only [e] at po
   obtain ⟨a,xs,rfl,p,il⟩:=ty.tup sb
   cases ry
   obtain ⟨us,r,pl,_⟩:=I.tuple p
   obtain ⟨h1,h2⟩:=JL (A:=X.A) (y:=.non) (a:=a) (u:=.none) I hu sb' ix rx (il.mono g') r e
   refine in_tupleAt (UK X F' 7 dx) pl h2 ⟨.bl b,H,I,by show _=_; rw [<-h1]; simp,po _ F H sb .refl (.bl _)⟩
 | _=>exact po.elim
theorem ZS (hK:C.K=X.K) (hu:X.A.units+64 < cLine):OpD X C .sh (compareOp .NotIn) Ug:=by
 intro pins s σ H x y v u Q I rx ry h
 obtain ⟨F,dx,dy,sb,tx,ty,po⟩:=h
 rw [hK] at tx ty
 unfold Ug inD at po
 obtain ⟨F',g',sb',ix⟩:=tx.is sb
 cases dy with
 | lst ds=>
  cases e:gN 7 dx ds with
  | none=>simp only [e] at po; exact po.elim
  | some b=>
   simp only [e] at po
   obtain ⟨a,xs,rfl,p,il⟩:=ty.lst sb
   cases ry
   obtain ⟨us,r,pl,_⟩:=I.list p
   obtain ⟨h1,h2⟩:=JL (A:=X.A) (y:=.non) (a:=a) (u:=.none) I hu sb' ix rx (il.mono g') r e
   refine notIn_listAt (UK X F' 7 dx) pl.isList h2 ⟨.bl (!b),H,I,by show _=_; rw [<-h1]; simp,po _ F H sb .refl (.bl _)⟩
 | tup ds=>
  cases e:gN 7 dx ds with
  | none=>simp only [e] at po; exact po.elim
  | some b=>
   simp only [e] at po
   obtain ⟨a,xs,rfl,p,il⟩:=ty.tup sb
   cases ry
   obtain ⟨us,r,pl,_⟩:=I.tuple p
   obtain ⟨h1,h2⟩:=JL (A:=X.A) (y:=.non) (a:=a) (u:=.none) I hu sb' ix rx (il.mono g') r e
   refine notIn_tupleAt (UK X F' 7 dx) pl h2 ⟨.bl (!b),H,I,by show _=_; rw [<-h1]; simp,po _ F H sb .refl (.bl _)⟩
 | _=>exact po.elim
end
end L2.D2
namespace L2.D2
open PySem PySem.Spec PyProof.Rows
def PoT (C:Ct) (own:List Nat) (σ:St) (F H:Hp) (r:Out (Bool×Sl)) (Q:Bool->Hp->Prop):Prop:=match r with
 | .ok (b,ρ')=>∀ F' H',Rep C.K own F' H' σ ρ'->Chg (OA own σ) F H F' H'->Q b H'
 | .exc c ρ'=>∀ F' H',Same F' H'->Zr C.K C.ox F' H' σ ρ'->Chg (OA own σ) F H F' H'->C.E (C.cv c) none H'
 | .bad=>False
def tT (C:Ct) (own:List Nat) (f:Sl->Out (Bool×Sl)):TT:=fun σ H Q=>∃ F ρ,Rep C.K own F H σ ρ/\PoT C own σ F H (f ρ) Q
theorem PoT.shift {C:Ct} {own:List Nat} {σ:St} {F H F1 H1:Hp} {r:Out (Bool×Sl)} {Q:Bool->Hp->Prop} (h:PoT C own σ F H r Q) (c:Chg (OA own σ) F H F1 H1):PoT C own σ F1 H1 r Q:=by
 cases r with
 | ok p=>exact fun F' H' rp c'=>h F' H' rp (c.trans' c')
 | exc x=>exact fun F' H' s io c'=>h F' H' s io (c.trans' c')
 | bad=>exact h.elim
theorem PoT.bindV {C:Ct} {own:List Nat} {ma:Mo} {σ:St} {F H:Hp} {o:Out (D×Sl)} {k:D×Sl->Out (Bool×Sl)} {Q:Bool->Hp->Prop} {R:VK} (hp:PoT C own σ F H (o.bind k) Q)
  (h:∀ v F1 H1 d ρ1,Rep C.K own F1 H1 σ ρ1->Chg (OA own σ) F H F1 H1->MoIs C.K ma H F1 H1 v d->PoT C own σ F1 H1 (k (d,ρ1)) Q->R v H1):Po C own ma σ F H o R:=by
 cases o with
 | ok p=>
  obtain ⟨d,ρ1⟩:=p
  exact fun v F1 H1 rp c mo=>h v F1 H1 d ρ1 rp c mo (PoT.shift (show PoT C own σ F H (k (d,ρ1)) Q from hp) c)
 | exc x=>exact hp
 | bad=>exact hp.elim
theorem PoT.bindT {C:Ct} {own:List Nat} {σ:St} {F H:Hp} {o:Out (Bool×Sl)} {k:Bool×Sl->Out (Bool×Sl)} {Q R:Bool->Hp->Prop} (hp:PoT C own σ F H (o.bind k) Q)
  (h:∀ F1 H1 b ρ1,Rep C.K own F1 H1 σ ρ1->Chg (OA own σ) F H F1 H1->PoT C own σ F1 H1 (k (b,ρ1)) Q->R b H1):PoT C own σ F H o R:=by
 cases o with
 | ok p=>
  obtain ⟨d,ρ1⟩:=p
  exact fun F1 H1 rp c=>h F1 H1 d ρ1 rp c (PoT.shift (show PoT C own σ F H (k (d,ρ1)) Q from hp) c)
 | exc x=>exact hp
 | bad=>exact hp.elim
theorem Po.bindT {C:Ct} {own:List Nat} {m:Mo} {σ:St} {F H:Hp} {o:Out (Bool×Sl)} {k:Bool×Sl->Out (D×Sl)} {Q:VK} {R:Bool->Hp->Prop} (hp:Po C own m σ F H (o.bind k) Q)
  (h:∀ F1 H1 b ρ1,Rep C.K own F1 H1 σ ρ1->Chg (OA own σ) F H F1 H1->Po C own m σ F1 H1 (k (b,ρ1)) Q->R b H1):PoT C own σ F H o R:=by
 cases o with
 | ok p=>
  obtain ⟨d,ρ1⟩:=p
  exact fun F1 H1 rp c=>h F1 H1 d ρ1 rp c (Po.shift (show Po C own m σ F H (k (d,ρ1)) Q from hp) c)
 | exc x=>exact hp
 | bad=>exact hp.elim
noncomputable def ww:D->Out Bool
 | .non=>.ok false
 | .bl b=>.ok b
 | .int i=>.ok (i != 0)
 | .str x=>.ok ((x.length:Int) != 0)
 | .tup xs=>.ok (!xs.isEmpty)
 | .lst xs=>.ok (!xs.isEmpty)
 | .dct xs=>.ok (!xs.isEmpty)
 | .raw _=>.bad
 | .xcp _=>.bad
 | .ins _ _=>.bad
 | .at_ _ _=>.bad
noncomputable def uK (f:Sl->Out (D×Sl)):Sl->Out (Bool×Sl):=fun ρ=>(f ρ).bind fun p=>(ww p.1).bind fun b=>.ok (b,p.2)
theorem IsL.isEmpty {K:Frag} {F:Hp} {vs:List V} {ds:List D} (h:IsL K F vs ds):vs.isEmpty=ds.isEmpty:=by cases h <;> rfl
theorem IsK.isEmpty {K:Frag} {F:Hp} {vs:List (Key×V)} {ds:List (Key×D)} (h:IsK K F vs ds):vs.isEmpty=ds.isEmpty:=by cases h <;> rfl
theorem qbp {K:Frag} {F H:Hp} {v:V} {d:D} {b:Bool} (s:Same F H) (h:TopIs K F H v d) (e:ww d=.ok b):qfH K v H b:=by
 cases d with
 | non=>obtain rfl:=h.non; cases e; rfl
 | bl x=>obtain rfl:=h.bl; cases e; rfl
 | int x=>obtain rfl:=h.int; cases e; rfl
 | str x=>obtain ⟨rfl,q⟩:=h.str; cases e; exact ⟨q,rfl⟩
 | tup x=>obtain ⟨a,xs,rfl,p,t⟩:=h.tup s; cases e; exact .inr (.inl ⟨xs,p,by rw [t.isEmpty]⟩)
 | lst x=>obtain ⟨a,xs,rfl,p,t⟩:=h.lst s; cases e; exact .inl ⟨xs,p,by rw [t.isEmpty]⟩
 | dct x=>obtain ⟨a,xs,rfl,p,t⟩:=h.dct s; cases e; exact .inr (.inr ⟨xs,p,by rw [t.isEmpty]⟩)
 | raw x=>cases e
 | xcp x=>cases e
 | ins x y=>cases e
 | at_ x y=>cases e
noncomputable def qT (f:Sl->Out (D×Sl)):Sl->Out (Bool×Sl):=fun ρ=>(f ρ).bind fun p=>match p.1 with
 | .bl b=>.ok (b,p.2)
 | _=>.bad
section
variable {X:Cx} {C:Ct} {own:List Nat} {a b c e:Expr} {f fa fb fc:Sl->Out (D×Sl)} {ft fu:Sl->Out (Bool×Sl)} {m ma mb mc:Mo} {pos:Pos} {rest:List Expr}
theorem jj (hK:C.K=X.K) (h:PE X e (tE C own m f)) (he:∀ whole,isTrue e X.env whole=(do let v <-whole; standAt e.pos; holding [v] (truthy v))):PT X e (tT C own (uK f)):=by
 refine ZN (ZE h he) fun σ H Q ⟨F,ρ,rp,h⟩=>⟨F,ρ,rp,PoT.bindV h fun v F1 H1 d ρ1 rp1 c1 mo1 h1=>?_⟩
 cases q:ww d with
 | ok k=>
  have h1:PoT C own σ F1 H1 ((ww d).bind fun b=>.ok (b,ρ1)) Q:=h1
  rw [q] at h1
  exact ⟨k,by rw [<-hK]; exact qbp rp1.sub mo1.top q,h1 F1 H1 rp1 .refl⟩
 | exc x=>
  have h1:PoT C own σ F1 H1 ((ww d).bind fun b=>.ok (b,ρ1)) Q:=h1
  cases d <;> cases q
 | bad=>
  have h1:PoT C own σ F1 H1 ((ww d).bind fun b=>.ok (b,ρ1)) Q:=h1
  rw [q] at h1
  exact h1.elim
theorem Yq {σ:St} {H:Hp} {Q:Bool->Hp->Prop} (h:tT C own (qT f) σ H Q):tE C own .sh f σ H fun x H'=>∃ k,x=.bl k/\Q k H':=by
 obtain ⟨F,ρ,rp,h⟩:=h
 refine ⟨F,ρ,rp,PoT.bindV h fun v F1 H1 d ρ1 rp1 c1 mo1 h1=>?_⟩
 cases d with
 | bl k=>
  have mo1:Is C.K F1 v (.bl k):=mo1
  cases mo1
  exact ⟨k,rfl,h1 F1 H1 rp1 .refl⟩
 | _=>exact h1.elim
theorem qM {op:CmpOp} {g:D->D->Out D} (ho:OpD X C .sh (compareOp op) g) (ha:PE X a (tE C own ma fa)) (hb:PE X b (tE C own mb fb)) (hma:ma≠.any:=by decide)
  (hk:behindInMarks op b=false:=by first | exact qah _ | with_unfolding_all rfl):PT X (.Compare a [op] [b] pos) (tT C own (qT (d2 g fa fb))):=by
 refine ZN (qa7 ho ha hb hk) fun σ H Q h=>?_
 exact JJ hma (Yq h)
noncomputable def gy (ft:Sl->Out (Bool×Sl)):Sl->Out (Bool×Sl):=fun ρ=>(ft ρ).bind fun p=>.ok (!p.1,p.2)
theorem jK (h:PT X a (tT C own ft)):PT X (.UnaryOp .Not a pos) (tT C own (gy ft)):=by
 refine ZN (qcZ h) fun σ H Q ⟨F,ρ,rp,h⟩=>⟨F,ρ,rp,PoT.bindT h fun F1 H1 b ρ1 rp1 c1 h1=>h1 F1 H1 rp1 .refl⟩
theorem qdu {e:Expr} {t t':TT} (h:PW X e t) (i:∀ σ H Q,t' σ H Q->t σ H Q):PW X e t':=⟨fun wh pins s σ H Q I hw=>h wh pins s σ H Q I (i σ H Q hw)⟩
noncomputable def qaj (ft fu:Sl->Out (Bool×Sl)):Sl->Out (Bool×Sl):=fun ρ=>(ft ρ).bind fun p=>if p.1=true then fu p.2 else .ok (false,p.2)
noncomputable def dOr (ft fu:Sl->Out (Bool×Sl)):Sl->Out (Bool×Sl):=fun ρ=>(ft ρ).bind fun p=>if p.1=true then .ok (true,p.2) else fu p.2
theorem kR {op} (h:PT X a (tT C own ft)):PW X (.BoolOp op [a] pos) (tT C own ft):=by
 cases op
 ·exact qaZ h
 ·exact qcX h
theorem Vd (ha:PT X a (tT C own ft)) (hb:PW X (.BoolOp .And (b::rest) pos) (tT C own fu)):PW X (.BoolOp .And (a::b::rest) pos) (tT C own (qaj ft fu)):=by
 refine qdu (qcY ha hb) fun σ H Q ⟨F,ρ,rp,h⟩=>⟨F,ρ,rp,PoT.bindT h fun F1 H1 k ρ1 rp1 c1 h1=>?_⟩
 cases k with
 | true=>exact ⟨F1,ρ1,rp1,h1⟩
 | false=>exact h1 F1 H1 rp1 .refl
theorem xo (ha:PT X a (tT C own ft)) (hb:PW X (.BoolOp .Or (b::rest) pos) (tT C own fu)):PW X (.BoolOp .Or (a::b::rest) pos) (tT C own (dOr ft fu)):=by
 refine qdu (qfs ha hb) fun σ H Q ⟨F,ρ,rp,h⟩=>⟨F,ρ,rp,PoT.bindT h fun F1 H1 k ρ1 rp1 c1 h1=>?_⟩
 cases k with
 | true=>exact h1 F1 H1 rp1 .refl
 | false=>exact ⟨F1,ρ1,rp1,h1⟩
noncomputable def Ve (fa fb:Sl->Out (D×Sl)):Sl->Out (D×Sl):=fun ρ=>(fa ρ).bind fun p=>match p.1 with
 | .bl true=>fb p.2
 | .bl false=>.ok (.bl false,p.2)
 | _=>.bad
noncomputable def qe8 (fa fb:Sl->Out (D×Sl)):Sl->Out (D×Sl):=fun ρ=>(fa ρ).bind fun p=>match p.1 with
 | .bl true=>.ok (.bl true,p.2)
 | .bl false=>fb p.2
 | _=>.bad
theorem We {op} (h:PE X a (tE C own m f)):PE X (.BoolOp op [a] pos) (tE C own m f):=qc0 h
theorem Wf (ha:PE X a (tE C own .sh fa)) (hb:PE X (.BoolOp .And (b::rest) pos) (tE C own .sh fb)):PE X (.BoolOp .And (a::b::rest) pos) (tE C own .sh (Ve fa fb)):=by
 refine jJ (qc1 ha hb) fun σ H Q ⟨F,ρ,rp,h⟩=>⟨F,ρ,rp,Po.bind h fun v F1 H1 d ρ1 rp1 c1 mo1 h1=>?_⟩
 cases d with
 | bl k=>
  have mo1:Is C.K F1 v (.bl k):=mo1
  cases mo1
  refine ⟨k,rfl,?_⟩
  cases k with
  | true=>exact ⟨F1,ρ1,rp1,h1⟩
  | false=>exact h1 _ F1 H1 rp1 .refl (.bl _)
 | _=>exact h1.elim
theorem qfT (ha:PE X a (tE C own .sh fa)) (hb:PE X (.BoolOp .Or (b::rest) pos) (tE C own .sh fb)):PE X (.BoolOp .Or (a::b::rest) pos) (tE C own .sh (qe8 fa fb)):=by
 refine jJ (qfu ha hb) fun σ H Q ⟨F,ρ,rp,h⟩=>⟨F,ρ,rp,Po.bind h fun v F1 H1 d ρ1 rp1 c1 mo1 h1=>?_⟩
 cases d with
 | bl k=>
  have mo1:Is C.K F1 v (.bl k):=mo1
  cases mo1
  refine ⟨k,rfl,?_⟩
  cases k with
  | true=>exact h1 _ F1 H1 rp1 .refl (.bl _)
  | false=>exact ⟨F1,ρ1,rp1,h1⟩
 | _=>exact h1.elim
noncomputable def dIf (ft:Sl->Out (Bool×Sl)) (fa fb:Sl->Out (D×Sl)):Sl->Out (D×Sl):=fun ρ=>(ft ρ).bind fun p=>if p.1=true then fa p.2 else fb p.2
theorem qbq {t:Expr} (ht:PT X t (tT C own ft)) (ha:PE X a (tE C own ma fa)) (hb:PE X b (tE C own mb fb)) (h1:ma≠.any:=by decide) (h2:mb≠.any:=by decide):PE X (.IfExp t a b pos) (tE C own .sh (dIf ft fa fb)):=by
 refine jJ (Zv ht (yk ha h1) (yk hb h2)) fun σ H Q ⟨F,ρ,rp,h⟩=>⟨F,ρ,rp,Po.bindT h fun F1 H1 k ρ1 rp1 c1 h1=>?_⟩
 cases k with
 | true=>exact ⟨F1,ρ1,rp1,h1⟩
 | false=>exact ⟨F1,ρ1,rp1,h1⟩
noncomputable def ym (g g':D->D->Out D) (fa fb fc:Sl->Out (D×Sl)):Sl->Out (D×Sl):=fun ρ=>(fa ρ).bind fun p=>(fb p.2).bind fun q=>(g p.1 q.1).plain.bind fun z=>match z with
 | .bl true=>(fc q.2).bind fun r=>(g' q.1 r.1).plain.bind fun d=>.ok (d,r.2)
 | .bl false=>.ok (.bl false,q.2)
 | _=>.bad
theorem PoV.bind {σ:St} {F H:Hp} {o:Out D} {k:D->Out (D×Sl)} {Q R:VK} {ρ:Sl} (rp:Rep C.K own F H σ ρ) (h:Po C own m σ F H (o.plain.bind k) Q)
  (hk:∀ v F1 H1 d,Rep C.K own F1 H1 σ ρ->Chg No F H F1 H1->MoIs C.K ma H F1 H1 v d->Po C own m σ F1 H1 (k d) Q->R v H1):PoV C ma F H o R:=by
 cases o with
 | ok d=>exact fun v F1 H1 s c mo=>hk v F1 H1 d (rp.grow c s) c mo (Po.shift (show Po C own m σ F H (k d) Q from h) c.ofNo)
 | exc c=>exact h.elim
 | bad=>exact h.elim
theorem Wg {g g':D->D->Out D} {σ:St} {H:Hp} {Q:VK} (hma:ma≠.any) (hmb:mb≠.any) (h:tE C own .sh (ym g g' fa fb fc) σ H Q) :
  UR (fun x y H Q=>∃ F dx dy,Same F H/\TopIs C.K F H x dx/\TopIs C.K F H y dy/\PoV C .sh F H (g dx dy) Q) (fun x y H Q=>∃ F dx dy,Same F H/\TopIs C.K F H x dx/\TopIs C.K F H y dy/\PoV C .sh F H (g' dx dy) Q)
   (tE C own ma fa) (tE C own mb fb) (tE C own mc fc) σ H Q:=by
 obtain ⟨F,ρ,rp,h⟩:=h
 refine ⟨F,ρ,rp,Po.bind h fun v F1 H1 d ρ1 rp1 c1 mo1 h1=>⟨F1,ρ1,rp1,Po.bind h1 fun w F2 H2 e ρ2 rp2 c2 mo2 h2=>?_⟩⟩
 have oa:∀ x,OA own σ x->H x≠none:=fun x z=>(rp.OA_there z).1
 have oa1:∀ x,OA own σ x->H1 x≠none:=fun x z=>(rp1.OA_there z).1
 refine ⟨F2,d,e,rp2.sub,(mo1.grow hma c2 oa).top,mo2.top,PoV.bind (m:=.sh) rp2 h2 fun z F3 H3 dz rp3 c3 mo3 h3=>?_⟩
 cases dz with
 | bl k=>
  have mo3:Is C.K F3 z (.bl k):=mo3
  cases mo3
  refine ⟨k,rfl,?_⟩
  cases k with
  | true=>
   refine ⟨F3,ρ2,rp3,Po.bind h3 fun w' F4 H4 r ρ4 rp4 c4 mo4 h4=>?_⟩
   exact ⟨F4,e,r,rp4.sub,((mo2.grow hmb (c3.ofNo) oa1).grow hmb c4 oa1).top,mo4.top,PoV.of rp4 h4⟩
  | false=>exact h3 _ F3 H3 rp3 .refl (.bl _)
 | _=>exact h3.elim
theorem Wh {op op':CmpOp} {g g':D->D->Out D} (ho:OpD X C .sh (compareOp op) g) (ho':OpD X C .sh (compareOp op') g') (ha:PE X a (tE C own ma fa)) (hb:PE X b (tE C own mb fb)) (hc:PE X c (tE C own mc fc)) (hma:ma≠.any:=by decide) (hmb:mb≠.any:=by decide)
  (hm:lastMarks [op,op'] [b,c]=false:=by with_unfolding_all rfl):PE X (.Compare a [op,op'] [b,c] pos) (tE C own .sh (ym g g' fa fb fc)):=jJ (ZC ho ho' ha hb hc hm) fun _ _ _ h=>Wg hma hmb h
theorem JM {op op':CmpOp} {g g':D->D->Out D} (ho:OpD X C .sh (compareOp op) g) (ho':OpD X C .sh (compareOp op') g') (ha:PE X a (tE C own ma fa)) (hb:PE X b (tE C own mb fb)) (hc:PE X c (tE C own mc fc)) (hma:ma≠.any:=by decide) (hmb:mb≠.any:=by decide)
  (hm:lastMarks [op,op'] [b,c]=false:=by with_unfolding_all rfl):PT X (.Compare a [op,op'] [b,c] pos) (tT C own (qT (ym g g' fa fb fc))):=ZN (ZD ho ho' ha hb hc hm) fun _ _ _ h=>Wg hma hmb (Yq h)
theorem Yr:OpR X (compareOp .LtE) (fun x y H Q=>∃ i j,x=.str i/\y=.str j/\Q (.bl (!uS j i)) H):=by
 intro pins s σ H x y v u Q I rx ry h
 obtain ⟨i,j,rfl,rfl,q⟩:=h
 obtain ⟨t,rfl⟩:=rx
 obtain ⟨t',rfl⟩:=ry
 exact PySem.P.le_str (VU I q (by simp [uS]))
noncomputable def leD:D->D->Out D
 | .int i,.int j=>.ok (.bl (decide (i<=j)))
 | .str x,.str y=>.ok (.bl (!uS y x))
 | _,_=>.bad
theorem JO:OpD X C .sh (compareOp .LtE) leD:=by
 intro pins s σ H x y v u Q I rx ry h
 obtain ⟨F,dx,dy,sb,tx,ty,po⟩:=h
 cases dx <;> try exact po.elim
 ·cases dy <;> try exact po.elim
  obtain rfl:=tx.int
  obtain rfl:=ty.int
  exact qfE pins s σ H _ _ v u Q I rx ry ⟨_,_,rfl,rfl,po _ F H sb .refl (.bl _)⟩
 ·cases dy <;> try exact po.elim
  obtain ⟨rfl,_⟩:=tx.str
  obtain ⟨rfl,_⟩:=ty.str
  exact Yr pins s σ H _ _ v u Q I rx ry ⟨_,_,rfl,rfl,po _ F H sb .refl (.bl _)⟩
noncomputable def gtD:D->D->Out D:=xm fun i j=>.ok (.bl (decide (j < i)))
theorem qfU:OpD X C .sh (compareOp .Gt) gtD:=Vc qfF fun _ _ _=>.bl _
noncomputable def geD:D->D->Out D:=xm fun i j=>.ok (.bl (decide (j<=i)))
theorem qfV:OpD X C .sh (compareOp .GtE) geD:=Vc qfG fun _ _ _=>.bl _
noncomputable def ZT:D->D->Out D
 | .non,.non=>.ok (.bl true)
 | .raw _,.non=>.bad
 | _,.non=>.ok (.bl false)
 | _,_=>.bad
noncomputable def qbr:D->D->Out D
 | .non,.non=>.ok (.bl false)
 | .raw _,.non=>.bad
 | _,.non=>.ok (.bl true)
 | _,_=>.bad
theorem TopIs.notN {K:Frag} {F H:Hp} {v:V} {d:D} (h:TopIs K F H v d) (h1:d≠.non) (h2:∀ u,d≠.raw u):v≠.non:=by
 rintro rfl
 rcases h with h | ⟨a,e,_⟩
 ·cases h
  ·exact h1 rfl
  ·exact h2 _ rfl
 ·cases e
theorem JP:OpD X C .sh (compareOp .Is) ZT:=by
 intro pins s σ H x y v u Q I rx ry h
 obtain ⟨F,dx,dy,sb,tx,ty,po⟩:=h
 have hy:dy=.non:=by cases dy <;> first | rfl | (cases dx <;> exact po.elim)
 subst hy
 obtain rfl:=ty.non
 refine qdc pins s σ H x .non v u Q I rx ry ⟨rfl,?_⟩
 cases dx with
 | non=>obtain rfl:=tx.non; exact po _ F H sb .refl (.bl _)
 | raw _=>exact po.elim
 | _=>rw [decide_eq_false (tx.notN (by intro z; cases z) (by intro _ z; cases z))]; exact po _ F H sb .refl (.bl _)
theorem qbs:OpD X C .sh (compareOp .IsNot) qbr:=by
 intro pins s σ H x y v u Q I rx ry h
 obtain ⟨F,dx,dy,sb,tx,ty,po⟩:=h
 have hy:dy=.non:=by cases dy <;> first | rfl | (cases dx <;> exact po.elim)
 subst hy
 obtain rfl:=ty.non
 refine qa5 pins s σ H x .non v u Q I rx ry ⟨rfl,?_⟩
 cases dx with
 | non=>obtain rfl:=tx.non; exact po _ F H sb .refl (.bl _)
 | raw _=>exact po.elim
 | _=>rw [decide_eq_false (tx.notN (by intro z; cases z) (by intro _ z; cases z))]; exact po _ F H sb .refl (.bl _)
end
inductive Fl where
 | nx | rt (d:D) | bk | ct
structure Nx (C:Ct) (own own':List Nat) (σ:St) (F H:Hp) (ρ':Sl) (σ':St) (F' H':Hp):Prop where
 rep:Rep C.K own' F' H' σ' ρ'
 chg:Chg (OA own σ) F H F' H'
 oa:∀ b,OA own' σ' b->OA own σ b\/H b=none
 io:∀ i∈C.io,σ'[i]?=σ[i]?
def PoS (C:Ct) (own own':List Nat) (σ:St) (F H:Hp) (r:Out (Fl×Sl)) (D:Ends):Prop:=match r with
 | .ok (.nx,ρ')=>∀ σ' F' H',Nx C own own' σ F H ρ' σ' F' H'->D.nx σ' H'
 | .ok (.rt d,ρ')=>∀ v σ' F' H',Same F' H'->Zr C.K C.io F' H' σ' ρ'->Chg (OA own σ) F H F' H'->(∀ i∈C.io,σ'[i]?=σ[i]?)->MoIs C.K C.mr H F' H' v d->D.rt v H'
 | .ok (.bk,ρ')=>∀ σ' F' H',Nx C own C.ol σ F H ρ' σ' F' H'->D.bk σ' H'
 | .ok (.ct,ρ')=>∀ σ' F' H',Nx C own C.ol σ F H ρ' σ' F' H'->D.ct σ' H'
 | .exc c ρ'=>∀ F' H',Same F' H'->Zr C.K C.ox F' H' σ ρ'->Chg (OA own σ) F H F' H'->C.E (C.cv c) none H'
 | .bad=>False
def tSt (C:Ct) (own own':List Nat) (f:Sl->Out (Fl×Sl)):TS:=fun D σ H=>∃ F ρ,Rep C.K own F H σ ρ/\PoS C own own' σ F H (f ρ) D
theorem Nx.then {C:Ct} {o1 o2 o3:List Nat} {σ σ1 σ2:St} {F H F1 H1 F2 H2:Hp} {ρ1 ρ2:Sl} (a:Nx C o1 o2 σ F H ρ1 σ1 F1 H1) (b:Nx C o2 o3 σ1 F1 H1 ρ2 σ2 F2 H2):Nx C o1 o3 σ F H ρ2 σ2 F2 H2 where
 rep:=b.rep
 chg:=a.chg.trans b.chg a.oa
 oa:=fun x h=>by
  rcases b.oa x h with z | z
  ·exact a.oa x z
  ·refine .inr ?_
   cases q:H x with
   | none=>rfl
   | some o=>exact absurd z (a.chg.stay x (by rw [q]; simp))
 io:=fun i hi=>(b.io i hi).trans (a.io i hi)
theorem PoS.shift {C:Ct} {o1 o2 o3:List Nat} {σ σ1:St} {F H F1 H1:Hp} {ρ1:Sl} {r:Out (Fl×Sl)} {D:Ends} (h:PoS C o1 o3 σ F H r D) (a:Nx C o1 o2 σ F H ρ1 σ1 F1 H1):PoS C o2 o3 σ1 F1 H1 r D:=by
 cases r with
 | ok p=>
  obtain ⟨fl,ρ'⟩:=p
  cases fl with
  | nx=>exact fun σ' F' H' n=>h σ' F' H' (a.then n)
  | rt d=>exact fun v σ' F' H' s io c e mo=>h v σ' F' H' s io (a.chg.trans c a.oa) (fun i hi=>(e i hi).trans (a.io i hi)) (MoIs.back (Ha:=H1) a.chg mo)
  | bk=>exact fun σ' F' H' n=>h σ' F' H' (a.then n)
  | ct=>exact fun σ' F' H' n=>h σ' F' H' (a.then n)
 | exc c=>exact fun F' H' s io c'=>h F' H' s (fun i hi=>by
   obtain ⟨d,b,e1,e2,e3⟩:=io i hi
   exact ⟨d,b,e1,by rw [<-a.io i (C.oxs i hi)]; exact e2,e3⟩) (a.chg.trans c' a.oa)
 | bad=>exact h.elim
theorem Nx.ofE {C:Ct} {own:List Nat} {σ:St} {F H F1 H1:Hp} {ρ1:Sl} (r:Rep C.K own F1 H1 σ ρ1) (c:Chg (OA own σ) F H F1 H1):Nx C own own σ F H ρ1 σ F1 H1:=⟨r,c,fun _ h=>.inl h,fun _ _=>rfl⟩
theorem PoS.bindE {C:Ct} {own own':List Nat} {m:Mo} {σ:St} {F H:Hp} {o:Out (D×Sl)} {k:D×Sl->Out (Fl×Sl)} {D:Ends} {R:VK} (hp:PoS C own own' σ F H (o.bind k) D)
  (h:∀ v F1 H1 d ρ1,Rep C.K own F1 H1 σ ρ1->Chg (OA own σ) F H F1 H1->MoIs C.K m H F1 H1 v d->PoS C own own' σ F1 H1 (k (d,ρ1)) D->R v H1):Po C own m σ F H o R:=by
 cases o with
 | ok p=>
  obtain ⟨d,ρ1⟩:=p
  exact fun v F1 H1 rp c mo=>h v F1 H1 d ρ1 rp c mo (PoS.shift (show PoS C own own' σ F H (k (d,ρ1)) D from hp) (.ofE rp c))
 | exc x=>exact hp
 | bad=>exact hp.elim
theorem PoS.bindT {C:Ct} {own own':List Nat} {σ:St} {F H:Hp} {o:Out (Bool×Sl)} {k:Bool×Sl->Out (Fl×Sl)} {D:Ends} {R:Bool->Hp->Prop} (hp:PoS C own own' σ F H (o.bind k) D)
  (h:∀ F1 H1 b ρ1,Rep C.K own F1 H1 σ ρ1->Chg (OA own σ) F H F1 H1->PoS C own own' σ F1 H1 (k (b,ρ1)) D->R b H1):PoT C own σ F H o R:=by
 cases o with
 | ok p=>
  obtain ⟨d,ρ1⟩:=p
  exact fun F1 H1 rp c=>h F1 H1 d ρ1 rp c (PoS.shift (show PoS C own own' σ F H (k (d,ρ1)) D from hp) (.ofE rp c))
 | exc x=>exact hp
 | bad=>exact hp.elim
section
variable {X:Cx} {C:Ct} {own own' o1 o2 o3:List Nat} {e:Expr} {st:Stmt} {sts rest:List Stmt} {f g:Sl->Out (Fl×Sl)} {fe:Sl->Out (D×Sl)} {ft:Sl->Out (Bool×Sl)} {m:Mo} {pos:Pos}
theorem JQ {t t':TS} (h:PS X st t) (i:∀ D σ H,t' D σ H->t D σ H):PS X st t':=⟨fun pins s σ H D I hw=>h pins s σ H D I (i D σ H hw)⟩
theorem Ys {t t':TS} (h:PSs X sts t) (i:∀ D σ H,t' D σ H->t D σ H):PSs X sts t':=⟨fun pins s σ H D I hw=>h pins s σ H D I (i D σ H hw)⟩
noncomputable def jm:Sl->Out (Fl×Sl):=fun ρ=>.ok (.nx,ρ)
noncomputable def qS (f g:Sl->Out (Fl×Sl)):Sl->Out (Fl×Sl):=fun ρ=>(f ρ).bind fun p=>match p.1 with
 | .nx=>g p.2
 | fl=>.ok (fl,p.2)
theorem Nx.refl {σ:St} {F H:Hp} {ρ:Sl} (r:Rep C.K own F H σ ρ):Nx C own own σ F H ρ σ F H:=.ofE r .refl
theorem qJ:PSs X [] (tSt C own own jm):=Ys qa0 fun D σ H ⟨F,ρ,rp,h⟩=>h σ F H (.refl rp)
theorem qdv {D:Ends} {σ:St} {H:Hp} (h:tSt C o1 o3 (qS f g) D σ H):tSt C o1 o2 f { D with nx:=tSt C o2 o3 g D } σ H:=by
 obtain ⟨F,ρ,rp,h⟩:=h
 refine ⟨F,ρ,rp,?_⟩
 unfold qS at h
 cases q:f ρ with
 | ok p=>
  rw [q] at h
  obtain ⟨fl,ρ1⟩:=p
  cases fl with
  | nx=>exact fun σ' F' H' n=>⟨F',ρ1,n.rep,PoS.shift (show PoS C o1 o3 σ F H (g ρ1) D from h) n⟩
  | rt d=>exact h
  | bk=>exact h
  | ct=>exact h
 | exc c=>rw [q] at h; exact h
 | bad=>rw [q] at h; exact h.elim
theorem qg (h1:PS X st (tSt C o1 o2 f)) (h2:PSs X rest (tSt C o2 o3 g)):PSs X (st::rest) (tSt C o1 o3 (qS f g)):=Ys (Zw h1 h2) fun D σ H h=>qdv h
theorem ql (h1:PS X st (tSt C o1 o2 f)):PSs X [st] (tSt C o1 o2 f):=qa1 h1
theorem Rep.weak {K:Frag} {F H:Hp} {σ:St} {ρ:Sl}:∀ (drop:List Nat) {own own':List Nat},(∀ i,i∈own'↔i∈own/\i∉drop)->Rep K own F H σ ρ->∃ F',Rep K own' F' H σ ρ/\Chg (OA own σ) F H F' H
 | [],own,own',hs,rp=>⟨F,⟨rp.sub,rp.len,fun i d hi=>rp.val i d fun z=>hi ((hs i).mpr ⟨z,by simp⟩),fun i d hi=>rp.ow i d ((hs i).mp hi).1,fun i hi=>rp.opn i ((hs i).mp hi).1,fun i j a hi hj=>rp.dis i j a ((hs i).mp hi).1 ((hs j).mp hj).1⟩,.refl⟩
 | k::r,own,own',hs,rp=>by
  obtain ⟨F1,rp1,c1⟩:=Rep.weak r (own:=own) (own':=own.filter fun i=>decide (i∉r)) (fun i=>by simp) rp
  by_cases hk:k∈own/\k∉r
  ·obtain ⟨d,hd⟩:=rp1.opn k (by simp [hk.1,hk.2])
   obtain ⟨a,h1,h2,h3⟩:=rp1.ow k d (by simp [hk.1,hk.2]) hd
   obtain ⟨u,hu⟩:∃ u,H a=some u:=by
    cases q:H a with
    | none=>exact absurd q h3.there
    | some u=>exact ⟨u,rfl⟩
   have gr:Same F1 (upd F1 a u):=fun b w e=>by rw [qA (qF e h2)]; exact e
   refine ⟨upd F1 a u,⟨fun b w e=>?_,rp1.len,fun i d' hi e=>?_,fun i d' hi e=>?_,fun i hi=>?_,fun i j b hi hj=>?_⟩,?_⟩
   ·by_cases q:b=a
    ·subst q; rw [qp] at e; cases e; exact hu
    ·rw [qA q] at e; exact rp1.sub b w e
   ·by_cases q:i=k
    ·subst q
     rw [hd] at e; cases e
     refine ⟨_,h1,?_⟩
     cases d with
     | lst ds=>obtain ⟨xs,e,t⟩:=h3; rw [hu] at e; cases e; exact .lst (.inl (.inl qp)) (t.mono gr)
     | dct ds=>obtain ⟨xs,e,t⟩:=h3; rw [hu] at e; cases e; exact .dct qp (t.mono gr)
     | ins C fs=>obtain ⟨dx,xs,e,t⟩:=h3; rw [hu] at e; cases e; exact .ins qp (t.mono gr)
     | at_ b ds=>obtain ⟨eb,xs,e,t⟩:=h3; rw [hu] at e; cases e; subst eb; exact .at_ (.inl (.inl qp)) (t.mono gr)
     | _=>exact h3.elim
    ·obtain ⟨v,q1,q2⟩:=rp1.val i d' (fun z=>by simp at z; exact hi ((hs i).mpr ⟨z.1,by simp [q,z.2]⟩)) e
     exact ⟨v,q1,q2.mono gr⟩
   ·have hi':=(hs i).mp hi
    have hik:i≠k:=fun z=>hi'.2 (by simp [z])
    have hir:i∉r:=fun z=>hi'.2 (by simp [z])
    obtain ⟨b,q1,q2,q3⟩:=rp1.ow i d' (by simp [hi'.1,hir]) e
    refine ⟨b,q1,?_,q3.grow gr fun _ z=>z⟩
    have nb:b≠a:=fun z=>by subst z; exact hik (rp1.dis i k b (by simp [hi'.1,hir]) (by simp [hk.1,hk.2]) q1 h1)
    rw [qA nb]; exact q2
   ·have hi':=(hs i).mp hi
    exact rp1.opn i (by simp [hi'.1]; exact fun z=>hi'.2 (by simp [z]))
   ·have hi':=(hs i).mp hi
    have hj':=(hs j).mp hj
    exact rp1.dis i j b (by simp [hi'.1]; exact fun z=>hi'.2 (by simp [z])) (by simp [hj'.1]; exact fun z=>hj'.2 (by simp [z]))
   ·refine ⟨c1.keep,c1.stay,c1.grow.trans gr,fun b hb=>?_⟩
    by_cases q:b=a
    ·exact .inr (.inr ⟨k,hk.1,by rw [q]; exact h1⟩)
    ·rw [qA q] at hb; exact c1.new b hb
  ·refine ⟨F1,⟨rp1.sub,rp1.len,fun i d hi=>rp1.val i d fun z=>?_,fun i d hi=>rp1.ow i d ?_,fun i hi=>rp1.opn i ?_,fun i j a hi hj=>rp1.dis i j a ?_ ?_⟩,c1⟩
   ·simp at z
    refine hi ((hs i).mpr ⟨z.1,?_⟩)
    simp only [List.mem_cons,not_or]
    exact ⟨fun q=>hk (by subst q; exact z),z.2⟩
   all_goals
    first
     | (have q:=(hs _).mp hi; simp only [List.mem_filter,decide_eq_true_eq]; exact ⟨q.1,fun z=>q.2 (by simp [z])⟩)
     | (have q:=(hs _).mp hj; simp only [List.mem_filter,decide_eq_true_eq]; exact ⟨q.1,fun z=>q.2 (by simp [z])⟩)
theorem OA.sub {σ:St} (h:∀ i∈own',i∈own) {b:Addr} (q:OA own' σ b):OA own σ b:=let ⟨i,hi,e⟩:=q; ⟨i,h i hi,e⟩
theorem Nx.drop {σ:St} {F H:Hp} {ρ:Sl} (drop:List Nat) (hs:∀ i,i∈own'↔i∈own/\i∉drop) (rp:Rep C.K own F H σ ρ):∃ F',Nx C own own' σ F H ρ σ F' H:=by
 obtain ⟨F',rp',c⟩:=Rep.weak drop hs rp
 exact ⟨F',rp',c,fun b q=>.inl (OA.sub (fun i hi=>((hs i).mp hi).1) q),fun _ _=>rfl⟩
noncomputable def wA (own drop:List Nat):List Nat:=own.filter fun i=>decide (i∉drop)
theorem qX {own drop:List Nat} (i:Nat):i∈wA own drop↔i∈own/\i∉drop:=by simp [wA]
theorem kB (drop:List Nat) (h:PSs X sts (tSt C (wA own drop) o2 f)):PSs X sts (tSt C own o2 f):=Ys h fun D σ H ⟨F,ρ,rp,h⟩=>by
 obtain ⟨F',n⟩:=Nx.drop (C:=C) drop (fun i=>qX (own:=own) i) rp
 exact ⟨F',ρ,n.rep,h.shift n⟩
noncomputable def sIf (ft:Sl->Out (Bool×Sl)) (f g:Sl->Out (Fl×Sl)):Sl->Out (Fl×Sl):=fun ρ=>(ft ρ).bind fun p=>if p.1=true then f p.2 else g p.2
theorem qY {c:Expr} {a b:List Stmt} (hc:PT X c (tT C own ft)) (ha:PSs X a (tSt C own own' f)) (hb:PSs X b (tSt C own own' g)):PS X (.If c a b pos) (tSt C own own' (sIf ft f g)):=by
 refine JQ (qfx hc ha hb) fun D σ H ⟨F,ρ,rp,h⟩=>⟨F,ρ,rp,PoS.bindT h fun F1 H1 k ρ1 rp1 c1 h1=>?_⟩
 cases k with
 | true=>exact ⟨F1,ρ1,rp1,h1⟩
 | false=>exact ⟨F1,ρ1,rp1,h1⟩
noncomputable def vC (fe:Sl->Out (D×Sl)):Sl->Out (Fl×Sl):=fun ρ=>(fe ρ).bind fun p=>.ok (.nx,p.2)
theorem jO (he:PE X e (tE C own m fe)) (hs:swapsWith e none pos.line X.env=pure false:=by rfl):PS X (.Expr e pos) (tSt C own own (vC fe)):=by
 refine JQ (qa2 he hs) fun D σ H ⟨F,ρ,rp,h⟩=>⟨F,ρ,rp,PoS.bindE h fun v F1 H1 d ρ1 rp1 c1 mo1 h1=>h1 σ F1 H1 (.refl rp1)⟩
noncomputable def jH (fe:Sl->Out (D×Sl)):Sl->Out (Fl×Sl):=fun ρ=>(fe ρ).bind fun p=>.ok (.rt p.1,p.2)
theorem qbt (he:PE X e (tE C own C.mr fe)) (hio:∀ i∈C.io,i∈own:=by exact zt rfl):PS X (.Return (some e) pos) (tSt C own own' (jH fe)):=by
 refine JQ (qc2 he) fun D σ H ⟨F,ρ,rp,h⟩=>⟨F,ρ,rp,?_⟩
 unfold jH at h
 cases q:fe ρ with
 | ok p=>
  rw [q] at h
  obtain ⟨d,ρ1⟩:=p
  exact fun v F1 H1 rp1 c1 mo1=>h v σ F1 H1 rp1.sub (rp1.ioIs hio) c1 (fun _ _=>rfl) mo1
 | exc c=>rw [q] at h; exact h
 | bad=>rw [q] at h; exact h.elim
theorem qm (he:PE X e (tE C own m fe)) (hm:m≠.any:=by decide) (hr:C.mr=.sh:=by rfl) (hio:∀ i∈C.io,i∈own:=by exact zt rfl):PS X (.Return (some e) pos) (tSt C own own' (jH fe)):=qbt (by rw [hr]; exact yk he hm) hio
theorem Rep.put {K:Frag} {F H:Hp} {σ:St} {ρ:Sl} {i:Nat} {v:V} {d:D} (rp:Rep K own F H σ ρ) (hi:i < ρ.length) (is:Is K F v d):Rep K (wA own [i]) F H (σ.set i (some v)) (ρ.set i (some d)) where
 sub:=rp.sub
 len:=by simp [rp.len]
 val:=fun j d' hj e=>by
  by_cases q:j=i
  ·subst q
   rw [List.getElem?_set_self hi] at e
   cases e
   exact ⟨v,List.getElem?_set_self (by rw [rp.len]; exact hi),is⟩
  ·rw [List.getElem?_set_ne (Ne.symm q)] at e
   obtain ⟨w,h1,h2⟩:=rp.val j d' (fun z=>hj ((qX j).mpr ⟨z,by simp [q]⟩)) e
   exact ⟨w,by rw [List.getElem?_set_ne (Ne.symm q)]; exact h1,h2⟩
 ow:=fun j d' hj e=>by
  have hj':=(qX j).mp hj
  have q:j≠i:=fun z=>hj'.2 (by simp [z])
  rw [List.getElem?_set_ne (Ne.symm q)] at e
  obtain ⟨a,h1,h2⟩:=rp.ow j d' hj'.1 e
  exact ⟨a,by rw [List.getElem?_set_ne (Ne.symm q)]; exact h1,h2⟩
 opn:=fun j hj=>by
  have hj':=(qX j).mp hj
  have q:j≠i:=fun z=>hj'.2 (by simp [z])
  obtain ⟨d',e⟩:=rp.opn j hj'.1
  exact ⟨d',by rw [List.getElem?_set_ne (Ne.symm q)]; exact e⟩
 dis:=fun j k a hj hk e1 e2=>by
  have hj':=(qX j).mp hj
  have hk':=(qX k).mp hk
  rw [List.getElem?_set_ne (fun z=>hj'.2 (by simp [z]))] at e1
  rw [List.getElem?_set_ne (fun z=>hk'.2 (by simp [z]))] at e2
  exact rp.dis j k a hj'.1 hk'.1 e1 e2
theorem OA.put {σ:St} {i:Nat} {v:V} {b:Addr} (h:OA (wA own [i]) (σ.set i (some v)) b):OA own σ b:=by
 obtain ⟨j,hj,e⟩:=h
 have hj':=(qX j).mp hj
 rw [List.getElem?_set_ne (fun z=>hj'.2 (by simp [z]))] at e
 exact ⟨j,hj'.1,e⟩
noncomputable def jL (i:Nat) (fe:Sl->Out (D×Sl)):Sl->Out (Fl×Sl):=fun ρ=>(fe ρ).bind fun p=>if i < p.2.length then .ok (.nx,p.2.set i (some p.1)) else .bad
theorem qE {i:Nat} {x:Str} {pos':Pos} (hN:X.N.Nodup) (hi:X.N[i]?=some x) (hx:Loc X.env.scope x) (he:PE X e (tE C own m fe)) (hm:m≠.any:=by decide) (hio:i∉C.io:=by exact VX rfl) (hs:swapsWith e (some (.Name x pos')) pos.line X.env=pure false:=by rfl)
  (hf:X.fn x=true\/X.env.scope.names.lookup x=some .local:=by first | exact .inl rfl | exact .inr rfl):PS X (.Assign [.Name x pos'] e pos) (tSt C own (wA own [i]) (jL i fe)):=by
 refine JQ (qag hN hi hx (yk he hm) hs hf) fun D σ H ⟨F,ρ,rp,h⟩=>⟨F,ρ,rp,PoS.bindE h fun v F1 H1 d ρ1 rp1 c1 mo1 h1=>?_⟩
 by_cases q:i < ρ1.length
 ·have h1:PoS C own (wA own [i]) σ F1 H1 (if i < ρ1.length then .ok (.nx,ρ1.set i (some d)) else .bad) D:=h1
  rw [if_pos q] at h1
  exact h1 _ F1 H1 ⟨rp1.put q mo1,.refl,fun b z=>.inl (OA.put z),fun j hj=>List.getElem?_set_ne fun z=>hio (by rw [z]; exact hj)⟩
 ·have h1:PoS C own (wA own [i]) σ F1 H1 (if i < ρ1.length then .ok (.nx,ρ1.set i (some d)) else .bad) D:=h1
  rw [if_neg q] at h1
  exact h1.elim
theorem Rep.putO {K:Frag} {F H:Hp} {σ:St} {ρ:Sl} {i:Nat} {a:Addr} {d:D} (rp:Rep K own F H σ ρ) (hi:i < ρ.length) (hF:F a=none) (nA:¬OA own σ a) (o:OwnIs K F H a d):Rep K (i::wA own [i]) F H (σ.set i (some (.ref a))) (ρ.set i (some d)) where
 sub:=rp.sub
 len:=by simp [rp.len]
 val:=fun j d' hj e=>by
  have q:j≠i:=fun z=>hj (by simp [z])
  rw [List.getElem?_set_ne (Ne.symm q)] at e
  obtain ⟨w,h1,h2⟩:=rp.val j d' (fun z=>hj (List.mem_cons_of_mem _ ((qX j).mpr ⟨z,by simp [q]⟩))) e
  exact ⟨w,by rw [List.getElem?_set_ne (Ne.symm q)]; exact h1,h2⟩
 ow:=fun j d' hj e=>by
  by_cases q:j=i
  ·subst q
   rw [List.getElem?_set_self hi] at e
   cases e
   exact ⟨a,List.getElem?_set_self (by rw [rp.len]; exact hi),hF,o⟩
  ·have hj':=(qX j).mp ((List.mem_cons.mp hj).resolve_left q)
   rw [List.getElem?_set_ne (Ne.symm q)] at e
   obtain ⟨b,h1,h2⟩:=rp.ow j d' hj'.1 e
   exact ⟨b,by rw [List.getElem?_set_ne (Ne.symm q)]; exact h1,h2⟩
 opn:=fun j hj=>by
  by_cases q:j=i
  ·subst q; exact ⟨d,List.getElem?_set_self hi⟩
  ·have hj':=(qX j).mp ((List.mem_cons.mp hj).resolve_left q)
   obtain ⟨d',e⟩:=rp.opn j hj'.1
   exact ⟨d',by rw [List.getElem?_set_ne (Ne.symm q)]; exact e⟩
 dis:=fun j k b hj hk e1 e2=>by
  have iσ:i < σ.length:=by rw [rp.len]; exact hi
  by_cases qj:j=i
  ·by_cases qk:k=i
   ·rw [qj,qk]
   ·subst qj
    have hk':=(qX k).mp ((List.mem_cons.mp hk).resolve_left qk)
    rw [List.getElem?_set_self iσ] at e1
    cases e1
    rw [List.getElem?_set_ne (Ne.symm qk)] at e2
    exact absurd ⟨k,hk'.1,e2⟩ nA
  ·have hj':=(qX j).mp ((List.mem_cons.mp hj).resolve_left qj)
   by_cases qk:k=i
   ·subst qk
    rw [List.getElem?_set_self iσ] at e2
    cases e2
    rw [List.getElem?_set_ne (Ne.symm qj)] at e1
    exact absurd ⟨j,hj'.1,e1⟩ nA
   ·have hk':=(qX k).mp ((List.mem_cons.mp hk).resolve_left qk)
    rw [List.getElem?_set_ne (Ne.symm qj)] at e1
    rw [List.getElem?_set_ne (Ne.symm qk)] at e2
    exact rp.dis j k b hj'.1 hk'.1 e1 e2
theorem kn {i:Nat} {x:Str} {pos':Pos} (hN:X.N.Nodup) (hi:X.N[i]?=some x) (hx:Loc X.env.scope x) (he:PE X e (tE C own .fr fe)) (hio:i∉C.io:=by exact VX rfl) (hs:swapsWith e (some (.Name x pos')) pos.line X.env=pure false:=by rfl)
  (hf:X.fn x=true\/X.env.scope.names.lookup x=some .local:=by first | exact .inl rfl | exact .inr rfl):PS X (.Assign [.Name x pos'] e pos) (tSt C own (i::wA own [i]) (jL i fe)):=by
 refine JQ (qag hN hi hx he hs hf) fun D σ H ⟨F,ρ,rp,h⟩=>⟨F,ρ,rp,?_⟩
 unfold jL at h
 cases q:fe ρ with
 | ok p=>
  rw [q] at h
  obtain ⟨d,ρ1⟩:=p
  intro v F1 H1 rp1 c1 mo1
  obtain ⟨a,rfl,h0,hF,o⟩:=mo1
  by_cases z:i < ρ1.length
  ·have h1:PoS C own (i::wA own [i]) σ F H (if i < ρ1.length then .ok (.nx,ρ1.set i (some d)) else .bad) D:=h
   rw [if_pos z] at h1
   refine h1 _ F1 H1 ⟨rp1.putO z hF (fun y=>(rp.OA_there y).1 h0) o,c1,fun b y=>?_,fun j hj=>List.getElem?_set_ne fun y=>hio (by rw [y]; exact hj)⟩
   obtain ⟨j,hj,e⟩:=y
   by_cases qj:j=i
   ·subst qj
    rw [List.getElem?_set_self (by rw [rp1.len]; exact z)] at e
    cases e
    exact .inr h0
   ·have hj':=(qX j).mp ((List.mem_cons.mp hj).resolve_left qj)
    rw [List.getElem?_set_ne (Ne.symm qj)] at e
    exact .inl ⟨j,hj'.1,e⟩
  ·have h1:PoS C own (i::wA own [i]) σ F H (if i < ρ1.length then .ok (.nx,ρ1.set i (some d)) else .bad) D:=h
   rw [if_neg z] at h1
   exact h1.elim
 | exc c=>rw [q] at h; exact h
 | bad=>rw [q] at h; exact h.elim
end
inductive AK where
 | vl | sl (i:Nat) | fr
 deriving DecidableEq
def ArgV (K:Frag) (H0 F H:Hp) (σ:St):List AK->List V->List D->Prop
 | [],[],[]=>True
 | .vl::as,v::vs,d::ds=>Is K F v d/\ArgV K H0 F H σ as vs ds
 | .sl i::as,v::vs,d::ds=>σ[i]?=some (some v)/\d=.non/\ArgV K H0 F H σ as vs ds
 | .fr::as,v::vs,d::ds=>MoIs K .fr H0 F H v d/\ArgV K H0 F H σ as vs ds
 | _,_,_=>False
theorem ArgV.grow {K:Frag} {A:Addr->Prop} {H0 F H F' H':Hp} {σ:St} (c:Chg A F H F' H') (hA:∀ x,A x->H0 x≠none):∀ {as:List AK} {vs:List V} {ds:List D},ArgV K H0 F H σ as vs ds->ArgV K H0 F' H' σ as vs ds
 | [],[],[],h=>trivial
 | .vl::as,v::vs,d::ds,h=>⟨h.1.mono c.grow,ArgV.grow c hA h.2⟩
 | .sl i::as,v::vs,d::ds,h=>⟨h.1,h.2.1,ArgV.grow c hA h.2.2⟩
 | .fr::as,v::vs,d::ds,h=>⟨h.1.grow (by decide) c hA,ArgV.grow c hA h.2⟩
 | [],_::_,_,h=>h.elim
 | [],[],_::_,h=>h.elim
 | .vl::_,[],_,h=>h.elim
 | .vl::_,_::_,[],h=>h.elim
 | .sl _::_,[],_,h=>h.elim
 | .sl _::_,_::_,[],h=>h.elim
 | .fr::_,[],_,h=>h.elim
 | .fr::_,_::_,[],h=>h.elim
theorem ArgV.back {K:Frag} {A:Addr->Prop} {H0 H1 F0 F1 F H:Hp} {σ:St} (c:Chg A F0 H0 F1 H1):∀ {as:List AK} {vs:List V} {ds:List D},ArgV K H1 F H σ as vs ds->ArgV K H0 F H σ as vs ds
 | [],[],[],h=>trivial
 | .vl::as,v::vs,d::ds,h=>⟨h.1,ArgV.back c h.2⟩
 | .sl i::as,v::vs,d::ds,h=>⟨h.1,h.2.1,ArgV.back c h.2.2⟩
 | .fr::as,v::vs,d::ds,h=>⟨MoIs.back (Ha:=H1) c h.1,ArgV.back c h.2⟩
 | [],_::_,_,h=>h.elim
 | [],[],_::_,h=>h.elim
 | .vl::_,[],_,h=>h.elim
 | .vl::_,_::_,[],h=>h.elim
 | .sl _::_,[],_,h=>h.elim
 | .sl _::_,_::_,[],h=>h.elim
 | .fr::_,[],_,h=>h.elim
 | .fr::_,_::_,[],h=>h.elim
def PoA (C:Ct) (own:List Nat) (as:List AK) (σ:St) (F H:Hp) (r:Out (List D×Sl)) (Q:List V->Hp->Prop):Prop:=match r with
 | .ok (ds,ρ')=>∀ vs F' H',Rep C.K own F' H' σ ρ'->Chg (OA own σ) F H F' H'->ArgV C.K H F' H' σ as vs ds->Q vs H'
 | .exc c ρ'=>∀ F' H',Same F' H'->Zr C.K C.ox F' H' σ ρ'->Chg (OA own σ) F H F' H'->C.E (C.cv c) none H'
 | .bad=>False
def tAr (C:Ct) (own:List Nat) (as:List AK) (f:Sl->Out (List D×Sl)):TA:=fun σ H Q=>∃ F ρ,Rep C.K own F H σ ρ/\PoA C own as σ F H (f ρ) Q
theorem PoA.bindV {C:Ct} {own:List Nat} {as:List AK} {ma:Mo} {σ:St} {F H:Hp} {o:Out (D×Sl)} {k:D×Sl->Out (List D×Sl)} {Q:List V->Hp->Prop} {R:VK} (hp:PoA C own as σ F H (o.bind k) Q)
  (h:∀ v F1 H1 d ρ1,Rep C.K own F1 H1 σ ρ1->Chg (OA own σ) F H F1 H1->MoIs C.K ma H F1 H1 v d->PoA C own as σ F H (k (d,ρ1)) Q->R v H1):Po C own ma σ F H o R:=by
 cases o with
 | ok p=>
  obtain ⟨d,ρ1⟩:=p
  exact fun v F1 H1 rp c mo=>h v F1 H1 d ρ1 rp c mo hp
 | exc x=>exact hp
 | bad=>exact hp.elim
theorem Po.bindA {C:Ct} {own:List Nat} {as:List AK} {m:Mo} {σ:St} {F H:Hp} {o:Out (List D×Sl)} {k:List D×Sl->Out (D×Sl)} {Q:VK} {R:List V->Hp->Prop} (hp:Po C own m σ F H (o.bind k) Q)
  (h:∀ vs F1 H1 ds ρ1,Rep C.K own F1 H1 σ ρ1->Chg (OA own σ) F H F1 H1->ArgV C.K H F1 H1 σ as vs ds->Po C own m σ F1 H1 (k (ds,ρ1)) Q->R vs H1):PoA C own as σ F H o R:=by
 cases o with
 | ok p=>
  obtain ⟨d,ρ1⟩:=p
  exact fun vs F1 H1 rp c av=>h vs F1 H1 d ρ1 rp c av (Po.shift (show Po C own m σ F H (k (d,ρ1)) Q from hp) c)
 | exc x=>exact hp
 | bad=>exact hp.elim
noncomputable def qC:Sl->Out (List D×Sl):=fun ρ=>.ok ([],ρ)
noncomputable def qc (fe:Sl->Out (D×Sl)) (fr:Sl->Out (List D×Sl)):Sl->Out (List D×Sl):=fun ρ=>(fe ρ).bind fun p=>(fr p.2).bind fun q=>.ok (p.1::q.1,q.2)
noncomputable def kC (fr:Sl->Out (List D×Sl)):Sl->Out (List D×Sl):=fun ρ=>(fr ρ).bind fun q=>.ok (D.non::q.1,q.2)
section
variable {X:Cx} {C:Ct} {own:List Nat} {as:List AK} {e:Expr} {es:List Expr} {fe:Sl->Out (D×Sl)} {fr:Sl->Out (List D×Sl)} {m:Mo} {pos:Pos}
theorem qbu {t t':TA} (h:PA X es t) (i:∀ σ H Q,t' σ H Q->t σ H Q):PA X es t':=⟨fun pos pins s σ H Q I hw=>h pos pins s σ H Q I (i σ H Q hw)⟩
theorem qf:PA X [] (tAr C own [] qC):=qbu jQ fun σ H Q ⟨F,ρ,rp,h⟩=>h [] F H rp .refl trivial
theorem JR {σ:St} {F H F1 H1:Hp} {d:D} {ρ1:Sl} {a:AK} {Q:List V->Hp->Prop} {v:V} (rp:∀ x,OA own σ x->H x≠none) (rp1:Rep C.K own F1 H1 σ ρ1) (c1:Chg (OA own σ) F H F1 H1) (hp:PoA C own (a::as) σ F H ((fr ρ1).bind fun q=>.ok (d::q.1,q.2)) Q)
  (ha:∀ F2 H2 vs ds,Chg (OA own σ) F1 H1 F2 H2->ArgV C.K H F2 H2 σ as vs ds->ArgV C.K H F2 H2 σ (a::as) (v::vs) (d::ds)):tAr C own as fr σ H1 fun xs H2=>Q (v::xs) H2:=by
 refine ⟨F1,ρ1,rp1,?_⟩
 cases q:fr ρ1 with
 | ok p=>
  rw [q] at hp
  obtain ⟨ds,ρ2⟩:=p
  exact fun vs F2 H2 rp2 c2 av=>hp (v::vs) F2 H2 rp2 (c1.trans' c2) (ha F2 H2 vs ds c2 (ArgV.back c1 av))
 | exc c=>rw [q] at hp; exact fun F' H' s io c'=>hp F' H' s io (c1.trans' c')
 | bad=>rw [q] at hp; exact hp.elim
theorem qb (ha:PE X e (tE C own m fe)) (hr:PA X es (tAr C own as fr)) (hm:m≠.any:=by decide) (hs:starEach (e::es) X.env=(false,eval e X.env)::starEach es X.env:=by exact kP rfl):PA X (e::es) (tAr C own (.vl::as) (qc fe fr)):=by
 refine qbu (qW (yk ha hm) hr hs) fun σ H Q ⟨F,ρ,rp,h⟩=>⟨F,ρ,rp,PoA.bindV h fun v F1 H1 d ρ1 rp1 c1 mo1 h1=>?_⟩
 exact JR (fun x z=>(rp.OA_there z).1) rp1 c1 h1 fun F2 H2 vs ds c2 av=>⟨Is.mono c2.grow mo1,av⟩
theorem jl {i:Nat} {x:Str} {px:Pos} (hN:X.N[i]?=some x) (hv:Vis X.env.scope x) (ho:i∈own) (hr:PA X es (tAr C own as fr)) (hs:starEach (.Name x px::es) X.env=(false,eval (.Name x px) X.env)::starEach es X.env:=by rfl)
  (hd:(x == ("__debug__":Str))=false:=by decide) (hcd:(x == ("__classdict__":Str))=false:=by decide):PA X (.Name x px::es) (tAr C own (.sl i::as) (kC fr)):=by
 refine qbu (qW (uI hN hv hd hcd) hr hs) fun σ H Q ⟨F,ρ,rp,h⟩=>?_
 obtain ⟨d,hd⟩:=rp.opn i ho
 obtain ⟨a,h1,h2,h3⟩:=rp.ow i d ho hd
 exact ⟨_,h1,JR (fun x z=>(rp.OA_there z).1) rp .refl h fun F2 H2 vs ds c2 av=>⟨h1,rfl,av⟩⟩
theorem ArgV.isL {K:Frag} {H0 F H:Hp} {σ:St}:∀ {as:List AK} {vs:List V} {ds:List D},(as.all fun a=>decide (a=.vl))=true->ArgV K H0 F H σ as vs ds->IsL K F vs ds
 | [],[],[],_,_=>.nil
 | .vl::as,v::vs,d::ds,h,a=>.cons a.1 (ArgV.isL (by simpa using h) a.2)
 | .sl i::as,_,_,h,a=>by simp at h
 | .fr::as,_,_,h,a=>by simp at h
 | [],_::_,_,_,h=>h.elim
 | [],[],_::_,_,h=>h.elim
 | .vl::_,[],_,_,h=>h.elim
 | .vl::_,_::_,[],_,h=>h.elim
noncomputable def yL (fr:Sl->Out (List D×Sl)):Sl->Out (D×Sl):=fun ρ=>(fr ρ).bind fun p=>if p.1.length<=sizeLine then .ok (.tup p.1,p.2) else .bad
noncomputable def gC (fr:Sl->Out (List D×Sl)):Sl->Out (D×Sl):=fun ρ=>(fr ρ).bind fun p=>if p.1.length<=sizeLine then .ok (.lst p.1,p.2) else .bad
theorem qdw {σ:St} {F H:Hp} {ρ:Sl} {p:Addr} {u:HO} (rp:Rep C.K own F H σ ρ) (hp:H p=none):Rep C.K own (upd F p u) (upd H p u) σ ρ/\Chg No F H (upd F p u) (upd H p u):=by
 have hF:F p=none:=by
  cases q:F p with
  | none=>rfl
  | some o=>rw [rp.sub p o q] at hp; cases hp
 have c:Chg No F H (upd F p u) (upd H p u):=⟨fun b o e _=>by rw [qA (qF e hp)]; exact e,fun b e=>by
  by_cases q:b=p
  ·rw [q,qp]; simp
  ·rw [qA q]; exact e,fun b o e=>by rw [qA (qF e hF)]; exact e,fun b e=>by
  by_cases q:b=p
  ·exact .inr (.inl (by rw [q]; exact hp))
  ·rw [qA q] at e; exact .inl e⟩
 refine ⟨rp.grow c fun b o e=>?_,c⟩
 by_cases q:b=p
 ·subst q; rw [qp] at e ⊢; exact e
 ·rw [qA q] at e ⊢; exact rp.sub b o e
theorem Yt {σ:St} {F H:Hp} {ρ:Sl} {p:Addr} {u:HO} (rp:Rep C.K own F H σ ρ) (hp:H p=none):Rep C.K own F (upd H p u) σ ρ/\Chg No F H F (upd H p u)/\F p=none:=by
 have hF:F p=none:=by
  cases q:F p with
  | none=>rfl
  | some o=>rw [rp.sub p o q] at hp; cases hp
 have c:Chg No F H F (upd H p u):=⟨fun b o e _=>by rw [qA (qF e hp)]; exact e,fun b e=>by
  by_cases q:b=p
  ·rw [q,qp]; simp
  ·rw [qA q]; exact e,Same.refl _,fun b e=>.inl e⟩
 exact ⟨rp.grow c fun b o e=>by rw [qA (qF e hF)]; exact rp.sub b o e,c,hF⟩
theorem vd {x1} (h:PA X es (tAr C own as fr)) (ha:(as.all fun a=>decide (a=.vl))=true:=by decide):PE X (.Tuple es x1 pos) (tE C own .sh (yL fr)):=by
 refine jJ (qdf h) fun σ H Q ⟨F,ρ,rp,h⟩=>⟨F,ρ,rp,Po.bindA h fun vs F1 H1 ds ρ1 rp1 c1 av h1=>?_⟩
 have il:=av.isL ha
 have h1:Po C own .sh σ F1 H1 (if ds.length<=sizeLine then .ok (.tup ds,ρ1) else .bad) Q:=h1
 by_cases z:ds.length<=sizeLine
 ·rw [if_pos z] at h1
  refine ⟨by rw [il.length]; exact z,fun p hp=>?_⟩
  obtain ⟨rp2,c2⟩:=qdw (u:=.tup vs) rp1 hp
  exact h1 _ _ _ rp2 c2.ofNo (.tup (.inl (.inl qp)) (il.mono c2.grow))
 ·rw [if_neg z] at h1; exact h1.elim
theorem kS (h:PA X es (tAr C own as fr)) (ha:(as.all fun a=>decide (a=.vl))=true:=by decide):PE X (.List es pos) (tE C own .fr (gC fr)):=by
 refine jJ (qdg h) fun σ H Q ⟨F,ρ,rp,h⟩=>⟨F,ρ,rp,Po.bindA h fun vs F1 H1 ds ρ1 rp1 c1 av h1=>?_⟩
 have il:=av.isL ha
 have h1:Po C own .fr σ F1 H1 (if ds.length<=sizeLine then .ok (.lst ds,ρ1) else .bad) Q:=h1
 by_cases z:ds.length<=sizeLine
 ·rw [if_pos z] at h1
  refine ⟨by rw [il.length]; exact z,fun p hp=>?_⟩
  obtain ⟨rp2,c2,hF⟩:=Yt (u:=.lst vs) rp1 hp
  exact h1 _ _ _ rp2 c2.ofNo ⟨p,rfl,hp,hF,vs,qp,il⟩
 ·rw [if_neg z] at h1; exact h1.elim
theorem Qm:PE X (.Dict [] [] pos) (tE C own .fr (dC (.dct []))):=by
 refine jJ ZL fun σ H Q ⟨F,ρ,rp,h⟩ p hp=>?_
 obtain ⟨rp2,c2,hF⟩:=Yt (u:=.dK []) rp hp
 exact h _ _ _ rp2 c2.ofNo ⟨p,rfl,hp,hF,[],qp,.nil⟩
noncomputable def ixD:D->D->Out D
 | .lst xs,.int i=>match atI xs i with
  | some d=>.ok d
  | none=>.bad
 | .tup xs,.int i=>match atI xs i with
  | some d=>.ok d
  | none=>.bad
 | .str x,.int i=>match atI x.cps.toList i with
  | some c=>.ok (.str ⟨#[c]⟩)
  | none=>.bad
 | .dct kvs,.str x=>match (kvs.find? fun kv=>decide (kv.1=Sum.inr x)) with
  | some kv=>.ok kv.2
  | none=>.bad
 | .dct kvs,.int x=>match (kvs.find? fun kv=>decide (kv.1=Sum.inl x)) with
  | some kv=>.ok kv.2
  | none=>.bad
 | _,_=>.bad
theorem IsL.atI {K:Frag} {F:Hp} {vs:List V} {ds:List D} {i:Int} {d:D} (h:IsL K F vs ds) (e:L2.atI ds i=some d):∃ v,L2.atI vs i=some v/\Is K F v d:=by
 unfold L2.atI at e ⊢
 rw [h.length]
 cases q:ixN ds.length i with
 | none=>rw [q] at e; cases e
 | some j=>
  rw [q] at e
  exact h.getD e
theorem IsK.find {K:Frag} {F:Hp} {k:Key}:∀ {vs:List (Key×V)} {ds:List (Key×D)} {d:Key×D},IsK K F vs ds->(ds.find? fun kv=>decide (kv.1=k))=some d->∃ v,VW vs k=some v/\Is K F v d.2
 | _,_,_,.nil,e=>by simp at e
 | _,_,d,.cons (k:=k') (vs:=vs) h t,e=>by
  by_cases q:k'=k
  ·rw [List.find?_cons_of_pos (by simp [q])] at e
   cases e
   exact ⟨_,xX q,h⟩
  ·rw [List.find?_cons_of_neg (by simp [q])] at e
   obtain ⟨v,h1,h2⟩:=IsK.find t e
   exact ⟨v,by rw [xY q]; exact h1,h2⟩
theorem Wi (c:Nat):(⟨#[c]⟩:Str).length<=sizeLine:=by
 show 1<=sizeLine
 rw [sizeLine_eq]; decide
def qgJ (K:Frag):R2:=fun x y H Q=>rIx K x y H Q\/∃ a v,x=.ref a/\DGet H a y (some v)/\Q v H
theorem qak (hu:X.A.units+1 < cLine):IxR X (qgJ X.K):=by
 refine IxR.or qdk ?_
 intro value slice pins s σ H x y v u Q I rx ry h hs
 obtain ⟨a,w,rfl,g,q⟩:=h
 cases rx
 obtain ⟨T,ht⟩:∃ T,s.TypeIs (.ref a) T/\T = "dict":=⟨_,Vb I g,rfl⟩
 obtain ⟨ht,rfl⟩:=ht
 exact tail_any ht PySem.slot_dict_getitem.lookup (Ye hu I g ry fun w' s' I' r=>⟨w,H,I',r,q⟩) hs
end
section
variable {X:Cx} {C:Ct} {own:List Nat} {a b e:Expr} {f fa fb:Sl->Out (D×Sl)} {m ma mb:Mo} {pos:Pos}
theorem qal {σ:St} {F H:Hp} {x y:V} {dx dy:D} {Q:VK} (hK:C.K=X.K) (sb:Same F H) (tx:TopIs C.K F H x dx) (ty:TopIs C.K F H y dy) (po:PoV C .sh F H (ixD dx dy) Q):qgJ X.K x y H Q:=by
 rw [hK] at tx ty
 cases dx with
 | lst xs=>
  cases dy <;> try exact po.elim
  rename_i i
  obtain rfl:=ty.int
  obtain ⟨a,vs,rfl,p,t⟩:=tx.lst sb
  unfold ixD at po
  cases e:L2.atI xs i with
  | none=>simp only [e] at po; exact po.elim
  | some d=>
   simp only [e] at po
   obtain ⟨v,h1,h2⟩:=t.atI e
   exact .inl (.inl ⟨a,vs,i,v,rfl,rfl,p,h1,po v F H sb .refl (by rw [hK]; exact h2)⟩)
 | tup xs=>
  cases dy <;> try exact po.elim
  rename_i i
  obtain rfl:=ty.int
  obtain ⟨a,vs,rfl,p,t⟩:=tx.tup sb
  unfold ixD at po
  cases e:L2.atI xs i with
  | none=>simp only [e] at po; exact po.elim
  | some d=>
   simp only [e] at po
   obtain ⟨v,h1,h2⟩:=t.atI e
   exact .inl (.inr (.inl ⟨a,vs,i,v,rfl,rfl,p,h1,po v F H sb .refl (by rw [hK]; exact h2)⟩))
 | str z=>
  cases dy <;> try exact po.elim
  rename_i i
  obtain rfl:=ty.int
  obtain ⟨rfl,hz⟩:=tx.str
  unfold ixD at po
  cases e:L2.atI z.cps.toList i with
  | none=>simp only [e] at po; exact po.elim
  | some c=>
   simp only [e] at po
   exact .inl (.inr (.inr ⟨z,i,c,rfl,rfl,hz,e,po _ F H sb .refl (.str (Wi c))⟩))
 | dct kvs=>
  obtain ⟨a,kv,rfl,p,t⟩:=tx.dct sb
  cases dy with
  | int i=>
   obtain rfl:=ty.int
   unfold ixD at po
   cases e:(kvs.find? fun kv=>decide (kv.1=Sum.inl i)) with
   | none=>simp only [e] at po; exact po.elim
   | some d=>
    simp only [e] at po
    obtain ⟨v,h1,h2⟩:=t.find e
    exact .inr ⟨a,v,rfl,by rw [<-h1]; exact DGet.k (k:=Sum.inl i) p,po v F H sb .refl (by rw [hK]; exact h2)⟩
  | str z=>
   obtain ⟨rfl,_⟩:=ty.str
   unfold ixD at po
   cases e:(kvs.find? fun kv=>decide (kv.1=Sum.inr z)) with
   | none=>simp only [e] at po; exact po.elim
   | some d=>
    simp only [e] at po
    obtain ⟨v,h1,h2⟩:=t.find e
    exact .inr ⟨a,v,rfl,by rw [<-h1]; exact DGet.k (k:=Sum.inr z) p,po v F H sb .refl (by rw [hK]; exact h2)⟩
  | _=>exact po.elim
 | _=>exact po.elim
theorem jw (hK:C.K=X.K) (hu:X.A.units+64 < cLine) (ha:PE X a (tE C own ma fa)) (hb:PE X b (tE C own mb fb)) (hs:KZ b) (hma:ma≠.any:=by decide):PE X (.Subscript a b pos) (tE C own .sh (d2 ixD fa fb)):=by
 refine jJ (qdi (qak (by omega)) ha hb hs) fun σ H Q h=>?_
 obtain ⟨F,ρ,rp,h⟩:=JJ (mb:=mb) hma h
 refine ⟨F,ρ,rp,?_⟩
 cases q:fa ρ with
 | ok p=>
  rw [q] at h
  obtain ⟨d,ρ1⟩:=p
  intro v F1 H1 rp1 c1 mo1
  obtain ⟨F2,ρ2,rp2,h2⟩:=h v F1 H1 rp1 c1 mo1
  refine ⟨F2,ρ2,rp2,?_⟩
  cases q2:fb ρ2 with
  | ok p=>
   rw [q2] at h2
   obtain ⟨d',ρ3⟩:=p
   intro w F3 H3 rp3 c3 mo3
   obtain ⟨F4,dx,dy,sb,tx,ty,po⟩:=h2 w F3 H3 rp3 c3 mo3
   exact qal (σ:=σ) hK sb tx ty po
  | exc c=>rw [q2] at h2; exact h2
  | bad=>rw [q2] at h2; exact h2.elim
 | exc c=>rw [q] at h; exact h
 | bad=>rw [q] at h; exact h.elim
def Qn (X:Cx) (C:Ct) (m:Mo) (f:Value) (g:D->Out D):Prop:=uG X f (fun xs H Q=>∃ x F dx,xs=[x]/\Same F H/\TopIs C.K F H x dx/\PoV C m F H (g dx) Q)
theorem yN {σ:St} {H:Hp} {Q:VK} {g:D->Out D} (h:tE C own m (d1 g fa) σ H Q):ZF (tE C own ma fa) qfI σ H fun xs H1=>∃ x F dx,xs=[x]/\Same F H1/\TopIs C.K F H1 x dx/\PoV C m F H1 (g dx) Q:=by
 obtain ⟨F,ρ,rp,h⟩:=ZM (ma:=ma) h
 refine ⟨F,ρ,rp,?_⟩
 cases q:fa ρ with
 | ok p=>
  rw [q] at h
  obtain ⟨d,ρ1⟩:=p
  intro v F1 H1 rp1 c1 mo1
  obtain ⟨F2,dx,sb,tx,po⟩:=h v F1 H1 rp1 c1 mo1
  exact ⟨v,F2,dx,rfl,sb,tx,po⟩
 | exc c=>rw [q] at h; exact h
 | bad=>rw [q] at h; exact h.elim
theorem qD {x:Str} {id:String} {p:Pos} {g:D->Out D} (hc:Qn X C m (.builtin id) g) (hg:Gl X x) (hm:X.mg x=none) (hv:bootBuiltins x=some (.builtin id)) (ha:PE X e (tE C own ma fa)) (hn:x ≠ "__name__":=by decide) (hdb:(x == ("__debug__":Str))=false:=by decide)
  (he:starEach [e] X.env=[(false,eval e X.env)]:=by exact qQ rfl):PE X (.Call (.Name x p) [e] [] pos) (tE C own m (d1 g fa)):=
 jJ (yi hc hg hm hv (qW ha jQ he) hn hdb (by rw [he]; rfl) rfl) fun _ _ _ h=>yN h
theorem kt {x:Str} {T:String} {p:Pos} {g:D->Out D} (hc:Qn X C m (.type T) g) (hg:Gl X x) (hm:X.mg x=none) (hv:bootBuiltins x=some (.type T)) (ha:PE X e (tE C own ma fa)) (hn:x ≠ "__name__":=by decide) (hdb:(x == ("__debug__":Str))=false:=by decide)
  (he:starEach [e] X.env=[(false,eval e X.env)]:=by exact qQ rfl):PE X (.Call (.Name x p) [e] [] pos) (tE C own m (d1 g fa)):=
 jJ (wC hc hg hm hv (qW ha jQ he) hn hdb (by rw [he]; rfl) rfl) fun _ _ _ h=>yN h
noncomputable def ki:D->Out D
 | .str x=>.ok (.int x.length)
 | .lst xs=>.ok (.int xs.length)
 | .tup xs=>.ok (.int xs.length)
 | .dct xs=>.ok (.int xs.length)
 | _=>.bad
theorem IsK.length {K:Frag} {F:Hp}:∀ {vs:List (Key×V)} {ds:List (Key×D)},IsK K F vs ds->vs.length=ds.length
 | _,_,.nil=>rfl
 | _,_,.cons _ t=>congrArg (·+1) (IsK.length t)
theorem jM (hK:C.K=X.K):Qn X C .sh (.builtin "len") ki:=by
 intro pins s σ H xs us Q I r h
 obtain ⟨x,F,dx,rfl,sb,tx,po⟩:=h
 cases dx with
 | str z=>
  obtain ⟨rfl,hz⟩:=tx.str
  exact Qi pins s σ H _ us Q I r ⟨_,_,rfl,⟨hz,rfl⟩,po _ F H sb .refl (.int _)⟩
 | lst ds=>
  obtain ⟨a,vs,rfl,p,t⟩:=tx.lst sb
  exact Qi pins s σ H _ us Q I r ⟨_,ds.length,rfl,.inl ⟨vs,by rw [<-hK]; exact p,t.length.symm⟩,po _ F H sb .refl (.int _)⟩
 | tup ds=>
  obtain ⟨a,vs,rfl,p,t⟩:=tx.tup sb
  exact Qi pins s σ H _ us Q I r ⟨_,ds.length,rfl,.inr ⟨vs,by rw [<-hK]; exact p,t.length.symm⟩,po _ F H sb .refl (.int _)⟩
 | dct ds=>
  obtain ⟨a,vs,rfl,p,t⟩:=tx.dct sb
  refine Yj pins s σ H _ us Q I r ⟨a,vs,rfl,p,?_⟩
  rw [t.length]
  exact po _ F H sb .refl (.int _)
 | _=>exact po.elim
noncomputable def kz:D->D->Out D
 | .int i,.int j=>.ok (.int (i+j))
 | .str x,.str y=>if x.length+y.length<=sizeLine then .ok (.str (x++y)) else .bad
 | .lst xs,.lst ys=>if xs.length+ys.length<=sizeLine then .ok (.lst (xs++ys)) else .bad
 | .tup xs,.tup ys=>if xs.length+ys.length<=sizeLine then .ok (.tup (xs++ys)) else .bad
 | _,_=>.bad
theorem yO {F H:Hp} {p:Addr} {u:HO} (sb:Same F H) (hp:H p=none):Same (upd F p u) (upd H p u)/\Chg No F H (upd F p u) (upd H p u):=by
 have hF:F p=none:=by
  cases q:F p with
  | none=>rfl
  | some o=>rw [sb p o q] at hp; cases hp
 refine ⟨fun b o e=>?_,⟨fun b o e _=>by rw [qA (qF e hp)]; exact e,fun b e=>?_,fun b o e=>by rw [qA (qF e hF)]; exact e,fun b e=>?_⟩⟩
 ·by_cases q:b=p
  ·subst q; rw [qp] at e ⊢; exact e
  ·rw [qA q] at e ⊢; exact sb b o e
 ·by_cases q:b=p
  ·rw [q,qp]; simp
  ·rw [qA q]; exact e
 ·by_cases q:b=p
  ·exact .inr (.inl (by rw [q]; exact hp))
  ·rw [qA q] at e; exact .inl e
theorem vD {F H:Hp} {p:Addr} {u:HO} (sb:Same F H) (hp:H p=none):Same F (upd H p u)/\Chg No F H F (upd H p u)/\F p=none:=by
 have hF:F p=none:=by
  cases q:F p with
  | none=>rfl
  | some o=>rw [sb p o q] at hp; cases hp
 refine ⟨fun b o e=>by rw [qA (qF e hF)]; exact sb b o e,⟨fun b o e _=>by rw [qA (qF e hp)]; exact e,fun b e=>?_,Same.refl _,fun b e=>.inl e⟩,hF⟩
 by_cases q:b=p
 ·rw [q,qp]; simp
 ·rw [qA q]; exact e
theorem Vf (x y:Str):(x++y).length=x.length+y.length:=by
 show (x.cps++y.cps).size=_
 simp [Str.length]
theorem qbv:OpR X (binaryOp .Add) (fun x y H Q=>∃ l b xs zs,x=.ref l/\y=.ref b/\SqL X.K H l xs/\SqL X.K H b zs/\xs.length+zs.length<=sizeLine/\∀ p,H p=none->Q (.ref p) (upd H p (.lst (xs++zs)))):=by
 intro pins s σ H x y v u Q I rx ry h
 obtain ⟨l,b,xs,zs,rfl,rfl,h1,h2,hz,q⟩:=h
 cases rx
 cases ry
 obtain ⟨its,r1,p1,_⟩:=I.list h1
 obtain ⟨its2,r2,p2,_⟩:=I.list h2
 obtain ⟨⟨cls,dd,data,sl⟩,ho,hc,n,hd⟩:=id p1.isList
 obtain ⟨⟨cls2,dd2,data2,sl2⟩,ho2,hc2,n2,hd2⟩:=id p2.isList
 simp only at hc hd hc2 hd2
 subst hc hd hc2 hd2
 have hl1:=r1.length
 have hl2:=r2.length
 refine concat_meets ⟨_,ho,rfl⟩ ⟨_,ho2,rfl⟩ noFill_list_add seq_list_add PySem.F.slot_list_add PySem.F.entry_list_add (PySem.F.args_list_add_2 _ _)
  (list_addW l b its.toArray its2.toArray n n2 dd dd2 sl sl2 (by simp only [List.size_toArray]; omega)) ⟨ho,ho2,?_⟩
 have ea:its.toArray++its2.toArray=(its++its2).toArray:=by simp
 rw [ea]
 exact ⟨.ref _,_,I.lnew (t':=s.toks) (r1.append r2) (by rw [List.length_append]; exact hz),rfl,q _ I.fresh⟩
theorem qbw:OpR X (binaryOp .Add) (fun x y H Q=>∃ a b ys,x=.ref a/\y=.ref b/\SqT X.K H a []/\SqT X.K H b ys/\Q (.ref b) H):=by
 intro pins s σ H x y v u Q I rx ry h
 obtain ⟨a,b,ys,rfl,rfl,h1,h2,q⟩:=h
 cases rx
 cases ry
 obtain ⟨its,r1,p1,_⟩:=I.tuple h1
 obtain ⟨its2,r2,p2,_⟩:=I.tuple h2
 cases r1
 obtain ⟨⟨cls,dd,data,sl⟩,ho,hc,n,hd⟩:=id p1
 obtain ⟨⟨cls2,dd2,data2,sl2⟩,ho2,hc2,n2,hd2⟩:=id p2
 simp only at hc hd hc2 hd2
 subst hc hd hc2 hd2
 exact concat_meets ⟨_,ho,rfl⟩ ⟨_,ho2,rfl⟩ noFill_tuple_add seq_tuple_add PySem.F.slot_tuple_add PySem.F.entry_tuple_add (PySem.F.args_tuple_add_2 _ _)
  (tuple_addW0 a b _ _ n n2 dd dd2 sl sl2 rfl) ⟨ho,ho2,⟨.ref b,H,I,rfl,q⟩⟩
theorem jR (hK:C.K=X.K):OpD X C .sh (binaryOp .Add) kz:=by
 intro pins s σ H x y v u Q I rx ry h
 obtain ⟨F,dx,dy,sb,tx,ty,po⟩:=h
 cases dx with
 | int i=>
  cases dy <;> try exact po.elim
  obtain rfl:=tx.int
  obtain rfl:=ty.int
  exact qc7 pins s σ H _ _ v u Q I rx ry ⟨_,_,rfl,rfl,po _ F H sb .refl (.int _)⟩
 | str a=>
  cases dy <;> try exact po.elim
  rename_i b
  obtain ⟨rfl,_⟩:=tx.str
  obtain ⟨rfl,_⟩:=ty.str
  have po:PoV C .sh F H (if a.length+b.length<=sizeLine then .ok (.str (a++b)) else .bad) Q:=po
  by_cases z:a.length+b.length<=sizeLine
  ·rw [if_pos z] at po
   exact Ud pins s σ H _ _ v u Q I rx ry ⟨_,_,rfl,rfl,z,po _ F H sb .refl (.str (by rw [Vf]; exact z))⟩
  ·rw [if_neg z] at po; exact po.elim
 | lst xs=>
  cases dy <;> try exact po.elim
  rename_i ys
  obtain ⟨a,vs,rfl,p1,t1⟩:=tx.lst sb
  obtain ⟨b,ws,rfl,p2,t2⟩:=ty.lst sb
  have po:PoV C .sh F H (if xs.length+ys.length<=sizeLine then .ok (.lst (xs++ys)) else .bad) Q:=po
  by_cases z:xs.length+ys.length<=sizeLine
  ·rw [if_pos z] at po
   refine qbv pins s σ H _ _ v u Q I rx ry ⟨a,b,vs,ws,rfl,rfl,by rw [<-hK]; exact p1,by rw [<-hK]; exact p2,by rw [t1.length,t2.length]; exact z,fun p hp=>?_⟩
   obtain ⟨s2,c2⟩:=yO (u:=.lst (vs++ws)) sb hp
   exact po _ _ _ s2 c2 (.lst (.inl (.inl qp)) ((t1.append t2).mono c2.grow))
  ·rw [if_neg z] at po; exact po.elim
 | tup xs=>
  cases dy <;> try exact po.elim
  rename_i ys
  obtain ⟨a,vs,rfl,p1,t1⟩:=tx.tup sb
  obtain ⟨b,ws,rfl,p2,t2⟩:=ty.tup sb
  have po:PoV C .sh F H (if xs.length+ys.length<=sizeLine then .ok (.tup (xs++ys)) else .bad) Q:=po
  by_cases z:xs.length+ys.length<=sizeLine
  ·rw [if_pos z] at po
   cases vs with
   | nil=>
    cases t1
    rcases ty with ty | ⟨_,_,ty⟩
    ·exact qbw pins s σ H _ _ v u Q I rx ry ⟨a,b,ws,rfl,rfl,by rw [<-hK]; exact p1,by rw [<-hK]; exact p2,po _ F H sb .refl ty⟩
    ·exact ty.elim
   | cons v0 vs=>
    refine qbf pins s σ H _ _ v u Q I rx ry ⟨a,b,v0::vs,ws,rfl,rfl,by rw [<-hK]; exact p1,by rw [<-hK]; exact p2,by simp,by rw [t1.length,t2.length]; exact z,fun e=>?_,fun e p hp=>?_⟩
    ·subst e
     cases t2
     rcases tx with tx | ⟨_,_,tx⟩
     ·refine po _ F H sb .refl ?_
      rw [List.append_nil]
      exact tx
     ·exact tx.elim
    ·obtain ⟨s2,c2⟩:=yO (u:=.tup (v0::vs++ws)) sb hp
     exact po _ _ _ s2 c2 (.tup (.inl (.inl qp)) ((t1.append t2).mono c2.grow))
  ·rw [if_neg z] at po; exact po.elim
 | _=>exact po.elim
end
inductive PM where
 | val | io | tk
 deriving DecidableEq
noncomputable def xK:List PM->List V->List Addr
 | .val::ms,_::vs=>xK ms vs
 | .io::ms,.ref a::vs=>a::xK ms vs
 | .tk::ms,.ref a::vs=>a::xK ms vs
 | _::ms,_::vs=>xK ms vs
 | _,_=>[]
def ArgsIs (K:Frag) (F H:Hp):List PM->List V->List D->Prop
 | [],[],[]=>True
 | .val::ms,v::vs,d::ds=>Is K F v d/\ArgsIs K F H ms vs ds
 | .io::ms,v::vs,d::ds=>(∃ a,v=.ref a/\F a=none/\OwnIs K F H a d)/\ArgsIs K F H ms vs ds
 | .tk::ms,v::vs,d::ds=>(∃ a,v=.ref a/\F a=none/\OwnIs K F H a d)/\ArgsIs K F H ms vs ds
 | _,_,_=>False
def yn (K:Frag) (F H:Hp):List PM->List V->List D->Prop
 | [],_,_=>True
 | .io::ms,v::vs,d::ds=>(∃ a,v=.ref a/\F a=none/\OwnIs K F H a d)/\yn K F H ms vs ds
 | _::ms,_::vs,_::ds=>yn K F H ms vs ds
 | _,_,_=>False
abbrev LA (ms:List PM) (vs:List V):Addr->Prop:=fun b=>b∈xK ms vs
def PoG (K:Frag) (cv:Str->Value) (ms:List PM) (mr:Mo) (vs:List V) (F H:Hp) (Q:VK) (E:XK) (o:Out (D×List D)):Prop:=match o with
 | .ok (d,outs)=>∀ v F' H',Same F' H'->Chg (LA ms vs) F H F' H'->yn K F' H' ms vs outs->MoIs K mr H F' H' v d->Q v H'
 | .exc c o=>∀ F' H',Same F' H'->Chg (LA ms vs) F H F' H'->yn K F' H' ms vs (o.map (·.getD .non))->E (cv c) none H'
 | .bad=>False
def spD (K:Frag) (cv:Str->Value) (ms:List PM) (mr:Mo) (G:List D->Out (D×List D)):Sp:=fun vs H Q E=>∃ F ds,Same F H/\ArgsIs K F H ms vs ds/\(xK ms vs).Nodup/\PoG K cv ms mr vs F H Q E (G ds)
theorem ArgsIs.length {K:Frag} {F H:Hp}:∀ {ms:List PM} {vs:List V} {ds:List D},ArgsIs K F H ms vs ds->vs.length=ms.length/\ds.length=ms.length
 | [],[],[],_=>⟨rfl,rfl⟩
 | .val::ms,v::vs,d::ds,h=>by have:=ArgsIs.length h.2; simp [this]
 | .io::ms,v::vs,d::ds,h=>by have:=ArgsIs.length h.2; simp [this]
 | .tk::ms,v::vs,d::ds,h=>by have:=ArgsIs.length h.2; simp [this]
 | [],_::_,_,h=>h.elim
 | [],[],_::_,h=>h.elim
 | .val::_,[],_,h=>h.elim
 | .val::_,_::_,[],h=>h.elim
 | .io::_,[],_,h=>h.elim
 | .io::_,_::_,[],h=>h.elim
 | .tk::_,[],_,h=>h.elim
 | .tk::_,_::_,[],h=>h.elim
noncomputable def kj (n:Nat):List PM->List Nat
 | []=>[]
 | .val::ms=>kj (n+1) ms
 | _::ms=>n::kj (n+1) ms
noncomputable def Uh (n:Nat):List PM->List Nat
 | []=>[]
 | .io::ms=>n::Uh (n+1) ms
 | _::ms=>Uh (n+1) ms
theorem yo {n:Nat}:∀ {ms:List PM} {i:Nat},i∈kj n ms->n<=i/\i < n+ms.length:=by
 intro ms
 induction ms generalizing n with
 | nil=>intro i h; simp [kj] at h
 | cons m ms ih=>
  intro i h
  cases m with
  | val=>have:=ih (n:=n+1) h; simp only [List.length_cons]; omega
  | io=>
   rcases List.mem_cons.mp h with e | h
   ·simp only [List.length_cons]; omega
   ·have:=ih (n:=n+1) h; simp only [List.length_cons]; omega
  | tk=>
   rcases List.mem_cons.mp h with e | h
   ·simp only [List.length_cons]; omega
   ·have:=ih (n:=n+1) h; simp only [List.length_cons]; omega
theorem ZU {n:Nat}:∀ {ms:List PM} {i:Nat},i∈Uh n ms->i∈kj n ms:=by
 intro ms
 induction ms generalizing n with
 | nil=>intro i h; simp [Uh] at h
 | cons m ms ih=>
  intro i h
  cases m with
  | val=>exact ih (n:=n+1) h
  | io=>
   rcases List.mem_cons.mp h with e | h
   ·exact List.mem_cons.mpr (.inl e)
   ·exact List.mem_cons_of_mem _ (ih (n:=n+1) h)
  | tk=>exact List.mem_cons_of_mem _ (ih (n:=n+1) h)
theorem Ui {K:Frag} {F H:Hp}:∀ {ms:List PM} {vs:List V} {ds:List D} {n:Nat},ArgsIs K F H ms vs ds ->
  (∀ j d,ds[j]?=some d->n+j∉kj n ms->∃ v,vs[j]?=some v/\Is K F v d) /\
  (∀ j d,ds[j]?=some d->n+j∈kj n ms->∃ a,vs[j]?=some (.ref a)/\F a=none/\OwnIs K F H a d):=by
 intro ms
 induction ms with
 | nil=>intro vs ds n h; cases vs <;> cases ds <;> first | exact h.elim | (refine ⟨fun j d e=>?_,fun j d e=>?_⟩ <;> simp at e)
 | cons m ms ih=>
  intro vs ds n h
  cases vs with
  | nil=>cases m <;> exact h.elim
  | cons v vs=>
   cases ds with
   | nil=>cases m <;> exact h.elim
   | cons d ds=>
    cases m with
    | val=>
     obtain ⟨h1,h2⟩:=h
     obtain ⟨i1,i2⟩:=ih (n:=n+1) h2
     refine ⟨fun j e hj hn=>?_,fun j e hj hn=>?_⟩
     ·cases j with
      | zero=>simp at hj; subst hj; exact ⟨v,rfl,h1⟩
      | succ j=>simpa using i1 j e (by simpa using hj) (by rw [show n+1+j=n+(j+1) by omega]; exact hn)
     ·cases j with
      | zero=>have:=yo (n:=n+1) hn; omega
      | succ j=>simpa using i2 j e (by simpa using hj) (by rw [show n+1+j=n+(j+1) by omega]; exact hn)
    | io=>
     obtain ⟨⟨a,rfl,h1⟩,h2⟩:=h
     obtain ⟨i1,i2⟩:=ih (n:=n+1) h2
     refine ⟨fun j e hj hn=>?_,fun j e hj hn=>?_⟩
     ·cases j with
      | zero=>exact absurd (List.mem_cons.mpr (.inl rfl)) hn
      | succ j=>simpa using i1 j e (by simpa using hj) (fun z=>hn (List.mem_cons_of_mem _ (by rw [show n+(j+1)=n+1+j by omega]; exact z)))
     ·cases j with
      | zero=>simp at hj; subst hj; exact ⟨a,rfl,h1⟩
      | succ j=>
       have hm:n+1+j∈kj (n+1) ms:=by
        rcases List.mem_cons.mp hn with z | z
        ·omega
        ·rw [show n+1+j=n+(j+1) by omega]; exact z
       simpa using i2 j e (by simpa using hj) hm
    | tk=>
     obtain ⟨⟨a,rfl,h1⟩,h2⟩:=h
     obtain ⟨i1,i2⟩:=ih (n:=n+1) h2
     refine ⟨fun j e hj hn=>?_,fun j e hj hn=>?_⟩
     ·cases j with
      | zero=>exact absurd (List.mem_cons.mpr (.inl rfl)) hn
      | succ j=>simpa using i1 j e (by simpa using hj) (fun z=>hn (List.mem_cons_of_mem _ (by rw [show n+(j+1)=n+1+j by omega]; exact z)))
     ·cases j with
      | zero=>simp at hj; subst hj; exact ⟨a,rfl,h1⟩
      | succ j=>
       have hm:n+1+j∈kj (n+1) ms:=by
        rcases List.mem_cons.mp hn with z | z
        ·omega
        ·rw [show n+1+j=n+(j+1) by omega]; exact z
       simpa using i2 j e (by simpa using hj) hm
theorem Yu {n:Nat}:∀ {ms:List PM} {vs:List V} {j:Nat} {a:Addr},n+j∈kj n ms->vs[j]?=some (.ref a)->a∈xK ms vs:=by
 intro ms
 induction ms generalizing n with
 | nil=>intro vs j a h; simp [kj] at h
 | cons m ms ih=>
  intro vs j a h e
  cases vs with
  | nil=>simp at e
  | cons v vs=>
   cases j with
   | zero=>
    simp at e; subst e
    cases m with
    | val=>have:=yo (n:=n+1) h; omega
    | io=>exact List.mem_cons.mpr (.inl rfl)
    | tk=>exact List.mem_cons.mpr (.inl rfl)
   | succ j=>
    have e':vs[j]?=some (.ref a):=by simpa using e
    have sub:n+1+j∈kj (n+1) ms:=by
     rw [show n+1+j=n+(j+1) by omega]
     cases m with
     | val=>exact h
     | io=>exact (List.mem_cons.mp h).resolve_left (by omega)
     | tk=>exact (List.mem_cons.mp h).resolve_left (by omega)
    have q:=ih (n:=n+1) sub e'
    cases m <;> cases v <;> first | exact q | exact List.mem_cons_of_mem _ q
theorem Yv {n:Nat}:∀ {ms:List PM} {vs:List V} {a:Addr},a∈xK ms vs->∃ j,n+j∈kj n ms/\vs[j]?=some (.ref a):=by
 intro ms
 induction ms generalizing n with
 | nil=>intro vs a h; cases vs <;> simp [xK] at h
 | cons m ms ih=>
  intro vs a h
  cases vs with
  | nil=>cases m <;> simp [xK] at h
  | cons v vs=>
   have up:∀ {b},b∈xK ms vs->∃ j,n+j∈kj n (m::ms)/\(v::vs)[j]?=some (.ref b):=fun hb=>by
    obtain ⟨j,h1,h2⟩:=ih (n:=n+1) hb
    refine ⟨j+1,?_,by simpa using h2⟩
    rw [show n+(j+1)=n+1+j by omega]
    cases m with
    | val=>exact h1
    | io=>exact List.mem_cons_of_mem _ h1
    | tk=>exact List.mem_cons_of_mem _ h1
   cases m with
   | val=>exact up (by cases v <;> exact h)
   | io=>
    cases v with
    | ref c=>
     rcases List.mem_cons.mp h with e | h
     ·subst e; exact ⟨0,List.mem_cons.mpr (.inl rfl),rfl⟩
     ·exact up h
    | _=>exact up h
   | tk=>
    cases v with
    | ref c=>
     rcases List.mem_cons.mp h with e | h
     ·subst e; exact ⟨0,List.mem_cons.mpr (.inl rfl),rfl⟩
     ·exact up h
    | _=>exact up h
theorem ZV {n:Nat}:∀ {ms:List PM} {vs:List V} {i j:Nat} {a:Addr},(xK ms vs).Nodup->n+i∈kj n ms->n+j∈kj n ms->vs[i]?=some (.ref a)->vs[j]?=some (.ref a)->i=j:=by
 intro ms
 induction ms generalizing n with
 | nil=>intro vs i j a _ h; simp [kj] at h
 | cons m ms ih=>
  intro vs i j a nd hi hj e1 e2
  cases vs with
  | nil=>simp at e1
  | cons v vs=>
   have sub:∀ {k},n+(k+1)∈kj n (m::ms)->n+1+k∈kj (n+1) ms:=fun {k} h=>by
    rw [show n+1+k=n+(k+1) by omega]
    cases m with
    | val=>exact h
    | io=>exact (List.mem_cons.mp h).resolve_left (by omega)
    | tk=>exact (List.mem_cons.mp h).resolve_left (by omega)
   have nd':(xK ms vs).Nodup:=by
    cases m <;> cases v <;> first | exact nd | exact (List.nodup_cons.mp nd).2
   have no0:∀ {k b},n+0∈kj n (m::ms)->v=.ref b->n+(k+1)∈kj n (m::ms)->vs[k]?=some (.ref b)->False:=fun {k b} h0 hv hk ek=>by
    subst hv
    have q:=Yu (n:=n+1) (sub hk) ek
    cases m with
    | val=>have:=yo (n:=n+1) h0; omega
    | io=>exact (List.nodup_cons.mp nd).1 q
    | tk=>exact (List.nodup_cons.mp nd).1 q
   cases i with
   | zero=>
    cases j with
    | zero=>rfl
    | succ j=>exact (no0 hi (by simpa using e1) hj (by simpa using e2)).elim
   | succ i=>
    cases j with
    | zero=>exact (no0 hj (by simpa using e2) hi (by simpa using e1)).elim
    | succ j=>exact congrArg (·+1) (ih (n:=n+1) nd' (sub hi) (sub hj) (by simpa using e1) (by simpa using e2))
noncomputable def qx (N:List Str) (ds:List D):Sl:=ds.map some++List.replicate (N.length - ds.length) none
theorem get_start {α:Type} {N:List Str} {xs:List α} {i:Nat} {x:α}:(xs.map some++List.replicate (N.length - xs.length) none)[i]?=some (some x)↔xs[i]?=some x:=by
 by_cases h:i < xs.length
 ·rw [List.getElem?_append_left (by simpa using h),List.getElem?_map]
  cases e:xs[i]? with
  | none=>simp
  | some y=>simp
 ·rw [List.getElem?_append_right (by simpa using h),List.getElem?_replicate]
  have e:xs[i]?=none:=List.getElem?_eq_none_iff.mpr (by omega)
  rw [e]
  split <;> simp
theorem Yw {K:Frag} {F H:Hp} {N:List Str} {ms:List PM} {vs:List V} {ds:List D} (sb:Same F H) (ar:ArgsIs K F H ms vs ds) (nd:(xK ms vs).Nodup):Rep K (kj 0 ms) F H (yh N vs) (qx N ds):=by
 obtain ⟨h1,h2⟩:=Ui (n:=0) ar
 obtain ⟨l1,l2⟩:=ar.length
 refine ⟨sb,by simp [yh,qx,l1,l2],fun i d hi e=>?_,fun i d hi e=>?_,fun i hi=>?_,fun i j a hi hj e1 e2=>?_⟩
 ·obtain ⟨v,a,b⟩:=h1 i d (get_start.mp e) (by simpa using hi)
  exact ⟨v,get_start.mpr a,b⟩
 ·obtain ⟨v,a,b⟩:=h2 i d (get_start.mp e) (by simpa using hi)
  exact ⟨v,get_start.mpr a,b⟩
 ·have q:=yo hi
  have hl:i < ds.length:=by omega
  exact ⟨ds[i],get_start.mpr (by simp [hl])⟩
 ·exact ZV (n:=0) nd (by simpa using hi) (by simpa using hj) (get_start.mp e1) (get_start.mp e2)
theorem oa_start {N:List Str} {ms:List PM} {vs:List V} {b:Addr}:OA (kj 0 ms) (yh N vs) b↔LA ms vs b:=by
 constructor
 ·rintro ⟨i,hi,e⟩
  exact Yu (n:=0) (by simpa using hi) (get_start.mp e)
 ·intro h
  obtain ⟨j,h1,h2⟩:=Yv (n:=0) h
  exact ⟨j,by simpa using h1,get_start.mpr h2⟩
noncomputable def qv (ρ:Sl):Nat->List PM->List D
 | _,[]=>[]
 | n,.io::ms=>((ρ[n]?).getD none).getD .non::qv ρ (n+1) ms
 | n,_::ms=>.non::qv ρ (n+1) ms
theorem qbx {K:Frag} {F H:Hp} {σ:St} {ρ:Sl} {N:List Str}:∀ {ms:List PM} {vs:List V} {n:Nat},vs.length=ms.length->(∀ i∈Uh n ms,∃ d a,ρ[i]?=some (some d)/\vs[i - n]?=some (V.ref a)/\F a=none/\OwnIs K F H a d)->yn K F H ms vs (qv ρ n ms):=by
 intro ms
 induction ms with
 | nil=>intro vs n _ _; trivial
 | cons m ms ih=>
  intro vs n hl h
  cases vs with
  | nil=>simp at hl
  | cons v vs=>
   have rest:(∀ i∈Uh (n+1) ms,i∈Uh n (m::ms))->yn K F H ms vs (qv ρ (n+1) ms):=fun hs=>by
    refine ih (by simpa using hl) fun i hi=>?_
    obtain ⟨d,a,e1,e2,e3⟩:=h i (hs i hi)
    have q:=yo (ZU hi)
    refine ⟨d,a,e1,?_,e3⟩
    rw [show i - n=(i - (n+1))+1 by omega] at e2
    simpa using e2
   cases m with
   | val=>exact rest fun i hi=>hi
   | io=>
    obtain ⟨d,a,e1,e2,e3⟩:=h n (List.mem_cons.mpr (.inl rfl))
    refine ⟨⟨a,by simpa using e2,e3.1,?_⟩,rest fun i hi=>List.mem_cons_of_mem _ hi⟩
    rw [e1]
    exact e3.2
   | tk=>exact rest fun i hi=>hi
noncomputable def Fl.val:Fl->Option D
 | .nx=>some .non
 | .rt d=>some d
 | _=>none
noncomputable def ku (N:List Str) (ms:List PM) (f:Sl->Out (Fl×Sl)) (ds:List D):Out (D×List D):=match f (qx N ds) with
 | .ok (.nx,ρ)=>.ok (.non,qv ρ 0 ms)
 | .ok (.rt d,ρ)=>.ok (d,qv ρ 0 ms)
 | .ok _=>.bad
 | .exc c ρ=>.exc c ((qv ρ 0 ms).map some)
 | .bad=>.bad
theorem Wj:∀ (l:List D),(l.map some).map (fun x:Option D=>x.getD .non)=l
 | []=>rfl
 | a::l=>congrArg (a::·) (Wj l)
def Out.le {α:Type} (a b:Out α):Prop:=a=.bad\/a=b
theorem qby {C:Ct} {N:List Str} {ms:List PM} {own':List Nat} {f:Sl->Out (Fl×Sl)} {F H:Hp} {vs:List V} {ds:List D} {Q:VK} {o:Out (D×List D)} (hio:C.io=Uh 0 ms) (hox:C.ox=C.io) (hmr:C.mr=.sh\/∀ ρ,(f (qx N ds))≠.ok (.nx,ρ)) (hsub:∀ i∈Uh 0 ms,i∈own') (sb:Same F H) (ar:ArgsIs C.K F H ms vs ds) (nd:(xK ms vs).Nodup)
  (hG:Out.le o (ku N ms f ds)) (h:PoG C.K C.cv ms C.mr vs F H Q C.E o):tSt C (kj 0 ms) own' f { nx:=fun _ H'=>Q .non H',rt:=Q } (yh N vs) H:=by
 refine ⟨F,qx N ds,Yw sb ar nd,?_⟩
 have hl:=ar.length.1
 have ch:∀ {F' H'},Chg (OA (kj 0 ms) (yh N vs)) F H F' H'->Chg (LA ms vs) F H F' H':=fun c=>c.mono fun x z=>oa_start.mp z
 have outs:∀ {σ':St} {ρ':Sl} {F' H':Hp},Zr C.K C.io F' H' σ' ρ'->(∀ i∈C.io,σ'[i]?=(yh N vs)[i]?)->yn C.K F' H' ms vs (qv ρ' 0 ms):=fun {σ' ρ' F' H'} io e=>by
  refine qbx (N:=N) (σ:=σ') hl fun i hi=>?_
  have hi':i∈C.io:=by rw [hio]; exact hi
  obtain ⟨d,a,e1,e2,e3⟩:=io i hi'
  refine ⟨d,a,e1,?_,e3⟩
  rw [e i hi'] at e2
  exact get_start.mp e2
 rcases hG with e | e
 ·subst e; exact h.elim
 ·subst e
  unfold ku at h
  cases q:f (qx N ds) with
  | ok p=>
   rw [q] at h
   obtain ⟨fl,ρ'⟩:=p
   cases fl with
   | nx=>
    have hm:C.mr=.sh:=hmr.resolve_right fun z=>z ρ' q
    exact fun σ' F' H' n=>h .non F' H' n.rep.sub (ch n.chg) (outs (n.rep.ioIs (by rw [hio]; exact hsub)) n.io) (by rw [hm]; exact .non)
   | rt d=>exact fun v σ' F' H' s io c e mo=>h v F' H' s (ch c) (outs io e) mo
   | bk=>exact h.elim
   | ct=>exact h.elim
  | exc c ρ'=>
   rw [q] at h
   exact fun F' H' s io c'=>h F' H' s (ch c') (by rw [Wj]; exact outs (σ':=yh N vs) (by rw [<-hox]; exact io) fun _ _=>rfl)
  | bad=>rw [q] at h; exact h.elim
def qfW (K:Frag) (cv:Str->Value) (E:XK) (ms:List PM) (mr:Mo):Ct:=⟨K,cv,E,Uh 0 ms,mr,[],Uh 0 ms,fun _ h=>h⟩
theorem qgK {P:Program} {w:World} {K:Frag} {mg:Str->Option Value} {base:Heap} {CX:CXT} {x qual:Str} {st:Stmt} {f:Addr} {fd:FuncData} {N ps:List Str} {k:Nat} {cv:Str->Value} {ms:List PM} {mr:Mo} {own':List Nat} {fb:Sl->Out (Fl×Sl)} {G:List D->Out (D×List D)}
  (F:Fun K x qual st f fd) (S:FnScope N ps (qe st)) (hl:ms.length=ps.length) (hsub:∀ i∈Uh 0 ms,i∈own') (hmr:mr=.sh\/∀ ds ρ,(fb (qx N ds))≠.ok (.nx,ρ))
  (hbody:∀ (cdv:Value) (A:Around) (outer:List Env) (s:Shared) (H:Hp) (E:XK),Room k (A.deeper (envOfC qual (qe st) s.heap.objs.size f cdv)) ->
   PSs (qba CX P w K mg base N qual (qe st) f cdv A outer s H E) (vB st) (tSt (qfW K cv E ms mr) (kj 0 ms) own' fb))
  (hG:∀ ds,Out.le (G ds) (ku N ms fb ds)):FnOk P w K mg base CX (k+1) f fd ps (spD K cv ms mr G):=by
 obtain ⟨oc,od,kV,doc,pm,an,cdv,ct,osl,rfl,lk,hcd⟩:=F.ex
 refine qfK lk hcd S (fun vs H Q E h=>?_) fun A outer s H vs Q E hr hsp=>?_
 ·obtain ⟨F,ds,_,ar,_⟩:=h
  rw [ar.length.1,hl]
 ·obtain ⟨F1,ds,sb,ar,nd,h⟩:=hsp
  refine ⟨_,hbody cdv A outer s H E hr,?_⟩
  exact qby (C:=qfW K cv E ms mr) rfl rfl (hmr.imp id fun z ρ=>z ds ρ) hsub sb ar nd (hG ds) h
noncomputable def JS:AK->PM
 | .vl=>.val
 | .sl _=>.io
 | .fr=>.tk
noncomputable def qB:List AK->List D->Sl->Option (List D)
 | [],[],_=>some []
 | .sl i::as,_::ds,ρ=>match ρ[i]? with
  | some (some d)=>(qB as ds ρ).map (d::·)
  | _=>none
 | .vl::as,d::ds,ρ=>(qB as ds ρ).map (d::·)
 | .fr::as,d::ds,ρ=>(qB as ds ρ).map (d::·)
 | _,_,_=>none
noncomputable def jq:List AK->List D->Sl->Sl
 | .sl i::as,d::outs,ρ=>jq as outs (ρ.set i (some d))
 | _::as,_::outs,ρ=>jq as outs ρ
 | _,_,ρ=>ρ
noncomputable def jy:List AK->List Nat
 | []=>[]
 | .sl i::as=>i::jy as
 | _::as=>jy as
noncomputable def frA:List AK->Nat
 | []=>0
 | .fr::as=>frA as+1
 | _::as=>frA as
section
variable {K:Frag} {own:List Nat} {H0 F H:Hp} {σ:St} {ρ:Sl}
theorem yp:∀ {as:List AK} {vs:List V} {ds ds':List D},Rep K own F H σ ρ->(∀ i∈jy as,i∈own)->ArgV K H0 F H σ as vs ds->qB as ds ρ=some ds'->ArgsIs K F H (as.map JS) vs ds'
 | [],vs,ds,ds',rp,hs,av,e=>by
  cases vs <;> cases ds <;> first | exact av.elim | (simp [qB] at e; subst e; trivial)
 | a::as,[],ds,ds',rp,hs,av,e=>by cases a <;> exact av.elim
 | a::as,v::vs,[],ds',rp,hs,av,e=>by cases a <;> exact av.elim
 | .vl::as,v::vs,d::ds,ds',rp,hs,av,e=>by
  cases q:qB as ds ρ with
  | none=>simp [qB,q] at e
  | some l=>
   have e:d::l=ds':=by simpa [qB,q] using e
   subst e
   exact ⟨av.1,yp rp hs av.2 q⟩
 | .fr::as,v::vs,d::ds,ds',rp,hs,av,e=>by
  cases q:qB as ds ρ with
  | none=>simp [qB,q] at e
  | some l=>
   have e:d::l=ds':=by simpa [qB,q] using e
   subst e
   obtain ⟨a,h1,_,h2,h3⟩:=av.1
   exact ⟨⟨a,h1,h2,h3⟩,yp rp hs av.2 q⟩
 | .sl i::as,v::vs,d::ds,ds',rp,hs,av,e=>by
  obtain ⟨h1,_,av2⟩:=av
  have hi:i∈own:=hs i (List.mem_cons.mpr (.inl rfl))
  obtain ⟨d',hd⟩:=rp.opn i hi
  obtain ⟨a,e1,e2,e3⟩:=rp.ow i d' hi hd
  rw [h1] at e1
  cases e1
  cases q:qB as ds ρ with
  | none=>simp [qB,q,hd] at e
  | some l=>
   have e:d'::l=ds':=by simpa [qB,q,hd] using e
   subst e
   exact ⟨⟨a,rfl,e2,e3⟩,yp rp (fun j hj=>hs j (List.mem_cons_of_mem _ hj)) av2 q⟩
theorem kT:∀ {as:List AK} {vs:List V} {ds:List D} {b:Addr},ArgV K H0 F H σ as vs ds->b∈xK (as.map JS) vs->(∃ i∈jy as,σ[i]?=some (some (V.ref b)))\/(H0 b=none/\frA as≠0/\H b≠none/\F b=none)
 | [],vs,ds,b,av,h=>by cases vs <;> simp [xK] at h
 | a::as,[],ds,b,av,h=>by cases a <;> exact av.elim
 | a::as,v::vs,[],b,av,h=>by cases a <;> exact av.elim
 | .vl::as,v::vs,d::ds,b,av,h=>by
  have h:b∈xK (as.map JS) vs:=by cases v <;> exact h
  exact kT (as:=as) av.2 h
 | .fr::as,v::vs,d::ds,b,av,h=>by
  obtain ⟨⟨a,rfl,h0,hF,o⟩,av2⟩:=av
  have h:b∈a::xK (as.map JS) vs:=h
  rcases List.mem_cons.mp h with e | h
  ·subst e; exact .inr ⟨h0,by simp [frA],o.there,hF⟩
  ·rcases kT av2 h with z | ⟨z,_,z2⟩
   ·exact .inl z
   ·exact .inr ⟨z,by simp [frA],z2⟩
 | .sl i::as,v::vs,d::ds,b,av,h=>by
  obtain ⟨h1,_,av2⟩:=av
  have up:b∈xK (as.map JS) vs->(∃ j∈jy (.sl i::as),σ[j]?=some (some (V.ref b)))\/(H0 b=none/\frA (.sl i::as)≠0/\H b≠none/\F b=none):=fun h=>by
   rcases kT av2 h with ⟨j,hj,e⟩ | z
   ·exact .inl ⟨j,List.mem_cons_of_mem _ hj,e⟩
   ·exact .inr z
  cases v with
  | ref a=>
   have h:b∈a::xK (as.map JS) vs:=h
   rcases List.mem_cons.mp h with e | h
   ·subst e; exact .inl ⟨i,List.mem_cons.mpr (.inl rfl),h1⟩
   ·exact up h
  | _=>exact up h
theorem ut:∀ {as:List AK} {vs:List V} {ds:List D},Rep K own F H σ ρ->(∀ x,OA own σ x->H0 x≠none)->(∀ i∈jy as,i∈own)->(jy as).Nodup->frA as<=1->ArgV K H0 F H σ as vs ds->(xK (as.map JS) vs).Nodup
 | [],vs,ds,rp,h0,hs,nd,hf,av=>by cases vs <;> simp [xK]
 | a::as,[],ds,rp,h0,hs,nd,hf,av=>by cases a <;> exact av.elim
 | a::as,v::vs,[],rp,h0,hs,nd,hf,av=>by cases a <;> exact av.elim
 | .vl::as,v::vs,d::ds,rp,h0,hs,nd,hf,av=>by
  have q:=ut (as:=as) rp h0 hs nd hf av.2
  cases v <;> exact q
 | .fr::as,v::vs,d::ds,rp,h0,hs,nd,hf,av=>by
  have hf':frA as=0:=by simp only [frA] at hf; omega
  obtain ⟨⟨a,rfl,hz,hF,o⟩,av2⟩:=av
  show (a::xK (as.map JS) vs).Nodup
  refine List.nodup_cons.mpr ⟨fun z=>?_,ut rp h0 hs nd (by omega) av2⟩
  rcases kT av2 z with ⟨i,hi,e⟩ | ⟨_,n,_⟩
  ·exact h0 a ⟨i,hs i hi,e⟩ hz
  ·exact n hf'
 | .sl i::as,v::vs,d::ds,rp,h0,hs,nd,hf,av=>by
  obtain ⟨h1,_,av2⟩:=av
  have hs':∀ j∈jy as,j∈own:=fun j hj=>hs j (List.mem_cons_of_mem _ hj)
  have hi:i∈own:=hs i (List.mem_cons.mpr (.inl rfl))
  obtain ⟨ni,nd'⟩:=List.nodup_cons.mp nd
  have q:=ut rp h0 hs' nd' hf av2
  cases v with
  | ref a=>
   show (a::xK (as.map JS) vs).Nodup
   refine List.nodup_cons.mpr ⟨fun z=>?_,q⟩
   rcases kT av2 z with ⟨j,hj,e⟩ | ⟨n,_⟩
   ·exact ni (by rw [rp.dis i j a hi (hs' j hj) h1 e]; exact hj)
   ·exact h0 a ⟨i,hi,h1⟩ n
  | _=>exact q
theorem vU:∀ {as:List AK} {outs:List D} {ρ:Sl} {i:Nat},i∉jy as->(jq as outs ρ)[i]?=ρ[i]?
 | [],outs,ρ,i,h=>by cases outs <;> rfl
 | a::as,[],ρ,i,h=>by cases a <;> rfl
 | .vl::as,d::outs,ρ,i,h=>vU (as:=as) h
 | .fr::as,d::outs,ρ,i,h=>vU (as:=as) h
 | .sl j::as,d::outs,ρ,i,h=>by
  have h':i≠j/\i∉jy as:=by simpa [jy] using h
  show (jq as outs (ρ.set j (some d)))[i]?=_
  rw [vU h'.2,List.getElem?_set_ne (Ne.symm h'.1)]
theorem xZ:∀ {as:List AK} {outs:List D} {ρ:Sl},(jq as outs ρ).length=ρ.length
 | [],outs,ρ=>by cases outs <;> rfl
 | a::as,[],ρ=>by cases a <;> rfl
 | .vl::as,d::outs,ρ=>xZ (as:=as)
 | .fr::as,d::outs,ρ=>xZ (as:=as)
 | .sl j::as,d::outs,ρ=>by
  show (jq as outs (ρ.set j (some d))).length=_
  rw [xZ,List.length_set]
theorem Qo {F' H':Hp}:∀ {as:List AK} {vs:List V} {ds outs:List D} {ρ:Sl},(jy as).Nodup->(∀ i∈jy as,i < ρ.length)->ArgV K H0 F H σ as vs ds->yn K F' H' (as.map JS) vs outs->∀ i∈jy as,∃ d a,(jq as outs ρ)[i]?=some (some d)/\σ[i]?=some (some (V.ref a))/\F' a=none/\OwnIs K F' H' a d
 | [],vs,ds,outs,ρ,nd,hl,av,o,i,hi=>by simp [jy] at hi
 | a::as,[],ds,outs,ρ,nd,hl,av,o,i,hi=>by cases a <;> exact av.elim
 | a::as,v::vs,[],outs,ρ,nd,hl,av,o,i,hi=>by cases a <;> exact av.elim
 | a::as,v::vs,d::ds,[],ρ,nd,hl,av,o,i,hi=>by cases a <;> exact o.elim
 | .vl::as,v::vs,d::ds,u::outs,ρ,nd,hl,av,o,i,hi=>Qo (as:=as) nd hl av.2 o i hi
 | .fr::as,v::vs,d::ds,u::outs,ρ,nd,hl,av,o,i,hi=>Qo (as:=as) nd hl av.2 o i hi
 | .sl j::as,v::vs,d::ds,u::outs,ρ,nd,hl,av,o,i,hi=>by
  obtain ⟨ni,nd'⟩:=List.nodup_cons.mp nd
  obtain ⟨h1,_,av2⟩:=av
  obtain ⟨⟨a,e,hF,ow⟩,o2⟩:=o
  subst e
  rcases List.mem_cons.mp hi with e | hi
  ·subst e
   refine ⟨u,a,?_,h1,hF,ow⟩
   show (jq as outs (ρ.set i (some u)))[i]?=_
   rw [vU ni,List.getElem?_set_self (hl i (List.mem_cons.mpr (.inl rfl)))]
  ·exact Qo (as:=as) (ρ:=ρ.set j (some u)) nd' (fun k hk=>by rw [List.length_set]; exact hl k (List.mem_cons_of_mem _ hk)) av2 o2 i hi
end
noncomputable def qt (as:List AK) (G:List D->Out (D×List D)) (fr:Sl->Out (List D×Sl)):Sl->Out (D×Sl):=fun ρ=>(fr ρ).bind fun p=>match qB as p.1 p.2 with
 | some ds=>match G ds with
  | .ok q=>.ok (q.1,jq as q.2 p.2)
  | .exc c o=>.exc c (jq as (o.map (·.getD .non)) p.2)
  | .bad=>.bad
 | none=>.bad
section
variable {X:Cx} {C:Ct} {own:List Nat} {as:List AK} {G:List D->Out (D×List D)} {fr:Sl->Out (List D×Sl)} {mr:Mo} {e:Expr} {es:List Expr}
theorem Wl {σ:St} {H0 F H F' H':Hp} {ρ:Sl} {vs:List V} {ds outs:List D} (rp:Rep C.K own F H σ ρ) (h0:∀ x,OA own σ x->H0 x≠none) (hs:∀ i∈jy as,i∈own) (nd:(jy as).Nodup) (av:ArgV C.K H0 F H σ as vs ds)
  (sb:Same F' H') (c:Chg (LA (as.map JS) vs) F H F' H') (o:yn C.K F' H' (as.map JS) vs outs):Rep C.K own F' H' σ (jq as outs ρ):=by
 have pin:=Qo (ρ:=ρ) nd (fun i hi=>by
  obtain ⟨d,e⟩:=rp.opn i (hs i hi)
  exact (List.getElem?_eq_some_iff.mp e).1) av o
 refine ⟨sb,by rw [xZ]; exact rp.len,fun i d hi e=>?_,fun i d hi e=>?_,fun i hi=>?_,rp.dis⟩
 ·rw [vU (fun z=>hi (hs i z))] at e
  obtain ⟨v,h1,h2⟩:=rp.val i d hi e
  exact ⟨v,h1,h2.mono c.grow⟩
 ·by_cases q:i∈jy as
  ·obtain ⟨d',a,e1,e2,e3,e4⟩:=pin i q
   rw [e1] at e
   cases e
   exact ⟨a,e2,e3,e4⟩
  ·rw [vU q] at e
   obtain ⟨a,h1,h2,h3⟩:=rp.ow i d hi e
   have nl:¬LA (as.map JS) vs a:=fun z=>by
    rcases kT av z with ⟨j,hj,e'⟩ | ⟨n,_⟩
    ·exact q (by rw [rp.dis i j a hi (hs j hj) h1 e']; exact hj)
    ·exact h0 a ⟨i,hi,h1⟩ n
   refine ⟨a,h1,?_,h3.grow c.grow fun o' q'=>c.keep a o' q' nl⟩
   cases q':F' a with
   | none=>rfl
   | some u=>
    rcases c.new a (by rw [q']; simp) with z | z | z
    ·exact absurd h2 z
    ·exact absurd z h3.there
    ·exact absurd z nl
 ·by_cases q:i∈jy as
  ·obtain ⟨d',a,e1,_⟩:=pin i q
   exact ⟨d',e1⟩
  ·rw [vU q]
   exact rp.opn i hi
theorem qbz {σ:St} {H:Hp} {Q:VK} (hio:∀ i∈C.ox,i∈own) (hs:∀ i∈jy as,i∈own) (nd:(jy as).Nodup) (hf:frA as<=1) (h:tE C own mr (qt as G fr) σ H Q) :
  tAr C own as fr σ H fun vs H1=>spD C.K C.cv (as.map JS) mr G (vs++[]) H1 Q C.E:=by
 obtain ⟨F,ρ,rp,h⟩:=h
 have h0:∀ x,OA own σ x->H x≠none:=fun x z=>(rp.OA_there z).1
 refine ⟨F,ρ,rp,?_⟩
 unfold qt at h
 cases q0:fr ρ with
 | ok p=>
  rw [q0] at h
  obtain ⟨ds,ρ1⟩:=p
  intro vs F1 H1 rp1 c1 av
  rw [List.append_nil]
  have h1:Po C own mr σ F H (match qB as ds ρ1 with | some ds=>(match G ds with | .ok q=>.ok (q.1,jq as q.2 ρ1) | .exc c o=>.exc c (jq as (o.map (·.getD .non)) ρ1) | .bad=>.bad) | none=>.bad) Q:=h
  cases q:qB as ds ρ1 with
  | none=>simp only [q] at h1; exact h1.elim
  | some ds'=>
   simp only [q] at h1
   have lo:∀ x,LA (as.map JS) vs x->OA own σ x\/H x=none:=fun x z=>by
    rcases kT av z with ⟨i,hi,e⟩ | ⟨n,_⟩
    ·exact .inl ⟨i,hs i hi,e⟩
    ·exact .inr n
   refine ⟨F1,ds',rp1.sub,yp rp1 hs av q,ut rp1 h0 hs nd hf av,?_⟩
   cases q2:G ds' with
   | ok p=>
    rw [q2] at h1
    obtain ⟨d,outs⟩:=p
    exact fun v F' H' sb c o mo=>h1 v F' H' (Wl rp1 h0 hs nd av sb c o) (c1.trans c lo) (MoIs.back (Ha:=H1) c1 mo)
   | exc x o=>rw [q2] at h1; exact fun F' H' sb c outs=>h1 F' H' sb ((Wl rp1 h0 hs nd av sb c outs).ioIs hio) (c1.trans c lo)
   | bad=>rw [q2] at h1; exact h1.elim
 | exc c=>rw [q0] at h; exact h
 | bad=>rw [q0] at h; exact h.elim
theorem qbA {CX:CXT} {k:Nat} {f:Addr} {fd:FuncData} {ps:List Str} {x:Str} {p pos:Pos} {ms:List PM} (F:FnOk X.prog X.w X.K X.mg X.base CX k f fd ps (spD C.K C.cv ms mr G)) (hr:Room k X.A) (hg:Gl X x) (hm:X.mg x=some (.ref f)) (hk:keepIn X.K (.ref f)=true) (hb:Binds X.K fd ps []) (hx:gM CX X C.E)
  (ha:PA X (e::es) (tAr C own as fr)) (hms:ms=as.map JS:=by rfl) (hs:∀ i∈jy as,i∈own:=by decide) (nd:(jy as).Nodup:=by decide) (hf:frA as<=1:=by decide) (hio:∀ i∈C.ox,i∈own:=by exact zt rfl) (hdb:(x == ("__debug__":Str))=false:=by decide) (he:starEach (e::es) X.env=(false,eval e X.env)::starEach es X.env:=by exact kP rfl)
  (hpl:(backTo pos (starEach es X.env)).any (·.1)=false:=by exact Ql rfl):PE X (.Call (.Name x p) (e::es) [] pos) (tE C own mr (qt as G fr)):=by
 subst hms
 exact jJ (qa9 F hr hg hm hk hb .nil hx ha hdb he hpl) fun σ H Q h=>qbz hio hs nd hf h
end
structure ItIs (K:Frag) (F:Hp) (J:It) (ds:List D):Prop where
 go:∀ i H,i < ds.length->Same F H->J.go i H
 yld:∀ i Fi H x H' d,ds[i]?=some d->Same F Fi->Same Fi H->J.yld i H x H'->∃ F',Chg No Fi H F' H'/\Same F' H'/\Is K F' x d
 stop:∀ i H,ds.length<=i->Same F H->J.stop i H
def PoI (C:Ct) (own:List Nat) (σ:St) (F H:Hp) (r:Out (List D×Sl)) (R:It->Hp->Prop):Prop:=match r with
 | .ok (ds,ρ')=>∀ J F' H',Rep C.K own F' H' σ ρ'->Chg (OA own σ) F H F' H'->ItIs C.K F' J ds->R J H'
 | .exc c ρ'=>∀ F' H',Same F' H'->Zr C.K C.ox F' H' σ ρ'->Chg (OA own σ) F H F' H'->C.E (C.cv c) none H'
 | .bad=>False
def tIt (C:Ct) (own:List Nat) (f:Sl->Out (List D×Sl)):TI:=fun σ H R=>∃ F ρ,Rep C.K own F H σ ρ/\PoI C own σ F H (f ρ) R
noncomputable def qdx:D->Out (List D)
 | .lst xs=>.ok xs
 | .tup xs=>.ok xs
 | _=>.bad
noncomputable def qhu (f:Sl->Out (D×Sl)):Sl->Out (List D×Sl):=fun ρ=>(f ρ).bind fun p=>(qdx p.1).bind fun ds=>.ok (ds,p.2)
theorem PoI.bindV {C:Ct} {own:List Nat} {m:Mo} {σ:St} {F H:Hp} {o:Out (D×Sl)} {k:D×Sl->Out (List D×Sl)} {Q:It->Hp->Prop} {R:VK} (hp:PoI C own σ F H (o.bind k) Q)
  (h:∀ v F1 H1 d ρ1,Rep C.K own F1 H1 σ ρ1->Chg (OA own σ) F H F1 H1->MoIs C.K m H F1 H1 v d->PoI C own σ F H (k (d,ρ1)) Q->R v H1):Po C own m σ F H o R:=by
 cases o with
 | ok p=>exact fun v F1 H1 rp c mo=>h v F1 H1 p.1 p.2 rp c mo hp
 | exc x=>exact hp
 | bad=>exact hp.elim
section
variable {X:Cx} {C:Ct} {own:List Nat} {tg e:Expr} {f:Sl->Out (D×Sl)} {m:Mo} {pos:Pos}
theorem qbB {t t':TI} (h:PI X tg e t) (i:∀ σ H Q,t' σ H Q->t σ H Q):PI X tg e t':=⟨fun pins s σ H R I hw=>h pins s σ H R I (i σ H R hw)⟩
theorem qdy {K:Frag} {F:Hp} {a:Addr} {xs:List V} {ds:List D} (p:SqL K F a xs) (t:IsL K F xs ds):ItIs K F (Itl K a) ds where
 go:=fun i H hi s=>by
  have hx:i < xs.length:=by rw [t.length]; exact hi
  exact ⟨xs,xs[i],s.seq p,by simp [hx]⟩
 yld:=fun i Fi H x H' d e s1 s2 y=>by
  obtain ⟨rfl,y⟩:=y
  obtain ⟨v,h1,h2⟩:=t.getD e
  have q:=y xs ((s1.trans s2).seq p)
  rw [h1] at q
  cases q
  exact ⟨Fi,.refl,s2,h2.mono s1⟩
 stop:=fun i H hi s=>⟨xs,s.seq p,by rw [t.length]; exact hi⟩
theorem qdz {K:Frag} {F:Hp} {a:Addr} {xs:List V} {ds:List D} (p:SqT K F a xs) (t:IsL K F xs ds):ItIs K F (Itt K a) ds where
 go:=fun i H hi s=>by
  have hx:i < xs.length:=by rw [t.length]; exact hi
  exact ⟨xs,xs[i],qO s p,by simp [hx]⟩
 yld:=fun i Fi H x H' d e s1 s2 y=>by
  obtain ⟨rfl,y⟩:=y
  obtain ⟨v,h1,h2⟩:=t.getD e
  have q:=y xs (qO (s1.trans s2) p)
  rw [h1] at q
  cases q
  exact ⟨Fi,.refl,s2,h2.mono s1⟩
 stop:=fun i H hi s=>⟨xs,qO s p,by rw [t.length]; exact hi⟩
noncomputable def Js (lo:Int) (n:Nat):List D:=(List.range n).map fun k=>.int (lo+(k:Nat))
theorem qdA {K:Frag} {F:Hp} {lo:Int} {n:Nat}:ItIs K F (Itr lo n) (Js lo n) where
 go:=fun i H hi _=>by
  have:i < n:=by simpa [Js] using hi
  exact this
 yld:=fun i Fi H x H' d e s1 s2 y=>by
  obtain ⟨rfl,rfl⟩:=y
  have e:d=.int (lo+i):=by
   unfold Js at e
   rw [List.getElem?_map] at e
   cases q:(List.range n)[i]? with
   | none=>rw [q] at e; cases e
   | some k=>
    rw [q] at e
    have hk:k=i:=by
     have:=List.getElem?_eq_some_iff.mp q
     obtain ⟨_,z⟩:=this
     simpa using z.symm
    subst hk
    exact (Option.some.inj e).symm
  subst e
  exact ⟨Fi,.refl,s2,.int _⟩
 stop:=fun i H hi _=>by
  have:n<=i:=by simpa [Js] using hi
  exact this
noncomputable def kb (f:Sl->Out (D×Sl)):Sl->Out (List D×Sl):=fun ρ=>(f ρ).bind fun p=>match p.1 with
 | .int j=>if -(2 ^ 62)<=j/\j < 2 ^ 62 then .ok (Js 0 j.toNat,p.2) else .bad
 | _=>.bad
theorem uu {p:Pos} (hg:Gl X "range") (hm:X.mg "range"=none) (h:PE X e (tE C own m f)) (hs:starEach [e] X.env=[(false,eval e X.env)]:=by exact qQ rfl):PI X tg (.Call (.Name "range" p) [e] [] pos) (tIt C own (kb f)):=by
 refine qbB (UO hg hm (qW h jQ hs) hs) fun σ H R ⟨F,ρ,rp,h⟩=>⟨F,ρ,rp,PoI.bindV h fun v F1 H1 d ρ1 rp1 c1 mo1 h1=>?_⟩
 cases d with
 | int j=>
  obtain rfl:=mo1.top.int
  have h1:PoI C own σ F H (if -(2 ^ 62)<=j/\j < 2 ^ 62 then .ok (Js 0 j.toNat,ρ1) else .bad) R:=h1
  by_cases z:-(2 ^ 62)<=j/\j < 2 ^ 62
  ·rw [if_pos z] at h1
   exact ⟨j,rfl,z.1,z.2,h1 _ F1 H1 rp1 c1 qdA⟩
  ·rw [if_neg z] at h1; exact h1.elim
 | _=>exact h1.elim
def tGd (C:Ct) (own:List Nat) (g:D->Sl->Out Sl):TG:=fun v σ H Q=>∃ F ρ d,Rep C.K own F H σ ρ/\Is C.K F v d/\∃ ρ',g d ρ=.ok ρ'/\∀ σ',Rep C.K own F H σ' ρ'->(∀ b,OA own σ' b->OA own σ b)->(∀ i∈C.io,σ'[i]?=σ[i]?)->Q σ' H
def qe9 (C:Ct) (own:List Nat) (g:List D->Sl->Out Sl):TGs:=fun vs σ H Q=>∃ F ρ ds,Rep C.K own F H σ ρ/\IsL C.K F vs ds/\∃ ρ',g ds ρ=.ok ρ'/\∀ σ',Rep C.K own F H σ' ρ'->(∀ b,OA own σ' b->OA own σ b)->(∀ i∈C.io,σ'[i]?=σ[i]?)->Q σ' H
theorem qdB {t t':TG} (h:PG X e t) (i:∀ v σ H Q,t' v σ H Q->t v σ H Q):PG X e t':=⟨fun pins s σ H v u Q I r hw=>h pins s σ H v u Q I r (i v σ H Q hw)⟩
theorem qam {es:List Expr} {t t':TGs} (h:PGs X es t) (i:∀ v σ H Q,t' v σ H Q->t v σ H Q):PGs X es t':=⟨fun pins s σ H v u Q I r hw=>h pins s σ H v u Q I r (i v σ H Q hw)⟩
noncomputable def gNm (i:Nat):D->Sl->Out Sl:=fun d ρ=>if i < ρ.length then .ok (ρ.set i (some d)) else .bad
theorem gO {own:List Nat} {i:Nat} (h:i∉own):wA own [i]=own:=by
 unfold wA
 rw [List.filter_eq_self]
 intro j hj
 simp only [List.mem_singleton,decide_eq_true_eq]
 exact fun z=>h (by rw [<-z]; exact hj)
theorem qu {i:Nat} {x:Str} (hN:X.N.Nodup) (hi:X.N[i]?=some x) (hx:Loc X.env.scope x) (ho:i∉own:=by decide) (hio:i∉C.io:=by exact VX rfl) (hf:X.fn x=true\/X.env.scope.names.lookup x=some .local:=by first | exact .inl rfl | exact .inr rfl):PG X (.Name x pos) (tGd C own (gNm i)):=by
 refine qdB (qa3 hN hi hx hf) fun v σ H Q ⟨F,ρ,d,rp,is,ρ',e,k⟩=>?_
 unfold gNm at e
 by_cases z:i < ρ.length
 ·rw [if_pos z] at e
  cases e
  have r2:=rp.put z is
  rw [gO ho] at r2
  refine k _ r2 (fun b q=>?_) fun j hj=>List.getElem?_set_ne fun q=>hio (by rw [q]; exact hj)
  have q':OA (wA own [i]) (σ.set i (some v)) b:=by rw [gO ho]; exact q
  exact q'.put
 ·rw [if_neg z] at e; cases e
noncomputable def jF:List D->Sl->Out Sl
 | [],ρ=>.ok ρ
 | _::_,_=>.bad
noncomputable def qy (g:D->Sl->Out Sl) (gs:List D->Sl->Out Sl):List D->Sl->Out Sl
 | d::ds,ρ=>(g d ρ).bind fun ρ1=>gs ds ρ1
 | [],_=>.bad
theorem vf:PGs X [] (qe9 C own jF):=by
 refine qam qa4 fun vs σ H Q ⟨F,ρ,ds,rp,is,ρ',e,k⟩=>?_
 cases is with
 | nil=>cases e; exact ⟨rfl,k σ rp (fun _ z=>z) fun _ _=>rfl⟩
 | cons _ _=>cases e
theorem qU {es:List Expr} {g:D->Sl->Out Sl} {gs:List D->Sl->Out Sl} (h1:PG X e (tGd C own g)) (h2:PGs X es (qe9 C own gs)) (hs:(assignEach (e::es) X.env).map (·.2)=assign e X.env::(assignEach es X.env).map (·.2):=by rfl):PGs X (e::es) (qe9 C own (qy g gs)):=by
 refine qam (Zx h1 h2 hs) fun vs σ H Q ⟨F,ρ,ds,rp,is,ρ',e,k⟩=>?_
 cases is with
 | nil=>cases e
 | @cons v d vs ds a t=>
  have e:(g d ρ).bind (fun ρ1=>gs ds ρ1)=.ok ρ':=e
  cases q:g d ρ with
  | ok ρ1=>
   rw [q] at e
   exact ⟨v,vs,rfl,F,ρ,d,rp,a,ρ1,q,fun σ1 rp1 oa1 io1=>⟨F,ρ1,ds,rp1,t,ρ',e,fun σ2 rp2 oa2 io2=>k σ2 rp2 (fun b z=>oa1 b (oa2 b z)) fun i hi=>(io2 i hi).trans (io1 i hi)⟩⟩
  | exc c=>rw [q] at e; cases e
  | bad=>rw [q] at e; cases e
noncomputable def jG (n:Nat) (gs:List D->Sl->Out Sl):D->Sl->Out Sl
 | .tup ds,ρ=>if ds.length=n then gs ds ρ else .bad
 | _,_=>.bad
theorem wH {es:List Expr} {k n:Nat} {gs:List D->Sl->Out Sl} (hK:C.K=X.K) (hc:X.calm=true) (h:PGs X es (qe9 C own gs)) (hn:(assignEach es X.env).length=n:=by rfl) (hst:(assignEach es X.env).findIdx? (·.1)=none:=by rfl):PG X (.Tuple es k pos) (tGd C own (jG n gs)):=by
 refine qdB (qc4 hc h hn hst) fun v σ H Q ⟨F,ρ,d,rp,is,ρ',e,k⟩=>?_
 cases is with
 | @tup a xs ds p t=>
  have e:(if ds.length=n then gs ds ρ else .bad)=.ok ρ':=e
  by_cases z:ds.length=n
  ·rw [if_pos z] at e
   exact ⟨a,xs,rfl,by rw [<-hK]; exact qO rp.sub p,by rw [t.length]; exact z,F,ρ,ds,rp,t,ρ',e,k⟩
  ·rw [if_neg z] at e; cases e
 | _=>cases e
noncomputable def qhv (fe:Sl->Out (D×Sl)) (g:D->Sl->Out Sl):Sl->Out (Fl×Sl):=fun ρ=>(fe ρ).bind fun p=>match g p.1 p.2 with
 | .ok ρ'=>.ok (.nx,ρ')
 | _=>.bad
noncomputable def jS (g:D->Sl->Out Sl) (fb:Sl->Out (Fl×Sl)):List D->Sl->Out (Fl×Sl)
 | [],ρ=>.ok (.nx,ρ)
 | d::ds,ρ=>(g d ρ).plain.bind fun ρ1=>(fb ρ1).bind fun p=>match p.1 with
  | .nx=>jS g fb ds p.2
  | .ct=>jS g fb ds p.2
  | .bk=>.ok (.nx,p.2)
  | .rt v=>.ok (.rt v,p.2)
noncomputable def gD (fi:Sl->Out (List D×Sl)) (g:D->Sl->Out Sl) (fb:Sl->Out (Fl×Sl)):Sl->Out (Fl×Sl):=fun ρ=>(fi ρ).bind fun p=>jS g fb p.1 p.2
theorem kc {iter:Expr} {body:List Stmt} {fi:Sl->Out (List D×Sl)} {g:D->Sl->Out Sl} {fb:Sl->Out (Fl×Sl)} (hp:PassesOwn (model X.prog X.w) X.A X.env X.xe) (hc:X.calm=true) (hi:PI X tg iter (tIt C own fi)) (hg:PG X tg (tGd C own g))
  (hb:PSs X body (tSt { C with ol:=own } own own fb)) (hs:∀ x,foldedSetIterable iter X.env x=pure x:=by intro _; rfl):PS X (.For tg iter body [] pos) (tSt C own own (gD fi g fb)):=by
 refine JQ (qc6 hp hc hi hg hb hs) fun D σ H ⟨F,ρ,rp,h⟩=>⟨F,ρ,rp,?_⟩
 unfold gD at h
 cases q0:fi ρ with
 | exc c=>rw [q0] at h; exact h
 | bad=>rw [q0] at h; exact h.elim
 | ok p=>
  rw [q0] at h
  obtain ⟨ds,ρ1⟩:=p
  intro J F1 H1 rp1 c1 it
  have h:PoS C own own σ F H (jS g fb ds ρ1) D:=h
  refine ⟨fun i m σ' H'=>m=ds.length - i/\i<=ds.length/\∃ F' ρ',Nx C own own σ F H ρ' σ' F' H'/\Same F1 F'/\PoS C own own σ' F' H' (jS g fb (ds.drop i) ρ') D,⟨ds.length,by simp,Nat.zero_le _,F1,ρ1,.ofE rp1 c1,Same.refl _,h.shift (.ofE rp1 c1)⟩,?_⟩
  rintro i m σ' H' ⟨rfl,hle,F',ρ',nx,gr,po⟩
  by_cases hlt:i < ds.length
  ·have hd:ds.drop i=ds[i]::ds.drop (i+1):=List.drop_eq_getElem_cons hlt
   rw [hd] at po
   have po:PoS C own own σ' F' H' ((g ds[i] ρ').plain.bind fun ρ1=>(fb ρ1).bind fun p=>match p.1 with | .nx=>jS g fb (ds.drop (i+1)) p.2 | .ct=>jS g fb (ds.drop (i+1)) p.2 | .bk=>.ok (.nx,p.2) | .rt v=>.ok (.rt v,p.2)) D:=po
   refine .inr ⟨it.go i H' hlt (gr.trans nx.rep.sub),fun σ2 H2=>ds.length - (i+1)=ds.length - (i+1)/\i+1<=ds.length/\∃ F' ρ',Nx C own own σ F H ρ' σ2 F' H2/\Same F1 F'/\PoS C own own σ2 F' H2 (jS g fb (ds.drop (i+1)) ρ') D,fun σ2 H2 q=>⟨ds.length - (i+1),by omega,q⟩,fun x H2 y=>?_⟩
   obtain ⟨F2,c2,s2,is2⟩:=it.yld i F' H' x H2 ds[i] (by simp [hlt]) gr nx.rep.sub y
   cases q1:g ds[i] ρ' with
   | exc c=>rw [q1] at po; exact po.elim
   | bad=>rw [q1] at po; exact po.elim
   | ok ρ2=>
    rw [q1] at po
    refine ⟨F2,ρ',ds[i],nx.rep.grow c2 s2,is2,ρ2,q1,fun σ3 rp3 oa3 io3=>⟨F2,ρ2,rp3,?_⟩⟩
    have n3:Nx C own own σ' F' H' ρ2 σ3 F2 H2:=⟨rp3,c2.ofNo,fun b z=>.inl (oa3 b z),io3⟩
    have po3:=PoS.shift (show PoS C own own σ' F' H' ((fb ρ2).bind fun p=>match p.1 with | .nx=>jS g fb (ds.drop (i+1)) p.2 | .ct=>jS g fb (ds.drop (i+1)) p.2 | .bk=>.ok (.nx,p.2) | .rt v=>.ok (.rt v,p.2)) D from po) n3
    have up:∀ {ρ4 σ4 F4 H4},Nx { C with ol:=own } own own σ3 F2 H2 ρ4 σ4 F4 H4->Nx C own own σ3 F2 H2 ρ4 σ4 F4 H4:=fun z=>⟨z.rep,z.chg,z.oa,z.io⟩
    cases q2:fb ρ2 with
    | exc c=>rw [q2] at po3; exact po3
    | bad=>rw [q2] at po3; exact po3.elim
    | ok p=>
     rw [q2] at po3
     obtain ⟨fl,ρ4⟩:=p
     cases fl with
     | nx=>exact fun σ4 F4 H4 n4=>⟨rfl,hlt,F4,ρ4,(nx.then n3).then (up n4),(gr.trans c2.grow).trans n4.chg.grow,PoS.shift (show PoS C own own σ3 F2 H2 (jS g fb (ds.drop (i+1)) ρ4) D from po3) (up n4)⟩
     | ct=>exact fun σ4 F4 H4 n4=>⟨rfl,hlt,F4,ρ4,(nx.then n3).then (up n4),(gr.trans c2.grow).trans n4.chg.grow,PoS.shift (show PoS C own own σ3 F2 H2 (jS g fb (ds.drop (i+1)) ρ4) D from po3) (up n4)⟩
     | bk=>exact fun σ4 F4 H4 n4=>po3 σ4 F4 H4 (up n4)
     | rt d=>exact fun v σ4 F4 H4 s io c e mo=>po3 v σ4 F4 H4 s io c e mo
  ·have e:i=ds.length:=by omega
   subst e
   rw [List.drop_length] at po
   exact .inl ⟨it.stop _ H' (Nat.le_refl _) (gr.trans nx.rep.sub),po σ' F' H' (.refl nx.rep)⟩
noncomputable def jk (ft:Sl->Out (Bool×Sl)) (fb:Sl->Out (Fl×Sl)):Nat->Sl->Out (Fl×Sl)
 | 0,_=>.bad
 | n+1,ρ=>(ft ρ).bind fun q=>if q.1=true then (fb q.2).bind fun p=>match p.1 with
  | .nx=>jk ft fb n p.2
  | .ct=>jk ft fb n p.2
  | .bk=>.ok (.nx,p.2)
  | .rt v=>.ok (.rt v,p.2)
  else .ok (.nx,q.2)
theorem zw {t:Expr} {body:List Stmt} {ft:Sl->Out (Bool×Sl)} {fb:Sl->Out (Fl×Sl)} (n:Nat) (hp:PassesOwn (model X.prog X.w) X.A X.env X.xe) (ht:PT X t (tT C own ft)) (hb:PSs X body (tSt { C with ol:=own } own own fb)) :
  PS X (.While t body [] pos) (tSt C own own (jk ft fb n)):=by
 refine JQ (Zy hp ht hb) fun D σ H ⟨F,ρ,rp,h⟩=>?_
 refine ⟨fun m σ' H'=>∃ F' ρ',Rep C.K own F' H' σ' ρ'/\PoS C own own σ' F' H' (jk ft fb m ρ') D,⟨n,F,ρ,rp,h⟩,?_⟩
 rintro m σ1 H1 ⟨F1,ρ1,rp1,po⟩
 refine ⟨F1,ρ1,rp1,?_⟩
 cases m with
 | zero=>exact po.elim
 | succ m=>
  have po:PoS C own own σ1 F1 H1 ((ft ρ1).bind fun q=>if q.1=true then (fb q.2).bind fun p=>match p.1 with | .nx=>jk ft fb m p.2 | .ct=>jk ft fb m p.2 | .bk=>.ok (.nx,p.2) | .rt v=>.ok (.rt v,p.2) else .ok (.nx,q.2)) D:=po
  refine PoS.bindT po fun F2 H2 k ρ2 rp2 c2 h2=>?_
  cases k with
  | false=>exact h2 σ1 F2 H2 (.refl rp2)
  | true=>
   refine ⟨fun σ3 H3=>∃ F' ρ',Rep C.K own F' H3 σ3 ρ'/\PoS C own own σ3 F' H3 (jk ft fb m ρ') D,fun σ3 H3 q=>⟨m,by omega,q⟩,F2,ρ2,rp2,?_⟩
   have h2:PoS C own own σ1 F2 H2 ((fb ρ2).bind fun p=>match p.1 with | .nx=>jk ft fb m p.2 | .ct=>jk ft fb m p.2 | .bk=>.ok (.nx,p.2) | .rt v=>.ok (.rt v,p.2)) D:=h2
   have up:∀ {ρ4 σ4 F4 H4},Nx { C with ol:=own } own own σ1 F2 H2 ρ4 σ4 F4 H4->Nx C own own σ1 F2 H2 ρ4 σ4 F4 H4:=fun z=>⟨z.rep,z.chg,z.oa,z.io⟩
   cases q2:fb ρ2 with
   | exc c=>rw [q2] at h2; exact h2
   | bad=>rw [q2] at h2; exact h2.elim
   | ok p=>
    rw [q2] at h2
    obtain ⟨fl,ρ4⟩:=p
    cases fl with
    | nx=>exact fun σ4 F4 H4 n4=>⟨F4,ρ4,n4.rep,PoS.shift (show PoS C own own σ1 F2 H2 (jk ft fb m ρ4) D from h2) (up n4)⟩
    | ct=>exact fun σ4 F4 H4 n4=>⟨F4,ρ4,n4.rep,PoS.shift (show PoS C own own σ1 F2 H2 (jk ft fb m ρ4) D from h2) (up n4)⟩
    | bk=>exact fun σ4 F4 H4 n4=>h2 σ4 F4 H4 (up n4)
    | rt d=>exact fun v σ4 F4 H4 s io c e mo=>h2 v σ4 F4 H4 s io c e mo
end
noncomputable def Jt (cells:List (Str×Addr)):List (Str×NameKind)->List (Str×Addr)->List (Str×Addr)
 | [],acc=>acc
 | (n,k)::r,acc=>if (k == .free)=true then Jt cells r ((n,(cells.lookup n).getD 0)::acc) else Jt cells r acc
theorem wI {env:Env}:∀ (names:List (Str×NameKind)) (acc:List (Str×Addr)),(∀ x∈names,x.2=.free->∃ c,env.cells.lookup x.1=some c) ->
  (forIn names acc fun (x:Str×NameKind) (cs:List (Str×Addr))=>if (x.2 == NameKind.free)=true then (do let a <-cellOf env x.1; pure (ForInStep.yield ((x.1,a)::cs))) else pure (ForInStep.yield cs):Sem (List (Str×Addr)))=pure (Jt env.cells names acc)
 | [],acc,_=>rfl
 | (n,k)::r,acc,h=>by
  rw [List.forIn_cons]
  by_cases q:(k == NameKind.free)=true
  ·obtain ⟨c,hc⟩:=h (n,k) List.mem_cons_self (by simpa using q)
   have e:cellOf env n=pure c:=by unfold cellOf; rw [hc]
   simp only [q,if_true,e]
   have ih:=wI r ((n,c)::acc) (fun x hx=>h x (List.mem_cons_of_mem _ hx))
   simp only [Jt,q,if_true,hc,Option.getD_some]
   exact ih
  ·simp only [q,if_false,Jt]
   exact wI r acc (fun x hx=>h x (List.mem_cons_of_mem _ hx))
theorem gP {scope:Scope} {env:Env} (h:∀ x∈scope.names,x.2=.free->∃ c,env.cells.lookup x.1=some c):closureFor scope env=pure (Jt env.cells scope.names []):=by
 have:=wI scope.names [] h
 unfold closureFor
 simp only [bind_pure]
 exact this
theorem uT {cells:List (Str×Addr)}:∀ {names:List (Str×NameKind)} {acc:List (Str×Addr)} {x:Str} {c:Addr},(∀ y∈names,y.2=.free->∃ c,cells.lookup y.1=some c)->(Jt cells names acc).lookup x=some c->cells.lookup x=some c\/acc.lookup x=some c
 | [],acc,x,c,_,h=>.inr h
 | (n,k)::r,acc,x,c,hf,h=>by
  unfold Jt at h
  by_cases q:(k == NameKind.free)=true
  ·rw [if_pos q] at h
   obtain ⟨c',hc⟩:=hf (n,k) List.mem_cons_self (by simpa using q)
   rcases uT (fun y hy=>hf y (List.mem_cons_of_mem _ hy)) h with z | z
   ·exact .inl z
   ·rw [List.lookup_cons] at z
    have hc:cells.lookup n=some c':=hc
    by_cases e:(x == n)=true
    ·rw [e] at z
     simp only [hc,Option.getD_some] at z
     have:x=n:=by simpa using e
     subst this
     rw [hc]; exact .inl z
    ·have e:(x == n)=false:=by simpa using e
     rw [e] at z
     exact .inr z
  ·rw [if_neg q] at h
   exact uT (fun y hy=>hf y (List.mem_cons_of_mem _ hy)) h
theorem Qp {cells:List (Str×Addr)}:∀ {names:List (Str×NameKind)} {acc:List (Str×Addr)} {x:Str},(∃ c,acc.lookup x=some c)->∃ c,(Jt cells names acc).lookup x=some c
 | [],_,_,h=>h
 | (n,k)::r,acc,x,h=>by
  unfold Jt
  by_cases q:(k == NameKind.free)=true
  ·rw [if_pos q]
   refine Qp ?_
   obtain ⟨c,hc⟩:=h
   rw [List.lookup_cons]
   by_cases e:(x == n)=true
   ·rw [e]; exact ⟨_,rfl⟩
   ·have e:(x == n)=false:=by simpa using e
    rw [e]; exact ⟨c,hc⟩
  ·rw [if_neg q]; exact Qp h
theorem za {cells:List (Str×Addr)}:∀ {names:List (Str×NameKind)} {acc:List (Str×Addr)} {x:Str},(x,NameKind.free)∈names->∃ c,(Jt cells names acc).lookup x=some c
 | (n,k)::r,acc,x,h=>by
  unfold Jt
  rcases List.mem_cons.mp h with e | h
  ·cases e
   rw [if_pos (by rfl)]
   refine Qp ?_
   rw [List.lookup_cons,beq_self_eq_true]
   exact ⟨_,rfl⟩
  ·by_cases q:(k == NameKind.free)=true
   ·rw [if_pos q]; exact za h
   ·rw [if_neg q]; exact za h
noncomputable def jT (X:Cx) (scope:Scope) (N:List Str) (fp:List Addr) (L:Addr) (s:Shared) (H:Hp):Cx:=
 { X with N:=N,s₀:=s,H₀:=H,env:=compEnvC scope (Jt X.env.cells scope.names []) L X.env,outer:=X.stack,stack:=X.stack,ex:=fp,fn:=fun _=>false,pn:=[],xe:=fun _ _=>False }
structure ScOk (X:Cx) (scope:Scope):Prop where
 kind:scope.kind=.function
 nocell:∀ y∈scope.names,y.2≠.cell
 names:∀ y∈scope.names,y.2=.local->scope.names.lookup y.1=some .local
 free:∀ y∈scope.names,y.2=.free->X.env.kindOf y.1=some .cell\/X.env.kindOf y.1=some .free
 frl:∀ y∈scope.names,y.2=.free->scope.names.lookup y.1=some .free
theorem uw {α:Type} {x:Str} {a:α}:∀ {l:List (Str×α)},l.lookup x=some a->(x,a)∈l
 | [],h=>by simp at h
 | (n,k)::r,h=>by
  rw [List.lookup_cons] at h
  by_cases e:(x == n)=true
  ·rw [e] at h
   have h:some k=some a:=h
   cases h
   have:x=n:=by simpa using e
   subst this
   exact List.mem_cons_self
  ·have e:(x == n)=false:=by simpa using e
   rw [e] at h
   exact List.mem_cons_of_mem _ (uw h)
theorem xp {scope:Scope} {env:Env} {x:Str} {k:NameKind} (h:(relabel scope env).names.lookup x=some k) (hk:k=.cell\/k=.free) (hn:∀ y∈scope.names,y.2≠.cell):(x,NameKind.free)∈scope.names:=by
 have m:=uw h
 obtain ⟨⟨n,k'⟩,hm,e⟩:=List.mem_map.mp m
 dsimp only at e
 by_cases q:(k' == NameKind.free&&env.scope.kind == .function&&env.kindOf n == some .cell)=true
 ·rw [if_pos q] at e
  cases e
  have:k'=.free:=by
   rw [Bool.and_eq_true,Bool.and_eq_true] at q
   simpa using q.1.1
  subst this
  exact hm
 ·rw [if_neg q] at e
  cases e
  rcases hk with rfl | rfl
  ·exact absurd rfl (hn _ hm)
  ·exact hm
theorem JT {scope:Scope} {env:Env} {x:Str} (h:Vis (relabel scope env) x):∃ k,(x,k)∈scope.names:=by
 have go:∀ {k:NameKind},(relabel scope env).names.lookup x=some k->∃ k,(x,k)∈scope.names:=fun {k} h=>by
  obtain ⟨⟨n,k'⟩,hm,e⟩:=List.mem_map.mp (uw h)
  dsimp only at e
  by_cases q:(k' == NameKind.free&&env.scope.kind == .function&&env.kindOf n == some .cell)=true
  ·rw [if_pos q] at e
   cases e
   exact ⟨_,hm⟩
  ·rw [if_neg q] at e
   cases e
   exact ⟨_,hm⟩
 rcases h with h | h | h <;> exact go h
section
variable {X:Cx} {pins:List (Addr×Obj)} {σ σc:St} {H:Hp} {s:Shared} {scope:Scope} {N:List Str} {fp:List Addr}
theorem zx (I:Inv X pins σ H s) (S:ScOk X scope):∀ y∈scope.names,y.2=.free->∃ c,X.env.cells.lookup y.1=some c:=fun y hy e=>I.ok.has y.1 (S.free y hy e)
theorem ZW {h':Heap} (I:Inv X pins σ H s) (S:ScOk X scope) (hf:∀ b∈fp,KQ X pins H b) (ho:∀ b∈fp,b < s.heap.objs.size) (hns:h'.Ns s.heap.objs.size (fun _=>none))
  (hk:∀ b o,s.heap.get? b=some o->h'.get? b=some o) (hl:σc.length=N.length)
  (hσ:∀ (j:Nat) (x:Str) (v:V),N[j]?=some x->σc[j]?=some (some v)->(∃ k,(x,k)∈scope.names)->∃ i:Nat,X.N[i]?=some x/\σ[i]?=some (some v)/\Vis X.env.scope x/\(x,NameKind.free)∈scope.names) {t:Nat} :
  Inv (jT X scope N fp s.heap.objs.size s H) [] σc H { s with heap:=h',toks:=t }:=by
 have hfc:=zx I S
 have cl:∀ x c,(Jt X.env.cells scope.names []).lookup x=some c->X.env.cells.lookup x=some c:=fun x c e=>(uT hfc e).resolve_right (by simp)
 have nfs:∀ b∈fp,b∉frs X.stack:=fun b hb z=>by
  obtain ⟨f0,f1,f2,_⟩:=hf b hb
  rcases List.mem_cons.mp (I.stkSub b z) with e | e
  ·exact f1 e
  ·exact f2 e
 refine ⟨⟨I.ok.mod,?_,I.ok.glob,I.ok.blt,Nat.le_refl _,fun x y c h1 h2=>I.ok.inj x y c (cl x c h1) (cl y c h2),fun x hx=>?_,fun x c h=>absurd h (by show ¬(false=true); exact Bool.false_ne_true),I.ok.hd,I.ok.frames,.inl rfl,fun b hb=>⟨Nat.ne_of_lt (ho b hb),fun x c e z=>?_⟩,I.bs,Nat.le_trans I.ok.bsz I.sz,fun b o e hb=>?_,nfs,I.stack,I.stkFree⟩,
  rfl,I.bare,Un.kept hk,⟨_,hns,fun j x v e1 e2 e3=>?_⟩,fun x c e=>?_,I.hok.fresh (Nat.le_refl _),fun x c e=>I.freeC x c (cl x c e),fun p hp=>absurd (show p∈([]:List (Addr×Obj)) from hp) (by simp),I.hok.kept hk,hl⟩
 ·exact S.kind
 ·refine za ?_
  rcases hx with hx | hx
  ·exact xp hx (.inl rfl) S.nocell
  ·exact xp hx (.inr rfl) S.nocell
 ·exact (hf b hb).2.2.2.2.1 x c (cl x c e) z
 ·rcases (hf b hb).2.2.2.1 with z | z
  ·exact I.ok.noex b o e z
  ·have hlt:=Heap.lt_size e
   exact absurd (Nat.lt_of_lt_of_le hlt (Nat.le_trans I.ok.bsz z)) (Nat.lt_irrefl _)
 ·obtain ⟨i,g1,g2,g3,g4⟩:=hσ j x v e1 e2 (JT e3)
  obtain ⟨m,hn,hl'⟩:=I.loc
  obtain ⟨u,r,look⟩:=hl' i x v g1 g2 g3
  refine ⟨u,r,?_⟩
  obtain ⟨c0,hc0⟩:=za (cells:=X.env.cells) (acc:=[]) g4
  have hce:=cl x c0 hc0
  have kd:(jT X scope N fp s.heap.objs.size s H).env.kindOf x=some .cell\/(jT X scope N fp s.heap.objs.size s H).env.kindOf x=some .free\/(jT X scope N fp s.heap.objs.size s H).env.kindOf x=some .local:=by
   rcases e3 with z | z | z
   ·exact .inr (.inr z)
   ·exact .inl z
   ·exact .inr (.inl z)
  rcases look with ⟨k,_⟩ | ⟨k,c,hc,z⟩
  ·rcases S.free _ g4 rfl with q | q
   ·have q:X.env.kindOf x=some .cell:=q
    rw [k] at q; cases q
   ·have q:X.env.kindOf x=some .free:=q
    rw [k] at q; cases q
  ·rw [hce] at hc
   cases hc
   obtain ⟨oc,ho1,ho2⟩:=z
   rcases kd with q | q | q
   ·exact .inr ⟨.inl q,c0,hc0,⟨oc,hk _ _ ho1,ho2⟩⟩
   ·exact .inr ⟨.inr q,c0,hc0,⟨oc,hk _ _ ho1,ho2⟩⟩
   ·refine absurd q ?_
    intro q
    have m2:=uw (show (relabel scope X.env).names.lookup x=some .local from q)
    obtain ⟨⟨n,k'⟩,hm,e⟩:=List.mem_map.mp m2
    dsimp only at e
    by_cases qq:(k' == NameKind.free&&X.env.scope.kind == .function&&X.env.kindOf n == some .cell)=true
    ·rw [if_pos qq] at e; cases e
    ·rw [if_neg qq] at e
     cases e
     have e1:=S.names _ hm rfl
     have e2:=S.frl _ g4 rfl
     have e1:scope.names.lookup x=some .local:=e1
     have e2:scope.names.lookup x=some .free:=e2
     rw [e1] at e2
     cases e2
 ·obtain ⟨v,oc,ho1,ho2⟩:=I.cell x c (cl x c e)
  exact ⟨v,oc,hk _ _ ho1,ho2⟩
theorem ZX {H1 H':Hp} {s1 s':Shared} {h':Heap} {L:Addr} (I:Inv X pins σ H s) (hf:∀ b∈fp,KQ X pins H b) (J:Inv (jT X scope N fp s.heap.objs.size s H) [] σc H' s') (sb:Heap.SameBut s.heap.objs.size s'.heap h'):Inv X pins σ H' { s' with heap:=h' }:=by
 have hL:H' s.heap.objs.size=none:=J.free
 have ne:∀ b o,s.heap.get? b=some o->b≠s.heap.objs.size:=fun b o e=>Nat.ne_of_lt (Heap.lt_size e)
 have U:Un (frs X.stack) fp H H' s.heap s'.heap:=J.base
 refine I.call' (s':={ s' with heap:=h' }) (ch:=fp) J.os ⟨fun b o e n h1 h2=>(sb.2 b (ne b o e)).trans (U.keep b o e n h1 h2),fun b o e n h1 h2=>?_,U.free,fun b o e h2=>?_,U.tups,U.frzs,U.tbls⟩ (fun b u e=>?_) J.bare fun b hb=>?_
 ·obtain ⟨sl,q⟩:=U.slot b o e n h1 h2
  exact ⟨sl,(sb.2 b (ne b o e)).trans q⟩
 ·obtain ⟨o',q⟩:=U.there b o e h2
  exact ⟨o',(sb.2 b (ne b o e)).trans q⟩
 ·refine (J.hok b u e).stay (fun c w hc q=>(sb.2 c ?_).trans q) (fun _ q=>q) fun _ _ q=>q
  rintro rfl
  rcases hc with z | z
  ·rw [<-z,hL] at e; cases e
  ·rw [hL] at z; cases z
 ·obtain ⟨f0,f1,f2,f3,f4,f5⟩:=hf b hb
  exact ⟨f3,f1,f4,f5⟩
end
theorem Qq {prog:Program} {w:World} {A:Around} {R:Result->Shared->Prop} {s:Shared} {elt target iter:Expr} {ifs:List Expr} {scope:Scope} {pos:Pos} {it acc:Value} {env:Env} (I:Nat->Shared->Prop)
  (turn:∀ n s,I n s->wpAny (model prog w) A (pyNext it) (fun r s₁=>match r with
   | none=>R (.ok .next) s₁
   | some v=>wpAny (model prog w) A (letOwnedTupleGo target it v) (fun _ t₁=>wpAny (model prog w) A (assign target env v) (fun _ s₂=>
     wpAny (model prog w) A (forIn ifs true fun c r=>if r=true then do let ok <-isTrue c env (eval c env); pure (ForInStep.yield ok) else pure (ForInStep.yield r)) (fun ok s₃=>
      if ok=true then wpAny (model prog w) A (eval elt env) (fun x s₄=>
       wpAny (model prog w) A (call (.builtin "list.append") [acc,x]) (fun _ s₅=>∃ m,m < n/\I m s₅) (fun _ _=>False) s₄) (fun _ _=>False) s₃
      else ∃ m,m < n/\I m s₃) (fun _ _=>False) s₂) (fun _ _=>False) t₁) (fun _ _=>False) s₁) (fun _ _=>False) s)
  (n:Nat) (h:I n s):codeAny (model prog w) A (.compLoop (.ListComp elt [⟨target,iter,ifs,0⟩] scope pos) 0 it acc env) R s:=by
 have no:∀ {α:Type} {t:Sem α} {Q Q':α->Shared->Prop} {E':Value->Shared->Prop} {s:Shared},wpAny (model prog w) A t Q (fun _ _=>False) s->(∀ a s,Q a s->Q' a s)->wpAny (model prog w) A t Q' E' s:=fun h k=>wpAny_mono h k fun _ _ z=>z.elim
 refine codeAny_loop rfl I (fun n s hI=>?_) n h
 show wpAny _ A ((compTurn (.ListComp elt [⟨target,iter,ifs,0⟩] scope pos) 0 it acc env).onRaise (fun x=>do noteFrame x env; theTreesLotGoes x)) _ _ s
 refine wpAny_noted ?_
 rw [compTurn_list]
 refine wpAny_bind (wpAny_standAt (wpAny_bind (no (turn n s hI) fun r s₁ h₁=>?_)))
 cases r with
 | none=>exact wpAny_pure h₁
 | some v=>
  refine wpAny_bind (no h₁ fun _ t₁ k₁=>wpAny_bind (no k₁ fun _ s₂ h₂=>wpAny_bind (no h₂ fun ok s₃ h₃=>?_)))
  cases ok with
  | false=>exact wpAny_pure ⟨rfl,h₃⟩
  | true=>exact wpAny_bind (wpAny_bind (no h₃ fun x s₄ h₄=>wpAny_bind (no h₄ fun _ s₅ h₅=>wpAny_pure (wpAny_pure ⟨rfl,h₅⟩))))
structure PTs (Y:Cx) (ifs:List Expr) (t:TT):Prop where
 run:∀ (pins:List (Addr×Obj)) (s:Shared) (σ:St) (H:Hp) (Q:Bool->Hp->Prop),Inv Y pins σ H s->t σ H Q ->
  wpAny (model Y.prog Y.w) Y.A (forIn ifs true fun c r=>if r=true then do let ok <-isTrue c Y.env (eval c Y.env); pure (ForInStep.yield ok) else pure (ForInStep.yield r)) (TP Y pins σ Q) Y.xe s
instance {Y:Cx} {ifs:List Expr} {t:TT}:CoeFun (PTs Y ifs t) (fun _=>∀ (pins:List (Addr×Obj)) (s:Shared) (σ:St) (H:Hp) (Q:Bool->Hp->Prop),Inv Y pins σ H s->t σ H Q ->
  wpAny (model Y.prog Y.w) Y.A (forIn ifs true fun c r=>if r=true then do let ok <-isTrue c Y.env (eval c Y.env); pure (ForInStep.yield ok) else pure (ForInStep.yield r)) (TP Y pins σ Q) Y.xe s):=⟨fun h=>h.run⟩
theorem qbC {Y:Cx}:PTs Y [] (fun _ H Q=>Q true H):=⟨fun _ _ _ H _ I h=>wpAny_tests_nil ⟨H,I,h⟩⟩
theorem Qr {Y:Cx} {c:Expr} {t:TT} (h:PT Y c t):PTs Y [c] t:=⟨fun pins s σ H Q I q=>wpAny_tests_one (h pins s σ H Q I q)⟩
section
variable {X:Cx} {pins:List (Addr×Obj)} {σ σc:St} {H:Hp} {s:Shared} {scope:Scope} {N:List Str} {fp:List Addr} {it:Addr} {tn:Nat->Heap->Prop} {J:It} {tg elt iter:Expr} {ifs:List Expr} {pos:Pos} {g:TG} {tt:TT} {te:TE} {E:Value->Shared->Prop}
theorem ZY (I:Inv X pins σ H s) (hcalm:X.calm=true) (S:ScOk X scope) (T:Turn X.prog X.w X.K tg J fp it tn) (st0:tn 0 s.heap) (hf:∀ b∈fp,KQ X pins H b)
  (hg:∀ fp L s' H',PG (jT X scope N fp L s' H') tg g) (ht:∀ fp L s' H',PTs (jT X scope N fp L s' H') ifs tt) (he:∀ fp L s' H',PE (jT X scope N fp L s' H') elt te) (hl:σc.length=N.length)
  (hσ:∀ (j:Nat) (x:Str) (v:V),N[j]?=some x->σc[j]?=some (some v)->(∃ k,(x,k)∈scope.names)->∃ i:Nat,X.N[i]?=some x/\σ[i]?=some (some v)/\Vis X.env.scope x/\(x,NameKind.free)∈scope.names)
  (W:Addr->Nat->Nat->St->Hp->Prop) (Fin:Addr->Hp->Prop) (w0:∀ p,H p=none->∃ m,W p 0 m σc (upd H p (.lst [])))
  (turn:∀ p i m σ1 H1,W p i m σ1 H1->(J.stop i H1/\Fin p H1)\/(J.go i H1/\∀ x H2,J.yld i H1 x H2->g x σ1 H2 fun σ2 H3=>tt σ2 H3 fun b H4=>if b=true then te σ2 H4 fun y H5=>∃ xs,H5 p=some (.lst xs)/\xs.length < sizeLine/\∃ m',m' < m/\W p (i+1) m' σ2 (upd H5 p (.lst (xs++[y]))) else ∃ m',m' < m/\W p (i+1) m' σ2 H4))
  (RR:Value->Addr->Result->Shared->Prop)
  (hRR:∀ p L H' s',Fin p H'->(∃ m,s'.heap.Ns L m)->KQ X pins H' L->(∀ h',Heap.SameBut L s'.heap h'->Inv X pins σ H' { s' with heap:=h' })->RR (.ref p) L (.ok .next) s') :
  wpAny (model X.prog X.w) X.A (newList []) (fun acc s₃=>wpAny (model X.prog X.w) X.A (newFunctionEnv scope X.env.globals (Jt X.env.cells scope.names []) [] X.env.qual none .none (some X.env)) (fun cenv s₄=>
   codeAny (model X.prog X.w) X.A (.compStart (.ListComp elt [⟨tg,iter,ifs,0⟩] scope pos) 0 (.ref it) acc { cenv with scope:=relabel scope X.env }) (RR acc cenv.locals) s₄) E s₃) E s:=by
 have hfo:∀ b∈fp,b < s.heap.objs.size:=fun b hb=>let ⟨o,e,_⟩:=T.obj 0 _ st0 b hb; Heap.lt_size e
 have hfresh:=I.fresh
 have I3:Inv X pins σ (upd H s.heap.objs.size (.lst [])) { s with heap:=s.heap.push { cls:=.type "list",data:=.seq ([]:List Value).toArray } }:=I.lnew (t':=s.toks) (ys:=[]) (its:=[]) .nil (Nat.zero_le _)
 have hf3:∀ b∈fp,KQ X pins (upd H s.heap.objs.size (.lst [])) b:=fun b hb=>⟨by rw [qA (Nat.ne_of_lt (hfo b hb))]; exact (hf b hb).1,(hf b hb).2⟩
 have st3:tn 0 (s.heap.push { cls:=.type "list",data:=.seq ([]:List Value).toArray }):=T.keep 0 _ _ st0 fun b hb o e=>Heap.get?_push_of_some _ e
 refine wpAny_newObj_type (wpAny_newFunctionEnv S.nocell (fun y hy=>by simp at hy) (fun h₁ hns₁ hsb₁=>?_) S.kind)
 dsimp only at hns₁ hsb₁ ⊢
 generalize hs3:({ s with heap:=s.heap.push { cls:=.type "list",data:=.seq ([]:List Value).toArray } }:Shared)=s3 at I3
 have e3:s3.heap=s.heap.push { cls:=.type "list",data:=.seq ([]:List Value).toArray }:=by rw [<-hs3]
 rw [<-e3] at hns₁ hsb₁ st3 ⊢
 have keep:∀ b o,s3.heap.get? b=some o->h₁.get? b=some o:=fun b o e=>(hsb₁.2 b (Nat.ne_of_lt (Heap.lt_size e))).trans (Heap.get?_push_of_some _ e)
 have ho3:∀ b∈fp,b < s3.heap.objs.size:=fun b hb=>by rw [e3,Heap.size_push]; exact Nat.lt_succ_of_lt (hfo b hb)
 have J1:Inv (jT X scope N fp s3.heap.objs.size s3 (upd H s.heap.objs.size (.lst []))) [] σc (upd H s.heap.objs.size (.lst [])) { s3 with heap:=h₁,toks:=s.toks+0 }:=
  ZW I3 S hf3 ho3 (by simpa using hns₁) keep hl hσ
 have st4:tn 0 h₁:=T.keep 0 _ _ st3 fun b hb o e=>keep b o e
 have loop:∀ s4:Shared,s4={ s3 with heap:=h₁,toks:=s.toks+0 }->codeAny (model X.prog X.w) X.A (.compLoop (.ListComp elt [⟨tg,iter,ifs,0⟩] scope pos) 0 (.ref it) (.ref s.heap.objs.size) (compEnvC scope (Jt X.env.cells scope.names []) s3.heap.objs.size X.env)) (RR (.ref s.heap.objs.size) s3.heap.objs.size) s4:=by
  rintro s4 rfl
  generalize hY:jT X scope N fp s3.heap.objs.size s3 (upd H s.heap.objs.size (.lst []))=Y at J1
  have eP:Y.prog=X.prog:=by rw [<-hY]; rfl
  have ew:Y.w=X.w:=by rw [<-hY]; rfl
  have eA:Y.A=X.A:=by rw [<-hY]; rfl
  have ee:Y.env=compEnvC scope (Jt X.env.cells scope.names []) s3.heap.objs.size X.env:=by rw [<-hY]; rfl
  have eK:Y.K=X.K:=by rw [<-hY]; rfl
  have ec:Y.calm=true:=by rw [<-hY]; exact hcalm
  have ex:Y.xe=fun _ _=>False:=by rw [<-hY]; rfl
  have hgY:PG Y tg g:=by rw [<-hY]; exact hg fp _ _ _
  have htY:PTs Y ifs tt:=by rw [<-hY]; exact ht fp _ _ _
  have heY:PE Y elt te:=by rw [<-hY]; exact he fp _ _ _
  have stat:∀ {H1:Hp},(∀ b∈fp,H1 b=none)->∀ b∈fp,KQ Y [] H1 b:=fun hn b hb=>by
   have q:=J1.ok.exf b (by rw [<-hY]; exact hb)
   refine ⟨hn b hb,q.1,J1.ok.exfs b (by rw [<-hY]; exact hb),.inl (by rw [<-hY]; exact hb),q.2,fun p hp=>?_⟩
   rw [<-hY] at hp
   exact absurd (show p∈([]:List (Addr×Obj)) from hp) (by simp)
  obtain ⟨m0,hm0⟩:=w0 s.heap.objs.size hfresh
  refine Qq (fun n s'=>∃ i σ1 H1,Inv Y [] σ1 H1 s'/\tn i s'.heap/\(∀ b∈fp,H1 b=none)/\W s.heap.objs.size i n σ1 H1) ?_ m0 ⟨0,σc,_,J1,st4,fun b hb=>(hf3 b hb).1,hm0⟩
  rintro n s5 ⟨i,σ1,H1,J5,st5,fr5,w5⟩
  rw [<-eP,<-ew,<-eA,<-ee]
  have TY:Turn Y.prog Y.w Y.K tg J fp it tn:=by rw [eP,ew,eK]; exact T
  rcases turn _ i n σ1 H1 w5 with ⟨stop,fin⟩ | ⟨go,step⟩
  ·refine thn (TY.done Y rfl rfl rfl ec i [] s5 σ1 H1 _ J5 (stat fr5) st5 stop) fun r s6 ⟨hr,J6⟩=>?_
   subst hr
   have J6':Inv (jT X scope N fp s3.heap.objs.size s3 (upd H s.heap.objs.size (.lst []))) [] σ1 H1 s6:=by rw [hY]; exact J6
   exact hRR _ _ H1 s6 fin (let ⟨m,hn,_⟩:=J6'.loc; ⟨m,hn⟩) (I3.fpOk (Nat.le_refl _) J6'.free) fun h' sb=>ZX (s1:=s6) (H1:=H1) (L:=0) I3 hf3 J6' sb
  ·refine thn (TY.item Y rfl rfl rfl ec i [] s5 σ1 H1 _ J5 (stat fr5) st5 go) fun r s6 ⟨u,hr,h6⟩=>?_
   subst hr
   refine thn h6 fun _ s7 ⟨x,H7,J7,r7,y7,st7,fr7⟩=>?_
   have J7':=J7.pinned (stat fr7) (TY.obj _ _ st7)
   have back:∀ {σ9:St} {H9:Hp} {s9:Shared},Inv Y ([]++Jy fp s7.heap) σ9 H9 s9->(∃ m',m' < n/\W s.heap.objs.size (i+1) m' σ9 H9)->∃ m,m < n/\∃ i σ1 H1,Inv Y [] σ1 H1 s9/\tn i s9.heap/\(∀ b∈fp,H1 b=none)/\W s.heap.objs.size i m σ1 H1:=fun {σ9 H9 s9} J9 ⟨m',hm,w9⟩=>by
    refine ⟨m',hm,i+1,σ9,H9,J9.unpinned,TY.keep _ _ _ st7 fun b hb o e=>(J9.pin (b,o) (List.mem_append_right _ (List.mem_append_right _ (uo hb e)))).1,fun b hb=>?_,w9⟩
    obtain ⟨o,e,d⟩:=TY.obj _ _ st7 b hb
    exact (J9.pin (b,o) (List.mem_append_right _ (List.mem_append_right _ (uo hb e)))).2.1
   rw [<-ex]
   refine thn (hgY _ s7 σ1 H7 x u _ J7' r7 (step x H7 y7)) fun _ s8 ⟨σ8,H8,J8,q8⟩=>?_
   refine thn (htY _ s8 σ8 H8 _ J8 q8) fun ok s9 ⟨H9,J9,q9⟩=>?_
   cases ok with
   | false=>exact back J9 q9
   | true=>
    refine thn (heY _ s9 σ8 H9 _ J9 q9) fun v s10 ⟨y,H10,J10,r10,xs,hx,hlen,q10⟩=>?_
    exact thn (JG _ s10 σ8 H10 (.ref s.heap.objs.size) [y] (.ref s.heap.objs.size) [v] (fun _ H11=>∃ m',m' < n/\W s.heap.objs.size (i+1) m' σ8 H11) J10 rfl (.cons r10 .nil) ⟨_,xs,y,rfl,rfl,hx,hlen,q10⟩) fun _ s11 ⟨_,H11,J11,_,q11⟩=>back J11 q11
 have e4:({ heap:=h₁,gens:=s.gens,drawn:=s.drawn,toks:=s.toks+([]:List (Str×Value)).length,os:=s.os }:Shared)={ s3 with heap:=h₁,toks:=s.toks+0 }:=by rw [<-hs3]; rfl
 exact codeAny_compStart_list (loop _ e4) (T.self _ 0 _ _ _ st4 (loop _ e4))
end
noncomputable def kD {α:Type} (nt:Nat) (cap:List Nat) (ρ:List (Option α)):List (Option α):=List.replicate nt none++cap.map fun k=>(ρ[k]?).getD none
noncomputable def uU (own:List Nat):Nat->List Nat->List Nat
 | _,[]=>[]
 | n,k::cap=>if k∈own then n::uU own (n+1) cap else uU own (n+1) cap
noncomputable def ioC (nt len:Nat):List Nat:=(List.range len).map (nt + ·)
noncomputable def jU (own:List Nat) (ρc:Sl):Nat->List Nat->Sl->Sl
 | _,[],ρ=>ρ
 | n,k::cap,ρ=>if k∈own then jU own ρc (n+1) cap (ρ.set k ((ρc[n]?).getD none)) else jU own ρc (n+1) cap ρ
theorem get_cap {α:Type} {nt:Nat} {cap:List Nat} {ρ:List (Option α)} {i:Nat} {d:α}:(kD nt cap ρ)[i]?=some (some d)↔∃ j k,i=nt+j/\cap[j]?=some k/\ρ[k]?=some (some d):=by
 unfold kD
 constructor
 ·intro h
  by_cases hi:i < nt
  ·rw [List.getElem?_append_left (by simpa using hi),List.getElem?_replicate] at h
   split at h <;> cases h
  ·rw [List.getElem?_append_right (by simpa using hi),List.length_replicate,List.getElem?_map] at h
   cases q:cap[i - nt]? with
   | none=>rw [q] at h; cases h
   | some k=>
    rw [q] at h
    have h:(ρ[k]?).getD none=some d:=Option.some.inj h
    refine ⟨i - nt,k,by omega,q,?_⟩
    cases q2:ρ[k]? with
    | none=>rw [q2] at h; cases h
    | some o=>rw [q2] at h; exact congrArg some h
 ·rintro ⟨j,k,rfl,h1,h2⟩
  rw [List.getElem?_append_right (by simp),List.length_replicate,List.getElem?_map,show nt+j - nt=j by omega,h1]
  simp [h2]
theorem mem_ownC {own:List Nat}:∀ {n:Nat} {cap:List Nat} {i:Nat},i∈uU own n cap↔∃ j k,i=n+j/\cap[j]?=some k/\k∈own
 | n,[],i=>by simp [uU]
 | n,k::cap,i=>by
  have ih:=@mem_ownC own (n+1) cap i
  unfold uU
  by_cases hk:k∈own
  ·rw [if_pos hk,List.mem_cons,ih]
   constructor
   ·rintro (rfl | ⟨j,k',e,h1,h2⟩)
    ·exact ⟨0,k,rfl,rfl,hk⟩
    ·exact ⟨j+1,k',by omega,by simpa using h1,h2⟩
   ·rintro ⟨j,k',e,h1,h2⟩
    cases j with
    | zero=>exact .inl (by omega)
    | succ j=>exact .inr ⟨j,k',by omega,by simpa using h1,h2⟩
  ·rw [if_neg hk,ih]
   constructor
   ·rintro ⟨j,k',e,h1,h2⟩
    exact ⟨j+1,k',by omega,by simpa using h1,h2⟩
   ·rintro ⟨j,k',e,h1,h2⟩
    cases j with
    | zero=>simp at h1; subst h1; exact absurd h2 hk
    | succ j=>exact ⟨j,k',by omega,by simpa using h1,h2⟩
theorem mem_ioC {nt len i:Nat}:i∈ioC nt len↔∃ j,j < len/\i=nt+j:=by
 unfold ioC
 rw [List.mem_map]
 constructor
 ·rintro ⟨j,h1,h2⟩; exact ⟨j,List.mem_range.mp h1,h2.symm⟩
 ·rintro ⟨j,h1,h2⟩; exact ⟨j,List.mem_range.mpr h1,h2.symm⟩
theorem yP {own:List Nat} {ρc:Sl}:∀ {n:Nat} {cap:List Nat} {ρ:Sl},(jU own ρc n cap ρ).length=ρ.length
 | _,[],_=>rfl
 | n,k::cap,ρ=>by
  unfold jU
  by_cases hk:k∈own
  ·rw [if_pos hk,yP,List.length_set]
  ·rw [if_neg hk,yP]
theorem kK {own:List Nat} {ρc:Sl}:∀ {n:Nat} {cap:List Nat} {ρ:Sl} {i:Nat},¬(i∈cap/\i∈own)->(jU own ρc n cap ρ)[i]?=ρ[i]?
 | _,[],_,_,_=>rfl
 | n,k::cap,ρ,i,h=>by
  unfold jU
  have h':¬(i∈cap/\i∈own):=fun z=>h ⟨List.mem_cons_of_mem _ z.1,z.2⟩
  by_cases hk:k∈own
  ·rw [if_pos hk,kK h',List.getElem?_set_ne (fun e=>h ⟨List.mem_cons.mpr (.inl e.symm),by rw [<-e]; exact hk⟩)]
  ·rw [if_neg hk,kK h']
theorem yq {own:List Nat} {ρc:Sl}:∀ {n:Nat} {cap:List Nat} {ρ:Sl} {j k:Nat} {d:D},cap.Nodup->cap[j]?=some k->k∈own->k < ρ.length->ρc[n+j]?=some (some d)->(jU own ρc n cap ρ)[k]?=some (some d)
 | _,[],_,_,_,_,_,h,_,_,_=>by simp at h
 | n,k0::cap,ρ,0,k,d,nd,h,hk,hl,e=>by
  simp at h; subst h
  obtain ⟨n1,n2⟩:=List.nodup_cons.mp nd
  unfold jU
  rw [if_pos hk,kK (fun z=>n1 z.1),List.getElem?_set_self hl]
  have e:ρc[n]?=some (some d):=e
  rw [e]; rfl
 | n,k0::cap,ρ,j+1,k,d,nd,h,hk,hl,e=>by
  obtain ⟨n1,n2⟩:=List.nodup_cons.mp nd
  have h:cap[j]?=some k:=by simpa using h
  have e:ρc[n+1+j]?=some (some d):=by rw [show n+1+j=n+(j+1) by omega]; exact e
  unfold jU
  by_cases hk0:k0∈own
  ·rw [if_pos hk0]; exact yq n2 h hk (by rw [List.length_set]; exact hl) e
  ·rw [if_neg hk0]; exact yq n2 h hk hl e
section
variable {K:Frag} {own cap:List Nat} {nt:Nat} {F H:Hp} {σ σ1:St} {ρ ρ1:Sl}
theorem Vg {α:Type} {ρ:List (Option α)}:(kD nt cap ρ).length=nt+cap.length:=by simp [kD]
theorem Yx {l:List Nat} (h:l.Nodup) {i j k:Nat} (a:l[i]?=some k) (b:l[j]?=some k):i=j:=by
 obtain ⟨h1,e1⟩:=List.getElem?_eq_some_iff.mp a
 obtain ⟨h2,e2⟩:=List.getElem?_eq_some_iff.mp b
 exact (List.getElem_inj h).mp (e1.trans e2.symm)
theorem qbD (rp:Rep K own F H σ ρ) (nd:cap.Nodup):Rep K (uU own nt cap) F H (kD nt cap σ) (kD nt cap ρ) where
 sub:=rp.sub
 len:=by rw [Vg,Vg]
 val:=fun i d hi e=>by
  obtain ⟨j,k,rfl,h1,h2⟩:=get_cap.mp e
  obtain ⟨v,g1,g2⟩:=rp.val k d (fun z=>hi (mem_ownC.mpr ⟨j,k,rfl,h1,z⟩)) h2
  exact ⟨v,get_cap.mpr ⟨j,k,rfl,h1,g1⟩,g2⟩
 ow:=fun i d hi e=>by
  obtain ⟨j,k,rfl,h1,h2⟩:=get_cap.mp e
  obtain ⟨j',k',e',h1',h2'⟩:=mem_ownC.mp hi
  have:j=j':=by omega
  subst this
  rw [h1] at h1'; cases h1'
  obtain ⟨a,g1,g2⟩:=rp.ow k d h2' h2
  exact ⟨a,get_cap.mpr ⟨j,k,rfl,h1,g1⟩,g2⟩
 opn:=fun i hi=>by
  obtain ⟨j,k,rfl,h1,h2⟩:=mem_ownC.mp hi
  obtain ⟨d,e⟩:=rp.opn k h2
  exact ⟨d,get_cap.mpr ⟨j,k,rfl,h1,e⟩⟩
 dis:=fun i i' a hi hi' e e'=>by
  obtain ⟨j,k,rfl,h1,h2⟩:=mem_ownC.mp hi
  obtain ⟨j',k',rfl,h1',h2'⟩:=mem_ownC.mp hi'
  obtain ⟨x,y,q1,q2,q3⟩:=get_cap.mp e
  obtain ⟨x',y',q1',q2',q3'⟩:=get_cap.mp e'
  have:x=j:=by omega
  subst this
  have:x'=j':=by omega
  subst this
  rw [h1] at q2; cases q2
  rw [h1'] at q2'; cases q2'
  have e:=rp.dis k k' a h2 h2' q3 q3'
  subst e
  rw [Yx nd h1 h1']
theorem Yy (hio:∀ i∈ioC nt cap.length,σ1[i]?=(kD nt cap σ)[i]?) {b:Addr} (h:OA (uU own nt cap) σ1 b):OA own σ b:=by
 obtain ⟨i,hi,e⟩:=h
 obtain ⟨j,k,rfl,h1,h2⟩:=mem_ownC.mp hi
 rw [hio _ (mem_ioC.mpr ⟨j,(List.getElem?_eq_some_iff.mp h1).1,rfl⟩)] at e
 obtain ⟨x,y,q1,q2,q3⟩:=get_cap.mp e
 have:x=j:=by omega
 subst this
 rw [h1] at q2; cases q2
 exact ⟨k,h2,q3⟩
theorem Yz {F' H':Hp} (rp:Rep K own F H σ ρ) (nd:cap.Nodup) (rp1:Rep K (uU own nt cap) F' H' σ1 ρ1) (hio:∀ i∈ioC nt cap.length,σ1[i]?=(kD nt cap σ)[i]?) (c:Chg (OA (uU own nt cap) σ1) F H F' H'):Rep K own F' H' σ (jU own ρ1 nt cap ρ) where
 sub:=rp1.sub
 len:=by rw [yP]; exact rp.len
 val:=fun i d hi e=>by
  rw [kK (fun z=>hi z.2)] at e
  obtain ⟨v,h1,h2⟩:=rp.val i d hi e
  exact ⟨v,h1,h2.mono c.grow⟩
 ow:=fun i d hi e=>by
  by_cases q:i∈cap
  ·obtain ⟨j,hj⟩:=List.getElem?_of_mem q
   have hm:nt+j∈uU own nt cap:=mem_ownC.mpr ⟨j,i,rfl,hj,hi⟩
   obtain ⟨d',hd'⟩:=rp1.opn _ hm
   obtain ⟨d0,hd0⟩:=rp.opn i hi
   rw [yq nd hj hi (List.getElem?_eq_some_iff.mp hd0).1 hd'] at e
   cases e
   obtain ⟨a,h1,h2⟩:=rp1.ow _ _ hm hd'
   rw [hio _ (mem_ioC.mpr ⟨j,(List.getElem?_eq_some_iff.mp hj).1,rfl⟩)] at h1
   obtain ⟨x,y,q1,q2,q3⟩:=get_cap.mp h1
   have:x=j:=by omega
   subst this
   rw [hj] at q2; cases q2
   exact ⟨a,q3,h2⟩
  ·rw [kK (fun z=>q z.1)] at e
   obtain ⟨a,h1,h2,h3⟩:=rp.ow i d hi e
   have na:¬OA (uU own nt cap) σ1 a:=fun z=>by
    obtain ⟨i',hi',e'⟩:=z
    obtain ⟨j,k,rfl,g1,g2⟩:=mem_ownC.mp hi'
    rw [hio _ (mem_ioC.mpr ⟨j,(List.getElem?_eq_some_iff.mp g1).1,rfl⟩)] at e'
    obtain ⟨x,y,q1,q2,q3⟩:=get_cap.mp e'
    have:x=j:=by omega
    subst this
    rw [g1] at q2; cases q2
    have e:=rp.dis i k a hi g2 h1 q3
    subst e
    exact q (List.mem_of_getElem? g1)
   refine ⟨a,h1,?_,h3.grow c.grow fun o z=>c.keep a o z na⟩
   cases qq:F' a with
   | none=>rfl
   | some u=>
    rcases c.new a (by rw [qq]; simp) with z | z | z
    ·exact absurd h2 z
    ·exact absurd z h3.there
    ·exact absurd z na
 opn:=fun i hi=>by
  by_cases q:i∈cap
  ·obtain ⟨j,hj⟩:=List.getElem?_of_mem q
   have hm:nt+j∈uU own nt cap:=mem_ownC.mpr ⟨j,i,rfl,hj,hi⟩
   obtain ⟨d',hd'⟩:=rp1.opn _ hm
   obtain ⟨d0,hd0⟩:=rp.opn i hi
   exact ⟨d',yq nd hj hi (List.getElem?_eq_some_iff.mp hd0).1 hd'⟩
  ·rw [kK (fun z=>q z.1)]
   exact rp.opn i hi
 dis:=rp.dis
end
noncomputable def zy (g:D->Sl->Out Sl) (ft:Sl->Out (Bool×Sl)) (fe:Sl->Out (D×Sl)) (d:D) (ρ:Sl):Out (Option D×Sl):=
 (g d ρ).plain.bind fun ρ1=>(ft ρ1).plain.bind fun q=>if q.1=true then (fe q.2).plain.bind fun r=>.ok (some r.1,r.2) else .ok (none,q.2)
noncomputable def jN (g:D->Sl->Out Sl) (ft:Sl->Out (Bool×Sl)) (fe:Sl->Out (D×Sl)):List D->Sl->Out (List D×Sl)
 | [],ρ=>.ok ([],ρ)
 | d::ds,ρ=>(zy g ft fe d ρ).bind fun p=>(jN g ft fe ds p.2).bind fun q=>.ok (p.1.toList++q.1,q.2)
noncomputable def qN (own:List Nat) (nt:Nat) (cap:List Nat) (fi:Sl->Out (List D×Sl)) (g:D->Sl->Out Sl) (ft:Sl->Out (Bool×Sl)) (fe:Sl->Out (D×Sl)):Sl->Out (D×Sl):=fun ρ=>(fi ρ).bind fun p=>
 if p.1.length<=sizeLine then (jN g ft fe p.1 (kD nt cap p.2)).bind fun q=>.ok (.lst q.1,jU own q.2 nt cap p.2) else .bad
noncomputable def ctC (C:Ct) (nt len:Nat):Ct:=⟨C.K,C.cv,fun _ _ _=>False,ioC nt len,.sh,[],[],fun _ h=>absurd h (by simp)⟩
noncomputable def ftT:Sl->Out (Bool×Sl):=fun ρ=>.ok (true,ρ)
theorem qR {Y:Cx} {C:Ct} {own:List Nat}:PTs Y [] (tT C own ftT):=⟨fun pins s σ H Q I ⟨F,ρ,rp,h⟩=>qbC pins s σ H Q I (h F H rp .refl)⟩
structure CW (C:Ct) (own:List Nat) (nt:Nat) (cap:List Nat) (σ:St) (F H F0:Hp) (g:D->Sl->Out Sl) (ft:Sl->Out (Bool×Sl)) (fe:Sl->Out (D×Sl)) (ds ys:List D) (ρe:Sl) (p:Addr) (i:Nat) (σ1:St) (H1:Hp) (F1:Hp) (ρi:Sl) (accD:List D) (xs:List V) (rest:List D):Prop where
 rep:Rep C.K (uU own nt cap) F1 H1 σ1 ρi
 io:∀ i∈ioC nt cap.length,σ1[i]?=(kD nt cap σ)[i]?
 chg:Chg (OA (uU own nt cap) σ1) F H F1 H1
 gr:Same F0 F1
 at_:H1 p=some (.lst xs)
 nF:F1 p=none
 is:IsL C.K F1 xs accD
 le:accD.length<=i
 run:jN g ft fe (ds.drop i) ρi=.ok (rest,ρe)
 all:accD++rest=ys
theorem Uj {g:D->Sl->Out Sl} {ft:Sl->Out (Bool×Sl)} {fe:Sl->Out (D×Sl)} {d:D} {ds rest:List D} {ρ ρe:Sl} (h:jN g ft fe (d::ds) ρ=.ok (rest,ρe)) :
  ∃ ρ1,g d ρ=.ok ρ1/\∃ b ρ2,ft ρ1=.ok (b,ρ2)/\((b=true/\∃ y ρ3 r,fe ρ2=.ok (y,ρ3)/\jN g ft fe ds ρ3=.ok (r,ρe)/\rest=y::r)\/(b=false/\jN g ft fe ds ρ2=.ok (rest,ρe))):=by
 unfold jN zy at h
 cases q1:g d ρ with
 | exc c=>rw [q1] at h; cases h
 | bad=>rw [q1] at h; cases h
 | ok ρ1=>
  rw [q1] at h
  refine ⟨ρ1,rfl,?_⟩
  simp only [Out.plain,Out.ok_bind] at h
  cases q2:ft ρ1 with
  | exc c=>rw [q2] at h; cases h
  | bad=>rw [q2] at h; cases h
  | ok p=>
   obtain ⟨b,ρ2⟩:=p
   rw [q2] at h
   refine ⟨b,ρ2,rfl,?_⟩
   simp only [Out.plain,Out.ok_bind] at h
   cases b with
   | true=>
    refine .inl ⟨rfl,?_⟩
    simp only [if_true] at h
    cases q3:fe ρ2 with
    | exc c=>rw [q3] at h; cases h
    | bad=>rw [q3] at h; cases h
    | ok p=>
     obtain ⟨y,ρ3⟩:=p
     rw [q3] at h
     simp only [Out.plain,Out.ok_bind] at h
     cases q4:jN g ft fe ds ρ3 with
     | exc c=>rw [q4] at h; cases h
     | bad=>rw [q4] at h; cases h
     | ok p=>
      obtain ⟨r,ρ4⟩:=p
      rw [q4] at h
      simp only [Out.ok_bind] at h
      cases h
      exact ⟨y,ρ3,r,rfl,q4,rfl⟩
   | false=>
    refine .inr ⟨rfl,?_⟩
    simp only [Bool.false_eq_true,if_false,Out.ok_bind] at h
    cases q4:jN g ft fe ds ρ2 with
    | exc c=>rw [q4] at h; cases h
    | bad=>rw [q4] at h; cases h
    | ok p=>
     obtain ⟨r,ρ4⟩:=p
     rw [q4] at h
     simp only [Out.ok_bind] at h
     cases h
     rfl
section
variable {X:Cx} {C:Ct} {own cap:List Nat} {nt:Nat} {scope:Scope} {N:List Str} {tg elt iter:Expr} {ifs:List Expr} {pos:Pos} {fi:Sl->Out (List D×Sl)} {g:D->Sl->Out Sl} {ft:Sl->Out (Bool×Sl)} {fe:Sl->Out (D×Sl)} {me:Mo}
structure CapOk (X:Cx) (scope:Scope) (N:List Str) (nt:Nat) (cap:List Nat):Prop where
 nd:cap.Nodup
 len:N.length=nt+cap.length
 at_:∀ (j k:Nat),cap[j]?=some k->∃ x,N[nt+j]?=some x/\X.N[k]?=some x/\((Vis X.env.scope x/\(x,NameKind.free)∈scope.names)\/∀ k',(x,k')∉scope.names)
theorem JU {pins:List (Addr×Obj)} {s:Shared} {σ:St} {F H:Hp} {ρ1:Sl} {it:Addr} {fp:List Addr} {tn:Nat->Heap->Prop} {J:It} {E:Value->Shared->Prop} {ds ys:List D} {ρe:Sl} (I:Inv X pins σ H s) (hcalm:X.calm=true) (S:ScOk X scope) (CO:CapOk X scope N nt cap)
  (T:Turn X.prog X.w X.K tg J fp it tn) (st0:tn 0 s.heap) (hf:∀ b∈fp,KQ X pins H b) (rp:Rep C.K own F H σ ρ1) (itI:ItIs C.K F J ds) (hz:ds.length<=sizeLine)
  (hg:∀ fp L s' H',PG (jT X scope N fp L s' H') tg (tGd (ctC C nt cap.length) (uU own nt cap) g)) (ht:∀ fp L s' H',PTs (jT X scope N fp L s' H') ifs (tT (ctC C nt cap.length) (uU own nt cap) ft))
  (he:∀ fp L s' H',PE (jT X scope N fp L s' H') elt (tE (ctC C nt cap.length) (uU own nt cap) me fe)) (hme:me≠.any)
  (hrun:jN g ft fe ds (kD nt cap ρ1)=.ok (ys,ρe)) (RR:Value->Addr->Result->Shared->Prop)
  (hRR:∀ p L s' F' H',H p=none->Rep C.K own F' H' σ (jU own ρe nt cap ρ1)->Chg (OA own σ) F H F' H'->F' p=none->OwnIs C.K F' H' p (.lst ys)->(∃ m,s'.heap.Ns L m)->KQ X pins H' L->(∀ h',Heap.SameBut L s'.heap h'->Inv X pins σ H' { s' with heap:=h' })->RR (.ref p) L (.ok .next) s') :
  wpAny (model X.prog X.w) X.A (newList []) (fun acc s₃=>wpAny (model X.prog X.w) X.A (newFunctionEnv scope X.env.globals (Jt X.env.cells scope.names []) [] X.env.qual none .none (some X.env)) (fun cenv s₄=>
   codeAny (model X.prog X.w) X.A (.compStart (.ListComp elt [⟨tg,iter,ifs,0⟩] scope pos) 0 (.ref it) acc { cenv with scope:=relabel scope X.env }) (RR acc cenv.locals) s₄) E s₃) E s:=by
 have oaH:∀ {σ1:St} {b:Addr},(∀ i∈ioC nt cap.length,σ1[i]?=(kD nt cap σ)[i]?)->OA (uU own nt cap) σ1 b->H b≠none:=fun hio z=>(rp.OA_there (Yy hio z)).1
 refine ZY (σc:=kD nt cap σ) I hcalm S T st0 hf hg ht (fun fp L s' H'=>yk (he fp L s' H') hme) (by rw [Vg,CO.len]) (fun j x v e1 e2 e3=>?_)
  (fun p i m σ1 H1=>H p=none/\m=ds.length - i/\i<=ds.length/\∃ F1 ρi accD xs rest,CW C own nt cap σ F H F g ft fe ds ys ρe p i σ1 H1 F1 ρi accD xs rest)
  (fun p H1=>H p=none/\∃ σ1 F1 xs,Rep C.K (uU own nt cap) F1 H1 σ1 ρe/\(∀ i∈ioC nt cap.length,σ1[i]?=(kD nt cap σ)[i]?)/\Chg (OA (uU own nt cap) σ1) F H F1 H1/\H1 p=some (.lst xs)/\F1 p=none/\IsL C.K F1 xs ys) (fun p hp=>?_) ?_ RR ?_
 ·obtain ⟨j',k,rfl,h1,h2⟩:=get_cap.mp e2
  obtain ⟨y,g1,g2,g3⟩:=CO.at_ j' k h1
  rw [g1] at e1; cases e1
  obtain ⟨k',hk'⟩:=e3
  rcases g3 with ⟨g3,g4⟩ | g3
  ·exact ⟨k,g2,h2,g3,g4⟩
  ·exact absurd hk' (g3 k')
 ·obtain ⟨r1,c1,hF⟩:=Yt (C:=C) (u:=.lst []) (qbD (nt:=nt) rp CO.nd) hp
  exact ⟨ds.length,hp,by simp,Nat.zero_le _,F,kD nt cap ρ1,[],[],ys,r1,fun _ _=>rfl,c1.ofNo,Same.refl _,qp,hF,.nil,Nat.le_refl _,by simpa using hrun,rfl⟩
 ·rintro p i m σ1 H1 ⟨hp,rfl,hle,F1,ρi,accD,xs,rest,w⟩
  by_cases hlt:i < ds.length
  ·have hd:ds.drop i=ds[i]::ds.drop (i+1):=List.drop_eq_getElem_cons hlt
   have run:=w.run
   rw [hd] at run
   obtain ⟨ρa,ea,b,ρb,eb,hrest⟩:=Uj run
   have sub1:Same F H1:=w.gr.trans w.rep.sub
   refine .inr ⟨itI.go i H1 hlt sub1,fun x H2 y=>?_⟩
   obtain ⟨F2,c2,s2,is2⟩:=itI.yld i F1 H1 x H2 ds[i] (by simp [hlt]) w.gr w.rep.sub y
   have rp2:=w.rep.grow c2 s2
   have nop:∀ {σ9:St},(∀ i∈ioC nt cap.length,σ9[i]?=(kD nt cap σ)[i]?)->¬OA (uU own nt cap) σ9 p:=fun hio z=>oaH hio z hp
   have keepP:∀ {A:Addr->Prop} {Fa Ha Fb Hb:Hp} {zs:List V},Chg A Fa Ha Fb Hb->¬A p->Ha p=some (.lst zs)->Fa p=none->Hb p=some (.lst zs)/\Fb p=none:=fun {A Fa Ha Fb Hb zs} c na e1 e2=>by
    refine ⟨c.keep p _ e1 na,?_⟩
    cases q:Fb p with
    | none=>rfl
    | some u=>
     rcases c.new p (by rw [q]; simp) with z | z | z
     ·exact absurd e2 z
     ·rw [e1] at z; cases z
     ·exact absurd z na
   obtain ⟨at2,nF2⟩:=keepP c2 (fun z=>z) w.at_ w.nF
   refine ⟨F2,ρi,ds[i],rp2,is2,ρa,ea,fun σ3 rp3 oa3 io3=>?_⟩
   have io3':∀ i∈ioC nt cap.length,σ3[i]?=(kD nt cap σ)[i]?:=fun i hi=>(io3 i hi).trans (w.io i hi)
   refine ⟨F2,ρa,rp3,?_⟩
   rw [eb]
   intro F4 H4 rp4 c4
   obtain ⟨at4,nF4⟩:=keepP c4 (nop io3') at2 nF2
   have chg4:Chg (OA (uU own nt cap) σ3) F H F4 H4:=by
    have q1:Chg (OA own σ) F H F1 H1:=w.chg.mono fun b z=>Yy w.io z
    have mv:∀ {b},OA (uU own nt cap) σ1 b->OA (uU own nt cap) σ3 b:=fun {b} z=>by
     obtain ⟨i',hi',e'⟩:=z
     obtain ⟨j,k,rfl,g1,g2⟩:=mem_ownC.mp hi'
     have hm:nt+j∈ioC nt cap.length:=mem_ioC.mpr ⟨j,(List.getElem?_eq_some_iff.mp g1).1,rfl⟩
     exact ⟨nt+j,hi',by rw [io3' _ hm,<-w.io _ hm]; exact e'⟩
    exact ((w.chg.mono fun b z=>mv z).trans' c2.ofNo).trans' c4
   have gr4:Same F F4:=(w.gr.trans c2.grow).trans c4.grow
   have is4:IsL C.K F4 xs accD:=(w.is.mono c2.grow).mono c4.grow
   rcases hrest with ⟨rfl,y',ρc,r,ec,er,hr⟩ | ⟨rfl,er⟩
   ·rw [if_pos rfl]
    refine ⟨F4,ρb,rp4,?_⟩
    rw [ec]
    intro v F5 H5 rp5 c5 mo5
    obtain ⟨at5,nF5⟩:=keepP c5 (nop io3') at4 nF4
    have hlen:xs.length=accD.length:=is4.length
    refine ⟨xs,at5,by have:=w.le; omega,ds.length - (i+1),by omega,hp,rfl,hlt,F5,ρc,accD++[y'],xs++[v],r,?_⟩
    have cp:Chg (fun b=>b=p) F5 H5 F5 (upd H5 p (.lst (xs++[v]))):=⟨fun b o e n=>by rw [qA n]; exact e,fun b e=>by
     by_cases q:b=p
     ·rw [q,qp]; simp
     ·rw [qA q]; exact e,Same.refl _,fun b e=>.inl e⟩
    have sb5:Same F5 (upd H5 p (.lst (xs++[v]))):=fun b o e=>by rw [qA (qF e nF5)]; exact rp5.sub b o e
    have rp6:Rep C.K (uU own nt cap) F5 (upd H5 p (.lst (xs++[v]))) σ3 ρc:=by
     refine ⟨sb5,rp5.len,rp5.val,fun i d hi e=>?_,rp5.opn,rp5.dis⟩
     obtain ⟨a,h1,h2,h3⟩:=rp5.ow i d hi e
     have na:a≠p:=fun z=>by subst z; exact nop io3' ⟨i,hi,h1⟩
     exact ⟨a,h1,h2,h3.grow (Same.refl _) fun o z=>by rw [qA na]; exact z⟩
    refine ⟨rp6,io3',?_,(gr4.trans c5.grow),qp,nF5,(is4.mono c5.grow).append (.cons mo5 .nil),by simp only [List.length_append,List.length_cons,List.length_nil]; have:=w.le; omega,er,?_⟩
    ·exact (chg4.trans' c5).trans cp fun b z=>.inr (by rw [z]; exact hp)
    ·rw [List.append_assoc,<-w.all,hr]; rfl
   ·rw [if_neg Bool.false_ne_true]
    exact ⟨ds.length - (i+1),by omega,hp,rfl,hlt,F4,ρb,accD,xs,rest,rp4,io3',chg4,gr4,at4,nF4,is4,by have:=w.le; omega,er,w.all⟩
  ·have e:i=ds.length:=by omega
   subst e
   have run:=w.run
   rw [List.drop_length] at run
   unfold jN at run
   cases run
   have ha:=w.all
   rw [List.append_nil] at ha
   subst ha
   exact .inl ⟨itI.stop _ H1 (Nat.le_refl _) (w.gr.trans w.rep.sub),hp,σ1,F1,xs,w.rep,w.io,w.chg,w.at_,w.nF,w.is⟩
 ·rintro p L H' s' ⟨hp,σ1,F1,xs,r1,io1,c1,e1,n1,is1⟩ hns hfp hinv
  exact hRR p L s' F1 H' hp (Yz rp CO.nd r1 io1 c1) (c1.mono fun b z=>Yy io1 z) n1 ⟨xs,e1,is1⟩ hns hfp hinv
theorem Vh:∀ (ds:List D) (ρ:Sl) (c:Str) (o:Sl),jN g ft fe ds ρ≠.exc c o:=by
 intro ds
 induction ds with
 | nil=>intro ρ c o z; cases z
 | cons d ds ih=>
  intro ρ c o z
  unfold jN zy at z
  cases q1:g d ρ with
  | exc c=>rw [q1] at z; cases z
  | bad=>rw [q1] at z; cases z
  | ok ρ1=>
   rw [q1] at z
   simp only [Out.plain,Out.ok_bind] at z
   cases q2:ft ρ1 with
   | exc c=>rw [q2] at z; cases z
   | bad=>rw [q2] at z; cases z
   | ok p=>
    rw [q2] at z
    simp only [Out.plain,Out.ok_bind] at z
    by_cases hb:p.1=true
    ·rw [if_pos hb] at z
     cases q3:fe p.2 with
     | exc c=>rw [q3] at z; cases z
     | bad=>rw [q3] at z; cases z
     | ok r=>
      rw [q3] at z
      simp only [Out.plain,Out.ok_bind] at z
      cases q4:jN g ft fe ds r.2 with
      | exc c=>exact ih _ _ _ q4
      | bad=>rw [q4] at z; cases z
      | ok t=>rw [q4] at z; cases z
    ·rw [if_neg hb] at z
     simp only [Out.ok_bind] at z
     cases q4:jN g ft fe ds p.2 with
     | exc c=>exact ih _ _ _ q4
     | bad=>rw [q4] at z; cases z
     | ok t=>rw [q4] at z; cases z
theorem JV {σ:St} {F H:Hp} {ρ:Sl} {α:Type} {Z:Out (D×Sl)->Prop} (rp:Rep C.K own F H σ ρ) (hb:¬Z .bad) (hx:∀ c ρ',Z (.exc c ρ')->∀ F' H',Same F' H'->Zr C.K C.ox F' H' σ ρ'->Chg (OA own σ) F H F' H'->C.E (C.cv c) none H') (h:Z (qN own nt cap fi g ft fe ρ)) :
  tIt C own fi σ H fun J H1=>∃ ds ρ1 ys ρe F1,ds.length<=sizeLine/\jN g ft fe ds (kD nt cap ρ1)=.ok (ys,ρe)/\Rep C.K own F1 H1 σ ρ1/\Chg (OA own σ) F H F1 H1/\ItIs C.K F1 J ds/\Z (.ok (.lst ys,jU own ρe nt cap ρ1)):=by
 refine ⟨F,ρ,rp,?_⟩
 unfold qN at h
 cases q:fi ρ with
 | exc c=>rw [q] at h; exact hx c _ h
 | bad=>rw [q] at h; exact (hb h).elim
 | ok p=>
  obtain ⟨ds,ρ1⟩:=p
  rw [q] at h
  have h:Z (if ds.length<=sizeLine then (jN g ft fe ds (kD nt cap ρ1)).bind fun q=>.ok (.lst q.1,jU own q.2 nt cap ρ1) else .bad):=h
  by_cases z:ds.length<=sizeLine
  ·rw [if_pos z] at h
   cases q2:jN g ft fe ds (kD nt cap ρ1) with
   | exc c=>exact absurd q2 (Vh _ _ _ _)
   | bad=>rw [q2] at h; exact (hb h).elim
   | ok p=>
    obtain ⟨ys,ρe⟩:=p
    rw [q2] at h
    exact fun J F1 H1 rp1 c1 it=>⟨ds,ρ1,ys,ρe,F1,z,q2,rp1,c1,it,h⟩
  ·rw [if_neg z] at h; exact (hb h).elim
theorem jn (hcalm:X.calm=true) (S:ScOk X scope) (CO:CapOk X scope N nt cap) (hi:PI X tg iter (tIt C own fi))
  (hg:∀ fp L s' H',PG (jT X scope N fp L s' H') tg (tGd (ctC C nt cap.length) (uU own nt cap) g)) (ht:∀ fp L s' H',PTs (jT X scope N fp L s' H') ifs (tT (ctC C nt cap.length) (uU own nt cap) ft))
  (he:∀ fp L s' H',PE (jT X scope N fp L s' H') elt (tE (ctC C nt cap.length) (uU own nt cap) me fe)) (hme:me≠.any:=by decide) (hs:∀ x,foldedSetIterable iter X.env x=pure x:=by intro _; rfl) :
  PE X (.ListComp elt [⟨tg,iter,ifs,0⟩] scope pos) (tE C own .fr (qN own nt cap fi g ft fe)):=by
 refine ⟨?_⟩
 intro pins s σ H Q I ⟨F,ρ,rp,h⟩
 rw [eval_ListComp]
 have main:=JV (α:=Unit) (Z:=fun r=>Po C own .fr σ F H r Q) rp (fun z=>z) (fun c _ z=>z) h
 refine wpAny_comprehension_free (use:=none) rfl hs (gP (zx I S)) S.kind S.names (thn (hi pins s σ H _ I main) fun xv s1 h1=>thn h1 fun itv s2 h2=>?_)
 obtain ⟨it,fp,tn,J,H2,e,I2,T,st2,f2,ds,ρ1,ys,ρe,F1,hz,hrun,rp1,c1,itI,po⟩:=h2
 subst e
 refine JU (RR:=fun acc C'=>compPost (model X.prog X.w) X.A X.xe none (EP X pins σ Q) acc C') I2 hcalm S CO T st2 f2 rp1 itI hz hg ht he hme hrun fun p L s' F' H' hp rp' c' nF o hns hfp hinv=>?_
 obtain ⟨m,hn⟩:=hns
 refine ⟨m,hn,fun h' sb=>⟨.ref p,H',hinv h' sb,rfl,?_⟩⟩
 refine po (.ref p) F' H' rp' (c1.trans' c') ⟨p,rfl,?_,nF,o⟩
 cases q:H p with
 | none=>rfl
 | some u=>exact absurd hp (c1.stay p (by rw [q]; simp))
theorem zb {i:Nat} {x:Str} {pos' spos:Pos} (hN:X.N.Nodup) (hix:X.N[i]?=some x) (hx:Loc X.env.scope x) (hcalm:X.calm=true) (S:ScOk X scope) (CO:CapOk X scope N nt cap) (hi:PI X tg iter (tIt C own fi))
  (hg:∀ fp L s' H',PG (jT X scope N fp L s' H') tg (tGd (ctC C nt cap.length) (uU own nt cap) g)) (ht:∀ fp L s' H',PTs (jT X scope N fp L s' H') ifs (tT (ctC C nt cap.length) (uU own nt cap) ft))
  (he:∀ fp L s' H',PE (jT X scope N fp L s' H') elt (tE (ctC C nt cap.length) (uU own nt cap) me fe)) (hme:me≠.any:=by decide) (hio:i∉C.io:=by exact VX rfl)
  (hsw:swapsWith (.ListComp elt [⟨tg,iter,ifs,0⟩] scope pos) (some (.Name x pos')) spos.line X.env=pure true:=by rfl) (hs:∀ x,foldedSetIterable iter X.env x=pure x:=by intro _; rfl)
  (hfx:X.fn x=true\/X.env.scope.names.lookup x=some .local:=by first | exact .inl rfl | exact .inr rfl) :
  PS X (.Assign [.Name x pos'] (.ListComp elt [⟨tg,iter,ifs,0⟩] scope pos) spos) (tSt C own (i::wA own [i]) (jL i (qN own nt cap fi g ft fe))):=by
 refine ⟨?_⟩
 intro pins s σ H D I ⟨F,ρ,rp,h⟩
 rw [exec_Assign_Name_used _ _ _ _ hsw]
 refine wpAny_bind (wpAny_standAt (wpAny_bind ?_))
 show wpAny _ X.A (do let _ <-comprehension (.ListComp elt [⟨tg,iter,ifs,0⟩] scope pos) scope X.env _ (newList []) false (eval iter X.env) (some (assign (.Name x pos') X.env))) _ _ s
 have main:=JV (α:=Unit) (Z:=fun r=>PoS C own (i::wA own [i]) σ F H (r.bind fun p=>if i < p.2.length then .ok (.nx,p.2.set i (some p.1)) else .bad) D) rp (fun z=>z) (fun c _ z=>z) h
 refine wpAny_bind (wpAny_mono (wpAny_comprehension_free (use:=some (assign (.Name x pos') X.env)) (Q:=fun _ s'=>SP X pins D .next s') rfl hs (gP (zx I S)) S.kind S.names (thn (hi pins s σ H _ I main) fun xv s1 h1=>thn h1 fun itv s2 h2=>?_)) (fun _ s' hq=>wpAny_pure (wpAny_pure hq)) fun _ _ e=>e)
 obtain ⟨it,fp,tn,J,H2,e,I2,T,st2,f2,ds,ρ1,ys,ρe,F1,hz,hrun,rp1,c1,itI,po⟩:=h2
 subst e
 refine JU (RR:=fun acc C'=>compPost (model X.prog X.w) X.A X.xe (some (assign (.Name x pos') X.env)) (fun _ s'=>SP X pins D .next s') acc C') I2 hcalm S CO T st2 f2 rp1 itI hz hg ht he hme hrun fun p L s' F' H' hp rp' c' nF o hns hfp hinv=>?_
 obtain ⟨m,hn⟩:=hns
 have I3:Inv X pins σ H' s':=by simpa using hinv s'.heap (.refl ..)
 have hH:H p=none:=by
  cases q:H p with
  | none=>rfl
  | some u=>exact absurd hp (c1.stay p (by rw [q]; simp))
 show wpAny _ X.A (assign (.Name x pos') X.env (.ref p)) _ _ s'
 refine wpAny_assign_Name (Jx I3 hN hix hx (v:=.ref p) rfl (fun s4 I4 ⟨a,sba,ha⟩=>?_) hfx)
 obtain ⟨f0,f1,f2',f3,f4,f5⟩:=hfp
 have nL:L≠a:=by
  rcases ha with z | z
  ·rw [z]; exact f1
  ·exact fun q=>f4 x a z q.symm
 refine ⟨m,hn.sameBut sba nL,fun h' sb=>?_⟩
 have I5:Inv X pins (σ.set i (some (.ref p))) H' { s4 with heap:=h' }:=by
  have:=I4.turned (h':=h') (t':=s4.toks) (it:=L) (fun b o hb e=>(sb.2 b hb).trans e) f0 f1 f3 f4 f5
  exact this
 refine ⟨_,H',I5,?_⟩
 have po:PoS C own (i::wA own [i]) σ F H (if i < (jU own ρe nt cap ρ1).length then .ok (.nx,(jU own ρe nt cap ρ1).set i (some (.lst ys))) else .bad) D:=po
 by_cases z:i < (jU own ρe nt cap ρ1).length
 ·rw [if_pos z] at po
  refine po _ F' H' ⟨rp'.putO z nF (fun y=>(rp.OA_there y).1 hH) o,c1.trans' c',fun b y=>?_,fun j hj=>List.getElem?_set_ne fun y=>hio (by rw [y]; exact hj)⟩
  obtain ⟨j,hj,e⟩:=y
  by_cases qj:j=i
  ·subst qj
   rw [List.getElem?_set_self (by rw [rp'.len]; exact z)] at e
   cases e
   exact .inr hH
  ·have hj':=(qX j).mp ((List.mem_cons.mp hj).resolve_left qj)
   rw [List.getElem?_set_ne (Ne.symm qj)] at e
   exact .inl ⟨j,hj'.1,e⟩
 ·rw [if_neg z] at po; exact po.elim
end
def Fly (h:Heap) (ex T:Addr) (cls:Value):Prop:=∃ oe vs oT ts,h.get? ex=some oe/\oe.cls=cls/\oe.data=.fields vs/\vs[1]?=some (.ref T)/\T≠ex/\h.get? T=some oT/\oT.data=.fields ts/\ts[3]?=some .none
def CXk (P:Program) (w:World):CXT:=fun outer H s E e s'=>∃ ex T C H',e=.ref ex/\s'.os=s.os/\AllBare s'.gens/\Un (frs outer) [] H H' s.heap s'.heap/\HOk P w H' s'.heap/\Fly s'.heap ex T (.ref C)/\H' ex=none/\H' T=none/\s.heap.get? ex=none/\s.heap.get? T=none/\E (.ref C) none H'
def InB (X:Cx) (H:Hp) (s:Shared) (ex:Addr) (cls:Value):Prop:=H ex=none/\X.s₀.heap.get? ex=none /\
 ((∃ oe vs,s.heap.get? ex=some oe/\oe.cls=cls/\oe.data=.fields vs/\vs[1]?=some .none)\/∃ T,Fly s.heap ex T cls/\H T=none/\X.s₀.heap.get? T=none)
section
variable {X:Cx} {pins:List (Addr×Obj)} {σ:St} {H:Hp} {s:Shared} {ex:Addr} {cls:Value}
theorem InB.dat (h:InB X H s ex cls):∃ oe vs,s.heap.get? ex=some oe/\oe.cls=cls/\oe.data=.fields vs:=by
 rcases h.2.2 with ⟨oe,vs,a,b,c,_⟩ | ⟨T,⟨oe,vs,oT,ts,a,b,c,_⟩,_⟩
 ·exact ⟨oe,vs,a,b,c⟩
 ·exact ⟨oe,vs,a,b,c⟩
noncomputable def JW (ex:Addr) (T:Option Addr) (X:Cx):List Addr:=ex::(T.toList++frs X.stack)
theorem Wm (I:Inv X pins σ H s) {b:Addr} (hb:b∈frs X.stack):∃ o,s.heap.get? b=some o/\∀ vs,o.data≠.fields vs:=(I.stack.mem hb).2
theorem YA (hs:X.stack=X.env::X.outer):∀ env∈X.stack,∀ b,env.frame=some b->b∈frs X.stack:=fun env he b hb=>List.mem_filterMap.mpr ⟨env,he,hb⟩
structure Gone (X:Cx) (H:Hp) (s:Shared) (ex:Addr) (cls:Value) (h2:Heap):Prop where
 keep:∀ b o,s.heap.get? b=some o->H b≠none\/(X.s₀.heap.get? b≠none/\b∉frs X.stack)->h2.get? b=some o
 slot:∀ b o,s.heap.get? b=some o->b∈frs X.stack->∃ sl,h2.get? b=some { o with slots:=sl }
 ok:HOk X.prog X.w H h2
 un:Un (frs X.stack) [] H H s.heap h2\/True
theorem YB {T0:Option Addr} {h2:Heap} (I:Inv X pins σ H s) (hex:H ex=none) (hT:∀ T,T0=some T->H T=none) (n1:X.s₀.heap.get? ex=none) (n2:∀ T,T0=some T->X.s₀.heap.get? T=none)
  (st:(PySem.W.hideAll s.heap (JW ex T0 X)).StaysIn h2) (sl:∀ b o,s.heap.get? b=some o->(∀ vs,o.data≠.fields vs)->∃ sl,h2.get? b=some { o with slots:=sl }):Gone X H s ex cls h2:=by
 have keep:∀ b o,s.heap.get? b=some o->b≠ex->(∀ T,T0=some T->b≠T)->b∉frs X.stack->h2.get? b=some o:=fun b o e h1 h2 h3=>st b o (PySem.W.hideAll_get _ e fun hm=>by
  rcases List.mem_cons.mp hm with q | hm
  ·exact h1 q
  ·rcases List.mem_append.mp hm with q | q
   ·exact h2 b (Option.mem_toList.mp q) rfl
   ·exact h3 q)
 have k1:∀ b o,s.heap.get? b=some o->H b≠none->h2.get? b=some o:=fun b o e hn=>keep b o e (fun q=>hn (by rw [q]; exact hex)) (fun T hT' q=>hn (by rw [q]; exact hT T hT')) fun q=>hn (I.stkFree b q)
 refine ⟨fun b o e hb=>?_,fun b o e hb=>?_,fun b u e=>?_,.inr trivial⟩
 ·rcases hb with hb | ⟨hb,hf⟩
  ·exact k1 b o e hb
  ·exact keep b o e (fun q=>hb (by rw [q]; exact n1)) (fun T hT' q=>hb (by rw [q]; exact n2 T hT')) hf
 ·obtain ⟨o',e',nf⟩:=Wm I hb
  rw [e] at e'; cases e'
  exact sl b o e nf
 ·refine (I.hok b u e).stay (fun c v hc q=>k1 c v q ?_) (fun _ q=>q) fun _ _ q=>q
  rcases hc with z | z
  ·rw [z,e]; simp
  ·rw [z]; simp
theorem JX {T0:Option Addr} {h2:Heap} (I:Inv X pins σ H s) (hT:∀ T,T0=some T->H T=none) (n2:∀ T,T0=some T->X.s₀.heap.get? T=none) (g:Gone X H s ex cls h2) (hex0:X.ex=[])
  (tr:h2.Traced (PySem.W.hideAll s.heap (JW ex T0 X)) ex cls):∃ T,Fly h2 ex T cls/\H T=none/\X.s₀.heap.get? T=none:=by
 obtain ⟨oe,vs,T,oT,ts,a1,a2,a3,a4,a5,a6,a7,a8,a9⟩:=tr
 have noS:∀ o,s.heap.get? T=some o->(∃ q,T0=some q/\T=q):=fun o e=>by
  have hm:T∈JW ex T0 X:=by
   refine Classical.byContradiction fun hn=>?_
   rw [PySem.W.hideAll_get _ e hn] at a5
   cases a5
  rcases List.mem_cons.mp hm with q | hm
  ·exact absurd q a6
  ·rcases List.mem_append.mp hm with q | q
   ·exact ⟨T,Option.mem_toList.mp q,rfl⟩
   ·obtain ⟨o',e',nf⟩:=Wm I q
    obtain ⟨sl,e2⟩:=g.slot T o' e' q
    rw [a7] at e2
    cases e2
    exact absurd a8 (nf ts)
 refine ⟨T,⟨oe,vs,oT,ts,a1,a2,a3,a4,a6,a7,a8,a9⟩,?_,?_⟩
 ·cases q:H T with
  | none=>rfl
  | some u=>
   have hlt:=I.hok.lt q
   obtain ⟨o,e⟩:∃ o,s.heap.get? T=some o:=by
    have:=(I.hok T u q)
    have st:=this.stay (H':=H) (h':=s.heap) (fun b v _ z=>z) (fun _ z=>z) fun _ _ z=>z
    cases z:s.heap.get? T with
    | some o=>exact ⟨o,rfl⟩
    | none=>
     exfalso
     cases u with
     | lst xs=>obtain ⟨_,_,_,_,e⟩:=st; rw [z] at e; cases e
     | tup xs=>obtain ⟨_,_,_,_,e,_⟩:=st; rw [z] at e; cases e
     | dK kvs=>obtain ⟨_,_,_,_,o,_,_,e,_⟩:=st; rw [z] at e; cases e
     | dT kvs=>obtain ⟨_,_,_,_,o,_,_,e,_⟩:=st; rw [z] at e; cases e
     | set S n=>obtain ⟨o,_,_,_,e,_⟩:=st; rw [z] at e; cases e
     | ins C dx fs=>obtain ⟨_,_,_,e,_⟩:=st; rw [z] at e; cases e
     | own y=>obtain ⟨_,e⟩:=st; rw [z] at e; cases e
     | xd fs=>obtain ⟨_,⟨_,_,_,e,_⟩,_⟩:=st; rw [z] at e; cases e
     | rng lo hi=>obtain ⟨_,_,_,e⟩:=st; rw [z] at e; cases e
     | frz ob u=>obtain ⟨e,_⟩:=st; rw [z] at e; cases e
     | tbl ps=>have e:s.heap.get? T=some _:=st; rw [z] at e; cases e
     | met f y=>have e:s.heap.get? T=some _:=st; rw [z] at e; cases e
     | ext φ=>obtain ⟨_,⟨_,e⟩,_⟩:=st; rw [z] at e; cases e
   obtain ⟨q',hq',rfl⟩:=noS o e
   rw [hT _ hq'] at q; cases q
 ·cases q:X.s₀.heap.get? T with
  | none=>rfl
  | some o=>
   obtain ⟨o',e'⟩:=I.base.there T o q (by rw [hex0]; simp)
   obtain ⟨q',hq',rfl⟩:=noS o' e'
   rw [n2 _ hq'] at q; cases q
theorem Uk {E:Value->Shared->Prop} {Q:Unit->Shared->Prop} (I:Inv X pins σ H s) (hstk:X.stack=X.env::X.outer) (hfr:X.env.frame=some X.env.locals) (hex0:X.ex=[]) (x:InB X H s ex cls)
  (k:∀ h2 T,Gone X H s ex cls h2->Fly h2 ex T cls->H T=none->X.s₀.heap.get? T=none->Q () { s with heap:=h2 }):wpAny (model X.prog X.w) X.A (leaving X.env (.ref ex)) Q E s:=by
 obtain ⟨hex,n1,hx⟩:=x
 have hF:X.A.frames=some (X.env::X.outer):=by rw [I.ok.frames,hstk]
 have hB:∀ as,(PySem.W.hideAll s.heap as).StaysIn s.heap:=fun as b o e=>PySem.W.of_hideAll as e
 have hl:∀ T0,s.heap.FunFrames (PySem.W.hideAll s.heap (JW ex T0 X)) (X.env::X.outer):=fun T0=>by
  rw [<-hstk]
  exact PySem.W.funFrames_hide I.stack fun env he b hb=>List.mem_cons_of_mem _ (List.mem_append_right _ (YA hstk env he b hb))
 have hn:∀ T0,(PySem.W.hideAll s.heap (JW ex T0 X)).get? ex=none:=fun T0=>PySem.W.hideAll_none _ (List.mem_cons.mpr (.inl rfl))
 rcases hx with ⟨oe,vs,a1,a2,a3,a4⟩ | ⟨T,⟨oe,vs,oT,ts,a1,a2,a3,a4,a5,a6,a7,a8⟩,hT,n2⟩
 ·refine wpAny_leaving_first (base:=PySem.W.hideAll s.heap (JW ex none X)) hF (hl none) hfr a1 (hB _) (hn none) a3 a4 fun h2 ⟨st,_,tr,sl⟩=>?_
  have g:Gone X H s ex cls h2:=YB I hex (T0:=none) (fun _ z=>nomatch z) n1 (fun _ z=>nomatch z) st sl
  rw [a2] at tr
  obtain ⟨T',f1,f2,f3⟩:=JX I (T0:=none) (fun _ z=>nomatch z) (fun _ z=>nomatch z) g hex0 tr
  exact k h2 T' g f1 f2 f3
 ·have hT':∀ T1,some T=some T1->H T1=none:=fun T1 z=>by cases z; exact hT
  have n2':∀ T1,some T=some T1->X.s₀.heap.get? T1=none:=fun T1 z=>by cases z; exact n2
  have tr0:s.heap.Traced (PySem.W.hideAll s.heap (JW ex (some T) X)) ex cls:=⟨oe,vs,T,oT,ts,a1,a2,a3,a4,PySem.W.hideAll_none _ (List.mem_cons_of_mem _ (List.mem_append_left _ (by simp))),a5,a6,a7,a8⟩
  refine wpAny_leaving_next (base:=PySem.W.hideAll s.heap (JW ex (some T) X)) hF (hl (some T)) hfr tr0 (hB _) (hn _) fun h2 ⟨st,_,tr,sl⟩=>?_
  have g:Gone X H s ex cls h2:=YB I hex hT' n1 n2' st sl
  obtain ⟨T',f1,f2,f3⟩:=JX I hT' n2' g hex0 tr
  exact k h2 T' g f1 f2 f3
end
section
variable {P:Program} {w:World} {K:Frag} {mg:Str->Option Value} {base:Heap} {N:List Str} {qual:Str} {scope:Scope} {f:Addr} {cd:Value} {A:Around} {outer:List Env} {s0:Shared} {H0:Hp} {E:XK}
abbrev cxk (P:Program) (w:World) (K:Frag) (mg:Str->Option Value) (base:Heap) (N:List Str) (qual:Str) (scope:Scope) (f:Addr) (cd:Value) (A:Around) (outer:List Env) (s0:Shared) (H0:Hp) (E:XK):Cx:=qba (CXk P w) P w K mg base N qual scope f cd A outer s0 H0 E
theorem qdC {pins:List (Addr×Obj)} {σ:St} {H:Hp} {s:Shared} {ex C:Addr} (I:Inv (cxk P w K mg base N qual scope f cd A outer s0 H0 E) pins σ H s) (x:InB (cxk P w K mg base N qual scope f cd A outer s0 H0 E) H s ex (.ref C)) (hE:E (.ref C) none H) :
  (cxk P w K mg base N qual scope f cd A outer s0 H0 E).xe (.ref ex) s:=by
 refine Uk I rfl rfl rfl x fun h2 T g fl hT nT=>?_
 have bs0:=I.base
 have neL:∀ b o,s0.heap.get? b=some o->b≠(cxk P w K mg base N qual scope f cd A outer s0 H0 E).env.locals:=fun b o e=>Nat.ne_of_lt (Nat.lt_of_lt_of_le (Heap.lt_size e) I.ok.above)
 have nst:∀ b o,s0.heap.get? b=some o->b∉frs outer->b∉frs (cxk P w K mg base N qual scope f cd A outer s0 H0 E).stack:=fun b o e hb z=>by
  rcases List.mem_cons.mp (I.stkSub b z) with q | q
  ·exact neL b o e q
  ·exact hb q
 have ist:∀ b,b∈frs outer->b∈frs (cxk P w K mg base N qual scope f cd A outer s0 H0 E).stack:=fun b hb=>by
  show b∈frs (_::outer)
  unfold frs
  rw [List.filterMap_cons]
  exact List.mem_cons_of_mem _ hb
 refine ⟨ex,T,C,H,rfl,I.os,I.bare,⟨fun b o e n hb hx=>?_,fun b o e n hb hx=>?_,bs0.free,fun b o e hx=>?_,bs0.tups,bs0.frzs,bs0.tbls⟩,g.ok,fl,x.1,hT,x.2.1,nT,hE⟩
 ·exact g.keep b o (bs0.keep b o e n hb hx) (.inr ⟨by show s0.heap.get? b≠none; rw [e]; simp,nst b o e hb⟩)
 ·obtain ⟨sl,q⟩:=bs0.slot b o e n hb hx
  obtain ⟨sl2,q2⟩:=g.slot b _ q (ist b hb)
  exact ⟨sl2,q2⟩
 ·obtain ⟨o',q⟩:=bs0.there b o e hx
  by_cases hb:b∈frs (cxk P w K mg base N qual scope f cd A outer s0 H0 E).stack
  ·obtain ⟨sl,q2⟩:=g.slot b o' q hb
   exact ⟨_,q2⟩
  ·exact ⟨o',g.keep b o' q (.inr ⟨by show s0.heap.get? b≠none; rw [e]; simp,hb⟩)⟩
theorem qbE {X:Cx} {pins:List (Addr×Obj)} {σ:St} {H:Hp} {s s':Shared} {e:Value} (hex0:X.ex=[]) (I:Inv X pins σ H s) (h:CXk X.prog X.w X.stack H s E e s'):∃ ex C H',e=.ref ex/\Inv X pins σ H' s'/\InB X H' s' ex (.ref C)/\E (.ref C) none H':=by
 obtain ⟨ex,T,C,H',rfl,os,bare,un,hok,fl,e1,e2,n1,n2,hE⟩:=h
 have old:∀ b,s.heap.get? b=none->X.s₀.heap.get? b=none:=fun b hb=>by
  cases q:X.s₀.heap.get? b with
  | none=>rfl
  | some o=>
   obtain ⟨o',e'⟩:=I.base.there b o q (by rw [hex0]; simp)
   rw [hb] at e'; cases e'
 exact ⟨ex,C,H',rfl,I.call' (ch:=[]) os un hok bare (fun b z=>absurd z (by simp)),⟨e1,old ex n1,.inr ⟨T,fl,e2,old T n2⟩⟩,hE⟩
theorem qI:gM (CXk P w) (cxk P w K mg base N qual scope f cd A outer s0 H0 E) E:=fun pins σ H s e s' I h=>by
 obtain ⟨ex,C,H',rfl,I',x,hE⟩:=qbE rfl I h
 exact qdC I' x hE
theorem qbF {h:Heap} {C:Addr} {bmB:List Value} {newId:String} {x:Str} (kin:K.In h) (hm:mg x=some (.ref C)) (q:PySem.W.excIn K C bmB newId=true):OwnCls x C bmB newId mg h:=by
 refine ⟨hm,?_⟩
 unfold PySem.W.excIn at q
 split at q
 case h_2=>cases q
 case h_1 dd cd sl lk=>
  split at q
  case h_2=>cases q
  case h_1 C' bm a0 a1 a2 a3 n a5 em es=>
   have q':=q
   simp only [Bool.and_eq_true,beq_iff_eq,Bool.not_eq_true'] at q'
   obtain ⟨⟨⟨⟨⟨e1,e2⟩,nodel⟩,tl⟩,nsok⟩,noinit⟩:=q'
   obtain ⟨nm,bs,mro,ns,qn,hd,sn,sub,ab,col,del⟩:=cd
   dsimp only at em nodel nsok noinit
   obtain ⟨sll⟩:=sl
   dsimp only at es
   subst em nodel es e1 e2
   exact ⟨bm,ns,nm,qn,bs,hd,sn,sub,ab,col,dd,a0,a1,a2,a3,a5,_,kin _ _ lk,.of_isNs (PySem.W.isNs_of_in kin nsok),PySem.W.nsMap_none_of_in kin nsok noinit,PySem.W.tail_of_in kin tl⟩
end
theorem qdD {P:Program} {w:World} {H:Hp} {h:Heap} {T:Addr} {u:HO} (hok:HOk P w H h) (q:H T=some u):∃ o,h.get? T=some o:=by
 have st:=hok T u q
 cases z:h.get? T with
 | some o=>exact ⟨o,rfl⟩
 | none=>
  exfalso
  cases u with
  | lst xs=>obtain ⟨_,_,_,_,e⟩:=st; rw [z] at e; cases e
  | tup xs=>obtain ⟨_,_,_,_,e,_⟩:=st; rw [z] at e; cases e
  | dK kvs=>obtain ⟨_,_,_,_,o,_,_,e,_⟩:=st; rw [z] at e; cases e
  | dT kvs=>obtain ⟨_,_,_,_,o,_,_,e,_⟩:=st; rw [z] at e; cases e
  | set S n=>obtain ⟨o,_,_,_,e,_⟩:=st; rw [z] at e; cases e
  | ins C dx fs=>obtain ⟨_,_,_,e,_⟩:=st; rw [z] at e; cases e
  | own y=>obtain ⟨_,e⟩:=st; rw [z] at e; cases e
  | xd fs=>obtain ⟨_,⟨_,_,_,e,_⟩,_⟩:=st; rw [z] at e; cases e
  | rng lo hi=>obtain ⟨_,_,_,e⟩:=st; rw [z] at e; cases e
  | frz ob u=>obtain ⟨e,_⟩:=st; rw [z] at e; cases e
  | tbl ps=>have e:h.get? T=some _:=st; rw [z] at e; cases e
  | met f y=>have e:h.get? T=some _:=st; rw [z] at e; cases e
  | ext φ=>obtain ⟨_,⟨_,e⟩,_⟩:=st; rw [z] at e; cases e
abbrev bmV:List Value:=[.type "ValueError",.type "Exception",.type "BaseException",.type "object"]
noncomputable def uV (x:Str) (fr:Sl->Out (List D×Sl)):Sl->Out (Fl×Sl):=fun ρ=>(fr ρ).bind fun p=>.exc x p.2
theorem PoS.bindA {C:Ct} {own own':List Nat} {as:List AK} {σ:St} {F H:Hp} {o:Out (List D×Sl)} {k:List D×Sl->Out (Fl×Sl)} {D:Ends} {R:List V->Hp->Prop} (hp:PoS C own own' σ F H (o.bind k) D)
  (h:∀ vs F1 H1 ds ρ1,Rep C.K own F1 H1 σ ρ1->Chg (OA own σ) F H F1 H1->ArgV C.K H F1 H1 σ as vs ds->PoS C own own' σ F1 H1 (k (ds,ρ1)) D->R vs H1):PoA C own as σ F H o R:=by
 cases o with
 | ok p=>
  obtain ⟨ds,ρ1⟩:=p
  exact fun vs F1 H1 rp c av=>h vs F1 H1 ds ρ1 rp c av (PoS.shift (show PoS C own own' σ F H (k (ds,ρ1)) D from hp) (.ofE rp c))
 | exc x=>exact hp
 | bad=>exact hp.elim
def YC (X:Cx) (C:Ct):Prop:=∀ (pins:List (Addr×Obj)) (σ:St) (H:Hp) (s:Shared) (ex A:Addr),Inv X pins σ H s->InB X H s ex (.ref A)->C.E (.ref A) none H->X.xe (.ref ex) s
theorem qdE {P:Program} {w:World} {K:Frag} {mg:Str->Option Value} {base:Heap} {N:List Str} {qual:Str} {scope:Scope} {f:Addr} {cd:Value} {A:Around} {outer:List Env} {s0:Shared} {H0:Hp} {C:Ct}:YC (cxk P w K mg base N qual scope f cd A outer s0 H0 C.E) C:=fun pins σ H s ex A I x hE=>qdC I x hE
section
variable {X:Cx} {C:Ct} {own own':List Nat} {as:List AK} {e:Expr} {es:List Expr} {fr:Sl->Out (List D×Sl)} {x:Str} {Cc:Addr} {np cpos pos:Pos}
theorem ArgV.len {K:Frag} {H0 F H:Hp} {σ:St}:∀ {as:List AK} {vs:List V} {ds:List D},ArgV K H0 F H σ as vs ds->vs.length=as.length
 | [],[],[],_=>rfl
 | .vl::as,v::vs,d::ds,h=>congrArg (·+1) (ArgV.len h.2)
 | .sl i::as,v::vs,d::ds,h=>congrArg (·+1) (ArgV.len h.2.2)
 | .fr::as,v::vs,d::ds,h=>congrArg (·+1) (ArgV.len h.2)
 | [],_::_,_,h=>h.elim
 | [],[],_::_,h=>h.elim
 | .vl::_,[],_,h=>h.elim
 | .vl::_,_::_,[],h=>h.elim
 | .sl _::_,[],_,h=>h.elim
 | .sl _::_,_::_,[],h=>h.elim
 | .fr::_,[],_,h=>h.elim
 | .fr::_,_::_,[],h=>h.elim
theorem wJ (hx0:X.ex=[]) (ht:YC X C) (hcalm:X.calm=true) (hg:Gl X x) (hm:X.mg x=some (.ref Cc)) (hcv:C.cv x=.ref Cc) (q:PySem.W.excIn X.K Cc bmV "ValueError.__new__"=true) (ha:PA X (e::es) (tAr C own as fr)) (hsz:as.length<=1000:=by decide) (hio:∀ i∈C.ox,i∈own:=by exact zt rfl) (hd:(x == ("__debug__":Str))=false:=by decide)
  (he:starEach (e::es) X.env=(false,eval e X.env)::starEach es X.env:=by exact kP rfl) (hpl:(backTo cpos (starEach es X.env)).any (·.1)=false:=by rfl) :
  PS X (.Raise (some (.Call (.Name x np) (e::es) [] cpos)) none pos) (tSt C own own' (uV x fr)):=by
 refine ⟨?_⟩
 intro pins s σ H D I ⟨F,ρ,rp,h⟩
 obtain ⟨tl,N,nm,qn,bs,hdct,sn,sub,ab,col,dd,k0,k1,k2,k3,k5,mN,hC,hN,hni,T⟩:=(qbF I.ok.mod.kin hm q).obj
 refine wpAny_Raise_call_subT (C:=Cc) (nm:=nm) (q:=qn) (N:=N) (bs:=bs) (bm:=tl) (hdct:=hdct) (sn:=sn) (sub:=sub) (ab:=ab) (col:=col) (dd:=dd) (k0:=k0) (k1:=k1) (k2:=k2) (k3:=k3) (k5:=k5)
  PySem.F.excBase_ValueError (mN:=mN) (T.hasType PySem.F.excBase_ValueError.hasBase) (I.ok.hd hcalm) (by rw [he]; show (false||(backTo cpos (starEach es X.env)).any (·.1))=false; rw [hpl]; rfl) hni (KU I hg hm ⟨rfl,?_⟩ hd)
 have main:tAr C own as fr σ H fun vs H1=>vs.length<=sizeLine/\C.E (.ref Cc) none H1:=by
  refine ⟨F,ρ,rp,PoS.bindA h fun vs F1 H1 ds ρ1 rp1 c1 av h1=>⟨?_,?_⟩⟩
  ·rw [av.len]; exact Nat.le_trans hsz (by rw [sizeLine_eq]; decide)
  ·rw [<-hcv]; exact h1 F1 H1 rp1.sub (rp1.ioIs hio) .refl
 have run:=ha cpos pins s σ H _ I main
 rw [he] at run ⊢
 refine Calls.evalArgs_plain (wpAny_mono run (fun us s2 ⟨vs,H2,I2,r2,z2,hE⟩=>?_) fun _ _ y=>y)
 refine ⟨rfl,by rw [<-r2.length]; exact z2,I2.bk _ _ hC,hN.keeps I2.bk,T.keeps I2.bk,fun h' ex mk=>?_⟩
 have I3:Inv X pins σ H2 { s2 with heap:=h' }:=I2.kept (t':=s2.toks) mk.keeps
 obtain ⟨t,h1,h2,h3⟩:=mk.there
 refine ht pins σ H2 _ ex Cc I3 ⟨?_,?_,.inl ⟨_,_,h1,rfl,rfl,rfl⟩⟩ hE
 ·cases q2:H2 ex with
  | none=>rfl
  | some u=>
   have hlt:=I2.hok.lt q2
   refine absurd mk.new ?_
   obtain ⟨o,e⟩:=qdD I2.hok q2
   rw [e]; simp
 ·cases q2:X.s₀.heap.get? ex with
  | none=>rfl
  | some o=>
   obtain ⟨o',e'⟩:=I2.base.there ex o q2 (by rw [hx0]; simp)
   rw [mk.new] at e'; cases e'
end
structure Caught (X:Cx) (pins:List (Addr×Obj)) (H:Hp) (s:Shared) (ex T Cc:Addr):Prop where
 fly:Fly s.heap ex T (.ref Cc)
 hex:H ex=none
 hT:H T=none
 n1:X.s₀.heap.get? ex=none
 n2:X.s₀.heap.get? T=none
 pp:∀ p∈X.pn++pins,p.1≠ex/\p.1≠T
section
variable {X:Cx} {pins:List (Addr×Obj)} {σ:St} {H:Hp} {s:Shared} {ex T Cc:Addr}
theorem Caught.dT (c:Caught X pins H s ex T Cc):∃ oe vs,s.heap.get? T=some oe/\oe.data=.fields vs:=let ⟨oe,vs,oT,ts,a1,a2,a3,a4,a5,a6,a7,_⟩:=c.fly; ⟨oT,ts,a6,a7⟩
end
def DefOk (P:Program) (w:World) (K:Frag) (mg:Str->Option Value) (base:Heap) (cv:Str->Value) (k:Nat) (x:Str) (ps:List Str) (ms:List PM) (mr:Mo) (G:List D->Out (D×List D)):Prop:=
 ∃ f fd,FnOk P w K mg base (CXk P w) k f fd ps (spD K cv ms mr G)/\mg x=some (.ref f)/\keepIn K (.ref f)=true/\Binds K fd ps []
def ja (K:Frag) (mg:Str->Option Value) (x:Str) (st:Stmt) (ps:List Str):Prop:=∃ f fd,Fun K x x st f fd/\mg x=some (.ref f)/\Binds K fd ps []
theorem qG {P:Program} {w:World} {K:Frag} {mg:Str->Option Value} {base:Heap} {cv:Str->Value} {x:Str} {st:Stmt} {N ps:List Str} {k:Nat} {ms:List PM} {mr:Mo} {own':List Nat} {fb:Sl->Out (Fl×Sl)} (T:ja K mg x st ps) (S:FnScope N ps (qe st))
  (hbody:∀ (cdv:Value) (f:Addr) (A:Around) (outer:List Env) (s:Shared) (H:Hp) (E:XK),Room k (A.deeper (envOfC x (qe st) s.heap.objs.size f cdv)) ->
   PSs (cxk P w K mg base N x (qe st) f cdv A outer s H E) (vB st) (tSt (qfW K cv E ms mr) (kj 0 ms) own' fb))
  (hl:ms.length=ps.length:=by rfl) (hsub:∀ i∈Uh 0 ms,i∈own':=by exact zt rfl) (hmr:mr=.sh\/∀ ds ρ,(fb (qx N ds))≠.ok (.nx,ρ):=by exact .inl rfl):DefOk P w K mg base cv (k+1) x ps ms mr (ku N ms fb):=by
 obtain ⟨f,fd,F,hm,hb⟩:=T
 exact ⟨f,fd,qgK F S hl hsub hmr (fun cdv A outer s H E hr=>hbody cdv f A outer s H E hr) fun _=>.inr rfl,hm,F.kp,hb⟩
theorem DefOk.by {P:Program} {w:World} {K:Frag} {mg:Str->Option Value} {base:Heap} {cv:Str->Value} {k:Nat} {x:Str} {ps:List Str} {ms:List PM} {mr:Mo} {G G':List D->Out (D×List D)} (h:DefOk P w K mg base cv k x ps ms mr G) (e:∀ ds,Out.le (G' ds) (G ds)):DefOk P w K mg base cv k x ps ms mr G':=by
 obtain ⟨f,fd,F,r⟩:=h
 refine ⟨f,fd,F.imp fun vs H Q E ⟨F1,ds,sb,ar,nd,po⟩=>⟨F1,ds,sb,ar,nd,?_⟩,r⟩
 rcases e ds with z | z
 ·rw [z] at po; exact po.elim
 ·rw [<-z]; exact po
section
variable {X:Cx} {C:Ct} {own:List Nat} {as:List AK} {G:List D->Out (D×List D)} {fr:Sl->Out (List D×Sl)} {mr:Mo} {e:Expr} {es:List Expr} {x:Str} {p pos:Pos} {ms:List PM} {ps:List Str} {k j:Nat} {cv:Str->Value}
theorem qh (F:DefOk X.prog X.w X.K X.mg X.base cv j x ps ms mr G) (hr:Room k X.A) (hj:j<=k) (hx:gM (CXk X.prog X.w) X C.E) (hg:Gl X x) (ha:PA X (e::es) (tAr C own as fr)) (hcv:C.cv=cv:=by rfl) (hK:C.K=X.K:=by rfl) (hms:ms=as.map JS:=by rfl) (hs:∀ i∈jy as,i∈own:=by decide) (nd:(jy as).Nodup:=by decide) (hf:frA as<=1:=by decide) (hio:∀ i∈C.ox,i∈own:=by exact zt rfl)
  (hdb:(x == ("__debug__":Str))=false:=by decide) (he:starEach (e::es) X.env=(false,eval e X.env)::starEach es X.env:=by exact kP rfl) (hpl:(backTo pos (starEach es X.env)).any (·.1)=false:=by exact Ql rfl):PE X (.Call (.Name x p) (e::es) [] pos) (tE C own mr (qt as G fr)):=by
 subst hcv
 obtain ⟨f,fd,F,hm,hk,hb⟩:=F
 rw [<-hK] at F
 exact qbA (by rw [<-hK]; exact F) (hr.mono hj) hg hm hk hb hx ha hms hs nd hf hio hdb he hpl
noncomputable def qan:D->Out D
 | .int i=>.ok (.int (-i))
 | _=>.bad
theorem Wo:UnD X C .sh (unaryOp .USub) qan:=by
 intro pins s σ H x v Q I rx h
 obtain ⟨F,dx,sb,tx,po⟩:=h
 cases dx <;> try exact po.elim
 obtain rfl:=tx.int
 exact qdb pins s σ H _ v Q I rx ⟨_,rfl,po _ F H sb .refl (.int _)⟩
end
noncomputable def yQ:Option (Option D)->Bool
 | some (some (.lst _))=>true
 | _=>false
noncomputable def zz (i:Nat) (g:List D->D->Out (List D)) (fe:Sl->Out (D×Sl)):Sl->Out (D×Sl):=fun ρ=>if yQ ρ[i]?=true then (fe ρ).bind fun p=>match p.2[i]? with
 | some (some (.lst xs))=>match g xs p.1 with
  | .ok ys=>.ok (.non,p.2.set i (some (.lst ys)))
  | _=>.bad
 | _=>.bad
 else .bad
noncomputable def Ju (xs:List D) (d:D):Out (List D):=if xs.length < sizeLine then .ok (xs++[d]) else .bad
noncomputable def qdF (xs:List D):D->Out (List D)
 | .lst ys=>if xs.length+ys.length<=sizeLine then .ok (xs++ys) else .bad
 | .tup ys=>if xs.length+ys.length<=sizeLine then .ok (xs++ys) else .bad
 | _=>.bad
section
variable {X:Cx} {C:Ct} {own:List Nat} {m:Mo} {e:Expr} {fe:Sl->Out (D×Sl)}
theorem Rep.write {K:Frag} {F H:Hp} {σ:St} {ρ:Sl} {i:Nat} {a:Addr} {d:D} {u:HO} (rp:Rep K own F H σ ρ) (hi:i∈own) (ha:σ[i]?=some (some (V.ref a))) (ow:OwnIs K F (upd H a u) a d) :
  Rep K own F (upd H a u) σ (ρ.set i (some d))/\Chg (OA own σ) F H F (upd H a u):=by
 obtain ⟨d0,hd0⟩:=rp.opn i hi
 obtain ⟨a',e1,hF,o0⟩:=rp.ow i d0 hi hd0
 rw [ha] at e1; cases e1
 have hl:i < ρ.length:=(List.getElem?_eq_some_iff.mp hd0).1
 refine ⟨⟨fun b o e=>by rw [qA (qF e hF)]; exact rp.sub b o e,by simp [rp.len],fun j d' hj e=>?_,fun j d' hj e=>?_,fun j hj=>?_,rp.dis⟩,⟨fun b o e n=>?_,fun b e=>?_,Same.refl _,fun b e=>.inl e⟩⟩
 ·rw [List.getElem?_set_ne (fun z=>hj (by rw [<-z]; exact hi))] at e
  exact rp.val j d' hj e
 ·by_cases q:j=i
  ·subst q
   rw [List.getElem?_set_self hl] at e
   cases e
   exact ⟨a,ha,hF,ow⟩
  ·rw [List.getElem?_set_ne (Ne.symm q)] at e
   obtain ⟨b,h1,h2,h3⟩:=rp.ow j d' hj e
   have nb:b≠a:=fun z=>by subst z; exact q (rp.dis j i b hj hi h1 ha)
   exact ⟨b,h1,h2,h3.grow (Same.refl _) fun o z=>by rw [qA nb]; exact z⟩
 ·by_cases q:j=i
  ·subst q; exact ⟨d,List.getElem?_set_self hl⟩
  ·rw [List.getElem?_set_ne (Ne.symm q)]; exact rp.opn j hj
 ·have nb:b≠a:=fun z=>n (by rw [z]; exact ⟨i,hi,ha⟩)
  rw [qA nb]; exact e
 ·by_cases q:b=a
  ·rw [q,qp]; simp
  ·rw [qA q]; exact e
theorem Wp {o:Option (Option D)} (h:yQ o=true):∃ xs,o=some (some (.lst xs)):=by
 unfold yQ at h
 split at h
 ·exact ⟨_,rfl⟩
 ·cases h
theorem Wq {i:Nat} {g:List D->D->Out (List D)} {R:V->V->Hp->VK->Prop} {σ:St} {H:Hp} {Q:VK} (ho:i∈own) (hm:m≠.any)
  (hR:∀ (a:Addr) (xs:List V) (ds ys:List D) (v:V) (d:D) (F H:Hp),Same F H->H a=some (.lst xs)->F a=none->IsL C.K F xs ds->Is C.K F v d->g ds d=.ok ys->(∀ zs,IsL C.K F zs ys->Q .non (upd H a (.lst zs)))->R (.ref a) v H Q)
  (h:tE C own .sh (zz i g fe) σ H Q):∃ a xs,σ[i]?=some (some (V.ref a))/\H a=some (.lst xs)/\tE C own .sh fe σ H fun v H1=>R (.ref a) v H1 Q:=by
 obtain ⟨F,ρ,rp,h⟩:=h
 unfold zz at h
 by_cases q:yQ ρ[i]?=true
 ·rw [if_pos q] at h
  obtain ⟨ds,hd⟩:=Wp q
  obtain ⟨a,h1,h2,xs,h3,h4⟩:=rp.ow i _ ho hd
  refine ⟨a,xs,h1,h3,F,ρ,rp,Po.bind h fun v F1 H1 d ρ1 rp1 c1 mo1 po=>?_⟩
  cases q1:ρ1[i]? with
  | none=>simp only [q1] at po; exact po.elim
  | some o=>
   cases o with
   | none=>simp only [q1] at po; exact po.elim
   | some dd=>
    simp only [q1] at po
    cases dd with
    | lst es=>
     simp only at po
     cases q2:g es d with
     | ok ys=>
      simp only [q2] at po
      obtain ⟨a',e1,e2,vs,e3,e4⟩:=rp1.ow i _ ho q1
      rw [h1] at e1; cases e1
      refine hR a vs es ys v d F1 H1 rp1.sub e3 e2 e4 mo1 q2 fun zs iz=>?_
      obtain ⟨r2,c2⟩:=rp1.write (u:=.lst zs) (d:=.lst ys) ho h1 ⟨zs,qp,iz⟩
      exact po .non F1 _ r2 c2 .non
     | exc c o=>simp only [q2] at po; exact po.elim
     | bad=>simp only [q2] at po; exact po.elim
    | _=>exact po.elim
 ·rw [if_neg q] at h; exact h.elim
theorem wK {i:Nat} {x:Str} {px apos cpos:Pos} (hK:C.K=X.K) (hN:X.N[i]?=some x) (hv:Vis X.env.scope x) (ho:i∈own) (he:PE X e (tE C own m fe)) (hm:m≠.any:=by decide)
  (hd:(x == ("__debug__":Str))=false:=by decide) (hcd:(x == ("__classdict__":Str))=false:=by decide)
  (hbase:attributeBase (.Name x px) "append" X.env (eval (.Name x px) X.env)=eval (.Name x px) X.env:=by rfl)
  (hfew:((backTo cpos (starEach [e] X.env)).all (fun x=>!x.1)&&(backToKw cpos (keywordEach [] X.env)).all (fun x=>x.1.isSome)
   && decide ([e].length+([]:List Keyword).length+(if ([]:List Keyword).isEmpty then 0 else 1) < 30))=true:=by exact uq rfl)
  (hline:(apos.endLine == cpos.line)=true:=by rfl) (hs:starEach [e] X.env=[(false,eval e X.env)]:=by exact qQ rfl) :
  PE X (.Call (.Attribute (.Name x px) "append" apos) [e] [] cpos) (tE C own .sh (zz i Ju fe)):=by
 refine jJ (UW PySem.F.plainAttrs_list PySem.F.slot_list_append PySem.F.type_list_append JG (uI hN hv hd hcd) (qW (yk he hm) jQ hs) hbase hfew hline hs rfl) fun σ H Q h=>?_
 have hR:∀ (a:Addr) (xs:List V) (ds ys:List D) (v:V) (d:D) (F H:Hp),Same F H->H a=some (.lst xs)->F a=none->IsL C.K F xs ds->Is C.K F v d->Ju ds d=.ok ys->(∀ zs,IsL C.K F zs ys->Q .non (upd H a (.lst zs)))->Va (.ref a) [v] H Q:=fun a xs ds ys v d F H sb ea ef ix iv eg k=>by
  unfold Ju at eg
  split at eg
  ·cases eg
   exact ⟨a,xs,v,rfl,rfl,ea,by rw [ix.length]; assumption,k _ (ix.append (.cons iv .nil))⟩
  ·cases eg
 obtain ⟨a,xs,h1,h2,k⟩:=Wq (R:=fun x v H Q=>Va x [v] H Q) ho hm hR h
 exact ⟨.ref a,h1,.inl ⟨rfl,xs,.inl (.inl h2)⟩,k⟩
theorem YD {i:Nat} {x:Str} {px apos cpos:Pos} (hN:X.N[i]?=some x) (hv:Vis X.env.scope x) (ho:i∈own) (he:PE X e (tE C own .fr fe))
  (hd:(x == ("__debug__":Str))=false:=by decide) (hcd:(x == ("__classdict__":Str))=false:=by decide)
  (hbase:attributeBase (.Name x px) "extend" X.env (eval (.Name x px) X.env)=eval (.Name x px) X.env:=by rfl)
  (hfew:((backTo cpos (starEach [e] X.env)).all (fun x=>!x.1)&&(backToKw cpos (keywordEach [] X.env)).all (fun x=>x.1.isSome)
   && decide ([e].length+([]:List Keyword).length+(if ([]:List Keyword).isEmpty then 0 else 1) < 30))=true:=by exact uq rfl)
  (hline:(apos.endLine == cpos.line)=true:=by rfl) (hs:starEach [e] X.env=[(false,eval e X.env)]:=by exact qQ rfl) :
  PE X (.Call (.Attribute (.Name x px) "extend" apos) [e] [] cpos) (tE C own .sh (zz i qdF fe)):=by
 refine jJ (UW PySem.F.plainAttrs_list PySem.F.slot_list_extend PySem.F.type_list_extend UX (uI hN hv hd hcd) (qW he jQ hs) hbase hfew hline hs rfl) fun σ H Q ⟨F,ρ,rp,h⟩=>?_
 unfold zz at h
 by_cases q:yQ ρ[i]?=true
 ·rw [if_pos q] at h
  obtain ⟨ds,hd⟩:=Wp q
  obtain ⟨a,h1,h2,xs,h3,h4⟩:=rp.ow i _ ho hd
  refine ⟨.ref a,h1,.inl ⟨rfl,xs,.inl (.inl h3)⟩,F,ρ,rp,Po.bind h fun v F1 H1 d ρ1 rp1 c1 mo1 po=>?_⟩
  obtain ⟨b,rfl,hb0,hbF,ob⟩:=mo1
  cases q1:ρ1[i]? with
  | none=>simp only [q1] at po; exact po.elim
  | some o=>
   cases o with
   | none=>simp only [q1] at po; exact po.elim
   | some dd=>
    simp only [q1] at po
    cases dd with
    | lst es=>
     simp only at po
     obtain ⟨a',e1,e2,vs,e3,e4⟩:=rp1.ow i _ ho q1
     rw [h1] at e1; cases e1
     cases d with
     | lst ys=>
      obtain ⟨zs,hz,iz⟩:=ob
      have po:Po C own .sh σ F1 H1 (match (if es.length+ys.length<=sizeLine then .ok (es++ys) else .bad:Out (List D)) with | .ok ys=>.ok (.non,ρ1.set i (some (.lst ys))) | _=>.bad) Q:=po
      by_cases qz:es.length+ys.length<=sizeLine
      ·rw [if_pos qz] at po
       refine ⟨a,b,vs,zs,rfl,rfl,e3,hz,by rw [e4.length,iz.length]; exact qz,?_⟩
       obtain ⟨r2,c2⟩:=rp1.write (u:=.lst (vs++zs)) (d:=.lst (es++ys)) ho h1 ⟨_,qp,e4.append iz⟩
       exact po .non F1 _ r2 c2 .non
      ·rw [if_neg qz] at po; exact po.elim
     | dct ys=>
      exact po.elim
     | ins _ _=>exact po.elim
     | at_ _ _=>exact po.elim
     | _=>exact ob.elim
    | _=>exact po.elim
 ·rw [if_neg q] at h; exact h.elim
end
noncomputable def scB (names:List (Str×NameKind)) (scope:Scope):Bool:=decide (scope.kind=.function)&&scope.names.all fun y=>decide (y.2≠.cell)&&(!decide (y.2=.local)||decide (scope.names.lookup y.1=some .local)) &&
 (!decide (y.2=.free)||((decide (names.lookup y.1=some .cell)||decide (names.lookup y.1=some .free))&&decide (scope.names.lookup y.1=some .free)))
theorem kE {X:Cx} {scope:Scope} {names:List (Str×NameKind)} (hX:X.env.scope.names=names) (b:scB names scope=true):ScOk X scope:=by
 subst hX
 unfold scB at b
 rw [Bool.and_eq_true,List.all_eq_true] at b
 obtain ⟨b0,b1⟩:=b
 refine ⟨of_decide_eq_true b0,fun y hy=>?_,fun y hy e=>?_,fun y hy e=>?_,fun y hy e=>?_⟩
 all_goals
  have q:=b1 y hy
  simp only [Bool.and_eq_true,Bool.or_eq_true,Bool.not_eq_true',decide_eq_true_eq,decide_eq_false_iff_not] at q
 ·exact q.1.1
 ·exact q.1.2.resolve_left fun z=>z e
 ·exact (q.2.resolve_left fun z=>z e).1
 ·exact (q.2.resolve_left fun z=>z e).2
noncomputable def qgL (names:List (Str×NameKind)) (N:List Str) (scope:Scope) (Nc:List Str) (nt:Nat) (cap:List Nat):Bool:=decide cap.Nodup&&decide (Nc.length=nt+cap.length)&&(List.range cap.length).all fun j=>match cap[j]? with
 | some k=>match Nc[nt+j]? with
  | some x=>decide (N[k]?=some x)&&(((decide (names.lookup x=some .local)||decide (names.lookup x=some .cell)||decide (names.lookup x=some .free))&&decide ((x,NameKind.free)∈scope.names))||scope.names.all fun y=>decide (y.1≠x))
  | none=>false
 | none=>false
theorem jB {X:Cx} {scope:Scope} {names:List (Str×NameKind)} {N Nc:List Str} {nt:Nat} {cap:List Nat} (hX:X.env.scope.names=names) (hN:X.N=N) (b:qgL names N scope Nc nt cap=true):CapOk X scope Nc nt cap:=by
 subst hX hN
 unfold qgL at b
 rw [Bool.and_eq_true,Bool.and_eq_true,List.all_eq_true] at b
 obtain ⟨⟨b0,b1⟩,b2⟩:=b
 refine ⟨of_decide_eq_true b0,of_decide_eq_true b1,fun j k hj=>?_⟩
 have q:=b2 j (List.mem_range.mpr (List.getElem?_eq_some_iff.mp hj).1)
 rw [hj] at q
 cases e:Nc[nt+j]? with
 | none=>simp only [e] at q; cases q
 | some x=>
  simp only [e,Bool.and_eq_true,Bool.or_eq_true,decide_eq_true_eq] at q
  refine ⟨x,rfl,q.1,?_⟩
  rcases q.2 with ⟨z,q2⟩ | z
  ·refine .inl ⟨?_,q2⟩
   rcases z with (z | z) | z
   ·exact .inl z
   ·exact .inr (.inl z)
   ·exact .inr (.inr z)
  ·refine .inr fun k' hk'=>?_
   rw [List.all_eq_true] at z
   exact of_decide_eq_true (z (x,k') hk') rfl
theorem xL {P:Program} {w:World} {X:Cx}:gM (CXk P w) X (fun _ _ _=>False):=fun _ _ _ _ _ _ _ h=>by
 obtain ⟨_,_,_,_,_,_,_,_,_,_,_,_,_,_,hE⟩:=h
 exact hE.elim
noncomputable def qfX (f:Sl->Out (D×Sl)):Sl->Out (D×Sl):=fun ρ=>(qT f ρ).bind fun p=>.ok (.bl (!p.1),p.2)
section
variable {X:Cx} {C:Ct} {own:List Nat} {e:Expr} {x:Str} {pos:Pos} {i:Int}
theorem yr (h:∃ t,X.mg x=some (.int i t)) (hg:Gl X x) (hd:(x == ("__debug__":Str))=false:=by decide):PE X (.Name x pos) (tE C own .sh (dC (.int i))):=by
 obtain ⟨t,h⟩:=h
 exact qbm (v:=.int i) hg h ⟨t,rfl⟩ (fun _=>.int i) hd
end
section
variable {X:Cx} {C:Ct} {own:List Nat} {a b e:Expr} {f fa fb:Sl->Out (D×Sl)} {m ma mb:Mo} {pos:Pos}
noncomputable def uL:D->Out D
 | .lst xs=>.ok (.tup xs)
 | .tup xs=>.ok (.tup xs)
 | _=>.bad
noncomputable def qbG:D->Out D
 | .lst xs=>.ok (.lst xs)
 | .tup xs=>.ok (.lst xs)
 | _=>.bad
theorem yt (hK:C.K=X.K):Qn X C .sh (.type "tuple") uL:=by
 intro pins s σ H xs us Q I r h
 obtain ⟨x,F,dx,rfl,sb,tx,po⟩:=h
 cases dx with
 | lst ds=>
  obtain ⟨p,vs,rfl,hq,t⟩:=tx.lst sb
  refine yj pins s σ H _ us Q I r ⟨p,vs,rfl,.inl ⟨by rw [<-hK]; exact hq,fun l hl=>?_⟩⟩
  obtain ⟨s2,c2⟩:=yO (u:=.tup vs) sb hl
  exact po _ _ _ s2 c2 (.tup (.inl (.inl qp)) (t.mono c2.grow))
 | tup ds=>
  rcases tx with tx | ⟨_,_,tx⟩
  ·have tx0:=tx
   cases tx with
   | tup hq t=>exact yj pins s σ H _ us Q I r ⟨_,_,rfl,.inr ⟨by rw [<-hK]; exact qO sb hq,po _ F H sb .refl tx0⟩⟩
  ·exact tx.elim
 | _=>exact po.elim
theorem qbH (hK:C.K=X.K):Qn X C .fr (.type "list") qbG:=by
 intro pins s σ H xs us Q I r h
 obtain ⟨x,F,dx,rfl,sb,tx,po⟩:=h
 cases dx with
 | lst ds=>
  obtain ⟨p,vs,rfl,hq,t⟩:=tx.lst sb
  refine xl pins s σ H _ us Q I r ⟨p,vs,rfl,.inl (by rw [<-hK]; exact hq),fun l hl=>?_⟩
  obtain ⟨s2,c2,hF⟩:=vD (u:=.lst vs) sb hl
  exact po _ _ _ s2 c2 ⟨l,rfl,hl,hF,vs,qp,t⟩
 | tup ds=>
  obtain ⟨p,vs,rfl,hq,t⟩:=tx.tup sb
  refine xl pins s σ H _ us Q I r ⟨p,vs,rfl,.inr (by rw [<-hK]; exact hq),fun l hl=>?_⟩
  obtain ⟨s2,c2,hF⟩:=vD (u:=.lst vs) sb hl
  exact po _ _ _ s2 c2 ⟨l,rfl,hl,hF,vs,qp,t⟩
 | _=>exact po.elim
def YE (X:Cx) (C:Ct) (m:Mo) (f:Value) (g:D->D->Out D):Prop:=uG X f (fun xs H Q=>∃ x y F dx dy,xs=[x,y]/\Same F H/\TopIs C.K F H x dx/\TopIs C.K F H y dy/\PoV C m F H (g dx dy) Q)
theorem ZZ {σ:St} {H:Hp} {Q:VK} {g:D->D->Out D} (hma:ma≠.any) (h:tE C own m (d2 g fa fb) σ H Q):ZF (tE C own ma fa) (ZF (tE C own mb fb) qfI) σ H fun xs H1=>∃ x y F dx dy,xs=[x,y]/\Same F H1/\TopIs C.K F H1 x dx/\TopIs C.K F H1 y dy/\PoV C m F H1 (g dx dy) Q:=by
 obtain ⟨F,ρ,rp,h⟩:=JJ (mb:=mb) hma h
 refine ⟨F,ρ,rp,?_⟩
 cases q:fa ρ with
 | ok p=>
  rw [q] at h
  obtain ⟨d,ρ1⟩:=p
  intro v F1 H1 rp1 c1 mo1
  obtain ⟨F2,ρ2,rp2,h2⟩:=h v F1 H1 rp1 c1 mo1
  refine ⟨F2,ρ2,rp2,?_⟩
  cases q2:fb ρ2 with
  | ok p=>
   rw [q2] at h2
   obtain ⟨d',ρ3⟩:=p
   intro w F3 H3 rp3 c3 mo3
   obtain ⟨F4,dx,dy,z⟩:=h2 w F3 H3 rp3 c3 mo3
   exact ⟨v,w,F4,dx,dy,rfl,z⟩
  | exc c=>rw [q2] at h2; exact h2
  | bad=>rw [q2] at h2; exact h2.elim
 | exc c=>rw [q] at h; exact h
 | bad=>rw [q] at h; exact h.elim
theorem JY {x:Str} {id:String} {p:Pos} {g:D->D->Out D} (hc:YE X C m (.builtin id) g) (hg:Gl X x) (hm:X.mg x=none) (hv:bootBuiltins x=some (.builtin id)) (ha:PE X a (tE C own ma fa)) (hb:PE X b (tE C own mb fb)) (hma:ma≠.any:=by decide) (hn:x ≠ "__name__":=by decide) (hdb:(x == ("__debug__":Str))=false:=by decide)
  (h1:starEach [a,b] X.env=(false,eval a X.env)::starEach [b] X.env:=by rfl) (h2:starEach [b] X.env=[(false,eval b X.env)]:=by exact qQ rfl):PE X (.Call (.Name x p) [a,b] [] pos) (tE C own m (d2 g fa fb)):=
 jJ (yi hc hg hm hv (qW ha (qW hb jQ h2) h1) hn hdb (by rw [h1]) (by rw [h2]; rfl)) fun _ _ _ h=>ZZ hma h
noncomputable def qfa:D->D->Out D:=xm fun i j=>.ok (.int (if j > i then j else i))
noncomputable def qfb:D->D->Out D:=xm fun i j=>.ok (.int (if j < i then j else i))
theorem qdG (hc:X.calm=true):YE X C .sh (.builtin "max") qfa:=by
 intro pins s σ H xs us Q I r h
 obtain ⟨x,y,F,dx,dy,rfl,sb,tx,ty,po⟩:=h
 cases dx <;> try exact po.elim
 cases dy <;> try exact po.elim
 obtain rfl:=tx.int
 obtain rfl:=ty.int
 exact US hc pins s σ H _ us Q I r ⟨_,_,rfl,po _ F H sb .refl (.int _)⟩
theorem qdH (hc:X.calm=true):YE X C .sh (.builtin "min") qfb:=by
 intro pins s σ H xs us Q I r h
 obtain ⟨x,y,F,dx,dy,rfl,sb,tx,ty,po⟩:=h
 cases dx <;> try exact po.elim
 cases dy <;> try exact po.elim
 obtain rfl:=tx.int
 obtain rfl:=ty.int
 exact UT hc pins s σ H _ us Q I r ⟨_,_,rfl,po _ F H sb .refl (.int _)⟩
noncomputable def kl (a T:String):Option Bool:=if (Value.type a == Value.type T)=true then some true else if PySem.W.kitMeta T=true then (fastBuiltinMro a).map (·.contains (.type T)) else none
theorem Ga (K:Frag) (a T:String):PySem.W.kitOne K (.type a) (.type T)=kl a T:=rfl
noncomputable def tyN:D->Option String
 | .non=>some "NoneType"
 | .bl _=>some "bool"
 | .int _=>some "int"
 | .str _=>some "str"
 | .tup _=>some "tuple"
 | .lst _=>some "list"
 | .dct _=>some "dict"
 | _=>none
noncomputable def gz (T:String) (d:D):Out D:=match tyN d with
 | some a=>match kl a T with
  | some b=>.ok (.bl b)
  | none=>.bad
 | none=>.bad
theorem Gb {T:String} (hK:C.K=X.K):uG X (.builtin "isinstance") (fun xs H Q=>∃ x F d,xs=[x,.ty T]/\Same F H/\TopIs C.K F H x d/\PoV C .sh F H (gz T d) Q):=by
 intro pins s σ H xs us Q I r h
 obtain ⟨x,F,d,rfl,sb,tx,po⟩:=h
 obtain ⟨u,c,rfl,ru,rc⟩:=qa8 r
 cases rc
 cases q:tyN d with
 | none=>unfold gz at po; rw [q] at po; exact po.elim
 | some a=>
  cases q2:kl a T with
  | none=>unfold gz at po; rw [q] at po; simp only [q2] at po; exact po.elim
  | some b=>
   have po:PoV C .sh F H (.ok (.bl b)) Q:=by unfold gz at po; rw [q] at po; simp only [q2] at po; exact po
   have fin:∀ tk,EP X pins σ Q (.bool b) { s with toks:=tk }:=fun tk=>⟨.bl b,H,I.tok tk,rfl,po _ F H sb .refl (.bl b)⟩
   have e:PySem.W.kitOne X.K (.type a) (.type T)=some b:=(Ga X.K a T).trans q2
   cases d with
   | non=>obtain rfl:=tx.non; cases ru; cases q; exact PySem.W.kia_one PySem.W.kitx_none I.kIn True.intro e (fun z=>nomatch z) fin
   | bl y=>obtain rfl:=tx.bl; cases ru; cases q; exact PySem.W.kia_one PySem.W.kitx_bool I.kIn True.intro e (fun z=>nomatch z) fin
   | int y=>obtain rfl:=tx.int; obtain ⟨t,rfl⟩:=ru; cases q; exact PySem.W.kia_one PySem.W.kitx_int I.kIn True.intro e (fun z=>nomatch z) fin
   | str y=>obtain ⟨rfl,_⟩:=tx.str; obtain ⟨t,rfl⟩:=ru; cases q; exact PySem.W.kia_one PySem.W.kitx_str I.kIn True.intro e (fun z=>nomatch z) fin
   | tup y=>
    obtain ⟨p,vs,rfl,hq,t⟩:=tx.tup sb
    cases ru; cases q
    obtain ⟨its,_,⟨o,h1,h2,_⟩,_⟩:=I.tuple (show SqT X.K H p vs by rw [<-hK]; exact hq)
    exact PySem.W.kia_one PySem.W.kitx_tuple I.kIn ⟨o,h1,h2⟩ e (fun z=>nomatch z) fin
   | lst y=>
    obtain ⟨p,vs,rfl,hq,t⟩:=tx.lst sb
    cases ru; cases q
    obtain ⟨its,_,⟨o,n,h1,h2,_⟩,_⟩:=I.list (show SqL X.K H p vs by rw [<-hK]; exact hq)
    exact PySem.W.kia_one PySem.W.kitx_list I.kIn ⟨o,h1,h2⟩ e (fun z=>nomatch z) fin
   | dct y=>
    obtain ⟨p,vs,rfl,hq,t⟩:=tx.dct sb
    cases ru; cases q
    obtain ⟨_,_,ws,_,o,es,ep,h1,h2,_⟩:=(show ObjOk X.prog X.w H s.heap p (.dK vs) from I.hok p _ hq)
    exact PySem.W.kia_one PySem.W.kitx_dict I.kIn ⟨o,h1,h2.1⟩ e (fun z=>nomatch z) fin
   | _=>cases q
theorem zA {T:String} {tn:Str} {p tp:Pos} (hK:C.K=X.K) (hg:Gl X "isinstance") (hm:X.mg "isinstance"=none) (hv:bootBuiltins "isinstance"=some (.builtin "isinstance")) (ht:Gl X tn) (htm:X.mg tn=none) (htv:bootBuiltins tn=some (.type T)) (ha:PE X a (tE C own ma fa)) (hn:tn ≠ "__name__":=by decide) (hdb:(tn == ("__debug__":Str))=false:=by decide)
  (h1:starEach [a,.Name tn tp] X.env=(false,eval a X.env)::starEach [.Name tn tp] X.env:=by rfl) (h2:starEach [.Name tn tp] X.env=[(false,eval (.Name tn tp) X.env)]:=by rfl):PE X (.Call (.Name "isinstance" p) [a,.Name tn tp] [] pos) (tE C own .sh (d1 (gz T) fa)):=by
 refine jJ (yi (Gb (T:=T) hK) hg hm hv (qW ha (qW (qaY (v:=.ty T) ht htm htv rfl hn hdb) jQ h2) h1) (by decide) (by decide) (by rw [h1]) (by rw [h2]; rfl)) fun σ H Q h=>?_
 obtain ⟨F,ρ,rp,h⟩:=ZM (ma:=ma) h
 refine ⟨F,ρ,rp,?_⟩
 cases q:fa ρ with
 | ok p=>
  rw [q] at h
  obtain ⟨d,ρ1⟩:=p
  intro v F1 H1 rp1 c1 mo1
  obtain ⟨F2,dx,z⟩:=h v F1 H1 rp1 c1 mo1
  exact ⟨v,F2,dx,rfl,z⟩
 | exc c=>rw [q] at h; exact h
 | bad=>rw [q] at h; exact h.elim
noncomputable def xq:List D->Option (List Bool)
 | []=>some []
 | .bl b::ds=>(xq ds).map (b::·)
 | _::_=>none
noncomputable def Ul:D->Out D
 | .lst ds=>match xq ds with
  | some bs=>.ok (.bl (bs.all id))
  | none=>.bad
 | _=>.bad
theorem Wr {K:Frag} {F:Hp}:∀ {vs:List V} {us:List Value} {ds:List D} {bs:List Bool},IsL K F vs ds->Vals vs us->xq ds=some bs->us=bs.map Value.bool
 | _,_,_,_,.nil,.nil,e=>by cases e; rfl
 | _,_,_,_,.cons (d:=d) h t,.cons r rs,e=>by
  cases d with
  | bl b=>
   unfold xq at e
   obtain ⟨bs',e1,e2⟩:=Option.map_eq_some_iff.mp e
   subst e2
   cases h
   cases r
   rw [Wr t rs e1]; rfl
  | _=>cases e
theorem gQ (hK:C.K=X.K) (hc:X.calm=true):Qn X C .sh (.builtin "all") Ul:=by
 intro pins s σ H xs us Q I r h
 obtain ⟨x,F,dx,rfl,sb,tx,po⟩:=h
 cases dx <;> try exact po.elim
 rename_i ds
 obtain ⟨p,vs,rfl,hq,t⟩:=tx.lst sb
 obtain ⟨u,rfl,ru⟩:=uQ r
 cases ru
 unfold Ul at po
 cases q:xq ds with
 | none=>simp only [q] at po; exact po.elim
 | some bs=>
  simp only [q] at po
  obtain ⟨its,rv,pl,hz⟩:=I.list (show SqL X.K H p vs by rw [<-hK]; exact hq)
  have eb:=Wr t rv q
  subst eb
  have hp:p < s.heap.objs.size:=let ⟨o,h1,_⟩:=pl.isList; Heap.lt_size h1
  refine call_all_walk (wpAny_pyIter_list pl.isList ?_)
  have W:Walks X.prog X.w X.A.in1 s.heap.objs.size [s.heap.objs.size,p] [s.heap.objs.size] (bs.map Value.bool).toArray.size (fun i v=>(bs.map Value.bool).toArray[i]?=some v) (fun i h=>h.IsListIter s.heap.objs.size p i/\h.IsList p (bs.map Value.bool).toArray):=Walks.list (A:=X.A.in1) (show X.A.in1.handled=none from I.ok.hd hc) s.heap.objs.size p (Nat.ne_of_lt hp) _
  have st:(s.heap.push { cls:=.type "list_iterator",data:=.fields #[.ref p,.int 0 0] }).IsListIter s.heap.objs.size p 0/\(s.heap.push { cls:=.type "list_iterator",data:=.fields #[.ref p,.int 0 0] }).IsList p (bs.map Value.bool).toArray:=⟨⟨_,Heap.get?_push_size _ rfl,rfl,rfl⟩,let ⟨o,h1,h2⟩:=pl.isList; ⟨o,Heap.get?_push_of_some _ h1,h2⟩⟩
  refine ⟨_,_,_,_,_,_,fun i=>(bs[i]?).getD false,rfl,W,st,fun i v s' Q' E' hP hQ'=>?_,fun h' tk kp=>?_⟩
  ·have hP:(bs.map Value.bool).toArray[i]?=some v:=hP
   rw [List.getElem?_toArray,List.getElem?_map] at hP
   cases qi:bs[i]? with
   | none=>rw [qi] at hP; cases hP
   | some b=>
    have hQ2:Q' ((bs[i]?).getD false) s':=hQ'
    rw [qi] at hP hQ2
    cases hP
    exact wpAny_truthy_bool hQ2
  ·have e:(List.range (bs.map Value.bool).toArray.size).all (fun i=>(bs[i]?).getD false)=bs.all id:=by
    rw [List.size_toArray,List.length_map,Bool.eq_iff_iff,List.all_eq_true,List.all_eq_true]
    constructor
    ·intro h b hb
     obtain ⟨i,hi,e⟩:=List.mem_iff_getElem.mp hb
     have:=h i (List.mem_range.mpr hi)
     rw [List.getElem?_eq_getElem hi,e] at this
     exact this
    ·intro h i hi
     have hi:=List.mem_range.mp hi
     rw [List.getElem?_eq_getElem hi]
     exact h _ (List.getElem_mem hi)
   rw [e]
   refine ⟨.bl (bs.all id),H,?_,rfl,po _ F H sb .refl (.bl _)⟩
   have k2:∀ b o,s.heap.get? b=some o->h'.get? b=some o:=fun b o eb=>kp b o (by simp; exact Nat.ne_of_lt (Heap.lt_size eb)) (Heap.get?_push_of_some _ eb)
   exact I.kept (t':=tk) k2
end
noncomputable def vK {α:Type} (idx:List Nat) (xs:List α):List α:=idx.filterMap fun k=>xs[k]?
theorem IsL.pick {K:Frag} {F:Hp} {vs:List V} {ds:List D} (h:IsL K F vs ds):∀ (idx:List Nat),IsL K F (vK idx vs) (vK idx ds)
 | []=>.nil
 | k::idx=>by
  unfold vK
  rw [List.filterMap_cons,List.filterMap_cons]
  cases e:vs[k]? with
  | none=>
   have e2:ds[k]?=none:=List.getElem?_eq_none_iff.mpr (by rw [<-h.length]; exact List.getElem?_eq_none_iff.mp e)
   rw [e2]
   exact IsL.pick h idx
  | some v=>
   obtain ⟨d,e2,i⟩:=h.get e
   rw [e2]
   exact .cons i (IsL.pick h idx)
theorem zB {vs:List V} {us:List Value} (h:Vals vs us):∀ (idx:List Nat),Vals (vK idx vs) (vK idx us)
 | []=>.nil
 | k::idx=>by
  unfold vK
  rw [List.filterMap_cons,List.filterMap_cons]
  cases e:vs[k]? with
  | none=>rw [h.none_of e]; exact zB h idx
  | some v=>
   obtain ⟨u,e2,r⟩:=h.get e
   rw [e2]
   exact .cons r (zB h idx)
theorem Gc {α:Type} (xs:List α):vK (List.range xs.length) xs=xs:=by
 unfold vK
 have:=PySem.W.krv_all xs.toArray
 simpa using this
noncomputable def JZ (n:Nat) (lo hi:Option Int) (st:Int):List Nat:=(List.range (Builtin.Slice.slicePlaces (Builtin.Slice.sliceAdjust lo hi st n).1 (Builtin.Slice.sliceAdjust lo hi st n).2 st)).map fun (k:Nat)=>((Builtin.Slice.sliceAdjust lo hi st n).1+(k:Int) * st).toNat
noncomputable def gR (x:Str) (lo hi:Option Int) (st:Int):Str:=if (st == 1&&(Builtin.Str.strSliceIndices lo hi st x.length).length == x.length)=true then x else ⟨((Builtin.Str.strSliceIndices lo hi st x.length).filterMap (x.cps[·]?)).toArray⟩
noncomputable def slD (lo hi st:Option Int):D->Out D
 | .tup xs=>if st.getD 1≠0/\(vK (JZ xs.length lo hi (st.getD 1)) xs).length<=sizeLine then .ok (.tup (vK (JZ xs.length lo hi (st.getD 1)) xs)) else .bad
 | .str x=>if st.getD 1≠0/\(gR x lo hi (st.getD 1)).length<=sizeLine then .ok (.str (gR x lo hi (st.getD 1))) else .bad
 | _=>.bad
def qgM (X:Cx) (r:V->Option Int->Option Int->Option Int->Hp->VK->Prop):Prop:=
 ∀ (pins:List (Addr×Obj)) (s:Shared) (σ:St) (H:Hp) (x:V) (v vl vu vk:Value) (lo hi st:Option Int) (sl:Addr) (Q:VK),Inv X pins σ H s->RelV x v->s.heap.IsSliceOf sl vl vu vk->IsPart vl lo->IsPart vu hi->IsPart vk st->r x lo hi st H Q ->
  ∃ T id,typeLookup (.type T) "__getitem__"=pure (some (.builtin id))/\s.TypeIs v T/\wpAny (model X.prog X.w) X.A (getItem v (.ref sl)) (EP X pins σ Q) X.xe s
section
variable {prog:Program} {w:World} {A:Around} {E:Value->Shared->Prop} {s:Shared}
theorem gE {sl:Addr} {vl vu vk:Value} {lo hi st:Option Int} {n:Nat} {Q:Int×Int×Nat->Shared->Prop} (hs:s.heap.IsSliceOf sl vl vu vk) (pl:IsPart vl lo) (pu:IsPart vu hi) (pk:IsPart vk st) (h0:st.getD 1≠0)
  (h:Q ((Builtin.Slice.sliceAdjust lo hi (st.getD 1) n).1,st.getD 1,Builtin.Slice.slicePlaces (Builtin.Slice.sliceAdjust lo hi (st.getD 1) n).1 (Builtin.Slice.sliceAdjust lo hi (st.getD 1) n).2 (st.getD 1)) s):wpAny (model prog w) A (Builtin.Slice.sliceApplied (.ref sl) (pure (n:Int))) Q E s:=by
 obtain ⟨os,hos,hcs,hds⟩:=id hs
 unfold Builtin.Slice.sliceApplied Builtin.Slice.sliceFields
 refine wpAny_bind (wpAny_bind (wpAny_field hos hds (x:=vl) rfl (wpAny_bind (wpAny_field hos hds (x:=vu) rfl (wpAny_bind (wpAny_field hos hds (x:=vk) rfl (wpAny_pure ?_)))))))
 refine wpAny_bind (HT.slicePart_ pk ?_)
 show wpAny _ _ (if (st.getD 1 == 0)=true then _ else _) _ _ s
 rw [if_neg (by simpa using h0)]
 refine wpAny_bind (HT.slicePart_ pl (wpAny_bind (HT.slicePart_ pu (wpAny_bind (wpAny_pure ?_)))))
 exact wpAny_pure h
theorem zC {t sl:Addr} {items:Array Value} {vl vu vk:Value} {lo hi st:Option Int} {Q:Value->Shared->Prop} (ht:IsTup s.heap t items) (hs:s.heap.IsSliceOf sl vl vu vk) (pl:IsPart vl lo) (pu:IsPart vu hi) (pk:IsPart vk st) (h0:st.getD 1≠0)
  (hw:JZ items.size lo hi (st.getD 1)=List.range items.size->Q (.ref t) s)
  (h:Q (.ref s.heap.objs.size) { s with heap:=s.heap.push { cls:=.type "tuple",data:=.seq (vK (JZ items.size lo hi (st.getD 1)) items.toList).toArray } })
  (hsz:(vK (JZ items.size lo hi (st.getD 1)) items.toList).length<=sizeLine):wpAny (model prog w) A (getItem (.ref t) (.ref sl)) Q E s:=by
 obtain ⟨os,hos,hcs,hds⟩:=id hs
 have hTs:s.TypeIs (.ref sl) "slice":=⟨os,hos,hcs⟩
 unfold getItem
 try with_reducible refine wpAny_holding ?_
 first | refine wpAny_bind (wpAny_pure ?_) | skip
 refine wpAny_bind (wpAny_sequenceKey ht.typeIs (by decide) ?_)
 refine wpAny_bind (wpAny_callSpecial?_slot (name:=Str.ofString "__getitem__") ht.typeIs PyProof.Rows.slot_tuple_getitem
  (wpAny_call_entry PyProof.Rows.slot_tuple_getitem ht.typeIs entry_tuple_getitem ?_ (args_tuple_getitem _ _)))
 show wpAny _ _ (Builtin.Tuple.tupleItemsOf (.ref t) >>= _) _ _ s
 refine wpAny_bind (tupleItemsOf_ ht ?_)
 refine wpAny_bind (wpAny_typeOf hTs ?_)
 rw [if_pos (by decide)]
 refine wpAny_bind (gE hs pl pu pk h0 ?_)
 generalize hA:Builtin.Slice.sliceAdjust lo hi (st.getD 1) items.size=A0
 generalize hN:Builtin.Slice.slicePlaces A0.1 A0.2 (st.getD 1)=N0
 have ep:vK (JZ items.size lo hi (st.getD 1)) items.toList=(List.range N0).filterMap fun (k:Nat)=>items[(A0.1+(k:Int) * st.getD 1).toNat]?:=by
  unfold vK JZ
  rw [hA,hN,List.filterMap_map]
  congr 1
  funext k
  simp
 rw [ep] at h hsz
 by_cases hc:(A0.1 == 0&&st.getD 1 == 1&&N0 == items.size)=true
 ·have hc':=hc
  rw [Bool.and_eq_true,Bool.and_eq_true] at hc'
  have q1:A0.1=0:=eq_of_beq hc'.1.1
  have q2:st.getD 1=1:=eq_of_beq hc'.1.2
  have q3:N0=items.size:=eq_of_beq hc'.2
  have whole:JZ items.size lo hi (st.getD 1)=List.range items.size:=by
   unfold JZ
   rw [hA,hN,q1,q2,q3]
   have e:(fun (k:Nat)=>((0:Int)+(k:Int) * 1).toNat)=id:=by
    funext k
    show ((0:Int)+(k:Int) * 1).toNat=k
    omega
   rw [e,List.map_id]
  have hQ:=hw whole
  show wpAny _ _ (if (A0.1 == 0&&st.getD 1 == 1&&N0 == items.size)=true then _ else _) _ _ s
  rw [if_pos hc]
  unfold Builtin.Tuple.tupleIsExact
  refine wpAny_bind (wpAny_bind (wpAny_typeOf ht.typeIs (wpAny_pure ?_)))
  rw [if_pos (by decide)]
  exact wpAny_bind (wpAny_rule (wpAny_pure ⟨_,rfl,wpAny_pure hQ⟩))
 ·show wpAny _ _ (if (A0.1 == 0&&st.getD 1 == 1&&N0 == items.size)=true then _ else _) _ _ s
  rw [if_neg hc]
  have htake:sizeOk (.seq ((List.range N0).filterMap fun (k:Nat)=>items[(A0.1+(k:Int) * st.getD 1).toNat]?).toArray):=by
   show (((List.range N0).filterMap fun (k:Nat)=>items[(A0.1+(k:Int) * st.getD 1).toNat]?).toArray).size<=sizeLine
   rw [List.size_toArray]; exact hsz
  first
   | exact wpAny_bind (m:=Builtin.Tuple.tupleExact _) (wpAny_newObj_type (wpAny_pure ⟨_,rfl,wpAny_pure h⟩) htake)
   | exact wpAny_bind (m:=Builtin.Tuple.tupleExact _) (wpAny_newObj_type (wpAny_bind (wpAny_pure (wpAny_pure ⟨_,rfl,wpAny_pure h⟩))) htake)
   | exact wpAny_bind (wpAny_bind (m:=Builtin.Tuple.tupleExact _) (wpAny_newObj_type (wpAny_pure (wpAny_pure ⟨_,rfl,wpAny_pure h⟩)) htake))
   | exact wpAny_bind (wpAny_bind (m:=Builtin.Tuple.tupleExact _) (wpAny_newObj_type (wpAny_pure ⟨_,rfl,wpAny_pure h⟩) htake))
end
def PoO (C:Ct) (own:List Nat) (σ:St) (F H:Hp) (r:Out (Option Int×Sl)) (Q:Option Int->Hp->Prop):Prop:=match r with
 | .ok (b,ρ')=>∀ F' H',Rep C.K own F' H' σ ρ'->Chg (OA own σ) F H F' H'->Q b H'
 | .exc c ρ'=>∀ F' H',Same F' H'->Zr C.K C.ox F' H' σ ρ'->Chg (OA own σ) F H F' H'->C.E (C.cv c) none H'
 | .bad=>False
def tO (C:Ct) (own:List Nat) (f:Sl->Out (Option Int×Sl)):TO:=fun σ H Q=>∃ F ρ,Rep C.K own F H σ ρ/\PoO C own σ F H (f ρ) Q
noncomputable def uH:Option (Sl->Out (D×Sl))->Sl->Out (Option Int×Sl)
 | none,ρ=>.ok (none,ρ)
 | some f,ρ=>(f ρ).bind fun p=>match p.1 with
  | .int i=>.ok (some i,p.2)
  | _=>.bad
theorem Po.bindO {C:Ct} {own:List Nat} {m:Mo} {σ:St} {F H:Hp} {o:Out (Option Int×Sl)} {k:Option Int×Sl->Out (D×Sl)} {Q:VK} {R:Option Int->Hp->Prop} (hp:Po C own m σ F H (o.bind k) Q)
  (h:∀ F1 H1 b ρ1,Rep C.K own F1 H1 σ ρ1->Chg (OA own σ) F H F1 H1->Po C own m σ F1 H1 (k (b,ρ1)) Q->R b H1):PoO C own σ F H o R:=by
 cases o with
 | ok p=>
  obtain ⟨d,ρ1⟩:=p
  exact fun F1 H1 rp c=>h F1 H1 d ρ1 rp c (Po.shift (show Po C own m σ F H (k (d,ρ1)) Q from hp) c)
 | exc x=>exact hp
 | bad=>exact hp.elim
noncomputable def Ka (fa:Sl->Out (D×Sl)) (l u k:Option (Sl->Out (D×Sl))):Sl->Out (D×Sl):=fun ρ=>(fa ρ).bind fun p=>(uH l p.2).bind fun a=>(uH u a.2).bind fun b=>(uH k b.2).bind fun c=>(slD a.1 b.1 c.1 p.1).plain.bind fun d=>.ok (d,c.2)
section
variable {X:Cx} {C:Ct} {own:List Nat} {a e:Expr} {fa f:Sl->Out (D×Sl)} {m ma:Mo} {pos p2:Pos}
theorem zc:PO X none (tO C own (uH none)):=by
 intro pins s σ H Q I ⟨F,ρ,rp,h⟩
 exact qbc pins s σ H Q I (h F H rp .refl)
theorem Qs (h:PE X e (tE C own m f)):PO X (some e) (tO C own (uH (some f))):=by
 intro pins s σ H Q I ⟨F,ρ,rp,hp⟩
 refine qbd h pins s σ H Q I ⟨F,ρ,rp,?_⟩
 have hp:PoO C own σ F H ((f ρ).bind fun p=>match p.1 with | .int i=>.ok (some i,p.2) | _=>.bad) Q:=hp
 cases q:f ρ with
 | ok p=>
  rw [q] at hp
  obtain ⟨d,ρ1⟩:=p
  cases d with
  | int i=>exact fun v F1 H1 rp1 c1 mo1=>⟨i,mo1.top.int,hp F1 H1 rp1 c1⟩
  | _=>exact hp.elim
 | exc c=>rw [q] at hp; exact hp
 | bad=>rw [q] at hp; exact hp.elim
theorem YF {r:V->Option Int->Option Int->Option Int->Hp->VK->Prop} {te:TE} {tl th tk:TO} {lo hi st:Option Expr} (hr:qgM X r) (he:PE X e te) (hl:PO X lo tl) (hu:PO X hi th) (hk:PO X st tk) :
  PE X (.Subscript e (.Slice lo hi st p2) pos) (fun σ H Q=>te σ H fun x H1=>tl σ H1 fun l H2=>th σ H2 fun u H3=>tk σ H3 fun k H4=>r x l u k H4 Q):=by
 refine ⟨?_⟩
 intro pins s σ H Q I h
 refine Subscript_ (thn (he pins s σ H _ I h) fun v s1 ⟨x,H1,I1,r1,q1⟩=>?_)
 refine wpAny_Slice (thn (hl pins s1 σ H1 _ I1 q1) fun vl s2 ⟨l,H2,I2,pl,q2⟩=>thn (hu pins s2 σ H2 _ I2 q2) fun vu s3 ⟨u,H3,I3,pu,q3⟩=>thn (hk pins s3 σ H3 _ I3 q3) fun vk s4 ⟨k,H4,I4,pk,q4⟩=>?_)
 have I5:Inv X pins σ H4 { s4 with heap:=s4.heap.push { cls:=.type "slice",data:=.fields #[vl,vu,vk] } }:=I4.kept (t':=s4.toks) fun b ob q=>Heap.get?_push_of_some _ q
 obtain ⟨T,id,hT,ht,hg⟩:=hr pins { s4 with heap:=s4.heap.push { cls:=.type "slice",data:=.fields #[vl,vu,vk] } } σ H4 x v vl vu vk l u k s4.heap.objs.size Q I5 r1 (Heap.IsSliceOf.new ..) pl pu pk q4
 show wpAny (model X.prog X.w) X.A (subscriptTail e (.Slice lo hi st p2) v (.ref s4.heap.objs.size)) (EP X pins σ Q) X.xe { s4 with heap:=s4.heap.push { cls:=.type "slice",data:=.fields #[vl,vu,vk] } }
 cases st with
 | none=>exact tail_any (ops:=[.ref s4.heap.objs.size,v]) ht hT hg (by with_unfolding_all rfl)
 | some st=>exact tail_any (ops:=[v,.ref s4.heap.objs.size]) ht hT hg (by with_unfolding_all rfl)
theorem Qt {v:Value} {o:Option Int} (h:IsPart v o):∃ l:Option (Int×Tok),v=partValue l/\l.map (·.1)=o:=by
 cases h with
 | none=>exact ⟨none,rfl,rfl⟩
 | int i t=>exact ⟨some (i,t),rfl,rfl⟩
theorem qhw (hK:C.K=X.K):qgM X (fun x lo hi st H Q=>∃ F d,Same F H/\Is C.K F x d/\PoV C .sh F H (slD lo hi st d) Q):=by
 intro pins s σ H x v vl vu vk lo hi st sl Q I rx hs pl pu pk h
 obtain ⟨F,d,sb,is,po⟩:=h
 cases d with
 | tup ds=>
  have is0:=is
  cases is with
  | @tup a xs _ hq t=>
   cases rx
   have hq':SqT X.K H a xs:=by rw [<-hK]; exact qO sb hq
   obtain ⟨its,r,ht,hz⟩:=I.tuple hq'
   have hlen:its.length=ds.length:=r.length.symm.trans t.length
   have po:PoV C .sh F H (if st.getD 1≠0/\(vK (JZ ds.length lo hi (st.getD 1)) ds).length<=sizeLine then .ok (.tup (vK (JZ ds.length lo hi (st.getD 1)) ds)) else .bad) Q:=po
   by_cases c:st.getD 1≠0/\(vK (JZ ds.length lo hi (st.getD 1)) ds).length<=sizeLine
   ·rw [if_pos c] at po
    have iv:=t.pick (JZ ds.length lo hi (st.getD 1))
    have rv:=zB r (JZ ds.length lo hi (st.getD 1))
    refine ⟨"tuple",_,PyProof.Rows.slot_tuple_getitem.lookup,ht.typeIs,zC ht hs pl pu pk c.1 (fun e=>?_) ?_ ?_⟩
    ·rw [List.size_toArray,hlen] at e
     refine ⟨.ref a,H,I,rfl,po _ F H sb .refl ?_⟩
     rw [e,Gc]
     exact is0
    ·simp only [List.size_toArray,hlen]
     have hlv:(vK (JZ ds.length lo hi (st.getD 1)) xs).length<=sizeLine:=by rw [iv.length]; exact c.2
     refine ⟨.ref s.heap.objs.size,_,I.laid (t':=s.toks) (o:=.tup (vK (JZ ds.length lo hi (st.getD 1)) xs)) (fun b ob q=>Heap.get?_push_of_some _ q) (Nat.le_refl _) ⟨⟨hlv,⟨_,Heap.get?_push_size _ rfl,rfl⟩⟩,_,rv,IsTup.new _ _⟩,rfl,?_⟩
     obtain ⟨s2,c2⟩:=yO (u:=.tup (vK (JZ ds.length lo hi (st.getD 1)) xs)) sb (I.hok.fresh (Nat.le_refl _))
     exact po _ _ _ s2 c2 (.tup (.inl (.inl qp)) (iv.mono c2.grow))
    ·simp only [List.size_toArray,hlen]
     rw [<-rv.length,iv.length]
     exact c.2
   ·rw [if_neg c] at po; exact po.elim
 | str z=>
  cases is
  obtain ⟨t,rfl⟩:=rx
  have po:PoV C .sh F H (if st.getD 1≠0/\(gR z lo hi (st.getD 1)).length<=sizeLine then .ok (.str (gR z lo hi (st.getD 1))) else .bad) Q:=po
  by_cases c:st.getD 1≠0/\(gR z lo hi (st.getD 1)).length<=sizeLine
  ·rw [if_pos c] at po
   obtain ⟨l,rfl,el⟩:=Qt pl
   obtain ⟨u,rfl,eu⟩:=Qt pu
   obtain ⟨k,rfl,ek⟩:=Qt pk
   refine ⟨"str",_,PySem.F.slot_str_getitem.lookup,typeIs_str s z t,wpAny_getItem_str_slice (l:=l) (u:=u) (st:=k) hs (by rw [ek]; simpa using c.1) ?_⟩
   have c2:=c.2
   unfold sliceMade slicePicked
   rw [el,eu,ek]
   unfold gR at c2 po
   by_cases q:(st.getD 1 == 1&&(Builtin.Str.strSliceIndices lo hi (st.getD 1) z.length).length == z.length)=true
   ·rw [if_pos q] at c2 po ⊢
    exact ⟨.str z,H,I,⟨t,rfl⟩,po _ F H sb .refl (.str c2)⟩
   ·rw [if_neg q] at c2 po ⊢
    exact ⟨c2,.str _,H,I.tok _,⟨_,rfl⟩,po _ F H sb .refl (.str c2)⟩
  ·rw [if_neg c] at po; exact po.elim
 | _=>exact po.elim
theorem Gd {lo hi st:Option Expr} {l u k:Option (Sl->Out (D×Sl))} (hK:C.K=X.K) (he:PE X e (tE C own ma fa)) (hl:PO X lo (tO C own (uH l))) (hu:PO X hi (tO C own (uH u))) (hk:PO X st (tO C own (uH k))) (hma:ma≠.any:=by decide) :
  PE X (.Subscript e (.Slice lo hi st p2) pos) (tE C own .sh (Ka fa l u k)):=by
 refine jJ (YF (qhw (C:=C) hK) (yk he hma) hl hu hk) fun σ H Q ⟨F,ρ,rp,h⟩=>⟨F,ρ,rp,Po.bind h fun v F1 H1 d ρ1 rp1 c1 mo1 h1=>?_⟩
 refine ⟨F1,ρ1,rp1,Po.bindO h1 fun F2 H2 a ρ2 rp2 c2 h2=>⟨F2,ρ2,rp2,Po.bindO h2 fun F3 H3 b ρ3 rp3 c3 h3=>⟨F3,ρ3,rp3,Po.bindO h3 fun F4 H4 c ρ4 rp4 c4 h4=>?_⟩⟩⟩
 exact ⟨F4,d,rp4.sub,((mo1.mono c2.grow).mono c3.grow).mono c4.grow,PoV.of rp4 h4⟩
end
noncomputable def Its (x:Str):It:=⟨fun i _=>i < x.cps.size,fun i H v H'=>H'=H/\∃ c,x.cps[i]?=some c/\v=.str ⟨#[c]⟩,fun i _=>x.cps.size<=i⟩
noncomputable def xM (x:Str):List D:=x.cps.toList.map fun c=>.str ⟨#[c]⟩
theorem Ws {P:Program} {w:World} {K:Frag} {tg:Expr} (it:Addr) (x:Str) (t:Tok) (ty:String) (hn:["enumerate", "zip", "dict_itemiterator", "dict_reverseitemiterator", "odict_iterator", "itertools.zip_longest", "itertools.pairwise"].contains ty=false)
  (W:∀ A:Around,A.handled=none->Walks P w A it [it] [it] x.cps.size (SignAt x) (fun i h=>h.IsStrIter it ty x t i)) (sf:∀ (A:Around) (i:Nat) (s:Shared) (Q:Value->Shared->Prop) (E:Value->Shared->Prop),s.heap.IsStrIter it ty x t i->Q (.ref it) s->wpAny (model P w) A (pyIter (.ref it)) Q E s) :
  Turn P w K tg (Its x) [it] it (fun i h=>h.IsStrIter it ty x t i/\i<=x.cps.size) where
 mem:=by simp
 obj:=fun i h st b hb=>by
  have e:b=it:=by simpa using hb
  subst e
  obtain ⟨o,e,c,d⟩:=st.1
  exact ⟨o,e,fun v z=>by rw [d] at z; cases z⟩
 keep:=fun i h h' st k=>by
  obtain ⟨⟨o,e,r⟩,hi⟩:=st
  exact ⟨⟨o,k it (by simp) o e,r⟩,hi⟩
 item:=by
  intro X hP hw hK hc i pins s σ H E I hf st hg
  subst hP hw hK
  obtain ⟨f0,f1,f2,f3,f4,f5⟩:=hf it (by simp)
  refine (W X.A (I.ok.hd hc)).item i s _ _ hg st.1 fun v h' tk hP st' kp=>?_
  have I1:Inv X pins σ H { s with heap:=h',toks:=tk }:=I.turned (t':=tk) (fun b o hb e=>kp b o (by simpa using hb) e) f0 f1 f3 f4 f5
  obtain ⟨o,e,c,d⟩:=id st'
  obtain ⟨c',u,h1,h2⟩:∃ c' u,x.cps[i]?=some c'/\v=Value.str ⟨#[c']⟩ u:=by
   unfold SignAt at hP
   first
    | exact hP
    | (obtain ⟨c',u,h1,h2⟩:=hP; exact ⟨c',u,h1,h2⟩)
    | (obtain ⟨c',h1,u,h2⟩:=hP; exact ⟨c',u,h1,h2⟩)
    | (obtain ⟨u,c',h1,h2⟩:=hP; exact ⟨c',u,h1,h2⟩)
  subst h2
  exact ⟨_,rfl,Zz (s:={ s with heap:=h',toks:=tk }) e c d hn ⟨.str ⟨#[c']⟩,H,I1,⟨u,rfl⟩,⟨rfl,c',h1,rfl⟩,⟨st',hg⟩,fun b hb=>(hf b hb).1⟩⟩
 done:=by
  intro X hP hw hK hc i pins s σ H E I hf st hg
  subst hP hw hK
  obtain ⟨f0,f1,f2,f3,f4,f5⟩:=hf it (by simp)
  have hi:i=x.cps.size:=Nat.le_antisymm st.2 hg
  subst hi
  exact (W X.A (I.ok.hd hc)).done s _ _ st.1 fun h' tk kp=>⟨rfl,I.turned (t':=tk) (fun b o hb e=>kp b o (by simpa using hb) e) f0 f1 f3 f4 f5⟩
 self:=fun A i s Q E st h=>sf A i s Q E st.1 h
theorem qdI {K:Frag} {F:Hp} {x:Str}:ItIs K F (Its x) (xM x) where
 go:=fun i H hi _=>by
  have:i < x.cps.size:=by simpa [xM] using hi
  exact this
 yld:=fun i Fi H v H' d e s1 s2 y=>by
  obtain ⟨rfl,c,h1,rfl⟩:=y
  have e:d=.str ⟨#[c]⟩:=by
   unfold xM at e
   rw [List.getElem?_map] at e
   have h1:x.cps.toList[i]?=some c:=by simpa using h1
   rw [h1] at e
   exact (Option.some.inj e).symm
  subst e
  exact ⟨Fi,.refl,s2,.str (Wi c)⟩
 stop:=fun i H hi _=>by
  have:x.cps.size<=i:=by simpa [xM] using hi
  exact this
noncomputable def jt:D->Out (List D)
 | .lst xs=>.ok xs
 | .tup xs=>.ok xs
 | .str x=>.ok (xM x)
 | _=>.bad
noncomputable def jr (f:Sl->Out (D×Sl)):Sl->Out (List D×Sl):=fun ρ=>(f ρ).bind fun p=>(jt p.1).bind fun ds=>.ok (ds,p.2)
section
variable {X:Cx} {C:Ct} {own:List Nat} {tg e:Expr} {f:Sl->Out (D×Sl)} {m:Mo} {pos:Pos}
theorem qdJ {l:Expr} {tl:TE} (hl:PE X l tl):PI X tg l (fun σ H R=>tl σ H fun x H1=>(∃ a,x=.ref a/\(((∃ xs,SqL X.K H1 a xs)/\R (Itl X.K a) H1)\/((∃ xs,SqT X.K H1 a xs)/\R (Itt X.K a) H1)))\/∃ z,x=.str z/\R (Its z) H1):=by
 refine ⟨?_⟩
 intro pins s σ H R I h
 refine thn (hl pins s σ H _ I h) fun v s1 ⟨x,H1,I1,r1,q1⟩=>?_
 have fp:∀ b∈[s1.heap.objs.size],KQ X pins H1 b:=fun b hb=>by
  have e:b=s1.heap.objs.size:=by simpa using hb
  subst e
  exact I1.fpOk (Nat.le_refl _) (I1.hok.fresh (Nat.le_refl _))
 rcases q1 with ⟨a,rfl,q⟩ | ⟨z,rfl,q⟩
 ·cases r1
  rcases q with ⟨⟨xs,hq⟩,q⟩ | ⟨⟨xs,hq⟩,q⟩
  ·obtain ⟨its,rv,p,hz⟩:=I1.list hq
   refine wpAny_pyIter_list p.isList ?_
   exact ⟨s1.heap.objs.size,[s1.heap.objs.size],_,_,H1,rfl,I1.kept (t':=s1.toks) fun b o e=>Heap.get?_push_of_some _ e,UN a _,⟨_,Heap.get?_push_size _ rfl,rfl,rfl⟩,fp,q⟩
  ·obtain ⟨its,rv,p,hz⟩:=I1.tuple hq
   refine wpAny_pyIter_tuple (show s1.heap.IsTuple a its.toArray from p) ?_
   exact ⟨s1.heap.objs.size,[s1.heap.objs.size],_,_,H1,rfl,I1.kept (t':=s1.toks) fun b o e=>Heap.get?_push_of_some _ e,Ua a _,⟨_,Heap.get?_push_size _ rfl,rfl,rfl⟩,fp,q⟩
 ·obtain ⟨t,rfl⟩:=r1
  cases ha:z.cps.all (· < 128) with
  | true=>
   refine wpAny_pyIter_ascii ha ?_
   exact ⟨s1.heap.objs.size,[s1.heap.objs.size],_,_,H1,rfl,I1.kept (t':=s1.toks) fun b o e=>Heap.get?_push_of_some _ e,Ws _ z t "str_ascii_iterator" (by decide) (fun A hA=>Walks.strAscii hA _ z t) (fun A i s Q E st h=>wpAny_pyIter_striter_ascii st h),⟨⟨_,Heap.get?_push_size _ rfl,rfl,rfl⟩,Nat.zero_le _⟩,fp,q⟩
  | false=>
   refine wpAny_pyIter_wide ha ?_
   exact ⟨s1.heap.objs.size,[s1.heap.objs.size],_,_,H1,rfl,I1.kept (t':=s1.toks) fun b o e=>Heap.get?_push_of_some _ e,Ws _ z t "str_iterator" (by decide) (fun A hA=>Walks.strWide hA _ z t) (fun A i s Q E st h=>wpAny_pyIter_striter_wide st h),⟨⟨_,Heap.get?_push_size _ rfl,rfl,rfl⟩,Nat.zero_le _⟩,fp,q⟩
theorem qK (hK:C.K=X.K) (h:PE X e (tE C own m f)) (hm:m≠.any:=by decide):PI X tg e (tIt C own (jr f)):=by
 refine qbB (qdJ (yk h hm)) fun σ H R ⟨F,ρ,rp,h⟩=>⟨F,ρ,rp,PoI.bindV h fun v F1 H1 d ρ1 rp1 c1 mo1 h1=>?_⟩
 have mo1:Is C.K F1 v d:=mo1
 cases mo1 with
 | lst p t=>exact .inl ⟨_,rfl,.inl ⟨⟨_,by rw [<-hK]; exact rp1.sub.seq p⟩,by rw [<-hK]; exact h1 _ F1 H1 rp1 c1 (qdy p t)⟩⟩
 | tup p t=>exact .inl ⟨_,rfl,.inr ⟨⟨_,by rw [<-hK]; exact qO rp1.sub p⟩,by rw [<-hK]; exact h1 _ F1 H1 rp1 c1 (qdz p t)⟩⟩
 | str hz=>exact .inr ⟨_,rfl,h1 _ F1 H1 rp1 c1 qdI⟩
 | _=>exact h1.elim
end
end L2.D2
namespace L2.D2
open PySem PySem.Spec PySem.Calls PyProof.Rows PySem.W Builtin Builtin.ObjectAttr Builtin.Getset_descriptor
noncomputable def xcB (K:Frag) (C:Addr):Bool:=decide (subIn K (.ref C) (.type "BaseException")=some true)&&decide (findIn K (.ref C) "__getattribute__"=some (some (.builtin "BaseException.__getattribute__")))&&decide (findIn K (.ref C) "__getattr__"=some none) &&
 decide (findIn K (.ref C) "__class__"=some (some (.builtin "object.__class__")))&&decide (mroIn K C (.type "object")=some true)&&(clsIn K C).isSome
end L2.D2
namespace L2.D2
open PySem PySem.Spec PyProof.Rows
theorem Kb {P:Program} {w:World} {K:Frag} {mg:Str->Option Value} {base:Heap} {N:List Str} {qual:Str} {scope:Scope} {f:Addr} {cd:Value} {A:Around} {outer:List Env} {s0:Shared} {H0:Hp} {E:XK} {C:Ct} (h:C.E=E):YC (cxk P w K mg base N qual scope f cd A outer s0 H0 E) C:=by
 subst h
 exact qdE
noncomputable def qgN (ca:Str->Addr) (cs:List Str) (c:Str):Option Addr:=if c∈cs then some (ca c) else none
noncomputable def qgO (ca:Str->Addr) (cs:List Str) (x:Str) (C:Addr):Option Bool:=if C∈cs.map ca then some (decide (C=ca x)) else none
structure Xs (K:Frag) (cv:Str->Value) (ca:Str->Addr) (cs:List Str) (top:Str):Prop where
 val:∀ c∈cs,cv c=.ref (ca c)
 own:∀ c∈cs,PySem.W.exmOne K (.ref (ca c)) (cv top)=some true
 cls:∀ c∈cs,xcB K (ca c)=true
 kit:∀ c∈cs,∀ d∈cs,PySem.W.kitOne K (.ref (ca c)) (.ref (ca d))=some (decide (ca c=ca d))
 ve:∀ c∈cs,PySem.W.kitOne K (.ref (ca c)) (.type "ValueError")=some true
section
variable {K:Frag} {cv:Str->Value} {ca:Str->Addr} {cs:List Str} {top:Str}
theorem Xs.hit (z:Xs K cv ca cs top):∀ c Cc,qgN ca cs c=some Cc->cv c=.ref Cc/\PySem.W.exmOne K (.ref Cc) (cv top)=some true:=fun c Cc h=>by
 unfold qgN at h
 split at h
 ·cases h
  exact ⟨z.val c (by assumption),z.own c (by assumption)⟩
 ·cases h
theorem Xs.ans (z:Xs K cv ca cs top) {x:Str} (hx:x∈cs):∀ Cc b,qgO ca cs x Cc=some b->xcB K Cc=true/\PySem.W.kitOne K (.ref Cc) (.ref (ca x))=some b:=fun Cc b h=>by
 unfold qgO at h
 split at h
 ·rename_i hm
  obtain ⟨c,hc,rfl⟩:=List.mem_map.mp hm
  cases h
  exact ⟨z.cls c hc,z.kit c hc x hx⟩
 ·cases h
end
section
variable {prog:Program} {w:World} {A:Around} {E:Value->Shared->Prop} {s:Shared}
theorem xu:entryFor table "dict.update.loop"=some Builtin.«dict.update.loop»:=entryFor_of_tree (by kernel_rfl)
theorem ko:plainId "dict.update.loop"=true:=by decide +kernel
def YG (h:Heap) (v key val:Value):Prop:=∃ p o n,v=.ref p/\h.get? p=some o/\o.cls=.type "tuple"/\o.data=.seq #[key,val] n
end
noncomputable def Kc:D->Option Key
 | .int i=>some (.inl i)
 | .str x=>some (.inr x)
 | _=>none
noncomputable def yg (kvs:List (Key×D)) (k:Key) (d:D):List (Key×D):=if kvs.any (fun p=>decide (p.1=k)) then kvs.map fun p=>if p.1=k then (p.1,d) else p else kvs++[(k,d)]
noncomputable def qbI:D->Option (Key×D)
 | .tup [k,v]=>(Kc k).map fun k=>(k,v)
 | _=>none
noncomputable def gS:List D->Option (List (Key×D))
 | []=>some []
 | d::ds=>match qbI d,gS ds with
  | some p,some ps=>some (p::ps)
  | _,_=>none
theorem IsK.any {K:Frag} {F:Hp} {k:Key}:∀ {kv:List (Key×V)} {ks:List (Key×D)},IsK K F kv ks->(kv.any fun p=>decide (p.1=k))=(ks.any fun p=>decide (p.1=k))
 | _,_,.nil=>rfl
 | _,_,.cons h t=>by rw [List.any_cons,List.any_cons,IsK.any t]
theorem IsK.repl {K:Frag} {F:Hp} {k:Key} {v:V} {d:D} (i:Is K F v d):∀ {kv:List (Key×V)} {ks:List (Key×D)},IsK K F kv ks->IsK K F (kv.map fun p=>if p.1=k then (p.1,v) else p) (ks.map fun p=>if p.1=k then (p.1,d) else p)
 | _,_,.nil=>.nil
 | _,_,.cons (k:=k') h t=>by
  rw [List.map_cons,List.map_cons]
  by_cases e:k'=k
  ·simp only [e,if_true]; exact .cons i (IsK.repl i t)
  ·simp only [e,if_false]; exact .cons h (IsK.repl i t)
theorem IsK.snoc {K:Frag} {F:Hp} {k:Key} {v:V} {d:D} (i:Is K F v d):∀ {kv:List (Key×V)} {ks:List (Key×D)},IsK K F kv ks->IsK K F (kv++[(k,v)]) (ks++[(k,d)])
 | _,_,.nil=>.cons i .nil
 | _,_,.cons h t=>.cons h (IsK.snoc i t)
theorem IsK.put {K:Frag} {F:Hp} {k:Key} {v:V} {d:D} {kv:List (Key×V)} {ks:List (Key×D)} (h:IsK K F kv ks) (i:Is K F v d):IsK K F (gx kv k v) (yg ks k d):=by
 unfold gx yg
 rw [h.any]
 by_cases e:(ks.any fun p=>decide (p.1=k))=true
 ·rw [if_pos e,if_pos e]; exact IsK.repl i h
 ·rw [if_neg e,if_neg e]; exact IsK.snoc i h
theorem Wt {K:Frag} {F:Hp}:∀ {pv:List (Key×V)} {ps:List (Key×D)} {kv:List (Key×V)} {ks:List (Key×D)},IsK K F pv ps->IsK K F kv ks->IsK K F (pv.foldl (fun l p=>gx l p.1 p.2) kv) (ps.foldl (fun l p=>yg l p.1 p.2) ks)
 | _,_,_,_,.nil,h=>h
 | _,_,_,_,.cons i t,h=>by
  rw [List.foldl_cons,List.foldl_cons]
  exact Wt t (h.put i)
def qgP (p:Key×V) (q:Key×Value×Value):Prop:=p.1=q.1/\RelV p.2 q.2.2
theorem YH:∀ {pv:List (Key×V)} {tr:List (Key×Value×Value)} {kv:List (Key×V)} {vs:List (Key×Value)},Paired qgP pv tr->KV kv vs->KV (pv.foldl (fun l p=>gx l p.1 p.2) kv) (tr.foldl (fun l p=>stored l p.1 p.2.2) vs)
 | _,_,_,_,.nil,h=>h
 | _,_,_,_,.cons r t,h=>by
  rw [List.foldl_cons,List.foldl_cons]
  refine YH t ?_
  rw [r.1]
  exact h.put _ r.2
theorem Wu:∀ {pv:List (Key×V)} {kv:List (Key×V)},(pv.foldl (fun l p=>gx l p.1 p.2) kv).length<=kv.length+pv.length
 | [],kv=>Nat.le_refl _
 | p::pv,kv=>by
  have h1:=@Wu pv (gx kv p.1 p.2)
  have h2:=uR kv p.1 p.2
  rw [List.foldl_cons,List.length_cons]
  omega
section
variable {X:Cx} {C:Ct} {pins:List (Addr×Obj)} {σ:St} {F H:Hp} {s:Shared}
theorem zr {v:V} {u:Value} {d:D} {k:Key} (i:Is C.K F v d) (r:RelV v u) (e:Kc d=some k):gA k u=true:=by
 cases d with
 | int z=>cases i; cases e; obtain ⟨t,rfl⟩:=r; exact Jv z t
 | str z=>cases i; cases e; obtain ⟨t,rfl⟩:=r; exact Jw z t
 | _=>cases e
theorem Wv (hK:C.K=X.K) (I:Inv X pins σ H s) (sb:Same F H):∀ {vs:List V} {us:List Value} {ds:List D} {ps:List (Key×D)},IsL C.K F vs ds->Vals vs us->gS ds=some ps ->
  ∃ (pv:List (Key×V)) (tr:List (Key×Value×Value)),IsK C.K F pv ps/\Paired qgP pv tr/\tr.length=us.length/\pv.length=us.length/\∀ (j:Nat) (p:Key×Value×Value),tr[j]?=some p->∃ v,us[j]?=some v/\gA p.1 p.2.1=true/\YG s.heap v p.2.1 p.2.2
 | _,_,_,_,.nil,.nil,e=>by cases e; exact ⟨[],[],.nil,.nil,rfl,rfl,fun j p e=>by simp at e⟩
 | _,_,_,_,.cons (d:=d) (ds:=ds) i t,.cons (b:=u) r rs,e=>by
  unfold gS at e
  cases q1:qbI d with
  | none=>rw [q1] at e; cases e
  | some kd=>
   cases q2:gS ds with
   | none=>rw [q1,q2] at e; cases e
   | some rest=>
    rw [q1,q2] at e
    cases e
    obtain ⟨pv,tr,h1,h2,h3,h3',h4⟩:=Wv hK I sb t rs q2
    unfold qbI at q1
    split at q1
    ·rename_i dk dv
     obtain ⟨k,hk,rfl⟩:=Option.map_eq_some_iff.mp q1
     cases i with
     | @tup a xs _ hq il=>
      cases il with
      | @cons xk _ xr _ ik il2=>
       cases il2 with
       | @cons xv _ xr2 _ iv il3=>
        cases il3
        cases r
        obtain ⟨its,rv,⟨o,ho,hc,n,hd⟩,_⟩:=I.tuple (show SqT X.K H a [xk,xv] by rw [<-hK]; exact qO sb hq)
        cases rv with
        | @cons _ uk _ _ rk rv2=>
         cases rv2 with
         | @cons _ uv _ _ rv3 rv4=>
          cases rv4
          refine ⟨(k,xv)::pv,(k,uk,uv)::tr,.cons iv h1,.cons ⟨rfl,rv3⟩ h2,by simp [h3],by simp [h3'],fun j p e=>?_⟩
          cases j with
          | zero=>
           simp at e
           subst e
           exact ⟨_,rfl,zr ik rk hk,a,o,n,rfl,ho,hc,hd⟩
          | succ j=>simpa using h4 j p (by simpa using e)
    ·cases q1
noncomputable def ky (kvs:List (Key×D)) (k:Key):Bool:=kvs.any fun p=>decide (p.1=k)
noncomputable def inA:D->D->Out D
 | x,.dct kvs=>match Kc x with
  | some k=>.ok (.bl (ky kvs k))
  | none=>.bad
 | x,y=>qe7 x y
noncomputable def xN:D->D->Out D
 | x,.dct kvs=>match Kc x with
  | some k=>.ok (.bl (!ky kvs k))
  | none=>.bad
 | x,y=>Ug x y
theorem Ww {K:Frag} {kv:List (Key×V)} {ks:List (Key×D)} {k:Key} (h:IsK K F kv ks):(VW kv k).isSome=ky ks k:=by
 rw [<-Qk,h.any]; rfl
theorem qfY {v:V} {d:D} {k:Key} (h:TopIs C.K F H v d) (e:Kc d=some k):v=kV k:=by
 cases d with
 | int z=>cases e; exact h.int
 | str z=>cases e; exact h.str.1
 | _=>cases e
theorem YI (hK:C.K=X.K) (hu:X.A.units+64 < cLine):OpD X C .sh (compareOp .In) inA:=by
 intro pins s σ H x y v u Q I rx ry h
 obtain ⟨F,dx,dy,sb,tx,ty,po⟩:=h
 by_cases hd:∃ kvs,dy=.dct kvs
 ·obtain ⟨kvs,rfl⟩:=hd
  cases q:Kc dx with
  | none=>unfold inA at po; simp only [q] at po; exact po.elim
  | some k=>
   unfold inA at po
   simp only [q] at po
   obtain ⟨a,kv,rfl,hH,ik⟩:=ty.dct sb
   cases ry
   have ex:=qfY tx q
   subst ex
   refine qhs (by omega) I (DGet.k (k:=k) hH) rx fun s' I'=>⟨.bl _,H,I',rfl,?_⟩
   rw [Ww ik]
   exact po _ F H sb .refl (.bl _)
 ·have e:inA dx dy=qe7 dx dy:=by
   cases dy <;> first | rfl | exact absurd ⟨_,rfl⟩ hd
  rw [e] at po
  exact qfS hK hu pins s σ H x y v u Q I rx ry ⟨F,dx,dy,sb,tx,ty,po⟩
theorem vL (hK:C.K=X.K) (hu:X.A.units+64 < cLine):OpD X C .sh (compareOp .NotIn) xN:=by
 intro pins s σ H x y v u Q I rx ry h
 obtain ⟨F,dx,dy,sb,tx,ty,po⟩:=h
 by_cases hd:∃ kvs,dy=.dct kvs
 ·obtain ⟨kvs,rfl⟩:=hd
  cases q:Kc dx with
  | none=>unfold xN at po; simp only [q] at po; exact po.elim
  | some k=>
   unfold xN at po
   simp only [q] at po
   obtain ⟨a,kv,rfl,hH,ik⟩:=ty.dct sb
   cases ry
   have ex:=qfY tx q
   subst ex
   refine qbk (by omega) I (DGet.k (k:=k) hH) rx fun s' I'=>⟨.bl _,H,I',rfl,?_⟩
   rw [Ww ik]
   exact po _ F H sb .refl (.bl _)
 ·have e:xN dx dy=Ug dx dy:=by
   cases dy <;> first | rfl | exact absurd ⟨_,rfl⟩ hd
  rw [e] at po
  exact ZS hK hu pins s σ H x y v u Q I rx ry ⟨F,dx,dy,sb,tx,ty,po⟩
end
theorem qbJ (t:SetTable) (es:Array (Int×Value)) (h:Int) (x:Value):(layNew t es h x).2.1.led=t.led:=by
 unfold layNew
 cases t.freeSlot h with
 | none=>rfl
 | some p=>
  obtain ⟨sl,wd⟩:=p
  show (SetTable.orStandIn (t.put sl).1 _).led=t.led
  unfold SetTable.orStandIn
  split <;> rfl
theorem YJ {t:SetTable} (es:Array (Int×Value)) (h:Int) (x:Value) (e:t.plain=false):(layNew t es h x).2.1.plain=false:=by
 unfold layNew
 cases t.freeSlot h with
 | none=>rfl
 | some p=>
  obtain ⟨sl,wd⟩:=p
  show (SetTable.orStandIn (t.put sl).1 _).plain=false
  unfold SetTable.orStandIn
  split
  ·exact e
  ·rfl
theorem qbK {m f v:Nat} {l p:Bool} {hs:Array Int} {t:SetTable} {o:Array Nat} (h:SetTable.laid m f v l p hs=some (t,o)):t.led=l/\t.plain=p:=by
 unfold SetTable.laid at h
 cases e:SetTable.layClean m hs with
 | none=>
  rw [e] at h
  cases h
 | some ow=>
  rw [e] at h
  have h2:=congrArg Prod.fst (Option.some.inj h)
  subst h2
  exact ⟨rfl,rfl⟩
theorem Vi (t:SetTable) (es:Array (Int×Value)) (n:Nat):(relayAll t es n).2.1.led=t.led/\(t.plain=false->(relayAll t es n).2.1.plain=false):=by
 unfold relayAll
 cases e:t.relaid (es.map (·.1)) n with
 | none=>exact ⟨rfl,fun _=>rfl⟩
 | some q=>
  obtain ⟨t',o⟩:=q
  have hk:=qbK (show SetTable.laid _ _ _ _ _ _=some (t',o) from e)
  dsimp only
  split
  ·exact ⟨hk.1,fun z=>hk.2.trans z⟩
  ·exact ⟨rfl,fun _=>rfl⟩
noncomputable def vE (ks:List Str) (x:Str):List Str:=if x∈ks then ks else ks++[x]
noncomputable def ke (es:Array (Int×Value)) (ep:Nat) (t:SetTable):Obj:={ cls:=.type "set",dict:=none,data:=.set es ep t,slots:=#[] }
structure SetD (prog:Program) (w:World) (es:Array (Int×Value)) (t:SetTable) (ks:List Str):Prop where
 el:ElemsOf (PySem.strKind prog w) es.toList
 perm:(es.toList.map fun e=>strOf e.2).Perm ks
 nd:ks.Nodup
 bd:es.size < scanBound
 fits:t.fits es.size=true
 led:t.led=!(w.params.followText "set-order")
 plain:ks≠[]->t.plain=false
def SetS (prog:Program) (w:World) (h:Heap) (a:Addr) (ks:List Str):Prop:=∃ es ep t,h.get? a=some (ke es ep t)/\SetD prog w es t ks
section
variable {prog:Program} {w:World} {A:Around} {E:Value->Shared->Prop} {s:Shared}
theorem YK {l:List (Int×Value)} (h:ElemsOf (PySem.strKind prog w) l) {e:Int×Value} (he:e∈l):∃ x t,e.2=.str x t:=by
 obtain ⟨⟨k,hk,_⟩,_⟩:=h e he
 obtain ⟨t,ht⟩:=Value.isStrOf_shape hk
 exact ⟨k,t,ht⟩
theorem isS {x y:Str} {t:Tok}:(PySem.strKind prog w).is x (.str y t)=decide (x=y):=by
 have h:(PySem.strKind prog w).is y (.str y t)=true:=by
  show Value.isStrOf y (.str y t)=true
  simp [Value.isStrOf]
 exact KeyKind.is_eq_decide h x
theorem SetD.mem {es:Array (Int×Value)} {t:SetTable} {ks:List Str} (h:SetD prog w es t ks) {x:Str}:x∈ks↔∃ e∈es.toList,(PySem.strKind prog w).is x e.2=true:=by
 rw [<-h.perm.mem_iff,List.mem_map]
 constructor
 ·rintro ⟨e,he,z⟩
  obtain ⟨y,t,hy⟩:=YK h.el he
  refine ⟨e,he,?_⟩
  rw [hy] at z ⊢
  rw [isS]
  exact decide_eq_true z.symm
 ·rintro ⟨e,he,z⟩
  obtain ⟨y,t,hy⟩:=YK h.el he
  refine ⟨e,he,?_⟩
  rw [hy] at z ⊢
  rw [isS] at z
  exact (of_decide_eq_true z).symm
theorem SetD.size {es:Array (Int×Value)} {t:SetTable} {ks:List Str} (h:SetD prog w es t ks):es.size=ks.length:=by
 have e:=h.perm.length_eq
 simpa using e
theorem qao {h:Heap} {a:Addr} {es es':Array (Int×Value)} {ep:Nat} {t t':SetTable} (ho:h.get? a=some (ke es ep t)):(h.update a (Obj.putSet es' t')).get? a=some (ke es' (ep+1) t'):=by
 have e:=Heap.get?_update_self (Obj.putSet es' t') ho (by rw [putSet_of (o:=ke es ep t) es' t' rfl]; rfl)
 rw [putSet_of (o:=ke es ep t) es' t' rfl] at e
 exact e
theorem SetD.more {es es1:Array (Int×Value)} {t t1:SetTable} {ks:List Str} {x:Str} {tk:Tok} (h:SetD prog w es t ks) (nx:x∉ks) (hr:ks.length+1 < scanBound)
  (hp:es1.toList.Perm (es.toList++[((PySem.strKind prog w).hash x,.str x tk)])) (hf:t1.fits es1.size=true) (hl:t1.led=t.led) (hq:t1.plain=false):SetD prog w es1 t1 (vE ks x):=by
 have ex:vE ks x=ks++[x]:=if_neg nx
 have hz:es1.size=ks.length+1:=by
  rw [<-Array.length_toList,hp.length_eq,List.length_append,Array.length_toList,h.size]
  rfl
 rw [ex]
 refine ⟨(h.el.push (by rw [isS]; exact decide_eq_true rfl) rfl).perm hp,?_,?_,?_,hf,hl.trans h.led,fun _=>hq⟩
 ·refine (hp.map _).trans ?_
  rw [List.map_append]
  exact h.perm.append (List.Perm.refl _)
 ·exact List.nodup_append.mpr ⟨h.nd,by simp,fun a ha b hb=>by rw [List.mem_singleton.mp hb]; exact fun z=>nx (z ▸ ha)⟩
 ·rw [hz]
  exact hr
theorem qbL {a:Addr} {ks:List Str} {x:Str} {tk:Tok} {Q:Bool->Shared->Prop} (hS:SetS prog w s.heap a ks) (hr:ks.length+1 < scanBound)
  (h:∀ h' b,Heap.SameBut a s.heap h'->SetS prog w h' a (vE ks x)->Q b { s with heap:=h' }):wpAny (model prog w) A (setAddHashed a (.str x tk) ((PySem.strKind prog w).hash x)) Q E s:=by
 obtain ⟨es,ep,t,ho,d⟩:=hS
 have hk:(PySem.strKind prog w).is x (.str x tk)=true:=by rw [isS]; exact decide_eq_true rfl
 unfold setAddHashed setAddHashedIn
 refine wpAny_holding (wpAny_bind (wpAny_setState_of ho rfl d.fits ?_))
 dsimp only
 rw [byScan_of rfl d.bd d.el,if_pos rfl]
 unfold setAddByScan
 refine wpAny_bind (wpAny_bind (wpAny_rule (wpAny_bind (wpAny_setScan_of hk ho rfl d.fits d.el ?_))))
 cases hq:es.toList.findIdx? (fun e=>(PySem.strKind prog w).is x e.2) with
 | some j=>
  obtain ⟨hj,hp,_⟩:=List.findIdx?_eq_some_iff_getElem.mp hq
  have hx:x∈ks:=d.mem.mpr ⟨_,List.getElem_mem hj,hp⟩
  have q:=h s.heap false (Heap.SameBut.refl a s.heap) ⟨es,ep,t,ho,by rw [show vE ks x=ks from if_pos hx]; exact d⟩
  dsimp only
  exact wpAny_pure (wpAny_pure q)
 | none=>
  have hx:x∉ks:=fun z=>by
   obtain ⟨e,he,q⟩:=d.mem.mp z
   have:=List.findIdx?_eq_none_iff.mp hq e he
   rw [q] at this
   cases this
  dsimp only
  have hp:=layNew_perm t es ((PySem.strKind prog w).hash x) (.str x tk)
  have hf:=layNew_fits t es ((PySem.strKind prog w).hash x) (.str x tk)
  have hl:=qbJ t es ((PySem.strKind prog w).hash x) (.str x tk)
  have hn:=fun e=>YJ (t:=t) es ((PySem.strKind prog w).hash x) (.str x tk) e
  generalize layNew t es ((PySem.strKind prog w).hash x) (.str x tk)=L at hp hf hl hn ⊢
  obtain ⟨es1,t1,wd,gv⟩:=L
  dsimp only at hp hf hl hn ⊢
  rw [Array.toList_push] at hp
  have tail:∀ t2:SetTable,t2.fits es1.size=true->t2.led=t.led->t2.plain=false->wpAny (model prog w) A (do
    storeSet a es1 t2
    if (!wd&&t2.tooFull)=true then do
      (match (relayAll t2 es1 (SetTable.grown es1.size)).2.2 with | true=>rule "set.scan.the-table-gave-way" | false=>pure ())
      storeSet a (relayAll t2 es1 (SetTable.grown es1.size)).1 (relayAll t2 es1 (SetTable.grown es1.size)).2.1
      pure (some true)
     else pure (some true)) (fun r s'=>∃ h',s'={ s with heap:=h' }/\r=some true/\Heap.SameBut a s.heap h'/\SetS prog w h' a (vE ks x)) E s:=by
   intro t2 f2 l2 p2
   have d2:=d.more hx hr hp f2 l2 p2
   refine wpAny_bind (wpAny_storeSet_of ho rfl ?_ (fits_of_scanBound d2.bd))
   have ho1:=qao (es':=es1) (t':=t2) ho
   have sb:=Heap.SameBut.update s.heap a (Obj.putSet es1 t2)
   split
   ·have rp:=relayAll_perm t2 es1 (SetTable.grown es1.size)
    have rf:=relayAll_fits t2 es1 (SetTable.grown es1.size)
    have rk:=Vi t2 es1 (SetTable.grown es1.size)
    generalize relayAll t2 es1 (SetTable.grown es1.size)=R at rp rf rk ⊢
    obtain ⟨es2,t3,g2⟩:=R
    dsimp only at rp rf rk ⊢
    have d3:=d.more hx hr (rp.trans hp) rf (rk.1.trans l2) (rk.2 p2)
    refine wpAny_bind ?_
    have go:wpAny (model prog w) A (storeSet a es2 t3 >>= fun _=>pure (some true)) (fun r s'=>∃ h',s'={ s with heap:=h' }/\r=some true/\Heap.SameBut a s.heap h'/\SetS prog w h' a (vE ks x)) E { s with heap:=s.heap.update a (Obj.putSet es1 t2) }:=
     wpAny_bind (wpAny_storeSet_of ho1 rfl (wpAny_pure ⟨_,rfl,rfl,sb.trans (Heap.SameBut.update _ a _),es2,_,t3,qao ho1,d3⟩) (fits_of_scanBound d3.bd))
    cases g2
    ·exact wpAny_pure go
    ·exact wpAny_rule go
   ·exact wpAny_pure ⟨_,rfl,rfl,sb,es1,_,t2,ho1,d2⟩
  have fin:∀ (r:Option Bool) (s':Shared),(∃ h',s'={ s with heap:=h' }/\r=some true/\Heap.SameBut a s.heap h'/\SetS prog w h' a (vE ks x)) ->
    wpAny (model prog w) A (match r with | some added=>pure added | none=>setAddHashedIn a (.str x tk) ((PySem.strKind prog w).hash x) 99999) Q E s':=by
   rintro r s' ⟨h',rfl,rfl,sb,hS⟩
   exact wpAny_pure (h h' true sb hS)
  have gw:∀ (b:Bool) {s₁:Shared} {Q':Unit->Shared->Prop},Q' () s₁->wpAny (model prog w) A (match b with | true=>rule "set.scan.the-table-gave-way" | false=>pure ()) Q' E s₁:=fun b s₁ Q' q=>by
   cases b
   ·exact wpAny_pure q
   ·exact wpAny_rule q
  refine wpAny_bind (gw _ ?_)
  cases e1:t1.plain with
  | true=>
   rw [if_pos rfl,hashByValue_scannable 8 (x:=.str x tk) rfl]
   refine wpAny_bind (wpAny_pure ?_)
   show wpAny _ _ (storeSet a es1 { t1 with plain:=false } >>= _) _ _ _
   exact wpAny_mono (tail { t1 with plain:=false } (SetTable.fits_plain_off hf) hl rfl) fin fun _ _ z=>z
  | false=>
   rw [if_neg (by simp)]
   refine wpAny_bind (wpAny_pure ?_)
   show wpAny _ _ (storeSet a es1 t1 >>= _) _ _ _
   exact wpAny_mono (tail t1 hf hl e1) fin fun _ _ z=>z
end
theorem Ge (ks:List Str) (x:Str):(vE ks x).length<=ks.length+1:=by
 unfold vE
 split
 ·omega
 ·rw [List.length_append]
  exact Nat.le_refl _
theorem wL:∀ (l ks:List Str),(l.foldl vE ks).length<=ks.length+l.length
 | [],ks=>Nat.le_refl _
 | x::l,ks=>by
  have h1:=wL l (vE ks x)
  have h2:=Ge ks x
  rw [List.foldl_cons,List.length_cons]
  omega
theorem SetS.at {prog:Program} {w:World} {h h':Heap} {a:Addr} {ks:List Str} (hS:SetS prog w h a ks) (k:∀ o,h.get? a=some o->h'.get? a=some o):SetS prog w h' a ks:=
 let ⟨es,ep,t,ho,d⟩:=hS; ⟨es,ep,t,k _ ho,d⟩
section
variable {prog:Program} {w:World} {A:Around} {R:Result->Shared->Prop} {I:Addr} {fp wr:List Addr} {n:Nat} {P:Nat->Value->Prop} {St:Nat->Shared->Prop}
theorem Wx {G:Array GenState->Array GenState->Prop} (W:WalksS prog w A.in1 I fp wr G n P St) (S:Addr) (hSf:S∉fp) (ss:List Str) (hn:ss.length=n) (hv:∀ i v,P i v->∃ x t,ss[i]?=some x/\v=.str x t) (hb:n+1 < scanBound) :
  ∀ (k i:Nat) (s:Shared),n - i=k->i<=n->St i s->SetS prog w s.heap S ((ss.take i).foldl vE []) ->
   (∀ s',Moved (S::wr) G s s'->SetS prog w s'.heap S (ss.foldl vE [])->R (.ok (.ret .none)) s')->codeAny (model prog w) A (.builtin "set.update.loop" ⟨[.ref S,.ref I],[]⟩) R s:=by
 have nw:S∉wr:=fun h=>hSf (W.sub _ h)
 have up:∀ b∈wr,b∈S::wr:=fun b hb=>List.mem_cons_of_mem _ hb
 intro k
 induction k with
 | zero=>
  intro i s hk hi hst hS hR
  have hin:i=n:=by omega
  subst hin
  refine codeAny_builtin F.entry_set_update_loop ?_
  rw [Around.under_plainId F.plain_set_update_loop _]; show wpAny _ A.in1 (pyNext (.ref I) >>= _) _ _ s
  refine wpAny_bind (W.done s _ _ hst fun s' hm=>wpAny_pure (hR s' (hm.mono up) ?_))
  rw [List.take_of_length_le (Nat.le_of_eq hn)] at hS
  exact hS.at fun o e=>hm.heap S o nw e
 | succ k ih=>
  intro i s hk hi hst hS hR
  have hlt:i < n:=by omega
  refine codeAny_builtin F.entry_set_update_loop ?_
  rw [Around.under_plainId F.plain_set_update_loop _]; show wpAny _ A.in1 (pyNext (.ref I) >>= _) _ _ s
  refine wpAny_bind (W.item i s _ _ hlt hst fun v s' hP hst' hm=>?_)
  obtain ⟨x,t,hx,rfl⟩:=hv i v hP
  have hS':SetS prog w s'.heap S ((ss.take i).foldl vE []):=hS.at fun o e=>hm.heap S o nw e
  show wpAny _ A.in1 (holding [Value.str x t] (setAdd S (.str x t)) >>= _) _ _ s'
  refine wpAny_bind (wpAny_holding ?_)
  unfold setAdd
  refine wpAny_holding (wpAny_bind ((PySem.strKind prog w).pyHash (k:=x) (by rw [isS]; exact decide_eq_true rfl) ?_))
  have hroom:((ss.take i).foldl vE []).length+1 < scanBound:=by
   have h1:=wL (ss.take i) []
   rw [List.length_take,List.length_nil] at h1
   omega
  refine qbL (s:={ s' with toks:=s'.toks+1 }) hS' hroom fun h' b sb hS2=>?_
  have e2:vE ((ss.take i).foldl vE []) x=(ss.take (i+1)).foldl vE []:=by
   rw [List.take_add_one,hx,List.foldl_append]
   rfl
  rw [e2] at hS2
  refine wpAny_pure ⟨plainId_quiet F.plain_set_update_loop _,ih (i+1) _ (by omega) hlt (W.frame _ s' _ _ hst' (Nat.le_succ _) fun b hb o e=>?_) hS2 fun s'' hm'' hS''=>?_⟩
  ·rw [sb.2 b fun z:b=S=>hSf (z ▸ hb)]
   exact e
  ·refine hR s'' (Moved.trans W.gtrans ((hm.mono up).then_heap (Nat.le_succ _) fun b o hb e=>?_) hm'') hS''
   rw [sb.2 b fun z:b=S=>hb (z ▸ List.mem_cons_self)]
   exact e
end
section
variable {prog:Program} {w:World} {A:Around} {E:Value->Shared->Prop} {s:Shared}
abbrev qdK (w:World):Obj:=ke #[] 0 (.fresh 0 0 (!(w.params.followText "set-order")))
theorem Ke {h:Heap} {a:Addr} (e:h.get? a=some (qdK w)):SetS prog w h a []:=
 ⟨_,_,_,e,⟨fun e he=>by simp at he,by simp,List.nodup_nil,by decide,by rfl,rfl,fun z=>absurd rfl z⟩⟩
theorem qbM (a:Value) {Q₁:Value->Shared->Prop} (h:Q₁ (.ref s.heap.objs.size) { s with heap:=s.heap.push (qdK w) }) :
  codeAny (model prog w) A (.call (.builtin "set.__new__") ⟨[.type "set",a],[]⟩) (wants Q₁ E) s:=by
 refine codeAny_of_tree ?_; show wpAny _ A.in1 (do checkBuiltinCall "set.__new__" ⟨[.type "set",a],[]⟩; again (.builtin "set.__new__" ⟨[.type "set",a],[]⟩)) _ _ s
 refine wpAny_bind (wpAny_of_eq (PySem.F.newCall_set_1 a) (wpAny_pure ⟨plainId_quiet PySem.F.plain_set_new _,codeAny_builtin PySem.F.entry_set_new ?_⟩)); rw [Around.under_plainId PySem.F.plain_set_new _]
 unfold Builtin.«set.__new__» Builtin.Frozenset.newClass; have hsub:=sub_set_self; obtain ⟨hp,g,d,tk,os⟩:=s; dsimp only; wp_walk
 refine wpAny_askSetting (wpAny_pure ?_); dsimp only; simp only [newObj]
 exact wpAny_bind (wpAny_alloc (wpAny_pure (wpAny_pure h)))
theorem Vj:isSubtype (.type "tuple") (.type "set")=pure false:=by rw [isSubtype_type]; kernel_rfl
theorem gF:isSubtype (.type "tuple") (.type "frozenset")=pure false:=by rw [isSubtype_type]; kernel_rfl
theorem YL {vs:List Value} {ss:List Str} (h:StrsAre vs ss) {i:Nat} {v:Value} (e:vs[i]?=some v):∃ x t,ss[i]?=some x/\v=.str x t:=by
 obtain ⟨y,t,e1,e2⟩:=h.item i v e
 exact ⟨y,t,e2,e1⟩
theorem Gf {S l:Addr} {items:Array Value} {ss:List Str} {Q:Unit->Shared->Prop} (hh:A.handled=none) (hS:SetS prog w s.heap S []) (hl:s.heap.IsList l items) (hi:StrsAre items.toList ss) (hb:items.size+1 < scanBound) (hne:l≠S)
  (h:∀ h' tk,SetS prog w h' S (ss.foldl vE [])->(∀ b o,b≠S->s.heap.get? b=some o->h'.get? b=some o)->Q () { s with heap:=h',toks:=tk }) :
  wpAny (model prog w) A (Builtin.Frozenset.updateFrom "set.__init__" S (.ref l)) Q E s:=by
 have hT:s.TypeIs (.ref l) "list":=let ⟨o,e,c,_⟩:=hl; ⟨o,e,c⟩
 unfold Builtin.Frozenset.updateFrom
 refine wpAny_bind (m:=Builtin.Frozenset.isAnySet _) ?_
 unfold Builtin.Frozenset.isAnySet
 refine wpAny_bind (wpAny_isInstance hT PySem.F.sub_list_set ?_)
 refine wpAny_isInstance hT PySem.F.sub_list_frozenset ?_
 rw [if_neg (by decide)]
 refine wpAny_bind (wpAny_typeOf hT ?_)
 rw [if_neg (by decide)]
 refine wpAny_bind (wpAny_pyIter_list hl ?_)
 have hz:s.heap.objs.size≠S:=fun z=>by
  obtain ⟨es,ep,t,ho,_⟩:=hS
  exact Nat.lt_irrefl _ (z ▸ Heap.lt_size ho)
 have hzl:l≠s.heap.objs.size:=by
  obtain ⟨o,e,_⟩:=hl
  exact Nat.ne_of_lt (Heap.lt_size e)
 refine wpAny_bind (wpAny_runValue (Wx ((Walks.list (A:=A.in1) hh _ l hzl items).toS) S ?_ ss (by rw [<-hi.length]; simp) (fun i v e=>YL hi (by rw [Array.getElem?_toList]; exact e)) hb items.size 0 _ (by omega) (Nat.zero_le _) ⟨⟨_,Heap.get?_push_size _ rfl,rfl,rfl⟩,hl.push _⟩ ?_ ?_))
 ·intro z
  rcases List.mem_cons.mp z with z | z
  ·exact hz z.symm
  ·exact hne (List.mem_singleton.mp z).symm
 ·exact hS.at fun o e=>Heap.get?_push_of_some _ e
 ·intro s' hm hS'
  obtain ⟨h',g',d',tk',os'⟩:=s'
  have eg:g'=s.gens:=hm.gens
  have ed:d'=s.drawn:=hm.drawn
  have eo:os'=s.os:=hm.os
  subst eg ed eo
  refine wpAny_pure (h h' tk' hS' fun b o hb e=>hm.heap b o ?_ (Heap.get?_push_of_some _ e))
  intro z
  rcases List.mem_cons.mp z with z | z
  ·exact hb z
  ·rw [List.mem_singleton.mp z] at e
   exact Nat.lt_irrefl _ (Heap.lt_size e)
theorem YM {S l:Addr} {items:Array Value} {ss:List Str} {Q:Unit->Shared->Prop} (hh:A.handled=none) (hS:SetS prog w s.heap S []) (hl:s.heap.IsTuple l items) (hi:StrsAre items.toList ss) (hb:items.size+1 < scanBound) (hne:l≠S)
  (h:∀ h' tk,SetS prog w h' S (ss.foldl vE [])->(∀ b o,b≠S->s.heap.get? b=some o->h'.get? b=some o)->Q () { s with heap:=h',toks:=tk }) :
  wpAny (model prog w) A (Builtin.Frozenset.updateFrom "set.__init__" S (.ref l)) Q E s:=by
 have hT:s.TypeIs (.ref l) "tuple":=let ⟨o,e,c,_⟩:=hl; ⟨o,e,c⟩
 unfold Builtin.Frozenset.updateFrom
 refine wpAny_bind (m:=Builtin.Frozenset.isAnySet _) ?_
 unfold Builtin.Frozenset.isAnySet
 refine wpAny_bind (wpAny_isInstance hT Vj ?_)
 refine wpAny_isInstance hT gF ?_
 rw [if_neg (by decide)]
 refine wpAny_bind (wpAny_typeOf hT ?_)
 rw [if_neg (by decide)]
 refine wpAny_bind (wpAny_pyIter_tuple hl ?_)
 have hz:s.heap.objs.size≠S:=fun z=>by
  obtain ⟨es,ep,t,ho,_⟩:=hS
  exact Nat.lt_irrefl _ (z ▸ Heap.lt_size ho)
 have hzl:l≠s.heap.objs.size:=by
  obtain ⟨o,e,_⟩:=hl
  exact Nat.ne_of_lt (Heap.lt_size e)
 refine wpAny_bind (wpAny_runValue (Wx ((Walks.tuple (A:=A.in1) hh _ l hzl items).toS) S ?_ ss (by rw [<-hi.length]; simp) (fun i v e=>YL hi (by rw [Array.getElem?_toList]; exact e)) hb items.size 0 _ (by omega) (Nat.zero_le _) ⟨⟨_,Heap.get?_push_size _ rfl,rfl,rfl⟩,?_⟩ ?_ ?_))
 ·intro z
  rcases List.mem_cons.mp z with z | z
  ·exact hz z.symm
  ·exact hne (List.mem_singleton.mp z).symm
 ·obtain ⟨o,e,c⟩:=hl
  exact ⟨o,Heap.get?_push_of_some _ e,c⟩
 ·exact hS.at fun o e=>Heap.get?_push_of_some _ e
 ·intro s' hm hS'
  obtain ⟨h',g',d',tk',os'⟩:=s'
  have eg:g'=s.gens:=hm.gens
  have ed:d'=s.drawn:=hm.drawn
  have eo:os'=s.os:=hm.os
  subst eg ed eo
  refine wpAny_pure (h h' tk' hS' fun b o hb e=>hm.heap b o ?_ (Heap.get?_push_of_some _ e))
  intro z
  rcases List.mem_cons.mp z with z | z
  ·exact hb z
  ·rw [List.mem_singleton.mp z] at e
   exact Nat.lt_irrefl _ (Heap.lt_size e)
set_option maxHeartbeats 3200000 in
theorem Kf {l:Addr} {ks:List Str} {Q:Value->Shared->Prop}
  (hup:∀ (A1:Around) (Q1:Unit->Shared->Prop) (E1:Value->Shared->Prop),A1.handled=A.handled->(∀ h' tk,SetS prog w h' s.heap.objs.size ks->(∀ b o,s.heap.get? b=some o->h'.get? b=some o)->Q1 () { s with heap:=h',toks:=tk }) ->
   wpAny (model prog w) A1 (Builtin.Frozenset.updateFrom "set.__init__" s.heap.objs.size (.ref l)) Q1 E1 { s with heap:=s.heap.push (qdK w) })
  (h:∀ h' tk,SetS prog w h' s.heap.objs.size ks->(∀ b o,s.heap.get? b=some o->h'.get? b=some o)->Q (.ref s.heap.objs.size) { s with heap:=h',toks:=tk }) :
  wpAny (model prog w) A (call (.type "set") [.ref l]) Q E s:=by
 have hnew:∀ {Q₁:Value->Shared->Prop},Q₁ (.ref s.heap.objs.size) { s with heap:=s.heap.push (qdK w) }->codeAny (model prog w) A.in1 (.call (.builtin "set.__new__") ⟨[.type "set",.ref l],[]⟩) (wants Q₁ E) s:=fun h=>qbM (.ref l) h
 unfold qdK ke at hnew hup
 generalize (!(w.params.followText "set-order"))=led at hnew hup
 obtain ⟨c,tl,hmro⟩:=PySem.F.called_set.mro
 have hmade:=PySem.F.called_set.made
 have hsub:=PySem.F.called_set.sub
 refine wpAny_call (codeAny_of_tree ?_); show wpAny _ _ (callAny (.type "set") _) _ _ _
 refine wpAny_pure ⟨Code.quiet_builtin _ (by decide +kernel),codeAny_builtin PySem.F.entry_type_call ?_⟩; rw [Around.under_plain (weight_type_call_type "set" [.ref l] []) rfl]
 have h1:=PySem.F.called_set.notType
 have h2:=PySem.F.called_set.canCreate
 have hct:=PySem.F.typeCall_set_1 (.ref l)
 repeat (any_goals (first | assumption | wp_step))
 refine codeAny_mono (hnew (Q₁:=fun obj s₁=>obj=.ref s.heap.objs.size/\s₁={ s with heap:=s.heap.push { cls:=.type "set",dict:=none,data:=.set #[] 0 (.fresh 0 0 led) } }) ⟨rfl,rfl⟩) fun r s₁ hr=>?_
 cases r with
 | error e=>exact hr
 | ok fl=>
  cases fl with
  | ret obj=>
   obtain ⟨rfl,rfl⟩:=hr
   have hS:(s.heap.push { cls:=.type "set",dict:=none,data:=.set #[] 0 (.fresh 0 0 led) }).get? s.heap.objs.size=some { cls:=.type "set",dict:=none,data:=.set #[] 0 (.fresh 0 0 led) }:=Heap.get?_push_size _ rfl
   have hT:Shared.TypeIs { s with heap:=s.heap.push { cls:=.type "set",dict:=none,data:=.set #[] 0 (.fresh 0 0 led) } } (.ref s.heap.objs.size) "set":=⟨_,hS,rfl⟩
   have hli:=PySem.F.called_set.init.lookup
   have hbi:=PySem.F.called_set.init.bind (.ref s.heap.objs.size)
   repeat (any_goals (first | assumption | wp_step))
   refine codeAny_mono (codeAny_call_builtin (R:=wants (fun r s₂=>r=.none/\∃ h' tk,s₂={ s with heap:=h',toks:=tk }/\SetS prog w h' s.heap.objs.size ks/\(∀ b o,s.heap.get? b=some o->h'.get? b=some o)) E) PySem.F.called_set.init.plain PySem.F.entry_set_init (check_set_init_1 hT ?_)) fun r₂ s₂ hr₂=>?_
   ·unfold Builtin.«set.__init__» noKeywords
    generalize hU:Builtin.Frozenset.updateFrom=U
    wp_walk
    subst hU
    refine hup _ _ _ rfl fun h' tk hS' hk=>?_
    exact wpAny_pure ⟨rfl,h',tk,rfl,hS',hk⟩
   ·cases r₂ with
    | error e=>exact hr₂
    | ok fl₂=>
     cases fl₂ with
     | ret r=>
      obtain ⟨rfl,h',tk,rfl,hS',hk'⟩:=hr₂
      repeat (any_goals (first | assumption | wp_step))
      exact h _ _ hS' hk'
     | _=>exact hr₂.elim
  | _=>exact hr.elim
end
theorem yR {α:Type}:∀ {xs:List α} {i:Nat} (h:i < xs.length),(xs[i]::xs.eraseIdx i).Perm xs
 | [],_,h=>absurd h (Nat.not_lt_zero _)
 | x::xs,0,h=>List.Perm.refl _
 | x::xs,i+1,h=>(List.Perm.swap _ _ _).trans ((yR (xs:=xs) (i:=i) (Nat.lt_of_succ_lt_succ h)).cons x)
theorem Um {M:Model} {A:Around} {E:Value->Shared->Prop} {s:Shared} {src:Source} {n:Nat} {Q:Nat->Shared->Prop} (hn:n≠0) (h:∀ i d',i < n->Q i { s with drawn:=d' }):wpAny M A (choose src n) Q E s:=
 fun _ _ _=>⟨hn,h _ _ (Nat.mod_lt _ (Nat.pos_of_ne_zero hn))⟩
theorem YN {M:Model} {A:Around} {E:Value->Shared->Prop} {α:Type}:∀ (n:Nat) (xs:List α) (s:Shared) {Q:List α->Shared->Prop},n=xs.length->(∀ ys d',ys.Perm xs->Q ys { s with drawn:=d' })->wpAny M A (drawOrder n xs) Q E s
 | 0,xs,s,Q,hn,h=>by
  cases xs with
  | nil=>exact wpAny_pure (h [] s.drawn (List.Perm.refl _))
  | cons x l=>cases hn
 | n+1,[],s,Q,hn,h=>by cases hn
 | n+1,x::l,s,Q,hn,h=>by
  show wpAny M A (choose .order (x::l).length >>= _) Q E s
  refine wpAny_bind (Um (by simp) fun i d' hi=>?_)
  have e:(x::l)[i]?=some (x::l)[i]:=List.getElem?_eq_getElem hi
  rw [e]
  refine wpAny_bind (YN n _ _ (by rw [List.length_eraseIdx_of_lt hi]; simp only [List.length_cons] at hn ⊢; omega) fun ys d2 hp=>wpAny_pure (h _ d2 ?_))
  exact (hp.cons _).trans (yR hi)
theorem YO {α:Type} (next:Nat->Nat):∀ (f k:Nat) (left:List α) (out:Array α),f=left.length->(pickOrder.go next f k left out).toList.Perm (out.toList++left)
 | 0,k,left,out,hf=>by
  cases left with
  | nil=>
   rw [List.append_nil]
   exact List.Perm.refl _
  | cons x l=>cases hf
 | f+1,k,left,out,hf=>by
  have hlt:next k % left.length < left.length:=Nat.mod_lt _ (by omega)
  have e:left[next k % left.length]?=some left[next k % left.length]:=List.getElem?_eq_getElem hlt
  unfold pickOrder.go
  rw [e]
  refine (YO next f (k+1) _ _ (by rw [List.length_eraseIdx_of_lt hlt]; omega)).trans ?_
  rw [Array.toList_push,List.append_assoc]
  exact List.Perm.append_left _ (yR hlt)
theorem zD {α:Type} (next:Nat->Nat) (xs:Array α):(pickOrder next xs).toList.Perm xs.toList:=by
 unfold pickOrder
 exact YO next _ _ _ _ (by simp)
noncomputable def wM (first:Value) (i:Nat) (a:Addr) (n ep:Nat):Obj:={ cls:=.type "set_iterator",data:=.fields #[first,rawInt i,.ref a,rawInt n,rawInt ep] }
theorem slot_si_next:Slot "set_iterator" "__next__" "set_iterator.__next__":=
 .of (owner := "set_iterator") (n := "__next__") (by rw [typeLookup_type,builtinLookup_eq_fast]; kernel_rfl) (by decide +kernel) (by decide +kernel) (by decide +kernel) (by first | exact .inl (by decide +kernel) | exact .inr (by decide +kernel)) (by rw [isSubtype_type]; kernel_rfl)
theorem xw:Slot "set_iterator" "__iter__" "set_iterator.__iter__":=
 .of (owner := "set_iterator") (n := "__iter__") (by rw [typeLookup_type,builtinLookup_eq_fast]; kernel_rfl) (by decide +kernel) (by decide +kernel) (by decide +kernel) (by first | exact .inl (by decide +kernel) | exact .inr (by decide +kernel)) (by rw [isSubtype_type]; kernel_rfl)
theorem vg (a:Value):argsOk "set_iterator.__next__" ⟨[a],[]⟩:=by unfold argsOk; kernel_rfl
theorem Kg (a:Value):argsOk "set_iterator.__iter__" ⟨[a],[]⟩:=by unfold argsOk; kernel_rfl
theorem kG:entryFor table "set_iterator.__next__"=some Builtin.«set_iterator.__next__»:=entryFor_of_tree (by kernel_rfl)
theorem Qu:entryFor table "set_iterator.__iter__"=some Builtin.«dict_keyiterator.__iter__»:=entryFor_alias (id' := "dict_keyiterator.__iter__") (by kernel_rfl) rfl (by decide +kernel) (by kernel_rfl)
theorem Kh:entryFor table "set.__iter__"=some Builtin.«frozenset.__iter__»:=entryFor_alias (id' := "frozenset.__iter__") (by kernel_rfl) rfl (by decide +kernel) (by kernel_rfl)
section
variable {prog:Program} {w:World} {A:Around} {E:Value->Shared->Prop} {s:Shared}
theorem kU {b:Bool} (hb:w.params.followText "set-order"=b):({ program:=(model prog w).prog,params:=(model prog w).w.params }:Setting).params.followText "set-order"=b:=hb
theorem Ki {it a:Addr} {sl i n ep nx:Nat} {es:Array (Int×Value)} {t:SetTable} {x:Value} {Q:Option Value->Shared->Prop} (hi:s.heap.get? it=some (wM (rawInt sl) i a n ep)) (ha:s.heap.get? a=some (ke es ep t)) (hf:t.fits es.size=true) (hz:es.size=n)
  (hn:∀ (A1:Around) (Q1:Option (Value×Nat)->Shared->Prop) (E1:Value->Shared->Prop),Q1 (some (x,nx)) s->wpAny (model prog w) A1 (setNext a sl i ep) Q1 E1 s)
  (hQ:∀ h',h'.get? it=some (wM (rawInt nx) (i+1) a n ep)->Heap.SameBut it s.heap h'->Q (some x) { s with heap:=h' }):wpAny (model prog w) A (pyNext (.ref it)) Q E s:=by
 have hT:s.TypeIs (.ref it) "set_iterator":=⟨_,hi,rfl⟩
 unfold pyNext
 refine wpAny_bind (wpAny_attempt (wpAny_callSpecial?_slot (name:=Str.ofString "__next__") hT slot_si_next (wpAny_call_entry slot_si_next hT kG ?_ (vg _))))
 show wpAny _ _ (fieldsOf (.ref it) >>= _) _ _ s
 refine wpAny_bind (wpAny_fieldsOf hi rfl ?_)
 show wpAny _ _ (setEntries a >>= _) _ _ s
 refine wpAny_bind (wpAny_setEntries_of ha rfl hf ?_)
 rw [if_neg (by rw [hz]; simp)]
 show wpAny _ _ (setNext a sl i ep >>= _) _ _ s
 refine wpAny_bind (hn _ _ _ ?_)
 show wpAny _ _ (setField (.ref it) 0 (rawInt nx) >>= _) _ _ s
 refine wpAny_bind (wpAny_setField hi rfl (by simp) ?_)
 have h1:(s.heap.update it (Obj.mapFields (·.setIfInBounds 0 (rawInt nx)))).get? it=some (wM (rawInt nx) i a n ep):=Heap.get?_update_self _ hi rfl
 refine wpAny_bind (wpAny_setField h1 rfl (by simp) (wpAny_pure ⟨x,rfl,wpAny_pure (hQ _ ?_ ((Heap.SameBut.update ..).trans (Heap.SameBut.update ..)))⟩))
 exact Heap.get?_update_self _ h1 rfl
theorem Kj {it a:Addr} {sl i n ep:Nat} {es:Array (Int×Value)} {t:SetTable} {Q:Option Value->Shared->Prop} (hh:A.handled=none) (hi:s.heap.get? it=some (wM (rawInt sl) i a n ep)) (ha:s.heap.get? a=some (ke es ep t)) (hf:t.fits es.size=true) (hz:es.size=n)
  (hn:∀ (A1:Around) (Q1:Option (Value×Nat)->Shared->Prop) (E1:Value->Shared->Prop),Q1 none s->wpAny (model prog w) A1 (setNext a sl i ep) Q1 E1 s)
  (hQ:∀ h',Heap.ExtBut it s.heap h'->Q none { s with heap:=h' }):wpAny (model prog w) A (pyNext (.ref it)) Q E s:=by
 have hT:s.TypeIs (.ref it) "set_iterator":=⟨_,hi,rfl⟩
 unfold pyNext
 refine wpAny_bind (wpAny_attempt (wpAny_callSpecial?_slot (name:=Str.ofString "__next__") hT slot_si_next (wpAny_call_entry slot_si_next hT kG ?_ (vg _))))
 show wpAny _ _ (fieldsOf (.ref it) >>= _) _ _ s
 refine wpAny_bind (wpAny_fieldsOf hi rfl ?_)
 show wpAny _ _ (setEntries a >>= _) _ _ s
 refine wpAny_bind (wpAny_setEntries_of ha rfl hf ?_)
 rw [if_neg (by rw [hz]; simp)]
 show wpAny _ _ (setNext a sl i ep >>= _) _ _ s
 refine wpAny_bind (hn _ _ _ ?_)
 show wpAny _ _ (setField (.ref it) 2 Value.none >>= _) _ _ s
 refine wpAny_bind (wpAny_setField hi rfl (by simp) ?_); show wpAny _ _ (newExc (.type "StopIteration") [] >>= _) _ _ _
 refine wpAny_bind ?_; simp only [newExc,newTuple]; refine wpAny_bind (wpAny_newObj_type ?_ (by size_fits))
 refine wpAny_bind (m:=firstArgMember _ _) (wpAny_of_eq (a:=Value.none) (by first | rfl | (simp only [firstArgMember]; rfl)) ?_); refine wpAny_newObj_type ?_ (by size_fits); simp only [raiseNew]
 refine wpAny_bind (wpAny_handled ?_); first | rw [show A.in1.handled=none from hh] | rw [hh]
 refine wpAny_bind (wpAny_pure (wpAny_throw ?_)); refine wpAny_bind (wpAny_isInstance (T := "StopIteration") (b:=true) ⟨_,Heap.get?_push_size _ rfl,rfl⟩ isSubtype_stop ?_)
 exact wpAny_pure (hQ _ (((Heap.SameBut.update ..).extBut.push _).push _))
theorem Uo {it a p:Addr} {i n ep pl m:Nat} {es:Array (Int×Value)} {t:SetTable} {hx:Int} {x:Value} {ps:Array Value} {Q:Option Value->Shared->Prop} (hi:s.heap.get? it=some (wM (.ref p) i a n ep)) (ha:s.heap.get? a=some (ke es ep t)) (hf:t.fits es.size=true) (hz:es.size=n)
  (hp:s.heap.get? p=some { cls:=.type "tuple",data:=.seq ps m }) (hpl:ps[i]?=some (rawInt pl)) (hx:es[pl]?=some (hx,x))
  (hQ:∀ h',h'.get? it=some (wM (.ref p) (i+1) a n ep)->Heap.SameBut it s.heap h'->Q (some x) { s with heap:=h' }):wpAny (model prog w) A (pyNext (.ref it)) Q E s:=by
 have hT:s.TypeIs (.ref it) "set_iterator":=⟨_,hi,rfl⟩
 unfold pyNext
 refine wpAny_bind (wpAny_attempt (wpAny_callSpecial?_slot (name:=Str.ofString "__next__") hT slot_si_next (wpAny_call_entry slot_si_next hT kG ?_ (vg _))))
 show wpAny _ _ (fieldsOf (.ref it) >>= _) _ _ s
 refine wpAny_bind (wpAny_fieldsOf hi rfl ?_)
 show wpAny _ _ (setEntries a >>= _) _ _ s
 refine wpAny_bind (wpAny_setEntries_of ha rfl hf ?_)
 rw [if_neg (by rw [hz]; simp)]
 show wpAny _ _ (seqItems? (.ref p) >>= _) _ _ s
 refine wpAny_bind (wpAny_seqItems hp rfl ?_)
 dsimp only
 rw [show ps[Int.toNat (i:Int)]?=some (rawInt pl) from hpl]
 show wpAny _ _ (setNextDrawn a pl ep >>= _) _ _ s
 refine wpAny_bind ?_
 unfold setNextDrawn
 refine wpAny_bind (wpAny_setState_of ha rfl hf ?_)
 dsimp only
 rw [if_neg (by simp),hx]
 refine wpAny_pure ?_
 show wpAny _ _ (setField (.ref it) 1 (rawInt (i+1)) >>= _) _ _ s
 refine wpAny_bind (wpAny_setField hi rfl (by simp) (wpAny_pure ⟨x,rfl,wpAny_pure (hQ _ ?_ (Heap.SameBut.update ..))⟩))
 exact Heap.get?_update_self _ hi rfl
theorem YQ {it a p:Addr} {i n ep m:Nat} {es:Array (Int×Value)} {t:SetTable} {ps:Array Value} {Q:Option Value->Shared->Prop} (hh:A.handled=none) (hi:s.heap.get? it=some (wM (.ref p) i a n ep)) (ha:s.heap.get? a=some (ke es ep t)) (hf:t.fits es.size=true) (hz:es.size=n)
  (hp:s.heap.get? p=some { cls:=.type "tuple",data:=.seq ps m }) (hpl:ps[i]?=none)
  (hQ:∀ h',Heap.ExtBut it s.heap h'->Q none { s with heap:=h' }):wpAny (model prog w) A (pyNext (.ref it)) Q E s:=by
 have hT:s.TypeIs (.ref it) "set_iterator":=⟨_,hi,rfl⟩
 unfold pyNext
 refine wpAny_bind (wpAny_attempt (wpAny_callSpecial?_slot (name:=Str.ofString "__next__") hT slot_si_next (wpAny_call_entry slot_si_next hT kG ?_ (vg _))))
 show wpAny _ _ (fieldsOf (.ref it) >>= _) _ _ s
 refine wpAny_bind (wpAny_fieldsOf hi rfl ?_)
 show wpAny _ _ (setEntries a >>= _) _ _ s
 refine wpAny_bind (wpAny_setEntries_of ha rfl hf ?_)
 rw [if_neg (by rw [hz]; simp)]
 show wpAny _ _ (seqItems? (.ref p) >>= _) _ _ s
 refine wpAny_bind (wpAny_seqItems hp rfl ?_)
 dsimp only
 rw [show ps[Int.toNat (i:Int)]?=none from hpl]
 show wpAny _ _ (setField (.ref it) 0 (rawInt 0) >>= _) _ _ s
 refine wpAny_bind (wpAny_setField hi rfl (by simp) ?_)
 have h1:(s.heap.update it (Obj.mapFields (·.setIfInBounds 0 (rawInt 0)))).get? it=some (wM (rawInt 0) i a n ep):=Heap.get?_update_self _ hi rfl
 refine wpAny_bind (wpAny_setField h1 rfl (by simp) ?_); show wpAny _ _ (newExc (.type "StopIteration") [] >>= _) _ _ _
 refine wpAny_bind ?_; simp only [newExc,newTuple]; refine wpAny_bind (wpAny_newObj_type ?_ (by size_fits))
 refine wpAny_bind (m:=firstArgMember _ _) (wpAny_of_eq (a:=Value.none) (by first | rfl | (simp only [firstArgMember]; rfl)) ?_); refine wpAny_newObj_type ?_ (by size_fits); simp only [raiseNew]
 refine wpAny_bind (wpAny_handled ?_); first | rw [show A.in1.handled=none from hh] | rw [hh]
 refine wpAny_bind (wpAny_pure (wpAny_throw ?_)); refine wpAny_bind (wpAny_isInstance (T := "StopIteration") (b:=true) ⟨_,Heap.get?_push_size _ rfl,rfl⟩ isSubtype_stop ?_)
 exact wpAny_pure (hQ _ (((((Heap.SameBut.update ..).trans (Heap.SameBut.update ..))).extBut.push _).push _))
theorem zE {it:Addr} {o:Obj} {Q:Value->Shared->Prop} (hi:s.heap.get? it=some o) (hc:o.cls=.type "set_iterator") (h:Q (.ref it) s):wpAny (model prog w) A (pyIter (.ref it)) Q E s:=by
 have hT:s.TypeIs (.ref it) "set_iterator":=⟨_,hi,hc⟩
 refine wpAny_pyIter_slot hT xw (wpAny_call_entry xw hT Qu ?_ (Kg _)); show wpAny _ _ (ret (.ref it)) _ _ s
 exact wpAny_pure ⟨_,rfl, "set_iterator",_,hT,slot_si_next.lookup,h⟩
theorem YR {it a:Addr} {ep:Nat} {es:Array (Int×Value)} {t:SetTable} (hh:A.handled=none) (hb:w.params.followText "set-order"=true) (hf:t.fits es.size=true) (hne:a≠it) :
  Walks prog w A it [it,a] [it] es.size (fun i v=>((pickOrder (w.params.setOrder a ep) es).toList.map (·.2))[i]?=some v) (fun i h=>h.get? it=some (wM (rawInt 0) i a es.size ep)/\h.get? a=some (ke es ep t)) where
 sub:=fun b hb=>by simp at hb; simp [hb]
 frame:=fun _ _ _ st hk=>⟨hk it (by simp) _ st.1,hk a (by simp) _ st.2⟩
 item:=fun i s Q E hi st hQ=>by
  have hlen:(pickOrder (w.params.setOrder a ep) es).size=es.size:=by
   have:=(zD (w.params.setOrder a ep) es).length_eq
   simpa using this
  have hlt:i < (pickOrder (w.params.setOrder a ep) es).size:=by omega
  obtain ⟨e,he⟩:∃ e,(pickOrder (w.params.setOrder a ep) es)[i]?=some e:=⟨_,Array.getElem?_eq_getElem hlt⟩
  refine Ki (x:=e.2) (nx:=0) st.1 st.2 hf rfl (fun A1 Q1 E1 q=>?_) fun h' hi' sb=>hQ e.2 h' s.toks ?_ ⟨hi',?_⟩ fun b o nb eo=>?_
  ·unfold setNext
   refine wpAny_bind (wpAny_setState_of st.2 rfl hf ?_)
   dsimp only
   refine wpAny_bind (m:=setsByText) (wpAny_bind (wpAny_askSetting (wpAny_pure ?_)))
   rw [kU hb,if_pos rfl,if_neg (by simp)]
   refine wpAny_bind ?_
   unfold setWalk
   refine wpAny_bind (wpAny_setState_of st.2 rfl hf ?_)
   dsimp only
   refine wpAny_bind (m:=setsByText) (wpAny_bind (wpAny_askSetting (wpAny_pure ?_)))
   rw [kU hb,if_pos rfl]
   refine wpAny_bind (wpAny_askSetting (wpAny_pure ?_))
   refine wpAny_pure ?_
   rw [show (pickOrder ((⟨(model prog w).prog,(model prog w).w.params⟩:Setting).params.setOrder a ep) es)[i]?=some e from he]
   exact q
  ·rw [List.getElem?_map,Array.getElem?_toList,he]
   rfl
  ·rw [sb.2 a hne]
   exact st.2
  ·rw [sb.2 b (fun z=>nb (by simp [z]))]
   exact eo
 done:=fun s Q E st hQ=>by
  have hlen:(pickOrder (w.params.setOrder a ep) es).size=es.size:=by
   have:=(zD (w.params.setOrder a ep) es).length_eq
   simpa using this
  refine Kj hh st.1 st.2 hf rfl (fun A1 Q1 E1 q=>?_) fun h' eb=>hQ h' s.toks fun b o nb eo=>eb b o (fun z=>nb (by simp [z])) eo
  unfold setNext
  refine wpAny_bind (wpAny_setState_of st.2 rfl hf ?_)
  dsimp only
  refine wpAny_bind (m:=setsByText) (wpAny_bind (wpAny_askSetting (wpAny_pure ?_)))
  rw [kU hb,if_pos rfl,if_neg (by simp)]
  refine wpAny_bind ?_
  unfold setWalk
  refine wpAny_bind (wpAny_setState_of st.2 rfl hf ?_)
  dsimp only
  refine wpAny_bind (m:=setsByText) (wpAny_bind (wpAny_askSetting (wpAny_pure ?_)))
  rw [kU hb,if_pos rfl]
  refine wpAny_bind (wpAny_askSetting (wpAny_pure ?_))
  refine wpAny_pure ?_
  rw [show (pickOrder ((⟨(model prog w).prog,(model prog w).w.params⟩:Setting).params.setOrder a ep) es)[es.size]?=none from Array.getElem?_eq_none (Nat.le_of_eq hlen)]
  exact q
 self:=fun i s Q E st hQ=>zE st.1 rfl hQ
noncomputable def uW (t:SetTable) (i:Nat):Nat:=if i=0 then 0 else t.place.getD 0 0+1
theorem Kk (j k:Nat):SetTable.below #[j] k=if j < k then 1 else 0:=by
 unfold SetTable.below
 show SetTable.below.go #[j] k 1 0 1=_
 unfold SetTable.below.go
 rw [if_pos (by omega)]
 show (if (#[j]:Array Nat).getD 0 k < k then SetTable.below.go #[j] k 0 1 1 else SetTable.below.go #[j] k 0 0 0)=_
 show (if j < k then SetTable.below.go #[j] k 0 1 1 else SetTable.below.go #[j] k 0 0 0)=_
 split <;> rfl
theorem Wz {a:Addr} {ep i:Nat} {es:Array (Int×Value)} {t:SetTable} {Q:Option (Value×Nat)->Shared->Prop} (hb:w.params.followText "set-order"=false) (hf:t.fits es.size=true) (hl:t.led=true) (hz:es.size<=1) (ha:s.heap.get? a=some (ke es ep t)) (hi:i<=es.size)
  (q:Q (match es[i]? with | some e=>some (e.2,uW t (i+1)) | none=>none) s):wpAny (model prog w) A (setNext a (uW t i) i ep) Q E s:=by
 have hps:t.place.size=es.size:=by
  have:=hf
  simp only [SetTable.fits,Bool.and_eq_true,beq_iff_eq] at this
  exact this.1
 unfold setNext
 refine wpAny_bind (wpAny_setState_of ha rfl hf ?_)
 dsimp only
 refine wpAny_bind (m:=setsByText) (wpAny_bind (wpAny_askSetting (wpAny_pure ?_)))
 rw [kU hb,if_neg (by simp)]
 show wpAny _ _ (if (!t.plain&&decide (es.size > 1))=true then _ else _) _ _ _
 rw [if_neg (by simp; intro _; omega)]
 refine wpAny_bind ?_
 show wpAny _ _ (if (!t.led&&!es.isEmpty)=true then _ else _) _ _ _
 rw [hl,if_neg (by simp)]
 refine wpAny_pure (wpAny_pure ?_)
 have e:(match es[SetTable.below t.place (uW t i)]?,t.place[SetTable.below t.place (uW t i)]? with | some (_,x),some j=>some (x,j+1) | _,_=>none)=(match es[i]? with | some e=>some (e.2,uW t (i+1)) | none=>none:Option (Value×Nat)):=by
  obtain ⟨l⟩:=es
  obtain ⟨mask,⟨pl⟩,du,fi,le,mo,pn⟩:=t
  cases l with
  | nil=>simp
  | cons e0 l=>
   cases l with
   | cons _ _=>exact absurd hz (by simp)
   | nil=>
    cases pl with
    | nil=>exact absurd hps (by simp)
    | cons j pl=>
     cases pl with
     | cons _ _=>exact absurd hps (by simp)
     | nil=>
      have hi1:i=0\/i=1:=by simp at hi; omega
      rcases hi1 with rfl | rfl
      ·show (match (#[e0]:Array (Int×Value))[SetTable.below #[j] 0]?,(#[j]:Array Nat)[SetTable.below #[j] 0]? with | some (_,x),some j=>some (x,j+1) | _,_=>none)=some (e0.2,j+1)
       rw [Kk,if_neg (by omega)]
       rfl
      ·show (match (#[e0]:Array (Int×Value))[SetTable.below #[j] (j+1)]?,(#[j]:Array Nat)[SetTable.below #[j] (j+1)]? with | some (_,x),some j=>some (x,j+1) | _,_=>none)=none
       rw [Kk,if_pos (by omega)]
       rfl
 exact Eq.mp (congrArg (fun z=>Q z s) e.symm) q
theorem Gg {it a:Addr} {ep:Nat} {es:Array (Int×Value)} {t:SetTable} (hh:A.handled=none) (hb:w.params.followText "set-order"=false) (hf:t.fits es.size=true) (hl:t.led=true) (hz:es.size<=1) (hne:a≠it) :
  Walks prog w A it [it,a] [it] es.size (fun i v=>(es.toList.map (·.2))[i]?=some v) (fun i h=>h.get? it=some (wM (rawInt (uW t i)) i a es.size ep)/\h.get? a=some (ke es ep t)) where
 sub:=fun b hb=>by simp at hb; simp [hb]
 frame:=fun _ _ _ st hk=>⟨hk it (by simp) _ st.1,hk a (by simp) _ st.2⟩
 item:=fun i s Q E hi st hQ=>by
  have he:es[i]?=some es[i]:=Array.getElem?_eq_getElem hi
  refine Ki (x:=es[i].2) (nx:=uW t (i+1)) st.1 st.2 hf rfl (fun A1 Q1 E1 q=>Wz hb hf hl hz st.2 (Nat.le_of_lt hi) (by rw [he]; exact q)) fun h' hi' sb=>hQ es[i].2 h' s.toks ?_ ⟨hi',?_⟩ fun b o nb eo=>?_
  ·rw [List.getElem?_map,Array.getElem?_toList,he]
   rfl
  ·rw [sb.2 a hne]
   exact st.2
  ·rw [sb.2 b (fun z=>nb (by simp [z]))]
   exact eo
 done:=fun s Q E st hQ=>Kj hh st.1 st.2 hf rfl (fun A1 Q1 E1 q=>Wz hb hf hl hz st.2 (Nat.le_refl _) (by rw [Array.getElem?_eq_none (Nat.le_refl _)]; exact q)) fun h' eb=>hQ h' s.toks fun b o nb eo=>eb b o (fun z=>nb (by simp [z])) eo
 self:=fun i s Q E st hQ=>zE st.1 rfl hQ
noncomputable def qdL (es:Array (Int×Value)) (ps:List Nat):List Value:=ps.map fun k=>(es[k]?.map (·.2)).getD .none
theorem YS {es:Array (Int×Value)} {ps:List Nat} (h:ps.Perm (List.range es.size)):(qdL es ps).Perm (es.toList.map (·.2)):=by
 have e:qdL es (List.range es.size)=es.toList.map (·.2):=by
  apply List.ext_getElem?
  intro i
  unfold qdL
  rw [List.getElem?_map,List.getElem?_map,show es.toList[i]?=es[i]? from Array.getElem?_toList]
  by_cases hi:i < es.size
  ·rw [List.getElem?_range hi,Array.getElem?_eq_getElem hi]
   simp [hi]
  ·rw [List.getElem?_eq_none (by rw [List.length_range]; omega),Array.getElem?_eq_none (by omega)]
   rfl
 rw [<-e]
 exact h.map _
theorem Up {it a p:Addr} {ep m:Nat} {es:Array (Int×Value)} {t:SetTable} {ps:List Nat} (hh:A.handled=none) (hf:t.fits es.size=true) (hp:ps.Perm (List.range es.size)) (hne:a≠it) (hpe:p≠it) :
  Walks prog w A it [it,a,p] [it] es.size (fun i v=>(qdL es ps)[i]?=some v) (fun i h=>h.get? it=some (wM (.ref p) i a es.size ep)/\h.get? a=some (ke es ep t)/\h.get? p=some { cls:=.type "tuple",data:=.seq (ps.map fun (i:Nat)=>rawInt i).toArray m }) where
 sub:=fun b hb=>by simp at hb; simp [hb]
 frame:=fun _ _ _ st hk=>⟨hk it (by simp) _ st.1,hk a (by simp) _ st.2.1,hk p (by simp) _ st.2.2⟩
 item:=fun i s Q E hi st hQ=>by
  have hlen:ps.length=es.size:=by rw [hp.length_eq,List.length_range]
  have hil:i < ps.length:=by omega
  have hk:ps[i] < es.size:=List.mem_range.mp (hp.mem_iff.mp (List.getElem_mem hil))
  have he:es[ps[i]]?=some es[ps[i]]:=Array.getElem?_eq_getElem hk
  refine Uo (x:=es[ps[i]].2) (hx:=es[ps[i]].1) (pl:=ps[i]) st.1 st.2.1 hf rfl st.2.2 ?_ he fun h' hi' sb=>hQ es[ps[i]].2 h' s.toks ?_ ⟨hi',?_,?_⟩ fun b o nb eo=>?_
  ·rw [List.getElem?_toArray,List.getElem?_map,List.getElem?_eq_getElem hil]
   rfl
  ·unfold qdL
   rw [List.getElem?_map,List.getElem?_eq_getElem hil]
   simp [he]
  ·rw [sb.2 a hne]
   exact st.2.1
  ·rw [sb.2 p hpe]
   exact st.2.2
  ·rw [sb.2 b (fun z=>nb (by simp [z]))]
   exact eo
 done:=fun s Q E st hQ=>by
  have hlen:ps.length=es.size:=by rw [hp.length_eq,List.length_range]
  refine YQ hh st.1 st.2.1 hf rfl st.2.2 ?_ fun h' eb=>hQ h' s.toks fun b o nb eo=>eb b o (fun z=>nb (by simp [z])) eo
  rw [List.getElem?_toArray,List.getElem?_eq_none (by simp; omega)]
 self:=fun i s Q E st hQ=>zE st.1 rfl hQ
theorem Gh {a:Addr} {ep:Nat} {es:Array (Int×Value)} {t:SetTable} {ks:List Str} {A1:Around} {Q:Value->Shared->Prop} (hh:A1.handled=none) (ha:s.heap.get? a=some (ke es ep t)) (d:SetD prog w es t ks)
  (hQ:∀ (it:Addr) (h':Heap) (dr:Drawn) (ord:List Value) (fp:List Addr) (St:Nat->Heap->Prop),(∀ b o,s.heap.get? b=some o->h'.get? b=some o)->ord.Perm (es.toList.map (·.2))->Walks prog w A1 it fp [it] es.size (fun i v=>ord[i]?=some v) St->St 0 h' ->
   (∀ b∈fp,b=a\/s.heap.objs.size<=b)->s.heap.objs.size<=it->Q (.ref it) { s with heap:=h',drawn:=dr }):wpAny (model prog w) A (pyIter (.ref a)) Q E s:=by
 have hT:s.TypeIs (.ref a) "set":=⟨_,ha,rfl⟩
 have hlt:a < s.heap.objs.size:=Heap.lt_size ha
 refine wpAny_pyIter_slot hT PySem.F.slot_set_iter (wpAny_call_entry PySem.F.slot_set_iter hT Kh ?_ (PySem.F.args_set_iter_1 _))
 show wpAny _ _ (Builtin.Frozenset.sizeOf a >>= _) _ _ s
 refine wpAny_bind (m:=Builtin.Frozenset.sizeOf a) (wpAny_bind (wpAny_setEntries_of ha rfl d.fits (wpAny_pure ?_)))
 refine wpAny_bind (m:=setDrawn a) ?_
 unfold setDrawn
 refine wpAny_bind (wpAny_setState_of ha rfl d.fits ?_)
 dsimp only
 refine wpAny_bind (m:=setsByText) (wpAny_bind (wpAny_askSetting (wpAny_pure ?_)))
 refine wpAny_pure ?_
 cases hb:w.params.followText "set-order" with
 | true=>
  rw [kU hb,if_neg (by simp)]
  refine wpAny_bind (wpAny_pure ?_)
  refine wpAny_bind (m:=setEpoch a) (wpAny_setEpoch_of ha rfl d.fits ?_)
  refine wpAny_bind (wpAny_newObj_type (wpAny_pure ⟨_,rfl, "set_iterator",_,⟨_,Heap.get?_push_size _ rfl,rfl⟩,slot_si_next.lookup,?_⟩))
  refine hQ _ _ s.drawn _ _ _ (fun b o e=>Heap.get?_push_of_some _ e) ((zD (w.params.setOrder a ep) es).map _) (YR hh hb d.fits (Nat.ne_of_lt hlt)) ⟨Heap.get?_push_size _ rfl,Heap.get?_push_of_some _ ha⟩ ?_ (Nat.le_refl _)
  intro b hb
  rcases List.mem_cons.mp hb with z | z
  ·exact .inr (z ▸ Nat.le_refl _)
  ·exact .inl (List.mem_singleton.mp z)
 | false=>
  have hled:t.led=true:=by rw [d.led,hb]; rfl
  rw [kU hb]
  show wpAny _ _ (if (!false&&(!t.plain&&decide (es.size > 1)))=true then _ else _) _ _ _
  by_cases hn:es.size<=1
  ·rw [if_neg (by simp; intro _; omega)]
   refine wpAny_bind (wpAny_pure ?_)
   refine wpAny_bind (m:=setEpoch a) (wpAny_setEpoch_of ha rfl d.fits ?_)
   refine wpAny_bind (wpAny_newObj_type (wpAny_pure ⟨_,rfl, "set_iterator",_,⟨_,Heap.get?_push_size _ rfl,rfl⟩,slot_si_next.lookup,?_⟩))
   refine hQ _ _ s.drawn _ _ _ (fun b o e=>Heap.get?_push_of_some _ e) (List.Perm.refl _) (Gg hh hb d.fits hled hn (Nat.ne_of_lt hlt)) ⟨Heap.get?_push_size _ rfl,Heap.get?_push_of_some _ ha⟩ ?_ (Nat.le_refl _)
   intro b hb
   rcases List.mem_cons.mp hb with z | z
   ·exact .inr (z ▸ Nat.le_refl _)
   ·exact .inl (List.mem_singleton.mp z)
  ·have hpl:t.plain=false:=d.plain fun z=>by
    have h0:=d.size
    rw [z,List.length_nil] at h0
    omega
   rw [if_pos (by rw [hpl]; simp; omega)]
   refine wpAny_bind (YN es.size (List.range es.size) s (by simp) fun ps dr hp=>?_)
   have hpl2:ps.length=es.size:=by rw [hp.length_eq,List.length_range]
   have hsz:(ps.map fun (i:Nat)=>rawInt i).length<=sizeLine:=by rw [List.length_map,hpl2]; exact fits_of_scanBound d.bd
   refine wpAny_bind (wpAny_newTuple ?_ hsz)
   refine wpAny_bind (m:=setEpoch a) (wpAny_setEpoch_of (Heap.get?_push_of_some _ ha) rfl d.fits ?_)
   refine wpAny_bind (wpAny_newObj_type (wpAny_pure ⟨_,rfl, "set_iterator",_,⟨_,Heap.get?_push_size _ rfl,rfl⟩,slot_si_next.lookup,?_⟩))
   have hp1:s.heap.objs.size < (s.heap.push ({ cls:=.type "tuple",data:=.seq (ps.map fun (i:Nat)=>rawInt i).toArray }:Obj)).objs.size:=by rw [Heap.size_push]; exact Nat.lt_succ_self _
   refine hQ _ _ dr _ _ _ (fun b o e=>Heap.get?_push_of_some _ (Heap.get?_push_of_some _ e)) (YS hp) (Up (p:=s.heap.objs.size) hh d.fits hp (Nat.ne_of_lt (Nat.lt_trans hlt hp1)) (Nat.ne_of_lt hp1)) ⟨Heap.get?_push_size _ rfl,Heap.get?_push_of_some _ (Heap.get?_push_of_some _ ha),Heap.get?_push_of_some _ (Heap.get?_push_size _ rfl)⟩ ?_ (Nat.le_of_lt hp1)
   intro b hb
   rcases List.mem_cons.mp hb with z | z
   ·exact .inr (z ▸ Nat.le_of_lt hp1)
   ·rcases List.mem_cons.mp z with z | z
    ·exact .inl z
    ·exact .inr (Nat.le_of_eq (List.mem_singleton.mp z).symm)
end
section
variable {prog:Program} {w:World} {A:Around} {E:Value->Shared->Prop} {s:Shared}
theorem Gi {ord:List Value} {acc:Array Value} {n:Nat} (hl:ord.length=n) (h:ItemsOf (fun i v=>ord[i]?=some v) acc n):acc.toList=ord:=by
 apply List.ext_getElem?
 intro i
 rw [show acc.toList[i]?=acc[i]? from Array.getElem?_toList]
 by_cases hi:i < acc.size
 ·rw [Array.getElem?_eq_getElem hi]
  exact (h.2 i _ (Array.getElem?_eq_getElem hi)).symm
 ·rw [Array.getElem?_eq_none (by omega),List.getElem?_eq_none (by have:=h.1; omega)]
theorem Vk {a:Addr} {ep:Nat} {es:Array (Int×Value)} {t:SetTable} {ks:List Str} {Q:List Value->Shared->Prop} (hh:A.handled=none) (ha:s.heap.get? a=some (ke es ep t)) (d:SetD prog w es t ks)
  (hQ:∀ h' dr tk ord,(∀ b o,s.heap.get? b=some o->h'.get? b=some o)->ord.Perm (es.toList.map (·.2))->Q ord { s with heap:=h',drawn:=dr,toks:=tk }):wpAny (model prog w) A (collect (.ref a)) Q E s:=by
 have hlt:a < s.heap.objs.size:=Heap.lt_size ha
 unfold collect
 refine wpAny_bind (wpAny_runValue (codeAny_builtin PySem.F.entry_proto_collect ?_)); rw [Around.under_plainId PySem.F.plain_proto_collect _]
 show wpAny _ A.in1 (newList [] >>= fun l=>again (.builtin "list.__iadd__" ⟨[l,.ref a],[]⟩)) _ _ s; refine wpAny_bind (wpAny_newObj_type ?_)
 refine wpAny_pure ⟨plainId_quiet PySem.F.plain_list_iadd _,codeAny_builtin PySem.F.entry_list_iadd ?_⟩; rw [Around.under_plainId PySem.F.plain_list_iadd _]
 have ha1:(s.heap.push { cls:=.type "list",data:=.seq ([]:List Value).toArray }).get? a=some (ke es ep t):=Heap.get?_push_of_some _ ha
 have hT:Shared.TypeIs { s with heap:=s.heap.push { cls:=.type "list",data:=.seq ([]:List Value).toArray } } (.ref a) "set":=⟨_,ha1,rfl⟩
 show wpAny _ A.in1 (Builtin.List.listExtendWith (.ref s.heap.objs.size) (.ref a) (.ref s.heap.objs.size)) _ _ _; unfold Builtin.List.listExtendWith
 refine wpAny_bind (wpAny_typeOf hT ?_)
 have h1:Builtin.List.listSameRef (.ref s.heap.objs.size) (.ref a)=false:=by simp [Builtin.List.listSameRef,Nat.ne_of_gt hlt]
 rw [if_neg (by rw [h1]; decide)]
 refine wpAny_bind (Gh (A1:=A.in1) hh ha1 d fun it h2 dr ord fp St k2 hp W hst hfp hit=>?_)
 have hS1:h2.get? s.heap.objs.size=some { cls:=.type "list",data:=.seq ([]:List Value).toArray }:=k2 _ _ (Heap.get?_push_size _ rfl)
 have ha2:h2.get? a=some (ke es ep t):=k2 _ _ ha1
 refine wpAny_bind (wpAny_holding ?_)
 unfold Builtin.List.listLengthHint
 have hT2:Shared.TypeIs { s with heap:=h2,drawn:=dr } (.ref a) "set":=⟨_,ha2,rfl⟩
 refine wpAny_bind (wpAny_specialOf hT2 PySem.F.slot_set_len.lookup ?_)
 (generalize hid:("set.__len__":String)=id0; (fail_if_success (clear hid id0)); wp_delta; rw [show splitId id0=some ("set", "__len__") from by subst hid; decide +kernel]; subst hid)
 refine wpAny_bind (wpAny_isInstance (b:=true) hT2 (by rw [isSubtype_type]; kernel_rfl) ?_)
 refine wpAny_bind (m:=typeOf (.ref a)) (wpAny_typeOf hT2 ?_)
 refine wpAny_pure ?_
 show wpAny _ A.in1 (rule "list.extend.makes-room" >>= fun _=>Builtin.List.listTouch (.ref s.heap.objs.size) >>= fun _=>again (.builtin "list.extend.loop" ⟨[.ref s.heap.objs.size,.ref it,.ref s.heap.objs.size],[]⟩)) _ _ _
 refine wpAny_bind (wpAny_rule (wpAny_bind ?_)); show wpAny _ A.in1 (updateSeq s.heap.objs.size (·.push .none) >>= fun _=>updateSeq s.heap.objs.size (·.pop)) _ _ _
 refine wpAny_bind (wpAny_updateSeq hS1 rfl ?_); have hS₂:=Heap.get?_update_self (Obj.mapSeq (·.push Value.none)) hS1 rfl
 refine wpAny_updateSeq hS₂ rfl ?_; have hS₃:=Heap.get?_update_self (Obj.mapSeq (·.pop)) hS₂ rfl
 have hzs:(s.heap.push ({ cls:=.type "list",data:=.seq ([]:List Value).toArray }:Obj)).objs.size=s.heap.objs.size+1:=Heap.size_push ..
 have oth:∀ b o,b≠s.heap.objs.size->h2.get? b=some o->((h2.update s.heap.objs.size (Obj.mapSeq (·.push Value.none))).update s.heap.objs.size (Obj.mapSeq (·.pop))).get? b=some o:=fun b o hb e=>(Heap.get?_update_other _ _ (Ne.symm hb)).trans ((Heap.get?_update_other _ _ (Ne.symm hb)).trans e)
 have nf:s.heap.objs.size∉fp:=fun z=>by
  rcases hfp _ z with q | q
  ·exact Nat.ne_of_gt hlt q
  ·exact Nat.not_succ_le_self _ (hzs ▸ q)
 have hlen:ord.length=es.size:=by
  rw [hp.length_eq]
  simp
 refine wpAny_pure ⟨plainId_quiet PySem.F.plain_extend_loop _,codeAny_extend_loopS W.toS (fits_of_scanBound d.bd) _ nf _ es.size 0 _ _ _ rfl (Nat.zero_le _) (W.frame 0 h2 _ hst fun b hb o e=>oth b o (fun z=>nf (z ▸ hb)) e) hS₃ (ItemsOf.nil _) fun s' acc' c' hm hS' hacc=>?_⟩
 show wpAny _ A (load s.heap.objs.size >>= _) _ _ s'
 refine wpAny_bind (wpAny_load hS' (wpAny_pure ?_))
 rw [Gi hlen hacc]
 obtain ⟨h',g',d',tk',os'⟩:=s'
 have eg:g'=s.gens:=hm.gens
 have ed:d'=dr:=hm.drawn
 have eo:os'=s.os:=hm.os
 subst eg ed eo
 refine hQ h' d' tk' ord (fun b o e=>?_) hp
 have hb:=Heap.lt_size e
 refine hm.heap b o (fun z=>?_) (oth b o (Nat.ne_of_lt hb) (k2 b o (Heap.get?_push_of_some _ e)))
 rcases List.mem_cons.mp z with z | z
 ·exact Nat.ne_of_lt hb z
 ·have h3:s.heap.objs.size+1<=it:=hzs ▸ hit
  rw [<-List.mem_singleton.mp z] at h3
  exact Nat.lt_irrefl _ (Nat.lt_trans hb h3)
theorem Uq {a:Addr} {ks:List Str} {Q:Value->Shared->Prop} (hh:A.handled=none) (hS:SetS prog w s.heap a ks) (h64:ks.length < 64)
  (hQ:∀ (h1 h':Heap) dr tk vs e ss,(∀ b o,s.heap.get? b=some o->h1.get? b=some o)->(∀ b o,h1.get? b=some o->h'.get? b=some o)->h'.get? h1.objs.size=some (seqObj "list" vs e)->StrsAre vs.toList ss->ss.Perm ks->sortedS ss=true->Q (.ref h1.objs.size) { s with heap:=h',drawn:=dr,toks:=tk }) :
  wpAny (model prog w) A (call (.builtin "sorted") [.ref a]) Q E s:=by
 obtain ⟨es,ep,t,ha,d⟩:=hS
 refine Calls.call_function_entry kind_sorted plain_sorted entry_sorted (args_sorted1 _) ?_; unfold Builtin.«sorted»
 refine wpAny_bind (m:=checkCount "sorted" 1 1 _) (wpAny_pure ?_)
 refine wpAny_bind (Vk (by exact hh) ha d fun h1 dr tk ord k1 hp=>?_)
 have hst:StrsAre ord (ord.map strOf):=strsAre_map ord fun v hv=>by
  obtain ⟨e,he,rfl⟩:=List.mem_map.mp (hp.mem_iff.mp hv)
  exact YK d.el he
 have hpk:(ord.map strOf).Perm ks:=(hp.map strOf).trans (by rw [List.map_map]; exact d.perm)
 have hlen:ord.length=ks.length:=by
  have:=hpk.length_eq
  rwa [List.length_map] at this
 refine wpAny_bind (wpAny_newList ?_ (by rw [hlen,sizeLine_eq]; omega))
 have hoL:(h1.push (seqObj "list" ord.toArray 0)).get? h1.objs.size=some (seqObj "list" ord.toArray 0):=Heap.get?_push_size _ rfl
 refine wpAny_bind (wpAny_holding (wpAny_call_entry slot_list_sort (s:={ s with heap:=h1.push (seqObj "list" ord.toArray 0),drawn:=dr,toks:=tk }) ⟨_,hoL,rfl⟩ entry_list_sort (list_sort_treeK strKind_oneLt hoL hst.keysOf (fun v₁ v₂ rest e=>keyKind_strs (by rw [<-e]; exact hst)) (by rw [hlen]; exact h64) fun st' a1 a2=>⟨_,rfl,?_⟩) (args_list_sort _)))
 obtain ⟨ss',b1,b2,b3⟩:=sorted_out_str hst a1 a2
 obtain ⟨e,he⟩:=sortedHeap_at (out:=(arrOf st').map (·.2)) hoL
 refine wpAny_pure ⟨_,rfl,hQ h1 _ dr tk _ e ss' k1 (fun b o eb=>?_) he b1 (b2.trans hpk) b3⟩
 have hb:=Heap.lt_size eb
 rw [sortedHeap_old (Nat.ne_of_lt hb) (by rw [Heap.size_push]; exact Nat.lt_succ_of_lt hb)]
 exact Heap.get?_push_of_some _ eb
end
section
variable {prog:Program} {w:World} {A:Around} {E:Value->Shared->Prop} {s:Shared}
variable {z TI TO i1 i2:Addr} {fp1 fp2:List Addr} {n1 n2 i:Nat} {P1 P2:Nat->Value->Prop} {S1 S2:Nat->Heap->Prop} {a b:Value}
end
inductive SK where
 | l | t
noncomputable def SK.itc:SK->String
 | .l => "list_iterator"
 | .t => "tuple_iterator"
def ItK (h:Heap) (it a:Addr):SK->Nat->Prop
 | .l,i=>h.IsListIter it a i
 | .t,i=>h.IsTupleIter it a i
theorem ItK.obj {h:Heap} {it a:Addr} {i:Nat}:∀ {k:SK},ItK h it a k i->∃ o,h.get? it=some o/\o.cls=.type k.itc/\o.data=.fields #[.ref a,.int i 0]
 | .l,⟨o,e,c,d⟩=>⟨o,e,c,d⟩
 | .t,⟨o,e,c,d⟩=>⟨o,e,c,d⟩
section
variable {X:Cx} {pins:List (Addr×Obj)} {σ:St} {H:Hp} {s:Shared} {h':Heap}
theorem YT {t':Nat} {ch:List Addr} (I:Inv X pins σ H s) (k:∀ b o,b∉ch->s.heap.get? b=some o->h'.get? b=some o) (hf:∀ b∈ch,KQ X pins H b):Inv X pins σ H { s with heap:=h',toks:=t' }:=by
 have nit:∀ b u,H b=some u->b∉ch:=fun b u e z=>by
  rw [(hf b z).1] at e
  cases e
 refine I.step (g':=s.gens) (d':=s.drawn) (ch:=ch) (fun b hb=>?_) (fun b o _ _ hc e _=>k b o hc e) (fun b o _ _ hc e _=>⟨o.slots,k b o hc e⟩) (fun _ _ _ _ n=>n) (fun b o hc e=>⟨o,k b o hc e⟩) (fun _ _ e=>e) (fun _ _ _ e=>e) (fun b ps e=>⟨#[],by rw [e]; simp⟩) (fun m hm=>?_) (fun b u e=>?_) I.bare
 ·obtain ⟨f0,f1,f2,f3,f4,f5⟩:=hf b hb
  exact ⟨f3,f1,f4,f5⟩
 ·obtain ⟨o,es,ep,ho,r⟩:=hm
  exact ⟨o,es,ep,k _ o (fun z=>(hf _ z).2.1 rfl) ho,r⟩
 ·refine (I.hok b u e).stay (fun c v hc q=>k c v ?_ q) (fun _ q=>q) fun _ _ q=>q
  rcases hc with z | z
  ·rw [z]
   exact nit b u e
  ·exact nit c _ z
theorem qhx {t':Nat} {d':Drawn} (I:Inv X pins σ H s) (k:∀ b u,s.heap.get? b=some u->h'.get? b=some u):Inv X pins σ H { s with heap:=h',drawn:=d',toks:=t' }:=by
 refine I.step (g':=s.gens) (d':=d') (ch:=[]) (fun _ z=>nomatch z) (fun b o _ _ _ e _=>k b o e) (fun b o _ _ _ e _=>⟨o.slots,k b o e⟩) (fun _ _ _ _ n=>n) (fun b o _ e=>⟨o,k b o e⟩) (fun _ _ e=>e) (fun _ _ _ e=>e) (fun b ps e=>⟨#[],by rw [e]; simp⟩) (fun m hm=>?_) (I.hok.kept k) I.bare
 obtain ⟨o,es,ep,ho,r⟩:=hm
 exact ⟨o,es,ep,k _ o ho,r⟩
end
theorem YU {xs:List V} {us:List Value} (r:Vals xs us) {i:Nat} {u:Value} (h:us[i]?=some u):∃ x,xs[i]?=some x/\RelV x u:=by
 have hi:i < us.length:=(List.getElem?_eq_some_iff.mp h).1
 have hx:i < xs.length:=by rw [r.length]; exact hi
 obtain ⟨u',h1,h2⟩:=r.get (List.getElem?_eq_getElem hx)
 rw [h] at h1
 cases h1
 exact ⟨xs[i],List.getElem?_eq_getElem hx,h2⟩
def leS (x y:Str):Prop:=¬y.cps.toList < x.cps.toList
noncomputable def qcN (x:Str):List Str->List Str
 | []=>[x]
 | y::l=>if uS y x=true then y::qcN x l else x::y::l
noncomputable def xO:List Str->List Str
 | []=>[]
 | x::l=>qcN x (xO l)
theorem Kl {x y z:Str} (a:leS x y) (b:leS y z):leS x z:=List.le_trans (α:=Nat) a b
theorem YV (x y:Str):leS x y\/leS y x:=List.le_total (α:=Nat) x.cps.toList y.cps.toList
theorem Gj {x y:Str} (a:leS x y) (b:leS y x):x=y:=by
 have e:=List.le_antisymm (α:=Nat) (as:=x.cps.toList) (bs:=y.cps.toList) a b
 obtain ⟨⟨l⟩⟩:=x
 obtain ⟨⟨m⟩⟩:=y
 simp at e
 rw [e]
theorem strLt_false {x y:Str}:uS y x=false↔leS x y:=by
 unfold uS leS
 exact decide_eq_false_iff_not
theorem zF (x:Str):∀ l,(qcN x l).Perm (x::l)
 | []=>List.Perm.refl _
 | y::l=>by
  unfold qcN
  split
  ·exact ((zF x l).cons y).trans (List.Perm.swap _ _ _)
  ·exact List.Perm.refl _
theorem jV:∀ l,(xO l).Perm l
 | []=>List.Perm.refl _
 | x::l=>(zF x _).trans ((jV l).cons x)
theorem zG (x:Str):∀ l,l.Pairwise leS->(qcN x l).Pairwise leS
 | [],_=>List.pairwise_singleton _ _
 | y::l,h=>by
  have h0:=List.pairwise_cons.mp h
  unfold qcN
  split
  ·rename_i hlt
   have hyx:leS y x:=by
    rcases YV y x with q | q
    ·exact q
    ·rw [<-strLt_false] at q
     rw [q] at hlt
     cases hlt
   refine List.pairwise_cons.mpr ⟨fun z hz=>?_,zG x l h0.2⟩
   rcases List.mem_cons.mp ((zF x l).mem_iff.mp hz) with rfl | hz
   ·exact hyx
   ·exact h0.1 z hz
  ·rename_i hlt
   have hxy:leS x y:=strLt_false.mp (by cases e:uS y x with | true=>exact absurd e hlt | false=>rfl)
   refine List.pairwise_cons.mpr ⟨fun z hz=>?_,h⟩
   rcases List.mem_cons.mp hz with rfl | hz
   ·exact hxy
   ·exact Kl hxy (h0.1 z hz)
theorem xx:∀ l,(xO l).Pairwise leS
 | []=>List.Pairwise.nil
 | x::l=>zG x _ (xx l)
theorem Km:∀ {l m:List Str},l.Perm m->l.Pairwise leS->m.Pairwise leS->l=m
 | [],m,p,_,_=>p.nil_eq
 | x::l,[],p,_,_=>absurd p.length_eq (by simp)
 | x::l,y::m,p,hl,hm=>by
  have a:=List.pairwise_cons.mp hl
  have b:=List.pairwise_cons.mp hm
  have exy:x=y:=by
   have h1:y∈x::l:=p.mem_iff.mpr (List.mem_cons_self ..)
   have h2:x∈y::m:=p.mem_iff.mp (List.mem_cons_self ..)
   rcases List.mem_cons.mp h1 with e | e
   ·exact e.symm
   ·rcases List.mem_cons.mp h2 with e' | e'
    ·exact e'
    ·exact Gj (a.1 y e) (b.1 x e')
  subst exy
  rw [Km p.cons_inv a.2 b.2]
theorem gT:∀ (x:Str) (l:List Str),risingS x l=true->(x::l).Pairwise leS
 | x,[],_=>List.pairwise_singleton _ _
 | x,y::l,h=>by
  have h:(!ltCps y.cps.toList x.cps.toList&&risingS y l)=true:=h
  rw [Bool.and_eq_true] at h
  have ih:=gT y l h.2
  have hxy:leS x y:=by
   have h1:=h.1
   rw [ltCps_eq] at h1
   unfold leS
   simpa using h1
  refine List.pairwise_cons.mpr ⟨fun z hz=>?_,ih⟩
  rcases List.mem_cons.mp hz with rfl | hz
  ·exact hxy
  ·exact Kl hxy ((List.pairwise_cons.mp ih).1 z hz)
theorem Vl:∀ (l:List Str),sortedS l=true->l.Pairwise leS
 | [],_=>List.Pairwise.nil
 | x::l,h=>gT x l h
theorem YW {ss ks:List Str} (p:ss.Perm ks) (h:sortedS ss=true):ss=xO ks:=Km (p.trans (jV ks).symm) (Vl ss h) (xx ks)
noncomputable def yu:List D->Option (List Str)
 | []=>some []
 | .str x::l=>(yu l).map (x::·)
 | _::_=>none
noncomputable def zH:D->Option (List Str)
 | .lst ds=>yu ds
 | .tup ds=>yu ds
 | _=>none
noncomputable def qcO (P:Program) (w:World) (p:Addr) (ks:List Str):HO:=.ext fun h=>SetS P w h p ks
theorem qbN {P:Program} {w:World} {H:Hp} {h:Heap} {p:Addr} {ks:List Str} (x:SetS P w h p ks):ObjOk P w H h p (qcO P w p ks):=
 ⟨x,let ⟨_,_,_,e,_⟩:=x; ⟨_,e⟩,fun _ _ a k=>a.at k⟩
theorem Qv {K:Frag} {F:Hp}:∀ {vs:List V} {us:List Value} {ds:List D} {ss:List Str},IsL K F vs ds->Vals vs us->yu ds=some ss->StrsAre us ss/\∀ x∈ss,x.length<=sizeLine
 | [],[],[],ss,_,_,e=>by cases e; exact ⟨.nil,fun x h=>by cases h⟩
 | v::vs,u::us,d::ds,ss,.cons i il,.cons r rl,e=>by
  cases d with
  | str x=>
   cases q:yu ds with
   | none=>
    have e:(yu ds).map (x::·)=some ss:=e
    rw [q] at e
    cases e
   | some sl=>
    have e:(yu ds).map (x::·)=some ss:=e
    rw [q] at e
    cases e
    cases i with
    | str hz=>
     obtain ⟨t,rfl⟩:=r
     have ih:=Qv il rl q
     refine ⟨.cons x t ih.1,fun y hy=>?_⟩
     rcases List.mem_cons.mp hy with rfl | hy
     ·exact hz
     ·exact ih.2 y hy
  | _=>cases e
section
variable {X:Cx} {C:Ct} {own:List Nat} {e:Expr} {fa:Sl->Out (D×Sl)} {ma:Mo} {pos:Pos}
theorem Kn:∀ (l ks:List Str) {x:Str},x∈l.foldl vE ks->x∈ks\/x∈l
 | [],ks,x,h=>.inl h
 | y::l,ks,x,h=>by
  rcases Kn l (vE ks y) h with q | q
  ·unfold vE at q
   split at q
   ·exact .inl q
   ·rcases List.mem_append.mp q with q | q
    ·exact .inl q
    ·exact .inr (by rw [List.mem_singleton.mp q]; exact List.mem_cons_self ..)
  ·exact .inr (List.mem_cons_of_mem _ q)
theorem qap (hK:C.K=X.K) (hc:X.calm=true):uG X (.type "set") (fun xs H Q=>∃ x F dx ss,xs=[x]/\Same F H/\TopIs C.K F H x dx/\zH dx=some ss/\ss.length < 4000/\((∀ y∈ss,y.length<=sizeLine)->∀ p,H p=none->Q (.ref p) (upd H p (qcO X.prog X.w p (ss.foldl vE []))))):=by
 intro pins s σ H xs us Q I r h
 obtain ⟨x,F,dx,ss,rfl,sb,tx,es,hl,q⟩:=h
 obtain ⟨u,rfl,ru⟩:=uQ r
 have fin:(∀ y∈ss,y.length<=sizeLine)->∀ h' tk,SetS X.prog X.w h' s.heap.objs.size (ss.foldl vE [])->(∀ b o,s.heap.get? b=some o->h'.get? b=some o)->EP X pins σ Q (.ref s.heap.objs.size) { s with heap:=h',toks:=tk }:=fun hy h' tk hS kp=>
  ⟨.ref s.heap.objs.size,_,I.laid (t':=tk) kp (Nat.le_refl _) (qbN hS),rfl,q hy _ (I.hok.fresh (Nat.le_refl _))⟩
 cases dx with
 | lst ds=>
  obtain ⟨a,vs,rfl,hq,il⟩:=tx.lst sb
  cases ru
  rw [hK] at hq
  obtain ⟨its,rv,pl,hz⟩:=I.list hq
  obtain ⟨st,hy⟩:=Qv il rv es
  have hlt:a < s.heap.objs.size:=let ⟨o,_,e,_⟩:=pl; Heap.lt_size e
  have hn:its.length=ss.length:=st.length
  refine Kf (fun A1 Q1 E1 hA k=>?_) (fin hy)
  refine Gf (items:=its.toArray) (hA.trans (I.ok.hd hc)) (Ke (Heap.get?_push_size _ rfl)) (pl.isList.push _) (by simpa using st) (by rw [List.size_toArray,hn]; unfold scanBound; omega) (Nat.ne_of_lt hlt) fun h' tk hS kp=>k h' tk hS fun b o eb=>kp b o (Nat.ne_of_lt (Heap.lt_size eb)) (Heap.get?_push_of_some _ eb)
 | tup ds=>
  obtain ⟨a,vs,rfl,hq,il⟩:=tx.tup sb
  cases ru
  rw [hK] at hq
  obtain ⟨its,rv,pl,hz⟩:=I.tuple hq
  obtain ⟨st,hy⟩:=Qv il rv es
  have hlt:a < s.heap.objs.size:=pl.lt
  have hn:its.length=ss.length:=st.length
  refine Kf (fun A1 Q1 E1 hA k=>?_) (fin hy)
  refine YM (items:=its.toArray) (hA.trans (I.ok.hd hc)) (Ke (Heap.get?_push_size _ rfl)) (by obtain ⟨o,e,c⟩:=pl; exact ⟨o,Heap.get?_push_of_some _ e,c⟩) (by simpa using st) (by rw [List.size_toArray,hn]; unfold scanBound; omega) (Nat.ne_of_lt hlt) fun h' tk hS kp=>k h' tk hS fun b o eb=>kp b o (Nat.ne_of_lt (Heap.lt_size eb)) (Heap.get?_push_of_some _ eb)
 | _=>cases es
theorem Ko:∀ {us:List Value} {ss:List Str},StrsAre us ss->Vals (ss.map V.str) us
 | _,_,.nil=>.nil
 | _,_,.cons y t h=>.cons ⟨t,rfl⟩ (Ko h)
theorem YX (hc:X.calm=true):uG X (.builtin "sorted") (fun xs H Q=>∃ a ks,xs=[.ref a]/\H a=some (qcO X.prog X.w a ks)/\ks.length < 64/\∀ p,H p=none->Q (.ref p) (upd H p (.lst ((xO ks).map V.str)))):=by
 intro pins s σ H xs us Q I r h
 obtain ⟨a,ks,rfl,ha,h64,q⟩:=h
 obtain ⟨u,rfl,ru⟩:=uQ r
 cases ru
 have hS:SetS X.prog X.w s.heap a ks:=(I.hok a _ ha).1
 refine Uq (I.ok.hd hc) hS h64 fun h1 h' dr tk vs e ss k1 k2 hp st pm so=>?_
 rw [YW pm so] at st
 have I1:Inv X pins σ H { s with heap:=h1,drawn:=dr,toks:=tk }:=qhx I k1
 have hz:(xO ks).length<=sizeLine:=by
  rw [(jV ks).length_eq,sizeLine_eq]
  omega
 refine ⟨.ref h1.objs.size,_,I1.laid (t':=tk) (o:=.lst ((xO ks).map V.str)) k2 (Nat.le_refl _) ⟨by rw [List.length_map]; exact hz,vs.toList,e,Ko st,by simpa [seqObj] using hp⟩,rfl,q _ (I1.hok.fresh (Nat.le_refl _))⟩
theorem qbO:uG X (.builtin "len") (fun xs H Q=>∃ a ks,xs=[.ref a]/\H a=some (qcO X.prog X.w a ks)/\Q (.int ks.length) H):=by
 intro pins s σ H xs us Q I r h
 obtain ⟨a,ks,rfl,ha,q⟩:=h
 obtain ⟨u,rfl,ru⟩:=uQ r
 cases ru
 obtain ⟨es,ep,t,ho,d⟩:SetS X.prog X.w s.heap a ks:=(I.hok a _ ha).1
 have hb:=d.bd
 refine call_len_set ho ⟨rfl,rfl,rfl⟩ rfl d.fits (by unfold scanBound at hb; omega) ?_
 exact ⟨.int ks.length,H,I.tok _,⟨_,by rw [d.size]⟩,q⟩
theorem Vm {m:Mo} {f:Sl->Out (D×Sl)} {σ:St} {H:Hp} {Q R:VK} (h:tE C own m f σ H Q) (i:∀ v H1,Q v H1->R v H1):tE C own m f σ H R:=by
 obtain ⟨F,ρ,rp,po⟩:=h
 refine ⟨F,ρ,rp,?_⟩
 cases q:f ρ with
 | ok p=>
  rw [q] at po
  obtain ⟨d,ρ1⟩:=p
  exact fun v F1 H1 a b c=>i _ _ (po v F1 H1 a b c)
 | exc c ρ1=>
  rw [q] at po
  exact po
 | bad=>
  rw [q] at po
  exact po.elim
noncomputable def zd (d:D):Out D:=match zH d with
 | some ss=>if ss.length < 64 then .ok (.lst ((xO (ss.foldl vE [])).map D.str)) else .bad
 | none=>.bad
noncomputable def Qw (d:D):Out D:=match zH d with
 | some ss=>if ss.length < 4000 then .ok (.int (ss.foldl vE []).length) else .bad
 | none=>.bad
theorem Qx {K:Frag} {F:Hp}:∀ {ss:List Str},(∀ x∈ss,x.length<=sizeLine)->IsL K F (ss.map V.str) (ss.map D.str)
 | [],_=>.nil
 | x::l,h=>.cons (.str (h x (List.mem_cons_self ..))) (Qx fun y hy=>h y (List.mem_cons_of_mem _ hy))
theorem Ur {p p2 pos2:Pos} (hK:C.K=X.K) (hc:X.calm=true) (hg:Gl X "sorted") (hm:X.mg "sorted"=none) (hv:bootBuiltins "sorted"=some (.builtin "sorted")) (hg2:Gl X "set") (hm2:X.mg "set"=none) (hv2:bootBuiltins "set"=some (.type "set")) (ha:PE X e (tE C own ma fa))
  (he:starEach [e] X.env=[(false,eval e X.env)]:=by exact qQ rfl) (he2:starEach [.Call (.Name "set" p2) [e] [] pos2] X.env=[(false,eval (.Call (.Name "set" p2) [e] [] pos2) X.env)]:=by exact qQ rfl) :
  PE X (.Call (.Name "sorted" p) [.Call (.Name "set" p2) [e] [] pos2] [] pos) (tE C own .fr (d1 zd fa)):=by
 refine jJ (yi (YX hc) hg hm hv (qW (wC (qap hK hc) hg2 hm2 hv2 (qW ha jQ he) (by decide) (by decide) (by rw [he]; rfl) rfl) jQ he2) (by decide) (by decide) (by rw [he2]; rfl) rfl) fun σ H Q h=>?_
 refine Vm (yN (ma:=ma) h) fun x H1 ⟨x',F,dx,ex,sb,tx,po⟩=>?_
 cases ex
 unfold zd at po
 cases es:zH dx with
 | none=>
  rw [es] at po
  exact po.elim
 | some ss=>
  rw [es] at po
  by_cases hl:ss.length < 64
  ·have po:PoV C .fr F H1 (if ss.length < 64 then .ok (.lst ((xO (ss.foldl vE [])).map D.str)) else .bad) Q:=po
   rw [if_pos hl] at po
   refine ⟨x,F,dx,ss,rfl,sb,tx,es,by omega,fun hy q hq=>⟨q,_,rfl,qp,?_,fun l hl2=>?_⟩⟩
   ·have:=wL ss []
    rw [List.length_nil] at this
    omega
   ·obtain ⟨s1,c1,f1⟩:=vD (u:=qcO X.prog X.w q (ss.foldl vE [])) sb hq
    obtain ⟨s2,c2,f2⟩:=vD (u:=.lst ((xO (ss.foldl vE [])).map V.str)) s1 hl2
    have hl1:H1 l=none:=by
     by_cases z:l=q
     ·rw [z] at hl2
      rw [qp] at hl2
      cases hl2
     ·rwa [qA z] at hl2
    refine po _ _ _ s2 (c1.trans' c2) ⟨l,rfl,hl1,f2,_,qp,Qx fun y hy2=>hy y ?_⟩
    rcases Kn ss [] ((jV _).mem_iff.mp hy2) with z | z
    ·cases z
    ·exact z
  ·have po:PoV C .fr F H1 (if ss.length < 64 then .ok (.lst ((xO (ss.foldl vE [])).map D.str)) else .bad) Q:=po
   rw [if_neg hl] at po
   exact po.elim
theorem YY {p p2 pos2:Pos} (hK:C.K=X.K) (hc:X.calm=true) (hg:Gl X "len") (hm:X.mg "len"=none) (hv:bootBuiltins "len"=some (.builtin "len")) (hg2:Gl X "set") (hm2:X.mg "set"=none) (hv2:bootBuiltins "set"=some (.type "set")) (ha:PE X e (tE C own ma fa))
  (he:starEach [e] X.env=[(false,eval e X.env)]:=by exact qQ rfl) (he2:starEach [.Call (.Name "set" p2) [e] [] pos2] X.env=[(false,eval (.Call (.Name "set" p2) [e] [] pos2) X.env)]:=by exact qQ rfl) :
  PE X (.Call (.Name "len" p) [.Call (.Name "set" p2) [e] [] pos2] [] pos) (tE C own .sh (d1 Qw fa)):=by
 refine jJ (yi qbO hg hm hv (qW (wC (qap hK hc) hg2 hm2 hv2 (qW ha jQ he) (by decide) (by decide) (by rw [he]; rfl) rfl) jQ he2) (by decide) (by decide) (by rw [he2]; rfl) rfl) fun σ H Q h=>?_
 refine Vm (yN (ma:=ma) h) fun x H1 ⟨x',F,dx,ex,sb,tx,po⟩=>?_
 cases ex
 unfold Qw at po
 cases es:zH dx with
 | none=>
  rw [es] at po
  exact po.elim
 | some ss=>
  rw [es] at po
  have po:PoV C .sh F H1 (if ss.length < 4000 then .ok (.int (ss.foldl vE []).length) else .bad) Q:=po
  by_cases hl:ss.length < 4000
  ·rw [if_pos hl] at po
   refine ⟨x,F,dx,ss,rfl,sb,tx,es,hl,fun hy q hq=>⟨q,_,rfl,qp,?_⟩⟩
   obtain ⟨s1,c1,f1⟩:=vD (u:=qcO X.prog X.w q (ss.foldl vE [])) sb hq
   exact po _ _ _ s1 c1 (.int _)
  ·rw [if_neg hl] at po
   exact po.elim
end
@[simp] theorem ka {α β:Type} {a:α} {k:α->Out β}:(Out.ok a).bind k=k a:=rfl
@[simp] theorem qgQ {α β:Type} {c:Str} {o:Sl} {k:α->Out β}:(Out.exc c o:Out α).bind k=.exc c o:=rfl
@[simp] theorem qgR {α β:Type} {k:α->Out β}:(Out.bad:Out α).bind k=.bad:=rfl
@[simp] theorem qfZ {α:Type} {a:α}:(Out.ok a).plain=.ok a:=rfl
@[simp] theorem qgS {α:Type}:(Out.bad:Out α).plain=.bad:=rfl
@[simp] theorem qgT {α β:Type} {c:Prop} [Decidable c] {a b:Out α} {k:α->Out β}:(if c then a else b).bind k=if c then a.bind k else b.bind k:=by split <;> rfl
@[simp] theorem qgU {α:Type} {c:Prop} [Decidable c] {a b:Out α}:(if c then a else b).plain=if c then a.plain else b.plain:=by split <;> rfl
noncomputable def Gk {α:Type} (d:D) (A B:Out α):Out α:=match d with
 | .bl b=>if b=true then A else B
 | _=>.bad
@[simp] theorem qfc {α:Type} {b:Bool} {A B:Out α}:Gk (.bl b) A B=if b=true then A else B:=rfl
noncomputable def qgV (p:D×Sl):Out (Bool×Sl):=match p.1 with
 | .bl b=>.ok (b,p.2)
 | _=>.bad
@[simp] theorem qf0 {b:Bool} {ρ:Sl}:qgV (.bl b,ρ)=.ok (b,ρ):=rfl
noncomputable def UL (ms:List PM):Out (Fl×Sl)->Out (D×List D)
 | .ok (.nx,ρ)=>.ok (.non,qv ρ 0 ms)
 | .ok (.rt d,ρ)=>.ok (d,qv ρ 0 ms)
 | .ok _=>.bad
 | .exc c ρ=>.exc c ((qv ρ 0 ms).map some)
 | .bad=>.bad
theorem runD_ap {N:List Str} {ms:List PM} {f:Sl->Out (Fl×Sl)} {ds:List D}:ku N ms f ds=UL ms (f (qx N ds)):=by
 unfold ku UL
 rfl
@[simp] theorem qgW {ms:List PM} {d:D} {ρ:Sl}:UL ms (.ok (.rt d,ρ))=.ok (d,qv ρ 0 ms):=rfl
@[simp] theorem qgX {ms:List PM} {ρ:Sl}:UL ms (.ok (.nx,ρ))=.ok (.non,qv ρ 0 ms):=rfl
@[simp] theorem qf1 {ms:List PM} {c:Str} {ρ:Sl}:UL ms (.exc c ρ)=.exc c ((qv ρ 0 ms).map some):=rfl
@[simp] theorem qf2 {ms:List PM} {c:Prop} [Decidable c] {a b:Out (Fl×Sl)}:UL ms (if c then a else b)=if c then UL ms a else UL ms b:=by split <;> rfl
noncomputable def Us (as:List AK) (ρ:Sl):Out (D×List D)->Out (D×Sl)
 | .ok q=>.ok (q.1,jq as q.2 ρ)
 | .exc c o=>.exc c (jq as (o.map (·.getD .non)) ρ)
 | .bad=>.bad
@[simp] theorem qfd {as:List AK} {ρ:Sl} {q:D×List D}:Us as ρ (.ok q)=.ok (q.1,jq as q.2 ρ):=rfl
@[simp] theorem qdM {as:List AK} {ρ:Sl} {c:Str} {o:Sl}:Us as ρ (.exc c o)=.exc c (jq as (o.map (·.getD .non)) ρ):=rfl
@[simp] theorem qdN {as:List AK} {ρ:Sl} {c:Prop} [Decidable c] {a b:Out (D×List D)}:Us as ρ (if c then a else b)=if c then Us as ρ a else Us as ρ b:=by split <;> rfl
variable {ρ:Sl}
@[simp] theorem qf3 {i:Nat}:qd i ρ=match ρ[i]? with | some (some d)=>.ok (d,ρ) | _=>.bad:=rfl
@[simp] theorem qhy {d:D}:dC d ρ=.ok (d,ρ):=rfl
section
variable {g g':D->D->Out D} {g1:D->Out D} {fa fb fc f:Sl->Out (D×Sl)} {ft fu:Sl->Out (Bool×Sl)} {fr:Sl->Out (List D×Sl)} {fs ft1:Sl->Out (Fl×Sl)} {fi:Sl->Out (List D×Sl)} {n i:Nat} {as:List AK} {G:List D->Out (D×List D)}
@[simp] theorem wB:d1 g1 fa ρ=(fa ρ).bind fun p=>(g1 p.1).plain.bind fun d=>.ok (d,p.2):=rfl
@[simp] theorem qf4:d2 g fa fb ρ=(fa ρ).bind fun p=>(fb p.2).bind fun q=>(g p.1 q.1).plain.bind fun d=>.ok (d,q.2):=rfl
@[simp] theorem qf5:uK f ρ=(f ρ).bind fun p=>(ww p.1).bind fun b=>.ok (b,p.2):=rfl
@[simp] theorem qfe:qT f ρ=(f ρ).bind qgV:=rfl
@[simp] theorem qf6:gy ft ρ=(ft ρ).bind fun p=>.ok (!p.1,p.2):=rfl
@[simp] theorem qff:qfX f ρ=(qT f ρ).bind fun p=>.ok (.bl (!p.1),p.2):=rfl
@[simp] theorem qf7:qaj ft fu ρ=(ft ρ).bind fun p=>if p.1=true then fu p.2 else .ok (false,p.2):=rfl
@[simp] theorem qgY:dOr ft fu ρ=(ft ρ).bind fun p=>if p.1=true then .ok (true,p.2) else fu p.2:=rfl
@[simp] theorem qfg:Ve fa fb ρ=(fa ρ).bind fun p=>Gk p.1 (fb p.2) (.ok (.bl false,p.2)):=by
 unfold Ve
 cases fa ρ with
 | ok p=>
  obtain ⟨d,r⟩:=p
  cases d <;> try rfl
  rename_i b
  cases b <;> rfl
 | exc c o=>rfl
 | bad=>rfl
@[simp] theorem qf8:qe8 fa fb ρ=(fa ρ).bind fun p=>Gk p.1 (.ok (.bl true,p.2)) (fb p.2):=by
 unfold qe8
 cases fa ρ with
 | ok p=>
  obtain ⟨d,r⟩:=p
  cases d <;> try rfl
  rename_i b
  cases b <;> rfl
 | exc c o=>rfl
 | bad=>rfl
@[simp] theorem qgZ:dIf ft fa fb ρ=(ft ρ).bind fun p=>if p.1=true then fa p.2 else fb p.2:=rfl
@[simp] theorem qdO:ym g g' fa fb fc ρ=(fa ρ).bind fun p=>(fb p.2).bind fun q=>(g p.1 q.1).plain.bind fun z=>Gk z ((fc q.2).bind fun r=>(g' q.1 r.1).plain.bind fun d=>.ok (d,r.2)) (.ok (.bl false,q.2)):=by
 unfold ym
 congr 1
 funext p
 congr 1
 funext q
 congr 1
 funext z
 cases z <;> try rfl
 rename_i b
 cases b <;> rfl
@[simp] theorem qf9:qC ρ=.ok ([],ρ):=rfl
@[simp] theorem qfh:qc fa fr ρ=(fa ρ).bind fun p=>(fr p.2).bind fun q=>.ok (p.1::q.1,q.2):=rfl
@[simp] theorem qfi:kC fr ρ=(fr ρ).bind fun q=>.ok (D.non::q.1,q.2):=rfl
@[simp] theorem qga:yL fr ρ=(fr ρ).bind fun p=>if p.1.length<=sizeLine then .ok (.tup p.1,p.2) else .bad:=rfl
@[simp] theorem qgb:gC fr ρ=(fr ρ).bind fun p=>if p.1.length<=sizeLine then .ok (.lst p.1,p.2) else .bad:=rfl
@[simp] theorem qfj:jm ρ=.ok (.nx,ρ):=rfl
@[simp] theorem zI:qS fs ft1 ρ=(fs ρ).bind fun p=>match p.1 with | .nx=>ft1 p.2 | _=>.ok p:=by
 show _=_
 unfold qS
 cases fs ρ with
 | ok p=>obtain ⟨fl,r⟩:=p; cases fl <;> rfl
 | exc c o=>rfl
 | bad=>rfl
@[simp] theorem qdP:sIf ft fs ft1 ρ=(ft ρ).bind fun p=>if p.1=true then fs p.2 else ft1 p.2:=rfl
@[simp] theorem qfk:vC f ρ=(f ρ).bind fun p=>.ok (.nx,p.2):=rfl
@[simp] theorem qbP:jH f ρ=(f ρ).bind fun p=>.ok (.rt p.1,p.2):=rfl
@[simp] theorem vV:jL i f ρ=(f ρ).bind fun p=>if i < p.2.length then .ok (.nx,p.2.set i (some p.1)) else .bad:=rfl
@[simp] theorem qfl:qt as G fr ρ=(fr ρ).bind fun p=>match qB as p.1 p.2 with | some ds=>Us as p.2 (G ds) | none=>.bad:=rfl
@[simp] theorem qgc:qhu f ρ=(f ρ).bind fun p=>(qdx p.1).bind fun ds=>.ok (ds,p.2):=rfl
@[simp] theorem qgd:jr f ρ=(f ρ).bind fun p=>(jt p.1).bind fun ds=>.ok (ds,p.2):=rfl
@[simp] theorem qg0 {d:D}:gNm i d ρ=if i < ρ.length then .ok (ρ.set i (some d)) else .bad:=rfl
@[simp] theorem vW {gg:D->Sl->Out Sl}:gD fi gg fs ρ=(fi ρ).bind fun p=>jS gg fs p.1 p.2:=rfl
@[simp] theorem qge {gg:D->Sl->Out Sl}:qhv f gg ρ=(f ρ).bind fun p=>match gg p.1 p.2 with | .ok ρ'=>.ok (.nx,ρ') | _=>.bad:=rfl
@[simp] theorem qgf {gg:List D->D->Out (List D)}:zz i gg f ρ=if yQ ρ[i]?=true then (f ρ).bind fun p=>(match p.2[i]? with | some (some (.lst xs))=>(match gg xs p.1 with | .ok ys=>.ok (.non,p.2.set i (some (.lst ys))) | _=>.bad) | _=>.bad) else .bad:=rfl
@[simp] theorem qg1:ftT ρ=.ok (true,ρ):=rfl
end
end L2.D2
namespace L2.D2
open PySem PySem.Spec PyProof.Rows
def qgF (i j:Int):Prop:=(0<=j/\j<=64)/\-4611686018427387904 < i/\i < 4611686018427387904
instance:∀ i j,Decidable (qgF i j):=fun i j=>inferInstanceAs (Decidable (_/\_))
noncomputable def Qy (sep:Str):D->Out D
 | .lst ds=>match yu ds with
  | some ss=>if (ss.map (·.length)).sum+ss.length * sep.length<=16777216/\(Txt.join sep ss).length<=sizeLine then .ok (.str (Txt.join sep ss)) else .bad
  | none=>.bad
 | _=>.bad
section
variable {X:Cx} {C:Ct} {own:List Nat} {e:Expr} {fe:Sl->Out (D×Sl)} {m:Mo} {apos cpos:Pos} {sep:Str}
theorem qbQ:MtR X "str.join" (fun x vs H Q=>∃ (sep:Str) (a:Addr) (xs:List V) (ss:List Str),x=.str sep/\vs=[.ref a]/\SqL X.K H a xs/\(∀ us,Vals xs us->StrsAre us ss)/\(ss.map (·.length)).sum+ss.length * sep.length<=16777216/\Q (.str (Txt.join sep ss)) H):=by
 intro pins s σ H x vs v us Q I rx rv h
 obtain ⟨sep,a,xs,ss,rfl,rfl,hq,hb,hz,q⟩:=h
 obtain ⟨t,rfl⟩:=rx
 obtain ⟨u,rfl,ru⟩:=rv.one
 cases ru
 obtain ⟨its,r,pl,_⟩:=I.list hq
 obtain ⟨o,n,ho,hc,hd,hdt⟩:=pl
 exact join_list ⟨o,ho,hc,n,hdt⟩ (by simpa using hb its r) hz fun t' k=>⟨.str (Txt.join sep ss),H,I.tok _,⟨_,rfl⟩,q⟩
theorem qbR {c1 c2} (hK:C.K=X.K) (he:PE X e (tE C own m fe))
  (hbase:attributeBase (.Constant (.str sep) c1 c2) "join" X.env (eval (.Constant (.str sep) c1 c2) X.env)=eval (.Constant (.str sep) c1 c2) X.env:=by rfl)
  (hfew:((backTo cpos (starEach [e] X.env)).all (fun x=>!x.1)&&(backToKw cpos (keywordEach [] X.env)).all (fun x=>x.1.isSome)
   && decide ([e].length+([]:List Keyword).length+(if ([]:List Keyword).isEmpty then 0 else 1) < 30))=true:=by exact uq rfl)
  (hline:(apos.endLine == cpos.line)=true:=by rfl) (hs:starEach [e] X.env=[(false,eval e X.env)]:=by exact qQ rfl) :
  PE X (.Call (.Attribute (.Constant (.str sep) c1 c2) "join" apos) [e] [] cpos) (tE C own .sh (d1 (Qy sep) fe)):=by
 refine jJ (UW PySem.F.plainAttrs_str PySem.F.slot_str_join PySem.F.type_str_join qbQ qaf (qW he jQ hs) hbase hfew hline hs rfl) fun σ H Q h=>?_
 refine ⟨rfl,?_⟩
 obtain ⟨F,ρ,rp,h⟩:=ZM (ma:=m) h
 refine ⟨F,ρ,rp,?_⟩
 cases q:fe ρ with
 | ok p=>
  rw [q] at h
  obtain ⟨d,ρ1⟩:=p
  intro v F1 H1 rp1 c1 mo1
  obtain ⟨F2,dx,sb,tx,po⟩:=h v F1 H1 rp1 c1 mo1
  cases dx <;> try exact po.elim
  rename_i ds
  unfold Qy at po
  cases q2:yu ds with
  | none=>simp only [q2] at po; exact po.elim
  | some ss=>
   simp only [q2] at po
   by_cases hz:(ss.map (·.length)).sum+ss.length * sep.length<=16777216/\(Txt.join sep ss).length<=sizeLine
   ·rw [if_pos hz] at po
    obtain ⟨a,vs,rfl,hq,t⟩:=tx.lst sb
    have hq':SqL X.K H1 a vs:=by rw [<-hK]; exact hq
    exact ⟨sep,a,vs,ss,rfl,rfl,hq',fun us r=>(Qv t r q2).1,hz.1,po _ F2 H1 sb .refl (.str hz.2)⟩
   ·rw [if_neg hz] at po
    exact po.elim
 | exc c=>rw [q] at h; exact h
 | bad=>rw [q] at h; exact h.elim
end
noncomputable def dM (k:D->Bool) (g:D->D->Out D) (fo fa:Sl->Out (D×Sl)):Sl->Out (D×Sl):=fun ρ=>(fo ρ).bind fun p=>if k p.1 then (fa p.2).bind fun q=>(g p.1 q.1).plain.bind fun d=>.ok (d,q.2) else .bad
section
variable {X:Cx} {C:Ct} {own:List Nat} {a b:Expr} {fa fb:Sl->Out (D×Sl)} {m ma mb:Mo} {pos:Pos}
theorem Po.imp {σ:St} {F H:Hp} {r:Out (D×Sl)} {Q R:VK} (h:Po C own m σ F H r Q) (i:∀ v H',Q v H'->R v H'):Po C own m σ F H r R:=by
 cases r with
 | ok p=>exact fun v F' H' rp c mo=>i v H' (h v F' H' rp c mo)
 | exc x=>exact h
 | bad=>exact h.elim
theorem qbS {k:D->Bool} {g:D->D->Out D} {σ:St} {H:Hp} {Q:VK} (hma:ma≠.any) (h:tE C own m (dM k g fa fb) σ H Q) :
  tE C own ma fa σ H fun x H1=>(∃ F dx,Same F H1/\TopIs C.K F H1 x dx/\k dx=true)/\tE C own mb fb σ H1 fun y H2=>∃ F dx dy,Same F H2/\TopIs C.K F H2 x dx/\TopIs C.K F H2 y dy/\PoV C m F H2 (g dx dy) Q:=by
 obtain ⟨F,ρ,rp,h⟩:=h
 refine ⟨F,ρ,rp,Po.bind h fun v F1 H1 d ρ1 rp1 c1 mo1 h1=>?_⟩
 cases hk:k d with
 | false=>simp only [hk] at h1; exact h1.elim
 | true=>
  simp only [hk,if_true] at h1
  exact ⟨⟨F1,d,rp1.sub,mo1.top,hk⟩,F1,ρ1,rp1,Po.bind h1 fun w F2 H2 e ρ2 rp2 c2 mo2 h2=>⟨F2,d,e,rp2.sub,(mo1.grow hma c2 fun x z=>(rp.OA_there z).1).top,mo2.top,PoV.of rp2 h2⟩⟩
def MtD (X:Cx) (C:Ct) (m:Mo) (id:String) (g:D->D->Out D):Prop:=
 MtR X id (fun x vs H Q=>∃ y F dx dy,vs=[y]/\Same F H/\TopIs C.K F H x dx/\TopIs C.K F H y dy/\PoV C m F H (g dx dy) Q)
end
theorem YZ {X:Cx} {pins:List (Addr×Obj)} {σ:St} {F H:Hp} {s:Shared} (I:Inv X pins σ H s) (sb:Same F H) {n:Nat} {e:D}:∀ {vs:List V} {ds:List D} {us:List Value} {b:Bool},IsL X.K F vs ds->Vals vs us->gN n e ds=some b ->
  us.map (UK X F n e)=ds.map fun d=>eqN n d e == some true
 | _,_,_,b,.nil,.nil,h=>rfl
 | _,_,_,b,.cons i t,.cons r rs,h=>by
  obtain ⟨a,c,q1,q2,rfl⟩:=JK h
  rw [List.map_cons,List.map_cons,YZ I sb t rs q2,Yo I sb i r q1,q1]
  cases a <;> rfl
noncomputable def qgg:Sl->Out (Fl×Sl):=fun _=>.bad
section
variable {X:Cx} {C:Ct} {own own':List Nat} {m:Mo} {e:Expr} {sts:List Stmt}
theorem qbT:PSs X sts (tSt C own own' qgg):=by
 refine ⟨?_⟩
 intro pins s σ H D I h
 obtain ⟨_,_,_,h⟩:=h
 exact h.elim
end
def qdQ (i j:Int):Prop:=(-(2 ^ 62)<=i/\i < 2 ^ 62)/\-(2 ^ 62)<=j/\j < 2 ^ 62
instance:∀ i j,Decidable (qdQ i j):=fun i j=>inferInstanceAs (Decidable (_/\_))
section
variable {X:Cx} {C:Ct} {own:List Nat} {a b e tg:Expr} {fa fb:Sl->Out (D×Sl)} {ma mb:Mo} {pos:Pos}
theorem Xa:∀ {xs:List V} {us:List Value},xs.length=us.length->(∀ (j:Nat) (x:V) (u:Value),xs[j]?=some x->us[j]?=some u->RelV x u)->Vals xs us
 | [],[],_,_=>.nil
 | x::xs,u::us,hl,h=>.cons (h 0 x u rfl rfl) (Xa (Nat.succ.inj hl) fun j y w a b=>h (j+1) y w (by simpa using a) (by simpa using b))
 | [],_::_,hl,_=>nomatch hl
 | _::_,[],hl,_=>nomatch hl
noncomputable def qfm (p:Addr) (lo hi:Int):HO:=.ext fun h=>∃ t u v,IsRange h p lo hi 1 t u v
theorem qbU {P:Program} {w:World} {H:Hp} {h:Heap} {p:Addr} {lo hi:Int} {t u v:Tok} (x:IsRange h p lo hi 1 t u v):ObjOk P w H h p (qfm p lo hi):=
 ⟨⟨t,u,v,x⟩,⟨_,x⟩,fun _ _ ⟨t,u,v,x⟩ k=>⟨t,u,v,k _ x⟩⟩
theorem Xb:uG X (.type "range") (fun xs H Q=>∃ j:Int,xs=[.int j]/\∀ p,H p=none->Q (.ref p) (upd H p (qfm p 0 j))):=by
 intro pins s σ H xs us Q I r h
 obtain ⟨j,rfl,q⟩:=h
 obtain ⟨u,rfl,ru⟩:=uQ r
 obtain ⟨t,rfl⟩:=ru
 exact call_range_1 ⟨.ref s.heap.objs.size,_,I.laid (t':=s.toks+1+1) (fun b o e=>Heap.get?_push_of_some _ e) (Nat.le_refl _) (qbU (IsRange.new ..)),rfl,q _ (I.hok.fresh (Nat.le_refl _))⟩
theorem Gm (hc:X.calm=true):uG X (.type "list") (fun xs H Q=>∃ r lo hi,xs=[.ref r]/\H r=some (qfm r lo hi)/\(qdQ lo hi/\hi - lo<=1000000)/\∀ p,H p=none->Q (.ref p) (upd H p (.lst ((List.range (hi - lo).toNat).map fun k=>V.int (lo+(k:Nat)))))):=by
 intro pins s σ H xs us Q I r h
 obtain ⟨a,lo,hi,rfl,ha,hz,q⟩:=h
 obtain ⟨u,rfl,ru⟩:=uQ r
 cases ru
 obtain ⟨t,u,v,hr⟩:=(I.hok a _ ha).1
 have e2:Builtin.Range.rangeSize lo hi 1=(((hi - lo).toNat:Nat):Int):=by rw [rangeSize_one]; split <;> omega
 refine call_list_range (n:=(hi - lo).toNat) (I.ok.hd hc) hr (small_one hz.1.1.1 hz.1.1.2 hz.1.2.1 hz.1.2.2) e2 (by omega) fun h' tk acc c k hp hi2=>?_
 refine ⟨.ref s.heap.objs.size,_,I.laid (t':=tk) (o:=.lst ((List.range (hi - lo).toNat).map fun k=>V.int (lo+(k:Nat)))) k (Nat.le_refl _) ⟨by rw [List.length_map,List.length_range,sizeLine_eq]; omega,acc.toList,c,?_,by simpa using hp⟩,rfl,q _ (I.hok.fresh (Nat.le_refl _))⟩
 refine Xa (by rw [List.length_map,List.length_range,Array.length_toList,hi2.1]) fun j x w ex ew=>?_
 rw [List.getElem?_map] at ex
 obtain ⟨k,ek,rfl⟩:=Option.map_eq_some_iff.mp ex
 obtain ⟨hj,rfl⟩:=List.getElem?_eq_some_iff.mp ek
 obtain ⟨t,rfl⟩:=hi2.2 j w (by simpa using ew)
 exact ⟨t,by simp⟩
noncomputable def ux:D->Out D
 | .int j=>if qdQ 0 j/\j - 0<=1000000 then .ok (.lst (Js 0 (j - 0).toNat)) else .bad
 | _=>.bad
theorem Xc {K:Frag} {F:Hp} {lo:Int}:∀ l:List Nat,IsL K F (l.map fun k=>V.int (lo+(k:Nat))) (l.map fun k=>D.int (lo+(k:Nat)))
 | []=>.nil
 | k::l=>.cons (.int _) (Xc l)
theorem Ut {p p2 pos2:Pos} (hc:X.calm=true) (hg:Gl X "list") (hm:X.mg "list"=none) (hv:bootBuiltins "list"=some (.type "list")) (hg2:Gl X "range") (hm2:X.mg "range"=none) (hv2:bootBuiltins "range"=some (.type "range")) (ha:PE X e (tE C own ma fa))
  (he:starEach [e] X.env=[(false,eval e X.env)]:=by exact qQ rfl) (he2:starEach [.Call (.Name "range" p2) [e] [] pos2] X.env=[(false,eval (.Call (.Name "range" p2) [e] [] pos2) X.env)]:=by exact qQ rfl) :
  PE X (.Call (.Name "list" p) [.Call (.Name "range" p2) [e] [] pos2] [] pos) (tE C own .fr (d1 ux fa)):=by
 refine jJ (wC (Gm hc) hg hm hv (qW (wC Xb hg2 hm2 hv2 (qW ha jQ he) (by decide) (by decide) (by rw [he]; rfl) rfl) jQ he2) (by decide) (by decide) (by rw [he2]; rfl) rfl) fun σ H Q h=>?_
 refine Vm (yN (ma:=ma) h) fun x H1 ⟨x',F,dx,ex,sb,tx,po⟩=>?_
 cases ex
 cases dx <;> try exact po.elim
 rename_i j
 unfold ux at po
 by_cases hz:qdQ 0 j/\j - 0<=1000000
 ·simp only [if_pos hz] at po
  obtain rfl:=tx.int
  refine ⟨j,rfl,fun q hq=>⟨q,0,j,rfl,qp,hz,fun l hl2=>?_⟩⟩
  obtain ⟨s1,c1,f1⟩:=vD (u:=qfm q 0 j) sb hq
  obtain ⟨s2,c2,f2⟩:=vD (u:=.lst ((List.range (j - 0).toNat).map fun k=>V.int (0+(k:Nat)))) s1 hl2
  have hl1:H1 l=none:=by
   by_cases z:l=q
   ·rw [z] at hl2
    rw [qp] at hl2
    cases hl2
   ·rwa [qA z] at hl2
  exact po _ _ _ s2 (c1.trans' c2) ⟨l,rfl,hl1,f2,_,qp,Xc _⟩
 ·simp only [if_neg hz] at po
  exact po.elim
end
noncomputable def Ite (K:Frag) (a:Addr) (xs:List V):It:=
 ⟨fun i H=>i < xs.length/\SqL K H a xs,fun i H v H'=>∃ x p,xs[i]?=some x/\H p=none/\v=.ref p/\H'=upd H p (.tup [.int (i:Nat),x]),fun i H=>xs.length<=i/\SqL K H a xs⟩
theorem Xd {P:Program} {w:World} {K:Frag} {elts:List Expr} {x1} {pos:Pos} (b a:Nat) (xs:List V) (h1:a < b) :
  Turn P w K (.Tuple elts x1 pos) (Ite K a xs) [b+1,b] (b+1) (fun i h=>(∃ old,IsEnum h (b+1) b i old)/\h.IsListIter b a i) where
 mem:=by simp
 obj:=fun i h st c hc=>by
  obtain ⟨⟨old,he⟩,o,ho,hcl,hd⟩:=st
  simp only [List.mem_cons,List.not_mem_nil,or_false] at hc
  rcases hc with rfl | rfl
  ·exact ⟨_,he,fun v z=>by cases z⟩
  ·exact ⟨o,ho,fun v z=>by rw [hd] at z; cases z⟩
 keep:=fun i h h' st k=>by
  obtain ⟨⟨old,he⟩,o,ho,hcl,hd⟩:=st
  exact ⟨⟨old,k _ (by simp) _ he⟩,o,k _ (by simp) _ ho,hcl,hd⟩
 item:=by
  intro X hP hw hK hc i pins s σ H E I hf st hg
  subst hP hw hK
  obtain ⟨⟨old,he⟩,hit⟩:=st
  obtain ⟨hl,q⟩:=hg
  obtain ⟨its,r,pl,_⟩:=I.list q
  have hi:i < its.length:=by rw [<-r.length]; exact hl
  have hx:its.toArray[i]?=some its[i]:=by simp [hi]
  refine wpAny_pyNext_enum_item he hit pl.isList hx (Nat.succ_ne_self b) fun h' eo it' tp hz kp=>?_
  refine ⟨_,rfl,wpAny_letOwnedTupleGo_enum eo fun hq e2 sb2=>?_⟩
  obtain ⟨x,ex,rx⟩:=YU r (List.getElem?_eq_getElem hi)
  have hT:H s.heap.objs.size=none:=I.hok.fresh (Nat.le_refl _)
  have lt1:b+1 < s.heap.objs.size:=Heap.lt_size he
  have fT:∀ c∈[b+1,b],c≠s.heap.objs.size:=fun c hc=>by
   simp only [List.mem_cons,List.not_mem_nil,or_false] at hc
   have lt':b+1 < s.heap.objs.size:=lt1
   generalize s.heap.objs.size=m at lt'
   intro z
   omega
  have I1:Inv X pins σ (upd H s.heap.objs.size (.tup [.int (i:Nat),x])) { s with heap:=s.heap.push { cls:=.type "tuple",data:=.seq #[.int i s.toks,its[i]] } }:=
   I.laid (t':=s.toks) (fun _ _ e=>Heap.get?_push_of_some _ e) (Nat.le_refl _) ⟨⟨by simp only [List.length_cons,List.length_nil]; rw [sizeLine_eq]; decide,_,Heap.get?_push_size _ rfl,rfl⟩,[.int i s.toks,its[i]],.cons ⟨_,rfl⟩ (.cons rx .nil),⟨_,Heap.get?_push_size _ rfl,rfl,_,rfl⟩⟩
  have I2:Inv X pins σ (upd H s.heap.objs.size (.tup [.int (i:Nat),x])) { s with heap:=hq,toks:=s.toks+1 }:=by
   refine YT (s:={ s with heap:=s.heap.push { cls:=.type "tuple",data:=.seq #[.int i s.toks,its[i]] } }) (ch:=[b+1,b]) I1 (fun c o nc e=>?_) fun c hc=>⟨by rw [qA (fT c hc)]; exact (hf c hc).1,(hf c hc).2⟩
   simp only [List.mem_cons,List.not_mem_nil,or_false,not_or] at nc
   rw [sb2.2 c nc.1]
   by_cases ec:c=s.heap.objs.size
   ·subst ec
    have e3:(s.heap.push ({ cls:=.type "tuple",data:=.seq #[.int i s.toks,its[i]] }:Obj)).get? s.heap.objs.size=some { cls:=.type "tuple",data:=.seq #[.int i s.toks,its[i]] }:=Heap.get?_push_size _ rfl
    rw [show (s.heap.push ({ cls:=.type "tuple",data:=.seq #[.int i s.toks,its[i]] }:Obj)).get? s.heap.objs.size=some o from e] at e3
    rw [e3]
    exact tp
   ·have e4:s.heap.get? c=some o:=by
     have:=e
     rwa [show (s.heap.push ({ cls:=.type "tuple",data:=.seq #[.int i s.toks,its[i]] }:Obj)).get? c=s.heap.get? c from Heap.get?_push_ne _ _ _ ec] at this
    exact kp c o nc.1 nc.2 e4
  refine ⟨.ref s.heap.objs.size,_,I2,rfl,⟨x,_,ex,hT,rfl,rfl⟩,⟨⟨_,by simpa using e2⟩,?_⟩,fun c hc=>by rw [qA (fT c hc)]; exact (hf c hc).1⟩
  obtain ⟨o,ho,hcl,hd⟩:=it'
  exact ⟨o,(sb2.2 _ (Nat.succ_ne_self b).symm).trans ho,hcl,hd⟩
 done:=by
  intro X hP hw hK hc i pins s σ H E I hf st hg
  subst hP hw hK
  obtain ⟨⟨old,he⟩,hit⟩:=st
  obtain ⟨hl,q⟩:=hg
  obtain ⟨its,r,pl,_⟩:=I.list q
  refine wpAny_pyNext_enum_end (I.ok.hd hc) he hit pl.isList (by simp; rw [<-r.length]; exact hl) fun h' ex=>⟨rfl,YT (t':=s.toks) (ch:=[b+1,b]) I (fun c o nc e=>?_) hf⟩
  simp only [List.mem_cons,List.not_mem_nil,or_false,not_or] at nc
  exact ex c o nc.2 e
 self:=fun _ _ _ _ _ st h=>wpAny_pyIter_enum st.1.choose_spec h
theorem Xe:bootBuiltins "enumerate"=some (.type "enumerate"):=by decide +kernel
noncomputable def xP (xs:List D):List D:=(xs.zipIdx).map fun p=>.tup [.int (p.2:Nat),p.1]
noncomputable def gG (f:Sl->Out (D×Sl)):Sl->Out (List D×Sl):=fun ρ=>(f ρ).bind fun p=>match p.1 with
 | .lst xs=>.ok (xP xs,p.2)
 | _=>.bad
theorem qdR {K:Frag} {F:Hp} {a:Addr} {xs:List V} {ds:List D} (p:SqL K F a xs) (t:IsL K F xs ds):ItIs K F (Ite K a xs) (xP ds) where
 go:=fun i H hi s=>by
  unfold xP at hi
  rw [List.length_map,List.length_zipIdx] at hi
  exact ⟨by rw [t.length]; exact hi,s.seq p⟩
 yld:=fun i Fi H v H' d e s1 s2 y=>by
  obtain ⟨x,q,hx,hn,rfl,rfl⟩:=y
  obtain ⟨d1,e1,i1⟩:=t.get hx
  have ed:d=.tup [.int (i:Nat),d1]:=by
   unfold xP at e
   rw [List.getElem?_map,List.getElem?_zipIdx,e1] at e
   simpa using e.symm
  subst ed
  obtain ⟨g1,g2⟩:=yO (u:=.tup [.int (i:Nat),x]) s2 hn
  exact ⟨_,g2,g1,.tup (.of qp) (.cons (.int _) (.cons ((i1.mono s1).mono g2.grow) .nil))⟩
 stop:=fun i H hi s=>by
  unfold xP at hi
  rw [List.length_map,List.length_zipIdx] at hi
  exact ⟨by rw [t.length]; exact hi,s.seq p⟩
section
variable {X:Cx} {C:Ct} {own:List Nat} {a:Expr} {fa:Sl->Out (D×Sl)} {ma:Mo} {pos:Pos}
theorem qbV {ta:TA} {p tpos:Pos} {elts:List Expr} {x1} (hg:Gl X "enumerate") (hm:X.mg "enumerate"=none) (ha:PA X [a] ta) (hs:starEach [a] X.env=[(false,eval a X.env)]) :
  PI X (.Tuple elts x1 tpos) (.Call (.Name "enumerate" p) [a] [] pos) (fun σ H R=>ta σ H fun vs H1=>∃ a1 xs,vs=[.ref a1]/\SqL X.K H1 a1 xs/\R (Ite X.K a1 xs) H1):=by
 refine ⟨?_⟩
 intro pins s σ H R I h
 refine Call_ (zp I hg hm Xe (PyProof.Rows.callWith_type1 (thn (ha pos pins s σ H _ I h) fun us s1 ⟨vs,H1,I1,r1,q1⟩=>?_) hs rfl))
 obtain ⟨a1,xs,rfl,w1,q⟩:=q1
 obtain ⟨u1,rfl,e1⟩:=uQ r1
 cases e1
 obtain ⟨its,v1,pl,_⟩:=I1.list w1
 have hlt:a1 < s1.heap.objs.size:=let ⟨o,_,e,_⟩:=pl; Heap.lt_size e
 refine call_enumerate_list pl.isList fun h' he hit hz kp=>?_
 refine wpAny_pyIter_enum he ?_
 refine ⟨s1.heap.objs.size+1,_,_,Ite X.K a1 xs,H1,rfl,I1.kept (t':=s1.toks) kp,Xd s1.heap.objs.size a1 xs hlt,⟨⟨_,he⟩,hit⟩,fun b hb=>?_,q⟩
 have hle:s1.heap.objs.size<=b:=by
  simp only [List.mem_cons,List.not_mem_nil,or_false] at hb
  rcases hb with rfl | rfl
  ·exact Nat.le_add_right _ _
  ·exact Nat.le_refl _
 exact I1.fpOk hle (I1.hok.fresh hle)
theorem ze {p tpos:Pos} {elts:List Expr} {x1} (hK:C.K=X.K) (hg:Gl X "enumerate") (hm:X.mg "enumerate"=none) (ha:PE X a (tE C own ma fa)) (h1:ma≠.any:=by decide) (hs:starEach [a] X.env=[(false,eval a X.env)]:=by exact qQ rfl) :
  PI X (.Tuple elts x1 tpos) (.Call (.Name "enumerate" p) [a] [] pos) (tIt C own (gG fa)):=by
 refine qbB (qbV hg hm (qW (yk ha h1) jQ hs) hs) fun σ H R ⟨F,ρ,rp,h⟩=>⟨F,ρ,rp,PoI.bindV h fun v F1 H1 d ρ1 rp1 c1 mo1 h1=>?_⟩
 have mo1:Is C.K F1 v d:=mo1
 cases mo1 with
 | lst p t=>exact ⟨_,_,rfl,by rw [<-hK]; exact rp1.sub.seq p,by rw [<-hK]; exact h1 _ F1 H1 rp1 c1 (qdR p t)⟩
 | _=>exact h1.elim
end
mutual
def qdS:Nat->Expr->Option D
 | 0,_=>none
 | n+1,e=>match e with
  | .Constant c _ _=>match c with
   | .none=>some .non
   | .bool b=>some (.bl b)
   | .int i=>some (.int i)
   | .str x=>if x.length<=sizeLine then some (.str x) else none
   | _=>none
  | .UnaryOp .USub (.Constant (.int i) _ _) _=>some (.int (-i))
  | .List es _=>(qdT n es).bind fun ds=>if ds.length<=sizeLine then some (.lst ds) else none
  | .Tuple es _ _=>(qdT n es).bind fun ds=>if ds.length<=sizeLine then some (.tup ds) else none
  | _=>none
def qdT:Nat->List Expr->Option (List D)
 | _,[]=>some []
 | 0,_::_=>none
 | n+1,e::es=>(qdS n e).bind fun d=>(qdT n es).bind fun ds=>some (d::ds)
end
theorem Xf {α:Type}:∀ l:List α,((l.map fun _=>AK.vl).all fun a=>decide (a=.vl))=true
 | []=>rfl
 | _::l=>by rw [List.map_cons,List.all_cons,Xf l]; rfl
theorem Xg {n:Nat} {e:Expr} {d:D} (h:qdS n e=some d):Yk e=true:=by
 cases n with
 | zero=>cases h
 | succ n=>cases e <;> first | rfl | (simp [qdS] at h)
section
variable {X:Cx} {C:Ct} {own:List Nat}
mutual
theorem qdU:∀ (n:Nat) {e:Expr} {d:D},qdS n e=some d->PE X e (tE C own .sh (dC d))
 | 0,_,_,h=>by cases h
 | n+1,e,d,h=>by
  unfold qdS at h
  split at h
  ·split at h
   ·cases h; exact yl
   ·cases h; exact wz
   ·cases h; exact qr
   ·split at h
    ·rename_i hz
     cases h
     exact wF hz
    ·cases h
   ·cases h
  ·cases h
   exact jJ (ZO Wo qr) fun σ H Q h=>h
  ·obtain ⟨ds,h1,h2⟩:=Option.bind_eq_some_iff.mp h
   split at h2
   ·rename_i hz
    cases h2
    have e2:gC (fun ρ=>.ok (ds,ρ))=dC (.lst ds):=by
     funext ρ
     unfold gC dC
     rw [Out.ok_bind,if_pos hz]
    rw [<-e2]
    exact yk (kS (Vn n h1) (Xf _)) (by decide)
   ·cases h2
  ·obtain ⟨ds,h1,h2⟩:=Option.bind_eq_some_iff.mp h
   split at h2
   ·rename_i hz
    cases h2
    have e2:yL (fun ρ=>.ok (ds,ρ))=dC (.tup ds):=by
     funext ρ
     unfold yL dC
     rw [Out.ok_bind,if_pos hz]
    rw [<-e2]
    exact vd (Vn n h1) (Xf _)
   ·cases h2
  ·cases h
theorem Vn:∀ (n:Nat) {es:List Expr} {ds:List D},qdT n es=some ds->PA X es (tAr C own (es.map fun _=>.vl) fun ρ=>.ok (ds,ρ))
 | 0,[],ds,h=>by
  cases h
  exact qf
 | _+1,[],ds,h=>by
  cases h
  exact qf
 | 0,_::_,ds,h=>by cases h
 | n+1,e::es,ds,h=>by
  unfold qdT at h
  obtain ⟨d,h1,h⟩:=Option.bind_eq_some_iff.mp h
  obtain ⟨ds',h2,h⟩:=Option.bind_eq_some_iff.mp h
  cases h
  have e2:qc (dC d) (fun ρ=>.ok (ds',ρ))=fun ρ=>.ok (d::ds',ρ):=rfl
  rw [<-e2]
  exact qb (qdU n h1) (Vn n h2) (by decide) (kP (Xg h1))
end
end
noncomputable def txI (i:Int):Str:=toString i
def CTx (i:Int):Prop:=i.natAbs.log2 < 1920/\(txI i).length<=sizeLine
instance:∀ i,Decidable (CTx i):=fun i=>inferInstanceAs (Decidable (_/\_))
end L2.D2
namespace PySem
open Builtin Builtin.Str
end PySem
namespace L2.D2
open PySem PySem.Spec PyProof.Rows
def qhz (x y:Str):Prop:=(y.length == 0)=false/\(Txt.split x y).length<=sizeLine/\∀ z∈Txt.split x y,z.length<=sizeLine
instance:∀ x y,Decidable (qhz x y):=fun x y=>inferInstanceAs (Decidable (_/\_))
inductive IntsAre:List Value->List Int->Prop
 | nil:IntsAre [] []
 | cons (y:Int) (t:Tok) {vs:List Value} {ys:List Int} (h:IntsAre vs ys):IntsAre (Value.int y t::vs) (y::ys)
theorem IntsAre.length:∀ {vs:List Value} {ys:List Int},IntsAre vs ys->vs.length=ys.length
 | _,_,.nil=>rfl
 | _,_,.cons _ _ h=>congrArg (·+1) h.length
theorem IntsAre.item:∀ {vs:List Value} {ys:List Int},IntsAre vs ys->∀ (i:Nat) (v:Value),vs[i]?=some v->∃ y t,v=Value.int y t/\ys[i]?=some y
 | _,_,.nil,i,v,e=>by simp at e
 | _,_,.cons y t h,0,v,e=>by simp at e; subst e; exact ⟨y,t,rfl,rfl⟩
 | _,_,.cons y t h,i+1,v,e=>by
  obtain ⟨z,t',e1,e2⟩:=h.item i v (by simpa using e)
  exact ⟨z,t',e1,by simpa using e2⟩
noncomputable def zJ:List D->Option (List Int)
 | []=>some []
 | .int x::l=>(zJ l).map (x::·)
 | _::_=>none
theorem Xh {K:Frag} {F:Hp}:∀ {vs:List V} {us:List Value} {ds:List D} {ss:List Int},IsL K F vs ds->Vals vs us->zJ ds=some ss->IntsAre us ss
 | [],[],[],ss,_,_,e=>by cases e; exact .nil
 | v::vs,u::us,d::ds,ss,.cons i il,.cons r rl,e=>by
  cases d with
  | int x=>
   cases q:zJ ds with
   | none=>
    have e:(zJ ds).map (x::·)=some ss:=e
    rw [q] at e
    cases e
   | some sl=>
    have e:(zJ ds).map (x::·)=some ss:=e
    rw [q] at e
    cases e
    cases i
    obtain ⟨t,rfl⟩:=r
    exact .cons x t (Xh il rl q)
  | _=>cases e
section
variable {K:Frag} {F:Hp}
theorem TopIs.ins {H:Hp} {v:V} {c:Addr} {fs:List (Str×D)} (s:Same F H) (h:TopIs K F H v (.ins c fs)):∃ a dx fv,v=.ref a/\H a=some (.ins c dx fv)/\IsF K F fv fs:=by
 rcases h with h | ⟨a,rfl,dx,fv,e,t⟩
 ·cases h with
  | ins e t=>exact ⟨_,_,_,rfl,s _ _ e,t⟩
 ·exact ⟨a,dx,fv,rfl,e,t⟩
end
section
variable {K:Frag} {own own1:List Nat} {F H:Hp} {σ:St} {ρ:Sl} {i:Nat}
theorem Rep.frz {b:Addr} {o:HO} (rp:Rep K own F H σ ρ) (hb:H b=some o) (hF:F b=none) (nA:¬OA own σ b):Rep K own (upd F b o) H σ ρ:=by
 have gr:Same F (upd F b o):=fun c w e=>by rw [qA (qF e hF)]; exact e
 refine ⟨fun c w e=>?_,rp.len,fun j d hj e=>?_,fun j d hj e=>?_,rp.opn,rp.dis⟩
 ·by_cases q:c=b
  ·subst q; rw [qp] at e; cases e; exact hb
  ·rw [qA q] at e; exact rp.sub c w e
 ·obtain ⟨v,h1,h2⟩:=rp.val j d hj e
  exact ⟨v,h1,h2.mono gr⟩
 ·obtain ⟨a,h1,h2,h3⟩:=rp.ow j d hj e
  exact ⟨a,h1,by rw [qA (fun z=>nA ⟨j,hj,by rw [<-z]; exact h1⟩)]; exact h2,h3.grow gr fun _ q=>q⟩
end
noncomputable def ctB (C:Ct):Ct:={ C with ox:=[],oxs:=fun _ h=>by cases h }
section
variable {X:Cx} {C:Ct} {own:List Nat} {pos:Pos}
theorem vr (i:Nat) {x:Str} (hN:X.N[i]?=some x:=by rfl) (hv:Vis X.env.scope x:=by first | exact Or.inl rfl | exact Or.inr (Or.inl rfl) | exact Or.inr (Or.inr rfl)) (ho:i∉own:=by decide) (hd:(x == ("__debug__":Str))=false:=by decide) (hcd:(x == ("__classdict__":Str))=false:=by decide):PE X (.Name x pos) (tE C own .sh (qd i)):=qdp hN hv ho hd hcd
end
section
variable {K:Frag}
theorem Rep.swap {own:List Nat} {F H F' H':Hp} {σ:St} {ρ:Sl} {g:Nat} {b:Addr} {o:D} (rp:Rep K own F H σ ρ) (hg:g∈own) (eb:σ[g]?=some (some (V.ref b))) (c:Chg (fun z=>z=b) F H F' H') (sb:Same F' H') (fb:F' b=none) (ow:OwnIs K F' H' b o) :
  Rep K own F' H' σ (ρ.set g (some o))/\Chg (OA own σ) F H F' H':=by
 obtain ⟨d0,hd0⟩:=rp.opn g hg
 have hl:g < ρ.length:=(List.getElem?_eq_some_iff.mp hd0).1
 refine ⟨⟨sb,by simp [rp.len],fun j d hj e=>?_,fun j d hj e=>?_,fun j hj=>?_,rp.dis⟩,c.mono fun z hz=>⟨g,hg,by rw [hz]; exact eb⟩⟩
 ·rw [List.getElem?_set_ne (fun z=>hj (by rw [<-z]; exact hg))] at e
  obtain ⟨v,h1,h2⟩:=rp.val j d hj e
  exact ⟨v,h1,h2.mono c.grow⟩
 ·by_cases q:j=g
  ·subst q
   rw [List.getElem?_set_self hl] at e
   cases e
   exact ⟨b,eb,fb,ow⟩
  ·rw [List.getElem?_set_ne (Ne.symm q)] at e
   obtain ⟨a,h1,h2,h3⟩:=rp.ow j d hj e
   have na:a≠b:=fun z=>by subst z; exact q (rp.dis j g a hj hg h1 eb)
   refine ⟨a,h1,?_,h3.grow c.grow fun o q=>c.keep a o q na⟩
   cases qa:F' a with
   | none=>rfl
   | some u=>
    rcases c.new a (by rw [qa]; simp) with z | z | z
    ·exact absurd h2 z
    ·exact absurd z h3.there
    ·exact absurd z na
 ·by_cases q:j=g
  ·subst q; exact ⟨o,List.getElem?_set_self hl⟩
  ·rw [List.getElem?_set_ne (Ne.symm q)]; exact rp.opn j hj
end
theorem zK (ks:List Int):∀ n,n<=ks.length->preSum (fun i=>ks.getD i 0) n=(ks.take n).sum
 | 0,_=>rfl
 | n+1,h=>by
  have ih:=zK ks n (by omega)
  show preSum (fun i=>ks.getD i 0) n+ks.getD n 0=_
  rw [ih,List.take_add_one,List.sum_append]
  have:ks[n]?=some (ks.getD n 0):=by rw [List.getD_eq_getElem?_getD,List.getElem?_eq_getElem (by omega)]; rfl
  rw [this]
  simp
theorem qaq:∀ (ks:List Int),(ks.all fun k=>decide (0<=k/\k<=100000))=true->0<=ks.sum/\ks.sum<=100000 * ks.length
 | [],_=>by simp
 | k::ks,h=>by
  rw [List.all_cons,Bool.and_eq_true] at h
  have h1:=of_decide_eq_true h.1
  have ih:=qaq ks h.2
  rw [List.sum_cons,List.length_cons]
  omega
section
variable {X:Cx} {C:Ct} {own:List Nat} {mb mx:Mo} {b ix:Expr} {fb:Sl->Out (D×Sl)} {pos apos cpos px:Pos}
noncomputable def d2O (i:Nat) (g:D->D->Out D) (fb:Sl->Out (D×Sl)):Sl->Out (D×Sl):=fun ρ=>(fb ρ).bind fun q=>match (q.2[i]?:Option (Option D)) with
 | some (some d)=>(g d q.1).plain.bind fun r=>.ok (r,q.2)
 | _=>.bad
theorem qbW {i:Nat} {g:D->D->Out D} {σ:St} {H:Hp} {Q:VK} {m:Mo} (ho:i∈own) (h:tE C own m (d2O i g fb) σ H Q) :
  qfq i σ H fun x H1=>tE C own mb fb σ H1 fun y H2=>∃ F dx dy,Same F H2/\TopIs C.K F H2 x dx/\TopIs C.K F H2 y dy/\PoV C m F H2 (g dx dy) Q:=by
 obtain ⟨F,ρ,rp,h⟩:=h
 obtain ⟨d0,hd0⟩:=rp.opn i ho
 obtain ⟨a,e1,hF,o0⟩:=rp.ow i d0 ho hd0
 refine ⟨_,e1,F,ρ,rp,Po.bind h fun v F1 H1 d ρ1 rp1 c1 mo1 h1=>?_⟩
 obtain ⟨d1,hd1⟩:=rp1.opn i ho
 obtain ⟨a',e2,hF1,o1⟩:=rp1.ow i d1 ho hd1
 rw [e1] at e2
 cases e2
 simp only [hd1] at h1
 exact ⟨F1,d1,d,rp1.sub,.inr ⟨a,rfl,o1⟩,mo1.top,PoV.of rp1 h1⟩
theorem qdV {i:Nat} {x:Str} (hK:C.K=X.K) (hu:X.A.units+64 < cLine) (hN:X.N[i]?=some x) (hv:Vis X.env.scope x) (ho:i∈own) (hb:PE X b (tE C own mb fb)) (hs:KZ b)
  (hd:(x == ("__debug__":Str))=false:=by decide) (hcd:(x == ("__classdict__":Str))=false:=by decide):PE X (.Subscript (.Name x px) b pos) (tE C own .sh (d2O i ixD fb)):=by
 refine jJ (qdi (qak (by omega)) (uI hN hv hd hcd) hb hs) fun σ H Q h=>?_
 obtain ⟨v,e1,F,ρ,rp,h⟩:=qbW (mb:=mb) ho h
 refine ⟨v,e1,F,ρ,rp,?_⟩
 cases q2:fb ρ with
 | ok p=>
  rw [q2] at h
  obtain ⟨d',ρ3⟩:=p
  intro w F3 H3 rp3 c3 mo3
  obtain ⟨F4,dx,dy,sb,tx,ty,po⟩:=h w F3 H3 rp3 c3 mo3
  exact qal (σ:=σ) hK sb tx ty po
 | exc c=>rw [q2] at h; exact h
 | bad=>rw [q2] at h; exact h.elim
end
def FlyA (h:Heap) (ex T:Addr) (cls:Value):Prop:=∃ oe vs oT ts fl,h.get? ex=some oe/\oe.cls=cls/\oe.data=.fields vs/\vs[1]?=some (.ref T)/\T≠ex/\h.get? T=some oT/\oT.data=.fields ts/\ts[3]?=some fl
theorem FlyA.tr {h base:Heap} {ex T:Addr} {cls:Value} (f:FlyA h ex T cls) (hb:base.get? T=none):∃ a0 fl,h.TracedAtW base ex cls a0 fl:=by
 obtain ⟨oe,vs,oT,ts,fl,a1,a2,a3,a4,a5,a6,a7,a8⟩:=f
 have hz:0 < vs.size:=Nat.lt_of_succ_lt (Array.getElem?_eq_some_iff.mp a4).1
 exact ⟨vs[0],fl,oe,vs,T,oT,ts,a1,⟨a2,by simp [hz]⟩,a3,a4,hb,a5,a6,a7,a8⟩
noncomputable def zL (n:Nat) (fw fx:Sl->Out (D×Sl)):Sl->Out (Fl×Sl):=fun ρ=>(fw ρ).bind fun p=>(fx p.2).bind fun q=>match (q.2[n]?:Option (Option D)) with
 | some (some (.dct kvs))=>(match Kc q.1 with
  | some k=>if kvs.length < sizeLine then .ok (.nx,q.2.set n (some (.dct (yg kvs k p.1)))) else .bad
  | none=>.bad)
 | _=>.bad
section
variable {X:Cx} {C:Ct} {own:List Nat} {w ix:Expr} {fw fx:Sl->Out (D×Sl)} {mw mx:Mo} {p1 p2 p3:Pos}
theorem zf {n:Nat} {x:Str} (hu:X.A.units+64 < cLine) (hN:X.N[n]?=some x) (hv:Vis X.env.scope x) (ho:n∈own) (hw:PE X w (tE C own mw fw)) (hx:PE X ix (tE C own mx fx)) (hmw:mw≠.any:=by decide)
  (hd:(x == ("__debug__":Str))=false:=by decide) (hcd:(x == ("__classdict__":Str))=false:=by decide) (hs:swapsWith w (some (.Subscript (.Name x p1) ix p2)) p3.line X.env=pure false:=by rfl) :
  PS X (.Assign [.Subscript (.Name x p1) ix p2] w p3) (tSt C own own (zL n fw fx)):=by
 refine JQ (qbl (by omega) (uI hN hv hd hcd) hx (yk hw hmw) hs) fun Dn σ H ⟨F,ρ,rp,h⟩=>⟨F,ρ,rp,PoS.bindE h fun v F1 H1 d ρ1 rp1 c1 mo1 h1=>?_⟩
 have mo1:Is C.K F1 v d:=mo1
 obtain ⟨d0,hd0⟩:=rp1.opn n ho
 obtain ⟨a,e1,hF,o0⟩:=rp1.ow n d0 ho hd0
 refine ⟨_,e1,F1,ρ1,rp1,PoS.bindE h1 fun iv F2 H2 di ρ2 rp2 c2 mo2 h2=>?_⟩
 obtain ⟨d2,hd2⟩:=rp2.opn n ho
 obtain ⟨a',e2,hF2,o2⟩:=rp2.ow n d2 ho hd2
 rw [e1] at e2
 cases e2
 simp only [hd2] at h2
 cases d2 with
 | dct kvs=>
  cases q:Kc di with
  | none=>simp only [q] at h2; exact h2.elim
  | some k=>
   simp only [q] at h2
   have hiv:=qfY mo2.top q
   subst hiv
   obtain ⟨kv,ex,ik⟩:=o2
   by_cases hz:kvs.length < sizeLine
   ·simp only [if_pos hz] at h2
    obtain ⟨r3,c3⟩:=rp2.write (u:=.dK (gx kv k v)) (d:=.dct (yg kvs k d)) ho e1 ⟨_,qp,ik.put (mo1.mono c2.grow)⟩
    exact ⟨a,_,rfl,DPut.k ex (by rw [ik.length]; exact hz),h2 σ F2 _ ⟨r3,c3,fun _ z=>.inl z,fun _ _=>rfl⟩⟩
   ·simp only [if_neg hz] at h2; exact h2.elim
 | _=>exact h2.elim
end
noncomputable def Xi (i:Nat):Sl->Out (D×Sl):=fun ρ=>match (ρ[i]?:Option (Option D)) with
 | some (some (.lst (d::es)))=>.ok (d,ρ.set i (some (.lst es)))
 | _=>.bad
section
variable {X:Cx} {C:Ct} {own:List Nat} {px apos cpos:Pos}
theorem qbX:MtR X "list.pop" (fun x vs H Q=>∃ l v xs,x=.ref l/\vs=[.int 0]/\H l=some (.lst (v::xs))/\Q v (upd H l (.lst xs))):=by
 intro pins s σ H x vs v us Q I rx rv h
 obtain ⟨l,y,xs,rfl,rfl,hH,q⟩:=h
 exact ZI pins s σ H _ _ v us Q I rx rv ⟨l,_,0,0,y,rfl,rfl,hH,by decide,by decide,by simp [seqIndex?],rfl,q⟩
theorem qbY {i:Nat} {x:Str} {j:Nat} {pz:Pos} (hN:X.N[i]?=some x) (hv:Vis X.env.scope x) (ho:i∈own) (hd:(x == ("__debug__":Str))=false:=by decide) (hcd:(x == ("__classdict__":Str))=false:=by decide)
  (hbase:attributeBase (.Name x px) "pop" X.env (eval (.Name x px) X.env)=eval (.Name x px) X.env:=by rfl) (hline:(apos.endLine == cpos.line)=true:=by rfl)
  (hfew:((backTo cpos (starEach [.Constant (.int 0) j pz] X.env)).all (fun x=>!x.1)&&(backToKw cpos (keywordEach [] X.env)).all (fun x=>x.1.isSome)
   && decide ([Expr.Constant (.int 0) j pz].length+([]:List Keyword).length+(if ([]:List Keyword).isEmpty then 0 else 1) < 30))=true:=by exact uq rfl)
  (hs:starEach [.Constant (.int 0) j pz] X.env=[(false,eval (.Constant (.int 0) j pz) X.env)]:=by exact qQ rfl) :
  PE X (.Call (.Attribute (.Name x px) "pop" apos) [.Constant (.int 0) j pz] [] cpos) (tE C own .sh (Xi i)):=by
 refine jJ (UW PySem.F.plainAttrs_list PySem.F.slot_list_pop PySem.F.type_list_pop qbX (uI hN hv hd hcd) (qW qae jQ hs) hbase hfew hline hs rfl) fun σ H Q ⟨F,ρ,rp,h⟩=>?_
 obtain ⟨d0,hd0⟩:=rp.opn i ho
 obtain ⟨a,e1,hF,o0⟩:=rp.ow i d0 ho hd0
 unfold Xi at h
 simp only [hd0] at h
 cases d0 with
 | lst es=>
  cases es with
  | nil=>exact h.elim
  | cons d es=>
   obtain ⟨xs,ex,il⟩:=o0
   cases il with
   | cons iv il=>
    refine ⟨_,e1,.inl ⟨rfl,_,.inl (.inl ex)⟩,?_⟩
    obtain ⟨r2,c3⟩:=rp.write (u:=.lst _) (d:=.lst es) ho e1 ⟨_,qp,il⟩
    exact ⟨a,_,_,rfl,rfl,ex,h _ F _ r2 c3 iv⟩
 | _=>exact h.elim
end
end L2.D2
namespace L2.D2
open PySem PySem.Spec PyProof.Rows PySem.W
theorem IsK.keys {K:Frag} {F:Hp}:∀ {kv:List (Key×V)} {ks:List (Key×D)},IsK K F kv ks->kv.map (·.1)=ks.map (·.1)
 | _,_,.nil=>rfl
 | _,_,.cons h t=>by rw [List.map_cons,List.map_cons,IsK.keys t]
theorem KV.keys:∀ {kv:List (Key×V)} {vs:List (Key×Value)},KV kv vs->kv.map (·.1)=vs.map (·.1)
 | _,_,.nil=>rfl
 | _,_,.cons h t=>by rw [List.map_cons,List.map_cons,h.1,KV.keys t]
end L2.D2
namespace PySem.F
theorem nolen_lri:typeLookup (.type "list_reverseiterator") "__len__"=pure none:=by rw [typeLookup_type,builtinLookup_eq_fast]; kernel_rfl
theorem hint_lri:typeLookup (.type "list_reverseiterator") "__length_hint__"=pure (some (.builtin "list_reverseiterator.__length_hint__")):=by rw [typeLookup_type,builtinLookup_eq_fast]; kernel_rfl
end PySem.F
namespace L2.D2
open PySem PySem.Spec PyProof.Rows PySem.W
section
variable {prog:Program} {w:World} {A:Around} {E:Value->Shared->Prop} {s:Shared} {I l:Addr} {items:Array Value}
theorem Uu {R:Result->Shared->Prop} (hh:A.handled=none) (hne:l≠I) (hit:s.heap.IsRevIter I l ((items.size:Int) - 1)) (hl:s.heap.IsList l items) (S:Addr) (hSI:S≠I) (hSl:S≠l) (res:Value) (c₀:Nat) (hS:s.heap.get? S=some { cls:=.type "list",data:=.seq #[] c₀ })
  (hR:∀ h' tk acc' c',(∀ b o,b≠S->b≠I->s.heap.get? b=some o->h'.get? b=some o)->h'.get? S=some { cls:=.type "list",dict:=none,data:=.seq acc' c',slots:=#[] }->ItemsOf (fun i v=>items[items.size - 1 - i]?=some v) acc' items.size->R (.ok (.ret res)) { s with heap:=h',toks:=tk }) (hn:items.size<=sizeLine) :
  wpAny (model prog w) A.in1 (Builtin.List.listExtendWith (.ref S) (.ref I) res)
   (fun fin s'=>match fin with | .done f=>R (.ok f) s' | .again c'=>c'.quiet=true/\codeAny (model prog w) A c' R s') (fun e s'=>R (.error e) s') s:=by
 have W:=Walks.listRev (prog:=prog) (w:=w) (A:=A.in1) hh I l hne items
 have hSf:S∉[I,l]:=by simp only [List.mem_cons,List.not_mem_nil,or_false,not_or]; exact ⟨hSI,hSl⟩
 have st:0<=items.size/\s.heap.IsRevIter I l ((items.size:Int) - 1 - ((0:Nat):Int))/\s.heap.IsList l items:=⟨Nat.zero_le _,by simpa using hit,hl⟩
 unfold Builtin.List.listExtendWith
 refine wpAny_bind (wpAny_typeOf hit.typeIs ?_)
 have h1:Builtin.List.listSameRef (.ref S) (.ref I)=false:=by simp [Builtin.List.listSameRef,hSI]
 rw [if_neg (by rw [h1]; decide)]
 refine wpAny_bind (W.self 0 _ _ _ st ?_)
 refine wpAny_bind (wpAny_holding ?_)
 unfold Builtin.List.listLengthHint
 refine wpAny_bind (wpAny_specialOf hit.typeIs F.nolen_lri ?_)
 show wpAny _ A.in1 (specialOf (Value.ref I) (Str.ofString "__length_hint__") >>= _) _ _ _
 refine wpAny_bind (wpAny_specialOf hit.typeIs F.hint_lri ?_)
 generalize hid:("list_reverseiterator.__length_hint__":String)=id0
 wp_delta
 rw [show splitId id0=some ("list_reverseiterator", "__length_hint__") from by subst hid; decide +kernel]
 subst hid
 refine wpAny_bind (wpAny_isInstance (b:=true) hit.typeIs (by rw [isSubtype_type]; kernel_rfl) ?_)
 refine wpAny_pure ?_
 rw [if_neg (by decide)]
 refine wpAny_pure ⟨plainId_quiet F.plain_extend_loop _,codeAny_extend_loopS W.toS hn S hSf res items.size 0 _ #[] c₀ rfl (Nat.zero_le _) st hS (ItemsOf.nil _) fun s' acc' c' hm hS' hacc=>?_⟩
 rw [Moved.eq_with hm]
 refine hR s'.heap s'.toks acc' c' (fun b o hb hb2 e=>hm.heap b o (fun hmem=>?_) e) hS' hacc
 rcases List.mem_cons.mp hmem with e' | hmem
 ·exact hb e'
 ·exact hb2 (List.mem_singleton.mp hmem)
theorem Gn {Q:Value->Shared->Prop} (hh:A.handled=none) (hne:l≠I) (hit:s.heap.IsRevIter I l ((items.size:Int) - 1)) (hl:s.heap.IsList l items) (hn:items.size<=sizeLine)
  (hQ:∀ h' tk acc' c',(∀ b o,b≠I->s.heap.get? b=some o->h'.get? b=some o)->h'.get? s.heap.objs.size=some { cls:=.type "list",dict:=none,data:=.seq acc' c',slots:=#[] }->ItemsOf (fun i v=>items[items.size - 1 - i]?=some v) acc' items.size->Q (.ref s.heap.objs.size) { s with heap:=h',toks:=tk }) :
  wpAny (model prog w) A (call (.type "list") [.ref I]) Q E s:=by
 refine callType_codes (Q₁:=fun obj s₁=>obj=.ref s.heap.objs.size/\s₁={ s with heap:=s.heap.push { cls:=.type "list",data:=.seq #[] } }) PySem.F.called_list (PySem.F.typeCall_list_1 _) PySem.F.entry_list_init
  (code_list_new _ ⟨rfl,rfl⟩) fun obj s₁ h₁=>?_
 obtain ⟨rfl,rfl⟩:=h₁
 have hS:(s.heap.push { cls:=.type "list",data:=.seq #[] }).get? s.heap.objs.size=some { cls:=.type "list",data:=.seq #[] }:=Heap.get?_push_size _ rfl
 obtain ⟨oI,hoI,_⟩:=id hit
 obtain ⟨ol,hol,_⟩:=id hl
 have hSI:s.heap.objs.size≠I:=Nat.ne_of_gt (Heap.lt_size hoI)
 have hSl:s.heap.objs.size≠l:=Nat.ne_of_gt (Heap.lt_size hol)
 refine ⟨⟨_,hS,rfl⟩,PySem.F.args_list_init_2 _ _,?_⟩
 show wpAny _ _ (do let old <-Builtin.List.listItems (.ref s.heap.objs.size); Builtin.List.listUpdate (.ref s.heap.objs.size) (fun _=>#[]); letGo old.toList.reverse; Builtin.List.listExtendWith (.ref s.heap.objs.size) (.ref I) .none) _ _ _
 refine wpAny_bind ?_
 unfold Builtin.List.listItems
 refine wpAny_bind (wpAny_seqItems hS rfl (wpAny_pure ?_))
 show wpAny _ _ (updateSeq s.heap.objs.size (fun _=>#[]) >>= fun _=>letGo (#[]:Array Value).toList.reverse >>= fun _=>Builtin.List.listExtendWith (.ref s.heap.objs.size) (.ref I) .none) _ _ _
 refine wpAny_bind (wpAny_updateSeq hS rfl ?_)
 have hS₂:=Heap.get?_update_self (Obj.mapSeq (fun _=>(#[]:Array Value))) hS rfl
 have oth:∀ b o,b≠s.heap.objs.size->s.heap.get? b=some o->((s.heap.push { cls:=.type "list",data:=.seq #[] }).update s.heap.objs.size (Obj.mapSeq (fun _=>(#[]:Array Value)))).get? b=some o:=
  fun b o hb e=>(Heap.get?_update_other _ _ (Ne.symm hb)).trans (Heap.get?_push_of_some _ e)
 refine wpAny_bind (wpAny_letGo ?_)
 refine Uu (A:=A.in1) hh hne (hit.at fun o e=>oth I o hSI.symm e) (hl.at fun o e=>oth l o hSl.symm e) _ hSI hSl .none _ hS₂ (fun h' tk acc' c' hk hS' hacc=>?_) hn
 exact ⟨rfl,hQ h' tk acc' c' (fun b o hb e=>hk b o (Nat.ne_of_lt (Heap.lt_size e)) hb (oth b o (Nat.ne_of_lt (Heap.lt_size e)) e)) hS' hacc⟩
end
noncomputable def yv:D->Out D
 | .lst xs=>.ok (.lst xs.reverse)
 | _=>.bad
theorem Go {vs:List V} {its:List Value} {acc:Array Value} (r:Vals vs its) (h:ItemsOf (fun i v=>its.toArray[its.toArray.size - 1 - i]?=some v) acc its.toArray.size):Vals vs.reverse acc.toList:=by
 have e:acc.toList=its.reverse:=by
  apply List.ext_getElem?
  intro j
  have hs:acc.size=its.length:=by simpa using h.1
  by_cases hj:j < its.length
  ·have hv:acc.toList[j]?=some (acc.toList[j]'(by rw [Array.length_toList]; omega)):=List.getElem?_eq_getElem _
   have h2:=h.2 j _ (by rw [<-Array.getElem?_toList]; exact hv)
   rw [hv,List.getElem?_reverse hj,<-h2]
   simp
  ·rw [List.getElem?_eq_none (by rw [Array.length_toList]; omega),List.getElem?_eq_none (by rw [List.length_reverse]; omega)]
 rw [e]
 exact r.reverse
theorem Xj {K:Frag} {F:Hp}:∀ {vs:List V} {ds:List D},IsL K F vs ds->IsL K F vs.reverse ds.reverse
 | _,_,.nil=>.nil
 | _,_,.cons h t=>by
  rw [List.reverse_cons,List.reverse_cons]
  exact (Xj t).append (.cons h .nil)
section
variable {X:Cx} {C:Ct} {own:List Nat} {e:Expr} {fa:Sl->Out (D×Sl)} {ma:Mo} {pos:Pos}
theorem Uv {p p2 pos2:Pos} (hK:C.K=X.K) (hc:X.calm=true) (hg:Gl X "list") (hm:X.mg "list"=none) (hv:bootBuiltins "list"=some (.type "list")) (hg2:Gl X "reversed") (hm2:X.mg "reversed"=none) (hv2:bootBuiltins "reversed"=some (.type "reversed")) (ha:PE X e (tE C own ma fa))
  (he:starEach [e] X.env=[(false,eval e X.env)]:=by exact qQ rfl) (he2:starEach [.Call (.Name "reversed" p2) [e] [] pos2] X.env=[(false,eval (.Call (.Name "reversed" p2) [e] [] pos2) X.env)]:=by exact qQ rfl) :
  PE X (.Call (.Name "list" p) [.Call (.Name "reversed" p2) [e] [] pos2] [] pos) (tE C own .fr (d1 yv fa)):=by
 refine ⟨?_⟩
 intro pins s σ H Q I h
 refine wpAny_Call_Name_kw (zp I hg hm hv ?_ (by decide) (by decide))
 refine PyProof.Rows.callWith_type1 ?_ (by rw [he2]; rfl) rfl
 rw [he2]
 show wpAny _ _ (spliced ((false,eval (.Call (.Name "reversed" p2) [e] [] pos2) X.env)::[])) _ _ s
 refine Calls.spliced_cons ?_
 refine wpAny_Call_Name_kw (zp I hg2 hm2 hv2 ?_ (by decide) (by decide))
 refine PyProof.Rows.callWith_type1 (thn ((qW ha jQ he) pos2 pins s σ H _ I (yN (ma:=ma) h)) fun us s1 ⟨vs,H1,I1,r1,q1⟩=>?_) (by rw [he]; rfl) rfl
 obtain ⟨x,F,dx,rfl,sb,tx,po⟩:=q1
 obtain ⟨u,rfl,ru⟩:=uQ r1
 cases dx with
 | lst ds=>
  obtain ⟨a,vs,rfl,hq,t⟩:=tx.lst sb
  rw [hK] at hq
  cases ru
  obtain ⟨its,rv,pl0,hz⟩:=I1.list hq
  have pl:s1.heap.IsList a its.toArray:=by
   obtain ⟨o,n,ho,hc1,_,hdt⟩:=pl0
   exact ⟨o,ho,hc1,n,hdt⟩
  refine call_reversed_list pl ?_
  refine Calls.spliced_nil ?_
  have hs1:=Heap.get?_push_size (h:=s1.heap) (o:=revObj a ((its.toArray.size:Int) - 1)) 
  have pl2:(s1.heap.push (revObj a ((its.toArray.size:Int) - 1))).IsList a its.toArray:=pl.at fun o eo=>Heap.get?_push_of_some _ eo
  obtain ⟨oa,hoa,_⟩:=id pl
  have hne:a≠s1.heap.objs.size:=Nat.ne_of_lt (Heap.lt_size hoa)
  refine Gn (s:={ s1 with heap:=s1.heap.push (revObj a ((its.toArray.size:Int) - 1)) }) (I.ok.hd hc) hne ⟨_,Heap.get?_push_size _ rfl,rfl,rfl⟩ pl2 (by rw [List.size_toArray,<-rv.length]; exact hz) fun h' tk acc c kp hp hi=>?_
  have kp2:∀ b o,s1.heap.get? b=some o->h'.get? b=some o:=fun b o eo=>kp b o (Nat.ne_of_lt (Heap.lt_size eo)) (Heap.get?_push_of_some _ eo)
  have hsz:(s1.heap.push (revObj a ((its.toArray.size:Int) - 1))).objs.size=s1.heap.objs.size+1:=Heap.size_push ..
  have hq2:H1 (s1.heap.objs.size+1)=none:=I1.hok.fresh (Nat.le_succ _)
  obtain ⟨s2,c2,f2⟩:=vD (u:=.lst vs.reverse) sb hq2
  have hp:h'.get? (s1.heap.objs.size+1)=some { cls:=.type "list",dict:=none,data:=.seq acc c,slots:=#[] }:=by rw [<-hsz]; exact hp
  have goal:EP X pins σ Q (.ref (s1.heap.objs.size+1)) { s1 with heap:=h',toks:=tk }:=
   ⟨.ref (s1.heap.objs.size+1),_,I1.laid (t':=tk) (o:=.lst vs.reverse) kp2 (Nat.le_succ _) ⟨by rw [List.length_reverse]; exact hz,acc.toList,c,Go rv hi,by simpa using hp⟩,rfl,po _ _ _ s2 c2 ⟨_,rfl,hq2,f2,_,qp,Xj t⟩⟩
  rw [<-hsz] at goal
  exact goal
 | _=>exact po.elim
end
end L2.D2
namespace L2.D2
open PySem PySem.Spec PyProof.Rows
section
variable {prog:Program} {w:World} {A:Around} {E:Value->Shared->Prop} {s:Shared}
theorem Uw:typeLookup (.type "list") "keys"=pure none:=by rw [typeLookup_type,builtinLookup_eq_fast]; kernel_rfl
theorem zM {a:Addr} {o:Obj} {xs:Array Value} {k:Nat} {Q:Option Value->Shared->Prop} (hh:A.handled=none) (hx:s.heap.get? a=some o) (hc:o.cls=.type "list") (hdat:o.data=.seq xs k) (hd:o.dict=none)
  (h:∀ h' tk,(∀ b ob,s.heap.get? b=some ob->h'.get? b=some ob)->Q none { s with heap:=h',toks:=tk }):wpAny (model prog w) A (getAttr? (.ref a) "keys") Q E s:=by
 obtain ⟨c,dct,dat,sl⟩:=o
 simp only at hc hdat hd
 subst hc hdat hd
 obtain ⟨hp,g,d,tk,os⟩:=s
 have hT:∀ tk',(⟨hp,g,d,tk',os⟩:Shared).TypeIs (.ref a) "list":=fun _=>⟨_,hx,rfl⟩
 have f1:=sub_AttributeError
 have f3:=F.slot_list_getattribute.lookup
 have f4:=F.slot_list_getattribute.bind (.ref a)
 have f5:=am_list_getattr_none
 have f6:=Uw
 have hnm:(["__module__", "__name__", "__qualname__", "__doc__", "__annotations__"]:List Str).contains ("keys":Str)=false:=by decide +kernel
 have hsz:("keys":Str).length+100<=sizeLine:=by rw [sizeLine_eq]; decide +kernel
 unfold getAttr? getAttrBy?
 refine wpAny_bind (wpAny_mkText (wpAny_bind (wpAny_attempt ?_)))
 unfold getAttrBy
 repeat (any_goals (first | assumption | exact hT _ | ((with_reducible show wpAny _ _ (call (Value.builtin "list.__getattribute__") _ _) _ _ _); refine call_meets F.slot_list_getattribute (hT _) am_entry_list_getattribute (F.args_list_getattribute_2 _ _) (meets_getattribute_miss_list a xs k sl "keys" _ f6 hnm hsz) ⟨hx,hh,fun h' tk' e hx'=>?_⟩) | wp_step))
 obtain ⟨t',u',he⟩:=hx'.there
 show wpAny _ _ (getattributeRaised _ _ _ _ _ _ _) _ _ _
 unfold getattributeRaised
 repeat (any_goals (first | assumption | wp_step))
 exact h h' tk' hx'.keeps
theorem Xk {R:Result->Shared->Prop} {d it t:Addr} {items:Array Value} (hh:A.in1.handled=none) (hdt:d≠t) (hdi:d≠it) (hti:t≠it):∀ (n i:Nat) (s:Shared) (kvs:List (Key×Value)) (ps:List (Key×Value×Value)),items.size - i=n->i<=items.size ->
  s.heap.IsListIter it t i->s.heap.IsList t items->s.heap.DictOf (ji prog w) d kvs->ps.length=n->(∀ j p,ps[j]?=some p->∃ v,items[i+j]?=some v/\gA p.1 p.2.1=true/\YG s.heap v p.2.1 p.2.2)->kvs.length+n<=sizeLine ->
  (∀ h' tk,h'.DictOf (ji prog w) d (ps.foldl (fun l p=>stored l p.1 p.2.2) kvs)->(∀ b o,b≠d->b≠it->s.heap.get? b=some o->h'.get? b=some o)->R (.ok (.ret .none)) { s with heap:=h',toks:=tk }) ->
  codeAny (model prog w) A (.builtin "dict.update.loop" ⟨[.ref d,.ref it,rawInt i,.none],[]⟩) R s:=by
 intro n
 induction n with
 | zero=>
  intro i s kvs ps hn hi st ht hd hl hp hz hR
  have e:ps=[]:=List.length_eq_zero_iff.mp hl
  subst e
  refine codeAny_builtin xu ?_
  rw [Around.under_plainId ko _]
  show wpAny _ A.in1 (pyNext (.ref it) >>= _) _ _ s
  refine wpAny_bind (wpAny_pyNext_list_end hh st ht (by simp; omega) fun h' eb=>?_)
  show wpAny _ A.in1 (ret Value.none) _ _ _
  refine wpAny_pure (hR h' s.toks ?_ fun b o _ h2 e=>eb b o h2 e)
  obtain ⟨o,es,ep,ho,r⟩:=hd
  exact ⟨o,es,ep,eb d o hdi ho,r⟩
 | succ n ih=>
  intro i s kvs ps hn hi st ht hd hl hp hz hR
  cases ps with
  | nil=>simp at hl
  | cons p ps=>
   obtain ⟨v,hv,hk,q,oq,nq,rfl,hq,hqc,hqd⟩:=hp 0 p rfl
   obtain ⟨od,es,ep,hod,hdx,hrest⟩:=id hd
   have nqd:q≠d:=fun z=>by
    subst z
    rw [hq] at hod; cases hod
    rw [hrest.1] at hqd; cases hqd
   obtain ⟨oi,hoi,hic,hid⟩:=id st
   have nqi:q≠it:=fun z=>by
    subst z
    rw [hq] at hoi; cases hoi
    rw [hid] at hqd; cases hqd
   refine codeAny_builtin xu ?_
   rw [Around.under_plainId ko _]
   show wpAny _ A.in1 (pyNext (.ref it) >>= _) _ _ s
   refine wpAny_bind (wpAny_pyNext_list_item st ht (x:=.ref q) (by simpa using hv) fun h' st' sb=>?_)
   have hq':h'.get? q=some oq:=(sb.2 q nqi).trans hq
   have hTq:Shared.TypeIs { s with heap:=h' } (.ref q) "tuple":=⟨oq,hq',hqc⟩
   have hd':h'.DictOf (ji prog w) d kvs:=by
    obtain ⟨o,es,ep,ho,r⟩:=hd
    exact ⟨o,es,ep,(sb.2 d hdi).trans ho,r⟩
   have ht':h'.IsList t items:=by
    obtain ⟨o,ho,r⟩:=ht
    exact ⟨o,(sb.2 t hti).trans ho,r⟩
   dsimp only
   refine wpAny_bind (wpAny_holding (wpAny_bind ?_))
   refine wpAny_tryCatch ?_
   unfold Builtin.Dict.pairItems
   refine wpAny_bind (wpAny_typeOf hTq ?_)
   rw [if_pos (by decide)]
   refine wpAny_bind (wpAny_seqItems hq' hqd (wpAny_pure ?_))
   show wpAny _ A.in1 (holding [p.2.1,p.2.2] (dictSet d p.2.1 p.2.2)) _ _ _
   refine wpAny_holding (wpAny_dictSet_pairs (knd:=ji prog w) hk hd' (fun h2 hd2 sb2=>?_) (by omega))
   have keep:∀ b o,b≠d->b≠it->s.heap.get? b=some o->h2.get? b=some o:=fun b o n1 n2 e=>(sb2.2 b n1).trans ((sb.2 b n2).trans e)
   have hlen:(stored kvs p.1 p.2.2).length<=kvs.length+1:=by
    unfold stored
    split <;> simp
   refine wpAny_pure ⟨plainId_quiet ko _,?_⟩
   have ec:rawInt ((i:Int)+1)=rawInt ((i+1:Nat):Int):=by push_cast; rfl
   rw [ec]
   refine ih (i+1) _ (stored kvs p.1 p.2.2) ps (by omega) (by omega) ?_ ?_ hd2 (by simpa using hl) (fun j p' e=>?_) (by omega) fun h3 tk hd3 k3=>?_
   ·obtain ⟨o,e,r⟩:=st'
    exact ⟨o,(sb2.2 it (Ne.symm hdi)).trans e,r⟩
   ·obtain ⟨o,e,r⟩:=ht'
    exact ⟨o,(sb2.2 t (Ne.symm hdt)).trans e,r⟩
   ·obtain ⟨v',hv',hk',q',oq',nq',rfl,hq2,hqc2,hqd2⟩:=hp (j+1) p' (by simpa using e)
    refine ⟨.ref q',by rw [show i+1+j=i+(j+1) by omega]; exact hv',hk',q',oq',nq',rfl,keep q' oq' (fun z=>?_) (fun z=>?_) hq2,hqc2,hqd2⟩
    ·subst z
     rw [hq2] at hod; cases hod
     rw [hrest.1] at hqd2; cases hqd2
    ·subst z
     rw [hq2] at hoi; cases hoi
     rw [hid] at hqd2; cases hqd2
   ·exact hR h3 tk hd3 fun b o n1 n2 e=>k3 b o n1 n2 (keep b o n1 n2 e)
theorem xQ {t:Addr} {items:Array Value} {ps:List (Key×Value×Value)} {Q:Value->Shared->Prop} (hh:A.handled=none) {ot:Obj} {nt:Nat} (hot:s.heap.get? t=some ot) (hotc:ot.cls=.type "list") (hotd:ot.dict=none) (hots:ot.data=.seq items nt)
  (hl:ps.length=items.size) (hp:∀ (j:Nat) (p:Key×Value×Value),ps[j]?=some p->∃ v,items[j]?=some v/\gA p.1 p.2.1=true/\YG s.heap v p.2.1 p.2.2) (hz:items.size<=sizeLine)
  (h:∀ h' tk,h'.DictOf (ji prog w) s.heap.objs.size (ps.foldl (fun l p=>stored l p.1 p.2.2) [])->(∀ b o,s.heap.get? b=some o->h'.get? b=some o)->Q (.ref s.heap.objs.size) { s with heap:=h',toks:=tk }) :
  wpAny (model prog w) A (call (.type "dict") [.ref t]) Q E s:=by
 refine callType_codes (Q₁:=fun obj s₁=>obj=.ref s.heap.objs.size/\s₁={ s with heap:=s.heap.push { cls:=.type "dict",data:=.dict #[] } }) F.kt_called_dict (F.kt_typeCall_dict_1 _) F.entry_dict_init (kt_code_dict_new _ ⟨rfl,rfl⟩) ?_
 rintro obj s₁ ⟨rfl,rfl⟩
 have hnew:(s.heap.push { cls:=.type "dict",data:=.dict #[] }).DictOf (ji prog w) s.heap.objs.size []:=Heap.DictOf.new s.heap
 refine ⟨hnew.typeIs,F.args_dict_init_2 _ _,?_⟩
 unfold Builtin.«dict.__init__»
 refine wpAny_bind ?_
 unfold Builtin.Dict.selfAndRest
 refine wpAny_bind (wpAny_notOrdered_dict hnew.typeIs ?_)
 show wpAny _ _ (pure (s.heap.objs.size,[Value.ref t])) _ _ _
 refine wpAny_pure ?_
 show wpAny _ _ (Builtin.Dict.updateFrom "dict.__init__" s.heap.objs.size (.ref t) [] .none) _ _ _
 unfold Builtin.Dict.updateFrom
 have hot':(s.heap.push { cls:=.type "dict",data:=.dict #[] }).get? t=some ot:=Heap.get?_push_of_some _ hot
 have hlt:t < s.heap.objs.size:=Heap.lt_size hot
 refine wpAny_bind (wpAny_typeOf (T := "list") ⟨ot,hot',hotc⟩ ?_)
 rw [if_pos (by decide)]
 refine wpAny_bind (zM (by exact hh) hot' hotc hots hotd fun h1 tk1 k1=>?_)
 rw [if_pos (show (none:Option Value).isNone=true from rfl)]
 refine wpAny_bind (wpAny_rule ?_)
 have ht1:h1.get? t=some ot:=k1 _ _ hot'
 have hd1:h1.DictOf (ji prog w) s.heap.objs.size []:=by
  obtain ⟨o,es,ep,ho,r⟩:=hnew
  exact ⟨o,es,ep,k1 _ _ ho,r⟩
 have htup:h1.IsList t items:=⟨ot,ht1,hotc,nt,hots⟩
 refine wpAny_bind (wpAny_pyIter_list (s:={ s with heap:=h1,toks:=tk1 }) htup ?_)
 have hs1:s.heap.objs.size < h1.objs.size:=let ⟨o,es,ep,ho,r⟩:=hd1; Heap.lt_size ho
 have up:∀ b o,s.heap.get? b=some o->(h1.push { cls:=.type "list_iterator",data:=.fields #[.ref t,.int 0 0] }).get? b=some o:=fun b o e=>Heap.get?_push_of_some _ (k1 _ _ (Heap.get?_push_of_some _ e))
 refine wpAny_pure ⟨plainId_quiet ko _,?_⟩
 refine Xk (items:=items) (t:=t) (A:=A.in1) (show A.in1.in1.handled=none from hh) (Nat.ne_of_gt hlt) (Nat.ne_of_lt hs1) (Nat.ne_of_lt (Nat.lt_trans hlt hs1)) items.size 0 _ [] ps (by omega) (Nat.zero_le _) ⟨_,Heap.get?_push_size _ rfl,rfl,rfl⟩ ?_ ?_ hl (fun j p e=>?_) (by simpa using hz) fun h2 tk2 hd2 k2=>⟨rfl,h h2 tk2 hd2 fun b o e=>?_⟩
 ·exact ⟨ot,Heap.get?_push_of_some _ ht1,hotc,nt,hots⟩
 ·obtain ⟨o,es,ep,ho,r⟩:=hd1
  exact ⟨o,es,ep,Heap.get?_push_of_some _ ho,r⟩
 ·obtain ⟨v,hv,hk,q,oq,nq,rfl,hq,r⟩:=hp j p e
  exact ⟨.ref q,by simpa using hv,hk,q,oq,nq,rfl,up q oq hq,r⟩
 ·have hb:=Heap.lt_size e
  exact k2 b o (Nat.ne_of_lt hb) (Nat.ne_of_lt (Nat.lt_trans hb hs1)) (up b o e)
end
noncomputable def Kp:D->Out D
 | .lst ds=>match gS ds with
  | some ps=>.ok (.dct (ps.foldl (fun l p=>yg l p.1 p.2) []))
  | none=>.bad
 | _=>.bad
section
variable {X:Cx} {C:Ct} {pins:List (Addr×Obj)} {σ:St} {F H:Hp} {s:Shared}
theorem Gp (hK:C.K=X.K) (hc:X.calm=true):Qn X C .fr (.type "dict") Kp:=by
 intro pins s σ H xs us Q I r h
 obtain ⟨x,F,dx,rfl,sb,tx,po⟩:=h
 cases dx <;> try exact po.elim
 rename_i ds
 unfold Kp at po
 cases q:gS ds with
 | none=>simp only [q] at po; exact po.elim
 | some ps=>
  simp only [q] at po
  obtain ⟨a,vs,rfl,hq,t⟩:=tx.lst sb
  obtain ⟨u,rfl,ru⟩:=uQ r
  cases ru
  have hq':SqL X.K H a vs:=by rw [<-hK]; exact hq
  obtain ⟨its,rv,⟨o,n,ho,hcl,hdn,hd⟩,hz⟩:=I.list hq'
  obtain ⟨pv,tr,h1,h2,h3,h3',h4⟩:=Wv hK I sb t rv q
  have hlen:=rv.length
  refine xQ (ps:=tr) (I.ok.hd hc) ho hcl hdn hd (by simp [h3]) (fun j p e=>?_) (by simp; omega) fun h' tk hd' kp=>?_
  ·obtain ⟨v,e1,e2⟩:=h4 j p e
   exact ⟨v,by simpa using e1,e2⟩
  ·have hp:H s.heap.objs.size=none:=I.hok.fresh (Nat.le_refl _)
   obtain ⟨s2,c2,hF⟩:=vD (u:=.dK (pv.foldl (fun l p=>gx l p.1 p.2) [])) sb hp
   have hl:(pv.foldl (fun l p=>gx l p.1 p.2) ([]:List (Key×V))).length<=sizeLine:=by
    have:=@Wu pv []
    simp at this
    omega
   have hsys:(s.heap.objs.size == sysModules)=false:=beq_eq_false_iff_ne.mpr (Nat.ne_of_gt I.big)
   refine ⟨.ref s.heap.objs.size,_,I.laid (o:=.dK (pv.foldl (fun l p=>gx l p.1 p.2) [])) (t':=tk) kp (Nat.le_refl _) (Yh hl hsys (YH h2 .nil) hd'),rfl,po _ F _ s2 c2 ⟨_,rfl,hp,hF,_,qp,Wt h1 .nil⟩⟩
end
noncomputable def Qz:D->Out D
 | .lst ds=>(match zJ ds with
  | some ks=>if ks.length<=1000/\(ks.all fun k=>decide (0<=k/\k<=100000))=true then .ok (.int ks.sum) else .bad
  | none=>.bad)
 | _=>.bad
section
variable {X:Cx} {C:Ct} {own:List Nat} {mb mx:Mo} {b ix:Expr} {fb:Sl->Out (D×Sl)} {pos apos cpos px:Pos}
theorem Vo (hK:C.K=X.K) (hc:X.calm=true):Qn X C .sh (.builtin "sum") Qz:=by
 intro pins s σ H xs us Q I r h
 obtain ⟨x,F,dx,rfl,sb,tx,po⟩:=h
 cases dx with
 | lst ds=>
  obtain ⟨u,rfl,ru⟩:=uQ r
  obtain ⟨a,vs,rfl,hq,il⟩:=tx.lst sb
  cases ru
  rw [hK] at hq
  obtain ⟨its,rv,pl0,hz⟩:=I.list hq
  have pl:s.heap.IsList a its.toArray:=by
   obtain ⟨o,n,ho,hc1,_,hdt⟩:=pl0
   exact ⟨o,ho,hc1,n,hdt⟩
  cases e:zJ ds with
  | none=>
   have po:PoV C .sh F H (match zJ ds with | some ks=>if ks.length<=1000/\(ks.all fun k=>decide (0<=k/\k<=100000))=true then .ok (.int ks.sum) else .bad | none=>.bad) Q:=po
   rw [e] at po; exact po.elim
  | some ks=>
   have po:PoV C .sh F H (match zJ ds with | some ks=>if ks.length<=1000/\(ks.all fun k=>decide (0<=k/\k<=100000))=true then .ok (.int ks.sum) else .bad | none=>.bad) Q:=po
   rw [e] at po
   by_cases hk:ks.length<=1000/\(ks.all fun k=>decide (0<=k/\k<=100000))=true
   ·have po:PoV C .sh F H (if ks.length<=1000/\(ks.all fun k=>decide (0<=k/\k<=100000))=true then .ok (.int ks.sum) else .bad) Q:=po
    rw [if_pos hk] at po
    have st:=Xh il rv e
    have hlt:a < s.heap.objs.size:=let ⟨o,ho,_⟩:=pl; Heap.lt_size ho
    have hn:its.length=ks.length:=st.length
    refine call_sum_walk (wpAny_pyIter_list (show s.heap.IsList a its.toArray from pl) ?_)
    refine ⟨s.heap.objs.size,_,_,_,_,_,fun i=>ks.getD i 0,rfl,Walks.list (A:=X.A.in1) (I.ok.hd hc) _ a (Nat.ne_of_lt hlt) its.toArray,⟨⟨_,Heap.get?_push_size _ rfl,rfl,rfl⟩,?_⟩,?_,fun i v ev=>?_,fun j hj=>?_,fun h' tk t' kp=>?_⟩
    ·obtain ⟨o,e,c⟩:=pl
     exact ⟨o,Heap.get?_push_of_some _ e,c⟩
    ·intro z hz'
     rw [Heap.size_push]
     simp only [List.mem_cons,List.not_mem_nil,or_false] at hz'
     rcases hz' with rfl | rfl
     ·exact Nat.lt_succ_self _
     ·exact Nat.lt_succ_of_lt hlt
    ·obtain ⟨y,t,e1,e2⟩:=st.item i v (by simpa using ev)
     exact ⟨t,by rw [e1]; show Value.int y t=Value.int (ks.getD i 0) t; rw [List.getD_eq_getElem?_getD,e2]; rfl⟩
    ·rw [List.size_toArray,hn] at hj
     have hall:=hk.2
     rw [List.all_eq_true] at hall
     have h1:=of_decide_eq_true (hall (ks.getD j 0) (by rw [List.getD_eq_getElem?_getD,List.getElem?_eq_getElem hj]; exact List.getElem_mem hj))
     have h2:=qaq (ks.take (j+1)) (List.all_eq_true.mpr fun k hk'=>hall k (List.mem_of_mem_take hk'))
     have h3:(ks.take (j+1)).length<=1000:=by rw [List.length_take]; omega
     have e3:=zK ks (j+1) hj
     refine ⟨⟨by show (-2 ^ 63:Int)<=ks.getD j 0; omega,by show ks.getD j 0 < (2 ^ 63:Int); omega⟩,?_⟩
     rw [e3]
     exact ⟨by omega,by omega⟩
    ·have I1:Inv X pins σ H { s with heap:=h',toks:=tk }:=I.kept (t':=tk) fun z o ez=>kp z o (fun q=>by
      rw [List.mem_singleton.mp q] at ez
      exact Nat.lt_irrefl _ (Heap.lt_size ez)) (Heap.get?_push_of_some _ ez)
     have e3:preSum (fun i=>ks.getD i 0) its.toArray.size=ks.sum:=by
      rw [List.size_toArray,hn,zK ks _ (Nat.le_refl _),List.take_length]
     exact ⟨.int ks.sum,H,I1,⟨t',by rw [e3]⟩,po _ F H sb .refl (.int _)⟩
   ·have po:PoV C .sh F H (if ks.length<=1000/\(ks.all fun k=>decide (0<=k/\k<=100000))=true then .ok (.int ks.sum) else .bad) Q:=po
    rw [if_neg hk] at po; exact po.elim
 | _=>exact po.elim
end
open PySem.SeqAt
open AutoSeq1 (wpAny_loadPart')
open MeetsSeq MeetsSeq2 MeetsSeq3
def RcLtAt (A:Around) (s:Shared) (y x:Value) (b:Bool):Prop:=
 ∀ (prog:Program) (w:World) (E:Value->Shared->Prop) (Q:Value->Shared->Prop),Q (.bool b) s->wpAny (model prog w) A (richCompare .Lt y x) Q E s
def LtL (A:Around) (s:Shared) (k b:Bool):List (Value×Value)->Prop
 | []=>b=k
 | (y,x)::t=>(EqAt A.in1 s y x true/\LtL A s k b t)\/(EqAt A.in1 s y x false/\RcLtAt A.in1 s y x b)
theorem Ux (l b:Addr) (items items2:Array Value) (n n2:Nat) (dd dd2:Option Addr) (sl sl2:Array (Option Value)) (c:Bool) :
  Meets (Builtin.«tuple.__lt__» ⟨[.ref l,.ref b],[]⟩)
   (fun A R s=>s.heap.get? l=some { cls:=.type "tuple",dict:=dd,data:=.seq items n,slots:=sl }/\s.heap.get? b=some { cls:=.type "tuple",dict:=dd2,data:=.seq items2 n2,slots:=sl2 } /\
    LtL A s (decide (items.size < items2.size)) c (items.toList.zip items2.toList)/\R (.ok (.ret (.bool c))) s):=
 .of_wp fun prog w A R s h=>by
  obtain ⟨hp,g,d,tk,os⟩:=s; obtain ⟨hl,hb,he,h⟩:=h
  have f2:=AutoSeq1.sub_tuple_tuple
  wp_walk using wpAny_loadPart' hl,wpAny_loadPart' hb,wpAny_forIn_list _ (fun rest b s'=>b.1=none/\s'=⟨hp,g,d,tk,os⟩/\LtL A ⟨hp,g,d,tk,os⟩ (decide (items.size < items2.size)) c rest) _
  case turn=>
   rintro ⟨y,x⟩ rest b s' ⟨hb',rfl,hz⟩
   rcases hz with ⟨e1,hz⟩ | ⟨e1,hz⟩
   ·refine wpAny_bind (e1 prog w _ _ ?_)
    wp_walk
    exact ⟨rfl,rfl,hz⟩
   ·refine wpAny_bind (e1 prog w _ _ ?_)
    refine wpAny_bind (wpAny_rule (wpAny_bind (hz prog w _ _ ?_)))
    wp_walk
    exact ⟨_,rfl,h⟩
  case fin=>
   rintro ⟨b1,b2⟩ s' ⟨hb',rfl,hz⟩
   simp only at hb'
   subst hb'
   have hz:c=_:=hz
   subst hz
   wp_walk
   exact ⟨_,rfl,by simpa [Builtin.Tuple.tupleCompareSizes] using h⟩
  case h=>
   exact ⟨rfl,rfl,he⟩
theorem RcLtAt.tuples {A:Around} {s:Shared} {l b:Addr} {items items2:Array Value} {c:Bool} (hl:s.heap.IsTuple l items) (hb:s.heap.IsTuple b items2) (hu:A.units < cLine)
  (he:LtL A s (decide (items.size < items2.size)) c (items.toList.zip items2.toList)):RcLtAt A s (.ref l) (.ref b) c:=fun prog w E Q h=>by
 obtain ⟨⟨cls,dd,data,sl⟩,ho,hc,n,hd⟩:=id hl
 obtain ⟨⟨cls2,dd2,data2,sl2⟩,ho2,hc2,n2,hd2⟩:=id hb
 simp only at hc hd hc2 hd2
 subst hc hd hc2 hd2
 exact richCompare_meets_room (op:=.Lt) ⟨_,ho,rfl⟩ ⟨_,ho2,rfl⟩ F.slot_tuple_lt F.entry_tuple_lt (F.args_tuple_lt_2 _ _) (Ux l b items items2 n n2 dd dd2 sl sl2 c)
  ⟨ho,ho2,he,show Value.bool c≠Value.notImplemented/\Q (.bool c) s from ⟨(fun x=>nomatch x),h⟩⟩ hu
end L2.D2
namespace L2.D2
open PySem PySem.Spec PyProof.Rows
open PySem.SeqAt
end L2.D2
namespace L2.D2
open PySem PySem.Spec PyProof.Rows
open AutoSeq1 (wpAny_loadPart')
end L2.D2
namespace L2.D2
open PySem PySem.Spec PyProof.Rows
section
variable {X:Cx} {C:Ct} {own:List Nat} {m ma mb:Mo} {a b e:Expr} {fa fb fe:Sl->Out (D×Sl)} {apos cpos px:Pos}
noncomputable def qfn (y:Str):Value->Bool
 | .str x _=>x.cps.toList == y.cps.toList
 | _=>false
theorem qar {y:Str}:∀ (ss:List Str) (its:List Value),Vals (ss.map V.str) its->y∈ss->∃ j,∃ hj:j < its.length,qfn y its[j]=true/\(∀ m (hm:m < its.length),m < j->qfn y its[m]=false)/\Vals ((ss.erase y).map V.str) (its.eraseIdx j)
 | x::ss,u::its,.cons r rs,hy=>by
  obtain ⟨t,rfl⟩:=(show ∃ t,u=Value.str x t from r)
  by_cases q:x=y
  ·subst q
   refine ⟨0,by simp,by simp [qfn],fun m hm h=>absurd h (Nat.not_lt_zero _),?_⟩
   rw [List.erase_cons_head]
   exact rs
  ·obtain ⟨j,hj,h1,h2,h3⟩:=qar ss its rs ((List.mem_cons.mp hy).resolve_left fun z=>q z.symm)
   refine ⟨j+1,by simp; omega,h1,fun m hm h=>?_,?_⟩
   ·cases m with
    | zero=>
     show (x.cps.toList == y.cps.toList)=false
     refine beq_eq_false_iff_ne.mpr fun z=>q ?_
     obtain ⟨x⟩:=x
     obtain ⟨y⟩:=y
     have z:x.toList=y.toList:=z
     rw [Array.toList_inj.mp z]
    | succ m=>exact h2 m (by simpa using hm) (by omega)
   ·rw [List.erase_cons_tail (by simpa using q)]
    exact .cons ⟨t,rfl⟩ h3
def qgh:V->List V->Hp->VK->Prop:=fun x vs H Q=>∃ (l:Addr) (ss:List Str) (y:Str),x=.ref l/\vs=[.str y]/\H l=some (.lst (ss.map V.str))/\y∈ss/\Q .non (upd H l (.lst ((ss.erase y).map V.str)))
theorem qdW:MtM X "list.remove" qgh:=by
 intro pins s σ H x vs v us Q I rx rv h
 obtain ⟨l,ss,y,rfl,rfl,hH,hy,q⟩:=h
 cases rx
 obtain ⟨u,rfl,ru⟩:=rv.one
 obtain ⟨t,rfl⟩:=ru
 obtain ⟨z,its,n,r,hl,e⟩:=I.lstM hH
 obtain ⟨j,hj,h1,h2,h3⟩:=qar ss its r hy
 refine call_meets PySem.F.slot_list_remove ⟨_,e,rfl⟩ PySem.F.entry_list_remove (PySem.F.args_list_remove_2 _ _)
  (MeetsSeq.list_remove l its.toArray n (.str y t) (qfn y) (fun w hw=>?_) j (by simpa using hj) (by simpa using h1) (fun m hm hlt=>by simpa using h2 m (by simpa using hm) hlt) (by rw [List.size_toArray]; omega)) ⟨e,?_⟩
 ·obtain ⟨i,hi,rfl⟩:=List.mem_iff_getElem.mp (show w∈its by simpa using hw)
  obtain ⟨x,ex,rx⟩:=Vals.getE r hi
  rw [List.getElem?_map] at ex
  obtain ⟨x',_,rfl⟩:=Option.map_eq_some_iff.mp ex
  obtain ⟨t',e'⟩:=(show ∃ t,its[i]=Value.str x' t from rx)
  rw [e']
  exact SeqRoads2.EqGives.str _ _ _ _
 ·refine ⟨.non,_,I.lset (its':=its.eraseIdx j) hH e ?_ h3 ?_,rfl,q⟩
  ·show its.toArray.eraseIdxIfInBounds j=(its.eraseIdx j).toArray
   rw [List.eraseIdxIfInBounds_toArray]
  ·have:=List.length_erase_le (a:=y) (l:=ss)
   rw [List.length_map] at z ⊢
   omega
noncomputable def qbZ (ds:List D) (d:D):Out (List D):=match yu ds,d with
 | some ss,.str y=>if y∈ss then .ok ((ss.erase y).map D.str) else .bad
 | _,_=>.bad
theorem qas {K:Frag} {F:Hp}:∀ {vs:List V} {ds:List D} {ss:List Str},IsL K F vs ds->yu ds=some ss->vs=ss.map V.str/\∀ x∈ss,x.length<=sizeLine
 | [],[],ss,.nil,e=>by cases e; exact ⟨rfl,fun x h=>by cases h⟩
 | v::vs,d::ds,ss,.cons i il,e=>by
  cases d with
  | str x=>
   have e:(yu ds).map (x::·)=some ss:=e
   obtain ⟨s2,e2,rfl⟩:=Option.map_eq_some_iff.mp e
   obtain ⟨h1,h2⟩:=qas il e2
   cases i
   refine ⟨by rw [h1]; rfl,fun y hy=>?_⟩
   rcases List.mem_cons.mp hy with rfl | hy
   ·assumption
   ·exact h2 y hy
  | _=>cases e
theorem Xl {i:Nat} {x:Str} {px apos cpos:Pos} (hN:X.N[i]?=some x) (hv:Vis X.env.scope x) (ho:i∈own) (he:PE X e (tE C own m fe)) (hm:m≠.any:=by decide)
  (hd:(x == ("__debug__":Str))=false:=by decide) (hcd:(x == ("__classdict__":Str))=false:=by decide)
  (hbase:attributeBase (.Name x px) "remove" X.env (eval (.Name x px) X.env)=eval (.Name x px) X.env:=by rfl)
  (hfew:((backTo cpos (starEach [e] X.env)).all (fun x=>!x.1)&&(backToKw cpos (keywordEach [] X.env)).all (fun x=>x.1.isSome)
   && decide ([e].length+([]:List Keyword).length+(if ([]:List Keyword).isEmpty then 0 else 1) < 30))=true:=by exact uq rfl)
  (hline:(apos.endLine == cpos.line)=true:=by rfl) (hs:starEach [e] X.env=[(false,eval e X.env)]:=by exact qQ rfl) :
  PE X (.Call (.Attribute (.Name x px) "remove" apos) [e] [] cpos) (tE C own .sh (zz i qbZ fe)):=by
 refine jJ (UW PySem.F.plainAttrs_list PySem.F.slot_list_remove PySem.F.type_list_remove qdW (uI hN hv hd hcd) (qW (yk he hm) jQ hs) hbase hfew hline hs rfl) fun σ H Q h=>?_
 have hR:∀ (a:Addr) (xs:List V) (ds ys:List D) (v:V) (d:D) (F H:Hp),Same F H->H a=some (.lst xs)->F a=none->IsL C.K F xs ds->Is C.K F v d->qbZ ds d=.ok ys->(∀ zs,IsL C.K F zs ys->Q .non (upd H a (.lst zs)))->qgh (.ref a) [v] H Q:=fun a xs ds ys v d F H sb ea ef ix iv eg k=>by
  unfold qbZ at eg
  split at eg
  ·rename_i ss y e1
   split at eg
   ·rename_i hy
    cases eg
    cases iv
    obtain ⟨hx,hl⟩:=qas ix e1
    subst hx
    exact ⟨a,ss,y,rfl,rfl,ea,hy,k _ (Qx fun z hz=>hl z (List.mem_of_mem_erase hz))⟩
   ·cases eg
  ·cases eg
 obtain ⟨a,xs,h1,h2,k⟩:=Wq (R:=fun x v H Q=>qgh x [v] H Q) ho hm hR h
 exact ⟨.ref a,h1,.inl ⟨rfl,xs,.inl (.inl h2)⟩,k⟩
theorem qdX {o e:Expr} {to:TE} {t:TA} {name:Str} {id:String} {r:V->List V->Hp->VK->Prop} (slot:Slot "tuple" name id) (hty:typeOf (.builtin id)=pure (.type "method_descriptor")) (hm:MtR X id r) (ho:PE X o to) (ha:PA X [e] t)
  (hbase:attributeBase o name X.env (eval o X.env)=eval o X.env)
  (hfew:((backTo cpos (starEach [e] X.env)).all (fun x=>!x.1)&&(backToKw cpos (keywordEach [] X.env)).all (fun x=>x.1.isSome)
   && decide ([e].length+([]:List Keyword).length+(if ([]:List Keyword).isEmpty then 0 else 1) < 30))=true)
  (hline:(apos.endLine == cpos.line)=true) (hs:starEach [e] X.env=[(false,eval e X.env)]) :
  PE X (.Call (.Attribute o name apos) [e] [] cpos) (fun σ H Q=>to σ H fun x H1=>(∃ p xs,x=.ref p/\SqT X.K H1 p xs)/\t σ H1 fun xs H2=>r x xs H2 Q):=by
 refine ⟨?_⟩
 intro pins s σ H Q I h
 refine wpAny_Call_method_late hbase hfew hline rfl (thn (ho pins s σ H _ I h) fun v s1 ⟨x,H1,I1,r1,ty,q1⟩=>?_)
 obtain ⟨p,xs,rfl,hq⟩:=ty
 cases r1
 obtain ⟨o',e1,e2⟩:=I1.tupleN hq
 obtain ⟨its,rv,⟨o2,e3,hc,_⟩,_⟩:=I1.tuple hq
 refine ⟨"tuple",id,PySem.F.plainAttrs_tuple,slot,hty,⟨o2,e3,hc⟩,fun a z=>by cases z; exact ⟨o',e1,e2⟩,?_⟩
 have hA:=ha cpos pins s1 σ H1 _ I1 q1
 rw [hs] at hA ⊢
 refine Calls.callWith_builtin rfl (Calls.evalArgs_plain ?_)
 exact thn hA fun us s2 ⟨vs,H2,I2,r2,q2⟩=>hm pins s2 σ H2 (.ref p) vs _ us Q I2 rfl r2 q2
noncomputable def qcP:D->Bool
 | .tup _=>true
 | _=>false
noncomputable def uM:D->D->Out D
 | .tup ds,e=>match gN 7 e ds with
  | some _=>.ok (.int ((ds.map fun d=>eqN 7 d e == some true).countP id:Nat))
  | none=>.bad
 | _,_=>.bad
theorem Xm (hK:C.K=X.K) (hu:X.A.units+64 < cLine):MtD X C .sh "tuple.count" uM:=by
 intro pins s σ H x vs v us Q I rx rv h
 obtain ⟨y,F,dx,dy,rfl,sb,tx,ty,po⟩:=h
 rw [hK] at tx ty
 obtain ⟨u,rfl,ru⟩:=rv.one
 unfold uM at po
 cases dx <;> try exact po.elim
 rename_i ds
 cases e:gN 7 dy ds with
 | none=>simp only [e] at po; exact po.elim
 | some b=>
  simp only [e] at po
  obtain ⟨F',g',sb',iy⟩:=ty.is sb
  obtain ⟨a,xs,rfl,p,il⟩:=tx.tup sb
  cases rx
  obtain ⟨its,r,pl,hz⟩:=I.tuple p
  obtain ⟨h1,h2⟩:=JL (A:=X.A) (y:=.non) (a:=a) (u:=.none) I hu sb' iy ru (il.mono g') r e
  have hh:=YZ I sb' (il.mono g') r e
  obtain ⟨⟨cls,dd,data,sl⟩,ho,hc,n,hdt⟩:=pl
  simp only at hc hdt
  subst hc hdt
  refine call_meets PySem.F.slot_tuple_count ⟨_,ho,rfl⟩ PySem.F.entry_tuple_count (PySem.F.args_tuple_count_2 _ _) (SeqAt.tuple_countAt a _ n dd sl u (UK X F' 7 dy)) ⟨ho,fun w hw=>h2 w hw,?_⟩
  refine ⟨.int ((ds.map fun d=>eqN 7 d dy == some true).countP id:Nat),H,I.tok _,⟨s.toks,?_⟩,po _ F H sb .refl (.int _)⟩
  rw [<-hh,List.countP_map]
  rfl
theorem Xn (hK:C.K=X.K) (hu:X.A.units+64 < cLine)
  (ha:PE X a (tE C own ma fa)) (hb:PE X b (tE C own mb fb)) (hma:ma≠.any:=by decide)
  (hbase:attributeBase a "count" X.env (eval a X.env)=eval a X.env:=by rfl)
  (hfew:((backTo cpos (starEach [b] X.env)).all (fun x=>!x.1)&&(backToKw cpos (keywordEach [] X.env)).all (fun x=>x.1.isSome)
   && decide ([b].length+([]:List Keyword).length+(if ([]:List Keyword).isEmpty then 0 else 1) < 30))=true:=by exact uq rfl)
  (hline:(apos.endLine == cpos.line)=true:=by rfl) (hs:starEach [b] X.env=[(false,eval b X.env)]:=by exact qQ rfl) :
  PE X (.Call (.Attribute a "count" apos) [b] [] cpos) (tE C own .sh (dM qcP uM fa fb)):=by
 refine jJ (qdX PySem.F.slot_tuple_count PySem.F.type_tuple_count (Xm hK hu) ha (qW hb jQ hs) hbase hfew hline hs) fun σ H Q h=>?_
 obtain ⟨F,ρ,rp,h⟩:=qbS (ma:=ma) (mb:=mb) hma h
 refine ⟨F,ρ,rp,Po.imp h fun x H1 h1=>?_⟩
 obtain ⟨⟨F1,dx,sb,tx,hk⟩,h2⟩:=h1
 refine ⟨?_,?_⟩
 ·cases dx <;> try (cases hk; done)
  obtain ⟨a,vs,rfl,hq,t⟩:=tx.tup sb
  exact ⟨a,vs,rfl,by rw [<-hK]; exact hq⟩
 ·obtain ⟨F2,ρ2,rp2,h2⟩:=h2
  exact ⟨F2,ρ2,rp2,Po.imp h2 fun y H2 q=>⟨y,q.choose,q.choose_spec.choose,q.choose_spec.choose_spec.choose,rfl,q.choose_spec.choose_spec.choose_spec⟩⟩
end
end L2.D2
namespace L2.D2
open PySem PySem.Spec PyProof.Rows PySem.W
theorem Kq:∀ l:List Int,zJ (l.map D.int)=some l
 | []=>rfl
 | x::l=>by
  show (zJ (l.map D.int)).map (x::·)=some (x::l)
  rw [Kq l]
  rfl
end L2.D2
namespace L2.D2
open PySem PySem.Spec PyProof.Rows
noncomputable def Xo:D->Out D
 | .dct kvs=>.ok (.dct kvs)
 | _=>.bad
theorem Gq {X:Cx} {C:Ct} (hK:C.K=X.K):Qn X C .fr (.type "dict") Xo:=by
 intro pins s σ H xs us Q I r h
 obtain ⟨x,F,dx,rfl,sb,tx,po⟩:=h
 cases dx <;> try exact po.elim
 rename_i ks
 have po:PoV C .fr F H (.ok (.dct ks)) Q:=po
 obtain ⟨a,kv,rfl,hq,ik⟩:=tx.dct sb
 obtain ⟨u,rfl,ru⟩:=uQ r
 cases ru
 obtain ⟨hz,hS,vs,rk,hd⟩:=(show ObjOk X.prog X.w H s.heap a (.dK kv) from I.hok a _ hq)
 have hl:=rk.length
 refine kt_call_dict hS hd (by omega) fun h' hd' sb'=>?_
 have kp:∀ b o,s.heap.get? b=some o->h'.get? b=some o:=fun b o e=>(sb'.2 b (Nat.ne_of_lt (Heap.lt_size e))).trans (Heap.get?_push_of_some _ e)
 have hp:H s.heap.objs.size=none:=I.hok.fresh (Nat.le_refl _)
 obtain ⟨s2,c2,hF⟩:=vD (u:=.dK kv) sb hp
 have hsys:(s.heap.objs.size == sysModules)=false:=beq_eq_false_iff_ne.mpr (Nat.ne_of_gt I.big)
 exact ⟨.ref s.heap.objs.size,_,I.laid (o:=.dK kv) (t':=s.toks) kp (Nat.le_refl _) (Yh hz hsys rk hd'),rfl,po _ F _ s2 c2 ⟨_,rfl,hp,hF,_,qp,ik⟩⟩
noncomputable def Gr {α:Type} (ds:List α) (lo hi:Option Int):List α:=(ds.drop (HT.sIx ds.length 0 lo)).take (HT.sIx ds.length ds.length hi - HT.sIx ds.length 0 lo)
noncomputable def qdY (lo hi:Option Int):D->Out D
 | .lst ds=>.ok (.lst (Gr ds lo hi))
 | _=>.bad
noncomputable def kX (fa:Sl->Out (D×Sl)) (l u:Option (Sl->Out (D×Sl))):Sl->Out (D×Sl):=fun ρ=>(fa ρ).bind fun p=>(uH l p.2).bind fun a=>(uH u a.2).bind fun b=>(qdY a.1 b.1 p.1).plain.bind fun d=>.ok (d,b.2)
section
variable {X:Cx} {C:Ct} {own:List Nat} {e:Expr} {fa:Sl->Out (D×Sl)} {ma:Mo} {pos p2:Pos}
theorem qgi (hK:C.K=X.K):SlR X (fun x lo hi H Q=>∃ F d,Same F H/\Is C.K F x d/\PoV C .sh F H (qdY lo hi d) Q):=by
 intro pins s σ H x v vl vu lo hi sl Q I rx hs pl pu h
 obtain ⟨F,d,sb,is,po⟩:=h
 cases d with
 | lst ds=>
  cases is with
  | @lst a xs _ hq t=>
   have po:PoV C .sh F H (.ok (.lst (Gr ds lo hi))) Q:=po
   refine qbh pins s σ H _ v vl vu lo hi sl Q I rx hs pl pu ⟨a,xs,rfl,by rw [<-hK]; exact sb.seq hq,fun p hp=>?_⟩
   obtain ⟨s2,c2⟩:=yO (u:=.lst (qbe xs lo hi)) sb hp
   have iv:IsL C.K F (qbe xs lo hi) (Gr ds lo hi):=by
    unfold qbe Gr
    rw [t.length]
    exact IsL.take _ (IsL.drop _ t)
   exact po _ _ _ s2 c2 (.lst (.inl (.inl qp)) (iv.mono c2.grow))
 | _=>exact po.elim
theorem Kr {lo hi:Option Expr} {l u:Option (Sl->Out (D×Sl))} (hK:C.K=X.K) (he:PE X e (tE C own ma fa)) (hl:PO X lo (tO C own (uH l))) (hu:PO X hi (tO C own (uH u))) (hma:ma≠.any:=by decide) :
  PE X (.Subscript e (.Slice lo hi none p2) pos) (tE C own .sh (kX fa l u)):=by
 refine jJ (ZG (qgi (C:=C) hK) (yk he hma) hl hu) fun σ H Q ⟨F,ρ,rp,h⟩=>⟨F,ρ,rp,Po.bind h fun v F1 H1 d ρ1 rp1 c1 mo1 h1=>?_⟩
 refine ⟨F1,ρ1,rp1,Po.bindO h1 fun F2 H2 a ρ2 rp2 c2 h2=>⟨F2,ρ2,rp2,Po.bindO h2 fun F3 H3 b ρ3 rp3 c3 h3=>?_⟩⟩
 exact ⟨F3,d,rp3.sub,(mo1.mono c2.grow).mono c3.grow,PoV.of rp3 h3⟩
end
theorem fsc {N P:List Str} {sc:Scope} (a:sc.kind=.function:=by rfl) (b:sc.isCoroutine=false:=by rfl) (c:sc.isGenerator=false:=by rfl) (d:N.Nodup:=by decide +kernel) (e:N.take P.length=P:=by rfl) (f:∀ x∈P,sc.names.lookup x=some .local\/sc.names.lookup x=some .cell:=by decide +kernel) (g:∀ y∈sc.names,y.2≠.free:=by decide +kernel):FnScope N P sc:=⟨a,b,c,d,e,f,g⟩
end L2.D2
set_option maxHeartbeats 4000000
namespace Kx
open PySem PySem.Spec PyProof.Rows L2 L2.D2
noncomputable def top (i:Nat):Stmt:=PySem.Challenge.pw_lookwords_k08_whole_named_otherwise.main.body.getD i (.Pass ⟨0,0,0,0⟩)
noncomputable def CS:List Str:=["NoWords", "NoLook", "NoNumbers", "NoRoom", "Never"]
noncomputable def FS:List Str:=[]
structure Zt (K:Frag) (mg:Str->Option Value) (cv:Str->Value) (ca:Str->Addr):Prop where
 xs:Xs K cv ca CS "WordError"
 mref:∀ c∈CS,mg c=some (.ref (ca c))
 xin:∀ c∈CS,PySem.W.excIn K (ca c) bmV "ValueError.__new__"=true
 fref:∀ x∈FS,mg x=some (.ref (ca x))
 z_all:mg "all"=none
 z_bool:mg "bool"=none
 z_dict:mg "dict"=none
 z_enumerate:mg "enumerate"=none
 z_int:mg "int"=none
 z_isinstance:mg "isinstance"=none
 z_len:mg "len"=none
 z_list:mg "list"=none
 z_max:mg "max"=none
 z_min:mg "min"=none
 z_range:mg "range"=none
 z_reversed:mg "reversed"=none
 z_set:mg "set"=none
 z_sorted:mg "sorted"=none
 z_str:mg "str"=none
 z_sum:mg "sum"=none
 z_tuple:mg "tuple"=none
 c_LEAST_PLACE:∃ t,mg "LEAST_PLACE"=some (.int (-3) t)
 c_MOST_LETTERS:∃ t,mg "MOST_LETTERS"=some (.int 6 t)
 c_MOST_PLACE:∃ t,mg "MOST_PLACE"=some (.int 2 t)
 c_MOST_ROOM:∃ t,mg "MOST_ROOM"=some (.int 99 t)
 c_MOST_WORDS:∃ t,mg "MOST_WORDS"=some (.int 6 t)
theorem gU:bootBuiltins "all"=some (.builtin "all"):=by decide +kernel
theorem qb0:bootBuiltins "bool"=some (.type "bool"):=by decide +kernel
theorem Xp:bootBuiltins "dict"=some (.type "dict"):=by decide +kernel
theorem qdZ:bootBuiltins "int"=some (.type "int"):=by decide +kernel
theorem jx:bootBuiltins "isinstance"=some (.builtin "isinstance"):=by decide +kernel
theorem jI:bootBuiltins "len"=some (.builtin "len"):=by decide +kernel
theorem Vp:bootBuiltins "list"=some (.type "list"):=by decide +kernel
theorem qd0:bootBuiltins "max"=some (.builtin "max"):=by decide +kernel
theorem qd1:bootBuiltins "min"=some (.builtin "min"):=by decide +kernel
theorem Gs:bootBuiltins "range"=some (.type "range"):=by decide +kernel
theorem Vq:bootBuiltins "reversed"=some (.type "reversed"):=by decide +kernel
theorem qat:bootBuiltins "set"=some (.type "set"):=by decide +kernel
theorem Xq:bootBuiltins "sorted"=some (.builtin "sorted"):=by decide +kernel
theorem qau:bootBuiltins "str"=some (.type "str"):=by decide +kernel
theorem Xr:bootBuiltins "sum"=some (.builtin "sum"):=by decide +kernel
theorem vh:bootBuiltins "tuple"=some (.type "tuple"):=by decide +kernel
instance {α:Type}:Inhabited (Out α):=⟨.bad⟩
section
variable {P:Program} {w:World} {K:Frag} {mg:Str->Option Value} {base:Heap} {cv:Str->Value} {ca:Str->Addr}
abbrev vX:Stmt:=top 14
abbrev zN:List Str:=["thing"]
theorem Ks:FnScope zN ["thing"] (qe vX):=fsc
noncomputable def kY:Sl->Out (Fl×Sl):=(jH (Ve (d1 (gz "str") (qd 0)) (Ve (d2 eqD (d1 ki (qd 0)) (dC (.int 1))) (ym leD leD (dC (.str "a")) (qd 0) (dC (.str "z"))))))
noncomputable abbrev vY:List D->Out (D×List D):=ku zN [.val] (kY)
abbrev xy P w K mg base cv:=DefOk P w K mg base cv 1 "is_letter" ["thing"] [.val] .sh (vY)
theorem Kt (Z:Zt K mg cv ca) (T:ja K mg "is_letter" vX ["thing"]):xy P w K mg base cv:=
 qG (k:=0) (own':=[]) (fb:=kY) T Ks fun cdv f A outer s H E hr=>(ql (qm (Wf (zA rfl rfl Z.z_isinstance jx rfl Z.z_str qau (vr 0)) (Wf (kQ (yM rfl hr.units) (qD (jM rfl) rfl Z.z_len jI (vr 0)) qr) (We (Wh JO JO wF (vr 0) wF))))))
abbrev vM:Stmt:=top 15
abbrev zO:List Str:=["thing"]
theorem Uy:FnScope zO ["thing"] (qe vM):=fsc
noncomputable def zQ:Sl->Out (Fl×Sl):=(qS (sIf (dOr (gy (uK (d1 (gz "str") (qd 0)))) (gy (qT (ym leD leD (dC (.int 1)) (d1 ki (qd 0)) (dC (.int 6)))))) (jH (dC (.bl false))) jm)
  (jH (d1 Ul (qN [] 1 [] (jr (qd 0)) (gNm 0) ftT (qt [.vl] vY (qc (qd 0) qC))))))
noncomputable abbrev yw:List D->Out (D×List D):=ku zO [.val] (zQ)
abbrev gW P w K mg base cv:=DefOk P w K mg base cv 2 "is_word" ["thing"] [.val] .sh (yw)
theorem Uz (Z:Zt K mg cv ca) (T:ja K mg "is_word" vM ["thing"]) (ok_is_letter:xy P w K mg base cv):gW P w K mg base cv:=
 qG (k:=1) (own':=[]) (fb:=zQ) T Uy fun cdv f A outer s H E hr=>(qg (qY (PW.pt (xo (jK (jj rfl (zA rfl rfl Z.z_isinstance jx rfl Z.z_str qau (vr 0)) (fun _=>rfl))) (kR (jK (JM JO JO qr (qD (jM rfl) rfl Z.z_len jI (vr 0)) (yr Z.c_MOST_LETTERS rfl)))))) (ql (qm wz)) qJ)
  (ql (qm (qD (gQ rfl rfl) rfl Z.z_all gU (jn (N:=["sign"]) (nt:=1) (cap:=[]) rfl (kE (names:=(qe vM).names) rfl (by decide +kernel)) (jB (names:=(qe vM).names) (N:=zO) rfl rfl (by decide +kernel)) (qK rfl (vr 0)) (fun fp L s1 H1=>(qu (i:=0) (show List.Nodup (["sign"]:List Str) from by decide +kernel) rfl (Or.inl rfl))) (fun fp L s1 H1=>qR) (fun fp L s1 H1=>(qh ok_is_letter hr (by decide) xL rfl (qb (vr 0) qf))))))))
abbrev kL:Stmt:=top 16
abbrev yS:List Str:=["thing"]
theorem Vr:FnScope yS ["thing"] (qe kL):=fsc
noncomputable def yT:Sl->Out (Fl×Sl):=(qS (sIf (dOr (gy (uK (d1 (gz "tuple") (qd 0)))) (gy (qT (ym leD leD (dC (.int 1)) (d1 ki (qd 0)) (dC (.int 6)))))) (jH (dC (.bl false))) jm)
  (jH (Ve (d1 Ul (qN [] 1 [] (jr (qd 0)) (gNm 0) ftT (qt [.vl] yw (qc (qd 0) qC)))) (d2 eqD (d1 Qw (qd 0)) (d1 ki (qd 0))))))
noncomputable abbrev yU:List D->Out (D×List D):=ku yS [.val] (yT)
abbrev zR P w K mg base cv:=DefOk P w K mg base cv 3 "is_words" ["thing"] [.val] .sh (yU)
theorem Vs (Z:Zt K mg cv ca) (T:ja K mg "is_words" kL ["thing"]) (ok_is_word:gW P w K mg base cv):zR P w K mg base cv:=
 qG (k:=2) (own':=[]) (fb:=yT) T Vr fun cdv f A outer s H E hr=>(qg (qY (PW.pt (xo (jK (jj rfl (zA rfl rfl Z.z_isinstance jx rfl Z.z_tuple vh (vr 0)) (fun _=>rfl))) (kR (jK (JM JO JO qr (qD (jM rfl) rfl Z.z_len jI (vr 0)) (yr Z.c_MOST_WORDS rfl)))))) (ql (qm wz)) qJ)
  (ql (qm (Wf (qD (gQ rfl rfl) rfl Z.z_all gU (jn (N:=["part"]) (nt:=1) (cap:=[]) rfl (kE (names:=(qe kL).names) rfl (by decide +kernel)) (jB (names:=(qe kL).names) (N:=yS) rfl rfl (by decide +kernel)) (qK rfl (vr 0)) (fun fp L s1 H1=>(qu (i:=0) (show List.Nodup (["part"]:List Str) from by decide +kernel) rfl (Or.inl rfl))) (fun fp L s1 H1=>qR) (fun fp L s1 H1=>(qh ok_is_word hr (by decide) xL rfl (qb (vr 0) qf))))) (We (kQ (yM rfl hr.units) (YY rfl rfl rfl Z.z_len jI rfl Z.z_set qat (vr 0)) (qD (jM rfl) rfl Z.z_len jI (vr 0))))))))
abbrev kH:Stmt:=top 19
abbrev yx:List Str:=["thing"]
theorem gH:FnScope yx ["thing"] (qe kH):=fsc
noncomputable def vZ:Sl->Out (Fl×Sl):=(sIf (gy (uK (qt [.vl] yU (qc (qd 0) qC)))) (uV "NoWords" (qc (dC (.str "words are a tuple of 1 to 6 unlike words of 1 to 6 letters from a to z")) qC)) jm)
noncomputable abbrev wa:List D->Out (D×List D):=ku yx [.val] (vZ)
abbrev uN P w K mg base cv:=DefOk P w K mg base cv 4 "check_words" ["thing"] [.val] .sh (wa)
theorem gI (Z:Zt K mg cv ca) (T:ja K mg "check_words" kH ["thing"]) (ok_is_words:zR P w K mg base cv):uN P w K mg base cv:=
 qG (k:=3) (own':=[]) (fb:=vZ) T gH fun cdv f A outer s H E hr=>(ql (qY (jK (jj rfl (qh ok_is_words hr (by decide) qI rfl (qb (vr 0) qf)) (fun _=>rfl))) (ql (wJ rfl (Kb rfl) rfl rfl (Z.mref "NoWords" (by decide +kernel)) (Z.xs.val "NoWords" (by decide +kernel)) (Z.xin "NoWords" (by decide +kernel)) (qb wF qf))) qJ))
abbrev vi:Stmt:=top 13
abbrev xz:List Str:=["thing", "least", "most"]
theorem QA:FnScope xz ["thing", "least", "most"] (qe vi):=fsc
noncomputable def vj:Sl->Out (Fl×Sl):=(qS (sIf (dOr (gy (uK (d1 (gz "int") (qd 0)))) (uK (d1 (gz "bool") (qd 0)))) (jH (dC (.bl false))) jm)
  (jH (ym leD leD (qd 1) (qd 0) (qd 2))))
noncomputable abbrev jC:List D->Out (D×List D):=ku xz [.val,.val,.val] (vj)
abbrev kI P w K mg base cv:=DefOk P w K mg base cv 1 "is_between" ["thing", "least", "most"] [.val,.val,.val] .sh (jC)
theorem QB (Z:Zt K mg cv ca) (T:ja K mg "is_between" vi ["thing", "least", "most"]):kI P w K mg base cv:=
 qG (k:=0) (own':=[]) (fb:=vj) T QA fun cdv f A outer s H E hr=>(qg (qY (PW.pt (xo (jK (jj rfl (zA rfl rfl Z.z_isinstance jx rfl Z.z_int qdZ (vr 0)) (fun _=>rfl))) (kR (jj rfl (zA rfl rfl Z.z_isinstance jx rfl Z.z_bool qb0 (vr 0)) (fun _=>rfl))))) (ql (qm wz)) qJ)
  (ql (qm (Wh JO JO (vr 1) (vr 0) (vr 2)))))
abbrev vN:Stmt:=top 17
abbrev zS:List Str:=["thing"]
theorem UA:FnScope zS ["thing"] (qe vN):=fsc
noncomputable def zT:Sl->Out (Fl×Sl):=(qS (sIf (dOr (gy (uK (d1 (gz "tuple") (qd 0)))) (qT (d2 neD (d1 ki (qd 0)) (dC (.int 2))))) (jH (dC (.bl false))) jm)
  (jH (d1 Ul (qN [] 1 [] (jr (qd 0)) (gNm 0) ftT (qt [.vl,.vl,.vl] jC (qc (qd 0) (qc (dC (.int (-3))) (qc (dC (.int 2)) qC))))))))
noncomputable abbrev zU:List D->Out (D×List D):=ku zS [.val] (zT)
abbrev gX P w K mg base cv:=DefOk P w K mg base cv 2 "is_look" ["thing"] [.val] .sh (zU)
theorem UB (Z:Zt K mg cv ca) (T:ja K mg "is_look" vN ["thing"]) (ok_is_between:kI P w K mg base cv):gX P w K mg base cv:=
 qG (k:=1) (own':=[]) (fb:=zT) T UA fun cdv f A outer s H E hr=>(qg (qY (PW.pt (xo (jK (jj rfl (zA rfl rfl Z.z_isinstance jx rfl Z.z_tuple vh (vr 0)) (fun _=>rfl))) (kR (qM (zv rfl hr.units) (qD (jM rfl) rfl Z.z_len jI (vr 0)) qr)))) (ql (qm wz)) qJ)
  (ql (qm (qD (gQ rfl rfl) rfl Z.z_all gU (jn (N:=["place"]) (nt:=1) (cap:=[]) rfl (kE (names:=(qe vN).names) rfl (by decide +kernel)) (jB (names:=(qe vN).names) (N:=zS) rfl rfl (by decide +kernel)) (qK rfl (vr 0)) (fun fp L s1 H1=>(qu (i:=0) (show List.Nodup (["place"]:List Str) from by decide +kernel) rfl (Or.inl rfl))) (fun fp L s1 H1=>qR) (fun fp L s1 H1=>(qh ok_is_between hr (by decide) xL rfl (qb (vr 0) (qb (yr Z.c_LEAST_PLACE rfl) (qb (yr Z.c_MOST_PLACE rfl) qf))))))))))
abbrev vm:Stmt:=top 20
abbrev xA:List Str:=["thing"]
theorem QC:FnScope xA ["thing"] (qe vm):=fsc
noncomputable def wN:Sl->Out (Fl×Sl):=(sIf (gy (uK (qt [.vl] zU (qc (qd 0) qC)))) (uV "NoLook" (qc (dC (.str "a look is a tuple of two places from -3 to 2")) qC)) jm)
noncomputable abbrev wO:List D->Out (D×List D):=ku xA [.val] (wN)
abbrev yy P w K mg base cv:=DefOk P w K mg base cv 3 "check_look" ["thing"] [.val] .sh (wO)
theorem QD (Z:Zt K mg cv ca) (T:ja K mg "check_look" vm ["thing"]) (ok_is_look:gX P w K mg base cv):yy P w K mg base cv:=
 qG (k:=2) (own':=[]) (fb:=wN) T QC fun cdv f A outer s H E hr=>(ql (qY (jK (jj rfl (qh ok_is_look hr (by decide) qI rfl (qb (vr 0) qf)) (fun _=>rfl))) (ql (wJ rfl (Kb rfl) rfl rfl (Z.mref "NoLook" (by decide +kernel)) (Z.xs.val "NoLook" (by decide +kernel)) (Z.xin "NoLook" (by decide +kernel)) (qb wF qf))) qJ))
abbrev wb:Stmt:=top 24
abbrev zV:List Str:=["word", "place", "at"]
theorem sc_letter_at:FnScope zV ["word", "place"] (qe wb):=fsc
noncomputable def wc:Sl->Out (Fl×Sl):=(qS (jL 2 (dIf (qT (d2 geD (qd 1) (dC (.int 0)))) (qd 1) (d2 kz (d1 ki (qd 0)) (qd 1))))
  (jH (d2 ixD (qd 0) (d2 qfa (dC (.int 0)) (d2 qfb (qd 2) (d2 Jr (d1 ki (qd 0)) (dC (.int 1))))))))
noncomputable abbrev kZ:List D->Out (D×List D):=ku zV [.val,.val] (wc)
abbrev xB P w K mg base cv:=DefOk P w K mg base cv 1 "letter_at" ["word", "place"] [.val,.val] .sh (kZ)
theorem Ku (Z:Zt K mg cv ca) (T:ja K mg "letter_at" wb ["word", "place"]):xB P w K mg base cv:=
 qG (k:=0) (own':=[]) (fb:=wc) T sc_letter_at fun cdv f A outer s H E hr=>(qg (qE (i:=2) sc_letter_at.nd rfl (Or.inl rfl) (qbq (qM qfV (vr 1) qr) (vr 1) (jb (jR rfl) (qD (jM rfl) rfl Z.z_len jI (vr 0)) (vr 1))))
  (ql (qm (jw rfl hr.units (vr 0) (JY (qdG rfl) rfl Z.z_max qd0 qr (JY (qdH rfl) rfl Z.z_min qd1 (vr 2) (jb xn (qD (jM rfl) rfl Z.z_len jI (vr 0)) qr))) (fun _ _=>rfl)))))
abbrev yV:Stmt:=top 25
abbrev Vt:List Str:=["words", "look"]
theorem Gu:FnScope Vt ["words", "look"] (qe yV):=fsc
noncomputable def Vu:Sl->Out (Fl×Sl):=(qS (vC (qt [.vl] wa (qc (qd 0) qC)))
  (qS (vC (qt [.vl] wO (qc (qd 1) qC)))
  (jH (qN [] 1 [1] (jr (qd 0)) (gNm 0) ftT (yL (qc (qt [.vl,.vl] kZ (qc (qd 0) (qc (d2 ixD (qd 1) (dC (.int 0))) qC))) (qc (qt [.vl,.vl] kZ (qc (qd 0) (qc (d2 ixD (qd 1) (dC (.int 1))) qC))) qC)))))))
noncomputable abbrev kA:List D->Out (D×List D):=ku Vt [.val,.val] (Vu)
abbrev yz P w K mg base cv:=DefOk P w K mg base cv 5 "pairs" ["words", "look"] [.val,.val] .sh (kA)
theorem Gv (Z:Zt K mg cv ca) (T:ja K mg "pairs" yV ["words", "look"]) (ok_check_words:uN P w K mg base cv) (ok_check_look:yy P w K mg base cv) (ok_letter_at:xB P w K mg base cv):yz P w K mg base cv:=
 qG (k:=4) (own':=[]) (fb:=Vu) T Gu fun cdv f A outer s H E hr=>(qg (jO (qh ok_check_words hr (by decide) qI rfl (qb (vr 0) qf)))
  (qg (jO (qh ok_check_look hr (by decide) qI rfl (qb (vr 1) qf)))
  (ql (qm (jn (N:=["word", "look"]) (nt:=1) (cap:=[1]) rfl (kE (names:=(qe yV).names) rfl (by decide +kernel)) (jB (names:=(qe yV).names) (N:=Vt) rfl rfl (by decide +kernel)) (qK rfl (vr 0)) (fun fp L s1 H1=>(qu (i:=0) (show List.Nodup (["word", "look"]:List Str) from by decide +kernel) rfl (Or.inl rfl))) (fun fp L s1 H1=>qR) (fun fp L s1 H1=>(vd (qb (qh ok_letter_at hr (by decide) xL rfl (qb (vr 0) (qb (jw rfl hr.units (vr 1) qr (fun _ _=>rfl)) qf))) (qb (qh ok_letter_at hr (by decide) xL rfl (qb (vr 0) (qb (jw rfl hr.units (vr 1) qr (fun _ _=>rfl)) qf))) qf)))))))))
abbrev vn:Stmt:=top 21
abbrev xC:List Str:=["thing"]
theorem QE:FnScope xC ["thing"] (qe vn):=fsc
noncomputable def wP:Sl->Out (Fl×Sl):=(sIf (gy (uK (qt [.vl,.vl,.vl] jC (qc (qd 0) (qc (dC (.int 1)) (qc (dC (.int 99)) qC)))))) (uV "NoRoom" (qc (dC (.str "a room is a whole number from 1 to 99")) qC)) jm)
noncomputable abbrev wQ:List D->Out (D×List D):=ku xC [.val] (wP)
abbrev yA P w K mg base cv:=DefOk P w K mg base cv 2 "check_room" ["thing"] [.val] .sh (wQ)
theorem QF (Z:Zt K mg cv ca) (T:ja K mg "check_room" vn ["thing"]) (ok_is_between:kI P w K mg base cv):yA P w K mg base cv:=
 qG (k:=1) (own':=[]) (fb:=wP) T QE fun cdv f A outer s H E hr=>(ql (qY (jK (jj rfl (qh ok_is_between hr (by decide) qI rfl (qb (vr 0) (qb qr (qb (yr Z.c_MOST_ROOM rfl) qf)))) (fun _=>rfl))) (ql (wJ rfl (Kb rfl) rfl rfl (Z.mref "NoRoom" (by decide +kernel)) (Z.xs.val "NoRoom" (by decide +kernel)) (Z.xin "NoRoom" (by decide +kernel)) (qb wF qf))) qJ))
abbrev jW:Stmt:=top 18
abbrev wR:List Str:=["thing", "count", "room"]
theorem QG:FnScope wR ["thing", "count", "room"] (qe jW):=fsc
noncomputable def wS:Sl->Out (Fl×Sl):=(qS (sIf (dOr (gy (uK (d1 (gz "tuple") (qd 0)))) (qT (d2 neD (d1 ki (qd 0)) (qd 1)))) (jH (dC (.bl false))) jm)
  (jH (d1 Ul (qN [] 1 [2] (jr (qd 0)) (gNm 0) ftT (qt [.vl,.vl,.vl] jC (qc (qd 0) (qc (dC (.int 0)) (qc (d2 Jr (qd 1) (dC (.int 1))) qC))))))))
noncomputable abbrev wT:List D->Out (D×List D):=ku wR [.val,.val,.val] (wS)
abbrev yB P w K mg base cv:=DefOk P w K mg base cv 2 "is_numbers" ["thing", "count", "room"] [.val,.val,.val] .sh (wT)
theorem QH (Z:Zt K mg cv ca) (T:ja K mg "is_numbers" jW ["thing", "count", "room"]) (ok_is_between:kI P w K mg base cv):yB P w K mg base cv:=
 qG (k:=1) (own':=[]) (fb:=wS) T QG fun cdv f A outer s H E hr=>(qg (qY (PW.pt (xo (jK (jj rfl (zA rfl rfl Z.z_isinstance jx rfl Z.z_tuple vh (vr 0)) (fun _=>rfl))) (kR (qM (zv rfl hr.units) (qD (jM rfl) rfl Z.z_len jI (vr 0)) (vr 1))))) (ql (qm wz)) qJ)
  (ql (qm (qD (gQ rfl rfl) rfl Z.z_all gU (jn (N:=["number", "room"]) (nt:=1) (cap:=[2]) rfl (kE (names:=(qe jW).names) rfl (by decide +kernel)) (jB (names:=(qe jW).names) (N:=wR) rfl rfl (by decide +kernel)) (qK rfl (vr 0)) (fun fp L s1 H1=>(qu (i:=0) (show List.Nodup (["number", "room"]:List Str) from by decide +kernel) rfl (Or.inl rfl))) (fun fp L s1 H1=>qR) (fun fp L s1 H1=>(qh ok_is_between hr (by decide) xL rfl (qb (vr 0) (qb qr (qb (jb xn (vr 1) qr) qf))))))))))
abbrev kf:Stmt:=top 22
abbrev wU:List Str:=["thing", "count", "room"]
theorem xR:FnScope wU ["thing", "count", "room"] (qe kf):=fsc
noncomputable def va:Sl->Out (Fl×Sl):=(sIf (gy (uK (qt [.vl,.vl,.vl] wT (qc (qd 0) (qc (qd 1) (qc (qd 2) qC)))))) (uV "NoNumbers" (qc (dC (.str "numbers are a tuple of a number within the room for each word")) qC)) jm)
noncomputable abbrev vb:List D->Out (D×List D):=ku wU [.val,.val,.val] (va)
abbrev wx P w K mg base cv:=DefOk P w K mg base cv 3 "check_numbers" ["thing", "count", "room"] [.val,.val,.val] .sh (vb)
theorem xS (Z:Zt K mg cv ca) (T:ja K mg "check_numbers" kf ["thing", "count", "room"]) (ok_is_numbers:yB P w K mg base cv):wx P w K mg base cv:=
 qG (k:=2) (own':=[]) (fb:=va) T xR fun cdv f A outer s H E hr=>(ql (qY (jK (jj rfl (qh ok_is_numbers hr (by decide) qI rfl (qb (vr 0) (qb (vr 1) (qb (vr 2) qf)))) (fun _=>rfl))) (ql (wJ rfl (Kb rfl) rfl rfl (Z.mref "NoNumbers" (by decide +kernel)) (Z.xs.val "NoNumbers" (by decide +kernel)) (Z.xin "NoNumbers" (by decide +kernel)) (qb wF qf))) qJ))
abbrev vo:Stmt:=top 28
abbrev xD:List Str:=["words", "look", "room", "numbers", "seen"]
theorem sc_told_pairs:FnScope xD ["words", "look", "room", "numbers"] (qe vo):=fsc
noncomputable def wV:Sl->Out (Fl×Sl):=(qS (jL 4 (qt [.vl,.vl] kA (qc (qd 0) (qc (qd 1) qC))))
  (qS (vC (qt [.vl] wQ (qc (qd 2) qC)))
  (qS (vC (qt [.vl,.vl,.vl] vb (qc (qd 3) (qc (d1 ki (qd 0)) (qc (qd 2) qC)))))
  (jH (qd 4)))))
noncomputable abbrev wW:List D->Out (D×List D):=ku xD [.val,.val,.val,.val] (wV)
abbrev yC P w K mg base cv:=DefOk P w K mg base cv 6 "told_pairs" ["words", "look", "room", "numbers"] [.val,.val,.val,.val] .sh (wW)
theorem QI (Z:Zt K mg cv ca) (T:ja K mg "told_pairs" vo ["words", "look", "room", "numbers"]) (ok_check_room:yA P w K mg base cv) (ok_check_numbers:wx P w K mg base cv) (ok_pairs:yz P w K mg base cv):yC P w K mg base cv:=
 qG (k:=5) (own':=[]) (fb:=wV) T sc_told_pairs fun cdv f A outer s H E hr=>(qg (qE (i:=4) sc_told_pairs.nd rfl (Or.inl rfl) (qh ok_pairs hr (by decide) qI rfl (qb (vr 0) (qb (vr 1) qf))))
  (qg (jO (qh ok_check_room hr (by decide) qI rfl (qb (vr 2) qf)))
  (qg (jO (qh ok_check_numbers hr (by decide) qI rfl (qb (vr 3) (qb (qD (jM rfl) rfl Z.z_len jI (vr 0)) (qb (vr 2) qf)))))
  (ql (qm (vr 4))))))
abbrev zg:Stmt:=top 31
abbrev WA:List Str:=["walk"]
theorem Xu:FnScope WA ["walk"] (qe zg):=fsc
noncomputable def zh:Sl->Out (Fl×Sl):=(jH (d2 eqD (d2 gB (d1 ki (qd 0)) (dC (.int 2))) (dC (.int 1))))
noncomputable abbrev we:List D->Out (D×List D):=ku WA [.val] (zh)
abbrev yD P w K mg base cv:=DefOk P w K mg base cv 1 "is_odd" ["walk"] [.val] .sh (we)
theorem Xv (Z:Zt K mg cv ca) (T:ja K mg "is_odd" zg ["walk"]):yD P w K mg base cv:=
 qG (k:=0) (own':=[]) (fb:=zh) T Xu fun cdv f A outer s H E hr=>(ql (qm (kQ (yM rfl hr.units) (jb uJ (qD (jM rfl) rfl Z.z_len jI (vr 0)) qr) qr)))
abbrev uy:Stmt:=top 30
abbrev yW:List Str:=["walk", "numbers", "start", "total", "at"]
theorem sc_comes_to:FnScope yW ["walk", "numbers", "start"] (qe uy):=fsc
noncomputable def yX:Sl->Out (Fl×Sl):=(qS (jL 3 (qd 2))
  (qS (gD (jr (qd 0)) (gNm 4)
  (jL 3 (d2 Jr (d2 ixD (qd 1) (qd 4)) (qd 3))))
  (jH (qd 3))))
noncomputable abbrev yY:List D->Out (D×List D):=ku yW [.val,.val,.val] (yX)
abbrev zW P w K mg base cv:=DefOk P w K mg base cv 1 "comes_to" ["walk", "numbers", "start"] [.val,.val,.val] .sh (yY)
theorem Vv (Z:Zt K mg cv ca) (T:ja K mg "comes_to" uy ["walk", "numbers", "start"]):zW P w K mg base cv:=
 qG (k:=0) (own':=[]) (fb:=yX) T sc_comes_to fun cdv f A outer s H E hr=>(qg (qE (i:=3) sc_comes_to.nd rfl (Or.inl rfl) (vr 2))
  (qg (kc PassesOwn.leaving rfl (qK rfl (vr 0)) (qu (i:=4) sc_comes_to.nd rfl (Or.inl rfl))
  (ql (qE (i:=3) sc_comes_to.nd rfl (Or.inl rfl) (jb xn (jw rfl hr.units (vr 1) (vr 4) (fun _ _=>rfl)) (vr 3)))))
  (ql (qm (vr 3)))))
abbrev WB:Stmt:=top 32
abbrev qav:List Str:=["walk", "room", "numbers", "total"]
theorem sc_bars:FnScope qav ["walk", "room", "numbers"] (qe WB):=fsc
noncomputable def WC:Sl->Out (Fl×Sl):=(qS (jL 3 (qt [.vl,.vl,.vl] yY (qc (qd 0) (qc (qd 2) (qc (dC (.int 0)) qC)))))
  (qS (sIf (uK (qt [.vl] we (qc (qd 0) qC))) (jH (Ve (d2 eqD (d2 gB (qd 1) (dC (.int 2))) (dC (.int 0))) (d2 eqD (d2 gB (qd 3) (dC (.int 2))) (dC (.int 1))))) jm)
  (jH (d2 neD (d2 gB (qd 3) (qd 1)) (dC (.int 0))))))
noncomputable abbrev WD:List D->Out (D×List D):=ku qav [.val,.val,.val] (WC)
abbrev Xw P w K mg base cv:=DefOk P w K mg base cv 2 "bars" ["walk", "room", "numbers"] [.val,.val,.val] .sh (WD)
theorem qb1 (Z:Zt K mg cv ca) (T:ja K mg "bars" WB ["walk", "room", "numbers"]) (ok_comes_to:zW P w K mg base cv) (ok_is_odd:yD P w K mg base cv):Xw P w K mg base cv:=
 qG (k:=1) (own':=[]) (fb:=WC) T sc_bars fun cdv f A outer s H E hr=>(qg (qE (i:=3) sc_bars.nd rfl (Or.inl rfl) (qh ok_comes_to hr (by decide) qI rfl (qb (vr 0) (qb (vr 2) (qb qr qf)))))
  (qg (qY (jj rfl (qh ok_is_odd hr (by decide) qI rfl (qb (vr 0) qf)) (fun _=>rfl)) (ql (qm (Wf (kQ (yM rfl hr.units) (jb uJ (vr 1) qr) qr) (We (kQ (yM rfl hr.units) (jb uJ (vr 3) qr) qr))))) qJ)
  (ql (qm (kQ (zv rfl hr.units) (jb uJ (vr 3) (vr 1)) qr)))))
abbrev ju:Stmt:=top 26
abbrev vp:List Str:=["seen"]
theorem QJ:FnScope vp ["seen"] (qe ju):=fsc
noncomputable def wX:Sl->Out (Fl×Sl):=(jH (d1 zd (d2 kz (qN [] 1 [] (jr (qd 0)) (gNm 0) ftT (d2 ixD (qd 0) (dC (.int 0)))) (qN [] 1 [] (jr (qd 0)) (gNm 0) ftT (d2 ixD (qd 0) (dC (.int 1)))))))
noncomputable abbrev jD:List D->Out (D×List D):=ku vp [.val] (wX)
abbrev wf P w K mg base cv:=DefOk P w K mg base cv 1 "letters_of" ["seen"] [.val] .sh (jD)
theorem QK (Z:Zt K mg cv ca) (T:ja K mg "letters_of" ju ["seen"]):wf P w K mg base cv:=
 qG (k:=0) (own':=[]) (fb:=wX) T QJ fun cdv f A outer s H E hr=>(ql (qm (Ur rfl rfl rfl Z.z_sorted Xq rfl Z.z_set qat (jb (jR rfl) (jn (N:=["pair"]) (nt:=1) (cap:=[]) rfl (kE (names:=(qe ju).names) rfl (by decide +kernel)) (jB (names:=(qe ju).names) (N:=vp) rfl rfl (by decide +kernel)) (qK rfl (vr 0)) (fun fp L s1 H1=>(qu (i:=0) (show List.Nodup (["pair"]:List Str) from by decide +kernel) rfl (Or.inl rfl))) (fun fp L s1 H1=>qR) (fun fp L s1 H1=>(jw rfl hr.units (vr 0) qr (fun _ _=>rfl)))) (jn (N:=["pair"]) (nt:=1) (cap:=[]) rfl (kE (names:=(qe ju).names) rfl (by decide +kernel)) (jB (names:=(qe ju).names) (N:=vp) rfl rfl (by decide +kernel)) (qK rfl (vr 0)) (fun fp L s1 H1=>(qu (i:=0) (show List.Nodup (["pair"]:List Str) from by decide +kernel) rfl (Or.inl rfl))) (fun fp L s1 H1=>qR) (fun fp L s1 H1=>(jw rfl hr.units (vr 0) qr (fun _ _=>rfl))))))))
abbrev kq:Stmt:=top 29
abbrev uO:List Str:=["pair", "letter"]
theorem zX:FnScope uO ["pair", "letter"] (qe kq):=fsc
noncomputable def vF:Sl->Out (Fl×Sl):=(jH (dIf (qT (d2 eqD (qd 1) (d2 ixD (qd 0) (dC (.int 0))))) (d2 ixD (qd 0) (dC (.int 1))) (d2 ixD (qd 0) (dC (.int 0)))))
noncomputable abbrev kr:List D->Out (D×List D):=ku uO [.val,.val] (vF)
abbrev wY P w K mg base cv:=DefOk P w K mg base cv 1 "other_letter" ["pair", "letter"] [.val,.val] .sh (kr)
theorem zY (Z:Zt K mg cv ca) (T:ja K mg "other_letter" kq ["pair", "letter"]):wY P w K mg base cv:=
 qG (k:=0) (own':=[]) (fb:=vF) T zX fun cdv f A outer s H E hr=>(ql (qm (qbq (qM (yM rfl hr.units) (vr 1) (jw rfl hr.units (vr 0) qr (fun _ _=>rfl))) (jw rfl hr.units (vr 0) qr (fun _ _=>rfl)) (jw rfl hr.units (vr 0) qr (fun _ _=>rfl)))))
abbrev zi:Stmt:=top 33
abbrev QL:List Str:=["seen", "root", "ways", "waiting", "letter", "at", "pair", "reached"]
theorem sc_spread:FnScope QL ["seen", "root", "ways"] (qe zi):=fsc
noncomputable def QM:Sl->Out (Fl×Sl):=(qS (zL 2 (yL (qc (qd 1) (qc (gC qC) qC))) (qd 1))
  (qS (jL 3 (gC (qc (qd 1) qC)))
  (jk (qT (d2 gtD (d1 ki (qd 3)) (dC (.int 0))))
  (qS (jL 4 (Xi 3))
  (gD (gG (qd 0)) (jG 2 (qy (gNm 5) (qy (gNm 6) jF)))
  (qS (jL 7 (qt [.vl,.vl] kr (qc (qd 6) (qc (qd 4) qC))))
  (sIf (qaj (qT (d2 inA (qd 4) (qd 6))) (qT (d2 xN (qd 7) (qd 2)))) (qS (zL 2 (yL (qc (qd 1) (qc (d2 kz (d2 ixD (d2O 2 ixD (qd 4)) (dC (.int 1))) (gC (qc (qd 5) qC))) qC))) (qd 7))
  (vC (zz 3 Ju (qd 7)))) jm)))) 20)))
noncomputable abbrev zj:List D->Out (D×List D):=ku QL [.val,.val,.io] (QM)
abbrev Kv P w K mg base cv:=DefOk P w K mg base cv 2 "spread" ["seen", "root", "ways"] [.val,.val,.io] .sh (zj)
theorem Xx (Z:Zt K mg cv ca) (T:ja K mg "spread" zi ["seen", "root", "ways"]) (ok_other_letter:wY P w K mg base cv):Kv P w K mg base cv:=
 qG (k:=1) (own':=[3,2]) (fb:=QM) T sc_spread fun cdv f A outer s H E hr=>(qg (zf (n:=2) hr.units rfl (Or.inl rfl) (by decide) (vd (qb (vr 1) (qb (kS qf) qf))) (vr 1))
  (qg (kn (i:=3) sc_spread.nd rfl (Or.inl rfl) (kS (qb (vr 1) qf)))
  (ql (zw 20 PassesOwn.leaving (qM qfU (qD (jM rfl) rfl Z.z_len jI (vT (i:=3) rfl (Or.inl rfl) (by decide))) qr)
  (qg (qE (i:=4) sc_spread.nd rfl (Or.inl rfl) (qbY (i:=3) rfl (Or.inl rfl) (by decide)))
  (ql (kc PassesOwn.leaving rfl (ze rfl rfl Z.z_enumerate (vr 0)) (wH rfl rfl (qU (qu (i:=5) sc_spread.nd rfl (Or.inl rfl)) (qU (qu (i:=6) sc_spread.nd rfl (Or.inl rfl)) vf)))
  (qg (qE (i:=7) sc_spread.nd rfl (Or.inl rfl) (qh ok_other_letter hr (by decide) qI rfl (qb (vr 6) (qb (vr 4) qf))))
  (ql (qY (PW.pt (Vd (qM (YI rfl hr.units) (vr 4) (vr 6)) (kR (qM (vL rfl hr.units) (vr 7) (vT (i:=2) rfl (Or.inl rfl) (by decide)))))) (qg (zf (n:=2) hr.units rfl (Or.inl rfl) (by decide) (vd (qb (vr 1) (qb (jb (jR rfl) (jw rfl hr.units (qdV (i:=2) rfl hr.units rfl (Or.inl rfl) (by decide) (vr 4) (fun _ _=>rfl)) qr (fun _ _=>rfl)) (kS (qb (vr 5) qf))) qf))) (vr 7))
  (ql (jO (wK (i:=3) rfl rfl (Or.inl rfl) (by decide) (vr 7))))) qJ))))))))))
abbrev yE:Stmt:=top 34
abbrev zZ:List Str:=["seen", "ways", "letter"]
theorem sc_ways_of:FnScope zZ ["seen"] (qe yE):=fsc
noncomputable def ga:Sl->Out (Fl×Sl):=(qS (jL 1 (dC (.dct [])))
  (qS (gD (jr (qt [.vl] jD (qc (qd 0) qC))) (gNm 2)
  (sIf (qT (d2 xN (qd 2) (qd 1))) (vC (qt [.vl,.vl,.sl 1] zj (qc (qd 0) (qc (qd 2) (kC qC))))) jm))
  (jH (qd 1))))
noncomputable abbrev yF:List D->Out (D×List D):=ku zZ [.val] (ga)
abbrev gY P w K mg base cv:=DefOk P w K mg base cv 3 "ways_of" ["seen"] [.val] .sh (yF)
theorem UC (Z:Zt K mg cv ca) (T:ja K mg "ways_of" yE ["seen"]) (ok_letters_of:wf P w K mg base cv) (ok_spread:Kv P w K mg base cv):gY P w K mg base cv:=
 qG (k:=2) (own':=[]) (fb:=ga) T sc_ways_of fun cdv f A outer s H E hr=>(qg (kn (i:=1) sc_ways_of.nd rfl (Or.inl rfl) Qm)
  (qg (kc PassesOwn.leaving rfl (qK rfl (qh ok_letters_of hr (by decide) qI rfl (qb (vr 0) qf))) (qu (i:=2) sc_ways_of.nd rfl (Or.inl rfl))
  (ql (qY (qM (vL rfl hr.units) (vr 2) (vT (i:=1) rfl (Or.inl rfl) (by decide))) (ql (jO (qh ok_spread hr (by decide) qI rfl (qb (vr 0) (qb (vr 2) (jl (i:=1) rfl (Or.inl rfl) (by decide) qf)))))) qJ)))
  (kB [1] (ql (qm (vr 1))))))
abbrev vt:Stmt:=top 35
abbrev wZ:List Str:=["seen", "ways", "found", "at", "pair", "back"]
theorem sc_circles_of:FnScope wZ ["seen", "ways"] (qe vt):=fsc
noncomputable def ua:Sl->Out (Fl×Sl):=(qS (jL 2 (gC qC))
  (qS (gD (gG (qd 0)) (jG 2 (qy (gNm 3) (qy (gNm 4) jF)))
  (qS (jL 5 (d1 yv (d2 ixD (d2 ixD (qd 1) (d2 ixD (qd 4) (dC (.int 1)))) (dC (.int 1)))))
  (vC (zz 2 Ju (yL (qc (d2 ixD (d2 ixD (qd 1) (d2 ixD (qd 4) (dC (.int 0)))) (dC (.int 0))) (qc (d2 kz (d2 kz (d2 ixD (d2 ixD (qd 1) (d2 ixD (qd 4) (dC (.int 0)))) (dC (.int 1))) (gC (qc (qd 3) qC))) (qd 5)) qC)))))))
  (jH (qd 2))))
noncomputable abbrev ub:List D->Out (D×List D):=ku wZ [.val,.val] (ua)
abbrev yG P w K mg base cv:=DefOk P w K mg base cv 1 "circles_of" ["seen", "ways"] [.val,.val] .sh (ub)
theorem QN (Z:Zt K mg cv ca) (T:ja K mg "circles_of" vt ["seen", "ways"]):yG P w K mg base cv:=
 qG (k:=0) (own':=[]) (fb:=ua) T sc_circles_of fun cdv f A outer s H E hr=>(qg (kn (i:=2) sc_circles_of.nd rfl (Or.inl rfl) (kS qf))
  (qg (kc PassesOwn.leaving rfl (ze rfl rfl Z.z_enumerate (vr 0)) (wH rfl rfl (qU (qu (i:=3) sc_circles_of.nd rfl (Or.inl rfl)) (qU (qu (i:=4) sc_circles_of.nd rfl (Or.inl rfl)) vf)))
  (qg (qE (i:=5) sc_circles_of.nd rfl (Or.inl rfl) (Uv rfl rfl rfl Z.z_list Vp rfl Z.z_reversed Vq (jw rfl hr.units (jw rfl hr.units (vr 1) (jw rfl hr.units (vr 4) qr (fun _ _=>rfl)) (fun _ _=>rfl)) qr (fun _ _=>rfl))))
  (ql (jO (wK (i:=2) rfl rfl (Or.inl rfl) (by decide) (vd (qb (jw rfl hr.units (jw rfl hr.units (vr 1) (jw rfl hr.units (vr 4) qr (fun _ _=>rfl)) (fun _ _=>rfl)) qr (fun _ _=>rfl)) (qb (jb (jR rfl) (jb (jR rfl) (jw rfl hr.units (jw rfl hr.units (vr 1) (jw rfl hr.units (vr 4) qr (fun _ _=>rfl)) (fun _ _=>rfl)) qr (fun _ _=>rfl)) (kS (qb (vr 3) qf))) (vr 5)) qf))))))))
  (kB [2] (ql (qm (vr 2))))))
abbrev wg:Stmt:=top 36
abbrev uX:List Str:=["circles", "first", "root", "walk"]
theorem sc_first_odd:FnScope uX ["circles"] (qe wg):=fsc
noncomputable def uY:Sl->Out (Fl×Sl):=(qS (jL 1 (dC (.dct [])))
  (qS (gD (jr (qd 0)) (jG 2 (qy (gNm 2) (qy (gNm 3) jF)))
  (sIf (qaj (uK (qt [.vl] we (qc (qd 3) qC))) (qT (d2 xN (qd 2) (qd 1)))) (zL 1 (qd 3) (qd 2)) jm))
  (jH (qd 1))))
noncomputable abbrev uZ:List D->Out (D×List D):=ku uX [.val] (uY)
abbrev xE P w K mg base cv:=DefOk P w K mg base cv 2 "first_odd" ["circles"] [.val] .sh (uZ)
theorem Kw (Z:Zt K mg cv ca) (T:ja K mg "first_odd" wg ["circles"]) (ok_is_odd:yD P w K mg base cv):xE P w K mg base cv:=
 qG (k:=1) (own':=[]) (fb:=uY) T sc_first_odd fun cdv f A outer s H E hr=>(qg (kn (i:=1) sc_first_odd.nd rfl (Or.inl rfl) Qm)
  (qg (kc PassesOwn.leaving rfl (qK rfl (vr 0)) (wH rfl rfl (qU (qu (i:=2) sc_first_odd.nd rfl (Or.inl rfl)) (qU (qu (i:=3) sc_first_odd.nd rfl (Or.inl rfl)) vf)))
  (ql (qY (PW.pt (Vd (jj rfl (qh ok_is_odd hr (by decide) qI rfl (qb (vr 3) qf)) (fun _=>rfl)) (kR (qM (vL rfl hr.units) (vr 2) (vT (i:=1) rfl (Or.inl rfl) (by decide)))))) (ql (zf (n:=1) hr.units rfl (Or.inl rfl) (by decide) (vr 3) (vr 2))) qJ)))
  (kB [1] (ql (qm (vr 1))))))
abbrev uz:Stmt:=top 37
abbrev zk:List Str:=["seen", "room", "numbers", "circles", "first", "joined", "root", "walk"]
theorem sc_bar_of:FnScope zk ["seen", "room", "numbers"] (qe uz):=fsc
noncomputable def QO:Sl->Out (Fl×Sl):=(qS (jL 3 (qt [.vl,.vl] ub (qc (qd 0) (qc (qt [.vl] yF (qc (qd 0) qC)) qC))))
  (qS (jL 4 (qt [.vl] uZ (qc (qd 3) qC)))
  (qS (jL 5 (qN [] 2 [4] (jr (qd 3)) (jG 2 (qy (gNm 0) (qy (gNm 1) jF))) (uK (qt [.vl] we (qc (qd 1) qC))) (yL (qc (qd 0) (qc (d2 kz (d2 ixD (qd 2) (qd 0)) (qd 1)) qC)))))
  (qS (gD (jr (d2 kz (qd 3) (qd 5))) (jG 2 (qy (gNm 6) (qy (gNm 7) jF)))
  (sIf (uK (qt [.vl,.vl,.vl] WD (qc (qd 7) (qc (qd 1) (qc (qd 2) qC))))) (jH (yL (qc (qd 6) (qc (qd 7) qC)))) jm))
  (jH (dC .non))))))
noncomputable abbrev QP:List D->Out (D×List D):=ku zk [.val,.val,.val] (QO)
abbrev Ky P w K mg base cv:=DefOk P w K mg base cv 4 "bar_of" ["seen", "room", "numbers"] [.val,.val,.val] .sh (QP)
theorem Xy (Z:Zt K mg cv ca) (T:ja K mg "bar_of" uz ["seen", "room", "numbers"]) (ok_is_odd:yD P w K mg base cv) (ok_bars:Xw P w K mg base cv) (ok_ways_of:gY P w K mg base cv) (ok_circles_of:yG P w K mg base cv) (ok_first_odd:xE P w K mg base cv):Ky P w K mg base cv:=
 qG (k:=3) (own':=[]) (fb:=QO) T sc_bar_of fun cdv f A outer s H E hr=>(qg (qE (i:=3) sc_bar_of.nd rfl (Or.inl rfl) (qh ok_circles_of hr (by decide) qI rfl (qb (vr 0) (qb (qh ok_ways_of hr (by decide) qI rfl (qb (vr 0) qf)) qf))))
  (qg (qE (i:=4) sc_bar_of.nd rfl (Or.inr rfl) (qh ok_first_odd hr (by decide) qI rfl (qb (vr 3) qf)))
  (qg (zb (N:=["root", "walk", "first"]) (nt:=2) (cap:=[4]) sc_bar_of.nd (i:=5) rfl (Or.inl rfl) rfl (kE (names:=(qe uz).names) rfl (by decide +kernel)) (jB (names:=(qe uz).names) (N:=zk) rfl rfl (by decide +kernel)) (qK rfl (vr 3)) (fun fp L s1 H1=>(wH rfl rfl (qU (qu (i:=0) (show List.Nodup (["root", "walk", "first"]:List Str) from by decide +kernel) rfl (Or.inl rfl)) (qU (qu (i:=1) (show List.Nodup (["root", "walk", "first"]:List Str) from by decide +kernel) rfl (Or.inl rfl)) vf)))) (fun fp L s1 H1=>(Qr (jj rfl (qh ok_is_odd hr (by decide) xL rfl (qb (vr 1) qf)) (fun _=>rfl)))) (fun fp L s1 H1=>(vd (qb (vr 0) (qb (jb (jR rfl) (jw rfl hr.units (vr 2) (vr 0) (fun _ _=>rfl)) (vr 1)) qf)))))
  (qg (kc PassesOwn.leaving rfl (qK rfl (jb (jR rfl) (vr 3) (vT (i:=5) rfl (Or.inl rfl) (by decide)))) (wH rfl rfl (qU (qu (i:=6) sc_bar_of.nd rfl (Or.inl rfl)) (qU (qu (i:=7) sc_bar_of.nd rfl (Or.inl rfl)) vf)))
  (ql (qY (jj rfl (qh ok_bars hr (by decide) qI rfl (qb (vr 7) (qb (vr 1) (qb (vr 2) qf)))) (fun _=>rfl)) (ql (qm (vd (qb (vr 6) (qb (vr 7) qf))))) qJ)))
  (ql (qm yl))))))
abbrev Gw:Stmt:=top 38
abbrev qd2:List Str:=["words", "look", "room", "numbers"]
theorem qd3:FnScope qd2 ["words", "look", "room", "numbers"] (qe Gw):=fsc
noncomputable def qb2:Sl->Out (Fl×Sl):=(jH (qt [.vl,.vl,.vl] QP (qc (qt [.vl,.vl,.vl,.vl] wW (qc (qd 0) (qc (qd 1) (qc (qd 2) (qc (qd 3) qC))))) (qc (qd 2) (qc (qd 3) qC)))))
noncomputable abbrev Vw:List D->Out (D×List D):=ku qd2 [.val,.val,.val,.val] (qb2)
abbrev qaw P w K mg base cv:=DefOk P w K mg base cv 7 "bar" ["words", "look", "room", "numbers"] [.val,.val,.val,.val] .sh (Vw)
theorem qd4 (Z:Zt K mg cv ca) (T:ja K mg "bar" Gw ["words", "look", "room", "numbers"]) (ok_told_pairs:yC P w K mg base cv) (ok_bar_of:Ky P w K mg base cv):qaw P w K mg base cv:=
 qG (k:=6) (own':=[]) (fb:=qb2) T qd3 fun cdv f A outer s H E hr=>(ql (qm (qh ok_bar_of hr (by decide) qI rfl (qb (qh ok_told_pairs hr (by decide) qI rfl (qb (vr 0) (qb (vr 1) (qb (vr 2) (qb (vr 3) qf))))) (qb (vr 2) (qb (vr 3) qf))))))
abbrev wj:Stmt:=top 40
abbrev gb:List Str:=["one", "two"]
theorem Kz:FnScope gb ["one", "two"] (qe wj):=fsc
noncomputable def wk:Sl->Out (Fl×Sl):=(jH (qe8 (d2 eqD (qd 0) (qd 1)) (d2 eqD (qd 0) (yL (qc (d2 ixD (qd 1) (dC (.int 1))) (qc (d2 ixD (qd 1) (dC (.int 0))) qC))))))
noncomputable abbrev wl:List D->Out (D×List D):=ku gb [.val,.val] (wk)
abbrev xF P w K mg base cv:=DefOk P w K mg base cv 1 "are_alike" ["one", "two"] [.val,.val] .sh (wl)
theorem KA (Z:Zt K mg cv ca) (T:ja K mg "are_alike" wj ["one", "two"]):xF P w K mg base cv:=
 qG (k:=0) (own':=[]) (fb:=wk) T Kz fun cdv f A outer s H E hr=>(ql (qm (qfT (kQ (yM rfl hr.units) (vr 0) (vr 1)) (We (kQ (yM rfl hr.units) (vr 0) (vd (qb (jw rfl hr.units (vr 1) qr (fun _ _=>rfl)) (qb (jw rfl hr.units (vr 1) qr (fun _ _=>rfl)) qf))))))))
abbrev uA:Stmt:=top 41
abbrev gZ:List Str:=["seen", "later", "pair", "ahead"]
theorem sc_clash_of:FnScope gZ ["seen"] (qe uA):=fsc
noncomputable def yZ:Sl->Out (Fl×Sl):=(qS (gD (gG (qd 0)) (jG 2 (qy (gNm 1) (qy (gNm 2) jF)))
  (gD (kb (qd 1)) (gNm 3)
  (sIf (uK (qt [.vl,.vl] wl (qc (d2 ixD (qd 0) (qd 3)) (qc (qd 2) qC)))) (jH (yL (qc (qd 3) (qc (qd 1) qC)))) jm)))
  (jH (dC .non)))
noncomputable abbrev kM:List D->Out (D×List D):=ku gZ [.val] (yZ)
abbrev ya P w K mg base cv:=DefOk P w K mg base cv 2 "clash_of" ["seen"] [.val] .sh (kM)
theorem Vx (Z:Zt K mg cv ca) (T:ja K mg "clash_of" uA ["seen"]) (ok_are_alike:xF P w K mg base cv):ya P w K mg base cv:=
 qG (k:=1) (own':=[]) (fb:=yZ) T sc_clash_of fun cdv f A outer s H E hr=>(qg (kc PassesOwn.leaving rfl (ze rfl rfl Z.z_enumerate (vr 0)) (wH rfl rfl (qU (qu (i:=1) sc_clash_of.nd rfl (Or.inl rfl)) (qU (qu (i:=2) sc_clash_of.nd rfl (Or.inl rfl)) vf)))
  (ql (kc PassesOwn.leaving rfl (uu rfl Z.z_range (vr 1)) (qu (i:=3) sc_clash_of.nd rfl (Or.inl rfl))
  (ql (qY (jj rfl (qh ok_are_alike hr (by decide) qI rfl (qb (jw rfl hr.units (vr 0) (vr 3) (fun _ _=>rfl)) (qb (vr 2) qf))) (fun _=>rfl)) (ql (qm (vd (qb (vr 3) (qb (vr 1) qf))))) qJ)))))
  (ql (qm yl)))
abbrev QQ:Stmt:=top 42
abbrev Xz:List Str:=["words", "look"]
theorem Gx:FnScope Xz ["words", "look"] (qe QQ):=fsc
noncomputable def Vy:Sl->Out (Fl×Sl):=(jH (qt [.vl] kM (qc (qt [.vl,.vl] kA (qc (qd 0) (qc (qd 1) qC))) qC)))
noncomputable abbrev gc:List D->Out (D×List D):=ku Xz [.val,.val] (Vy)
abbrev WE P w K mg base cv:=DefOk P w K mg base cv 6 "clash" ["words", "look"] [.val,.val] .sh (gc)
theorem Gy (Z:Zt K mg cv ca) (T:ja K mg "clash" QQ ["words", "look"]) (ok_pairs:yz P w K mg base cv) (ok_clash_of:ya P w K mg base cv):WE P w K mg base cv:=
 qG (k:=5) (own':=[]) (fb:=Vy) T Gx fun cdv f A outer s H E hr=>(ql (qm (qh ok_clash_of hr (by decide) qI rfl (qb (qh ok_pairs hr (by decide) qI rfl (qb (vr 0) (qb (vr 1) qf))) qf))))
abbrev kN:Stmt:=top 43
abbrev xa:List Str:=["pair", "seen", "fixed", "letter"]
theorem sc_is_loose:FnScope xa ["pair", "seen", "fixed"] (qe kN):=fsc
noncomputable def xb:Sl->Out (Fl×Sl):=(qS (gD (jr (qd 0)) (gNm 3)
  (sIf (qaj (qT (d2 xN (qd 3) (qd 2))) (qT (d2 eqD (d1 Qz (qN [] 1 [3] (jr (qd 1)) (gNm 0) ftT (dM qcP uM (qd 0) (qd 1)))) (dC (.int 1))))) (jH (dC (.bl true))) jm))
  (jH (dC (.bl false))))
noncomputable abbrev jX:List D->Out (D×List D):=ku xa [.val,.val,.val] (xb)
abbrev ge P w K mg base cv:=DefOk P w K mg base cv 1 "is_loose" ["pair", "seen", "fixed"] [.val,.val,.val] .sh (jX)
theorem Vz (Z:Zt K mg cv ca) (T:ja K mg "is_loose" kN ["pair", "seen", "fixed"]):ge P w K mg base cv:=
 qG (k:=0) (own':=[]) (fb:=xb) T sc_is_loose fun cdv f A outer s H E hr=>(qg (kc PassesOwn.leaving rfl (qK rfl (vr 0)) (qu (i:=3) sc_is_loose.nd rfl (Or.inr rfl))
  (ql (qY (PW.pt (Vd (qM (vL rfl hr.units) (vr 3) (vr 2)) (kR (qM (yM rfl hr.units) (qD (Vo rfl rfl) rfl Z.z_sum Xr (jn (N:=["other", "letter"]) (nt:=1) (cap:=[3]) rfl (kE (names:=(qe kN).names) rfl (by decide +kernel)) (jB (names:=(qe kN).names) (N:=xa) rfl rfl (by decide +kernel)) (qK rfl (vr 1)) (fun fp L s1 H1=>(qu (i:=0) (show List.Nodup (["other", "letter"]:List Str) from by decide +kernel) rfl (Or.inl rfl))) (fun fp L s1 H1=>qR) (fun fp L s1 H1=>(Xn rfl hr.units (vr 0) (vr 1))))) qr)))) (ql (qm wz)) qJ)))
  (ql (qm wz)))
abbrev jf:Stmt:=top 44
abbrev kg:List Str:=["seen", "fixed", "kept", "rest"]
theorem sc_bound_pairs:FnScope kg ["seen", "fixed"] (qe jf):=fsc
noncomputable def wm:Sl->Out (Fl×Sl):=(qS (jL 2 (qd 0))
  (qS (jL 3 (qN [] 1 [2,1] (jr (qd 2)) (gNm 0) (gy (uK (qt [.vl,.vl,.vl] jX (qc (qd 0) (qc (qd 1) (qc (qd 2) qC)))))) (qd 0)))
  (qS (jk (qT (d2 ltD (d1 ki (qd 3)) (d1 ki (qd 2))))
  (qS (jL 2 (qd 3))
  (qS (jL 3 (qN [] 1 [2,1] (jr (qd 2)) (gNm 0) (gy (uK (qt [.vl,.vl,.vl] jX (qc (qd 0) (qc (qd 1) (qc (qd 2) qC)))))) (qd 0))) jm)) 20)
  (jH (qd 2)))))
noncomputable abbrev wn:List D->Out (D×List D):=ku kg [.val,.val] (wm)
abbrev uP P w K mg base cv:=DefOk P w K mg base cv 2 "bound_pairs" ["seen", "fixed"] [.val,.val] .sh (wn)
theorem gJ (Z:Zt K mg cv ca) (T:ja K mg "bound_pairs" jf ["seen", "fixed"]) (ok_is_loose:ge P w K mg base cv):uP P w K mg base cv:=
 qG (k:=1) (own':=[]) (fb:=wm) T sc_bound_pairs fun cdv f A outer s H E hr=>(qg (qE (i:=2) sc_bound_pairs.nd rfl (Or.inr rfl) (vr 0))
  (qg (zb (N:=["pair", "kept", "fixed"]) (nt:=1) (cap:=[2,1]) sc_bound_pairs.nd (i:=3) rfl (Or.inl rfl) rfl (kE (names:=(qe jf).names) rfl (by decide +kernel)) (jB (names:=(qe jf).names) (N:=kg) rfl rfl (by decide +kernel)) (qK rfl (vr 2)) (fun fp L s1 H1=>(qu (i:=0) (show List.Nodup (["pair", "kept", "fixed"]:List Str) from by decide +kernel) rfl (Or.inl rfl))) (fun fp L s1 H1=>(Qr (jK (jj rfl (qh ok_is_loose hr (by decide) xL rfl (qb (vr 0) (qb (vr 1) (qb (vr 2) qf)))) (fun _=>rfl))))) (fun fp L s1 H1=>(vr 0)))
  (kB [3] (qg (zw 20 PassesOwn.leaving (qM qbn (qD (jM rfl) rfl Z.z_len jI (vr 3)) (qD (jM rfl) rfl Z.z_len jI (vr 2)))
  (qg (qE (i:=2) sc_bound_pairs.nd rfl (Or.inr rfl) (vr 3))
  (qg (zb (N:=["pair", "kept", "fixed"]) (nt:=1) (cap:=[2,1]) sc_bound_pairs.nd (i:=3) rfl (Or.inl rfl) rfl (kE (names:=(qe jf).names) rfl (by decide +kernel)) (jB (names:=(qe jf).names) (N:=kg) rfl rfl (by decide +kernel)) (qK rfl (vr 2)) (fun fp L s1 H1=>(qu (i:=0) (show List.Nodup (["pair", "kept", "fixed"]:List Str) from by decide +kernel) rfl (Or.inl rfl))) (fun fp L s1 H1=>(Qr (jK (jj rfl (qh ok_is_loose hr (by decide) xL rfl (qb (vr 0) (qb (vr 1) (qb (vr 2) qf)))) (fun _=>rfl))))) (fun fp L s1 H1=>(vr 0)))
  (kB [3] qJ))))
  (ql (qm (vr 2)))))))
abbrev uB:Stmt:=top 45
abbrev xc:List Str:=["one", "two", "first", "second", "letter"]
theorem sc_unshared:FnScope xc ["one", "two"] (qe uB):=fsc
noncomputable def xf:Sl->Out (Fl×Sl):=(qS (jL 2 (d1 qbG (qd 0)))
  (qS (jL 3 (gC qC))
  (qS (gD (jr (qd 1)) (gNm 4)
  (sIf (qT (d2 inA (qd 4) (qd 2))) (vC (zz 2 qbZ (qd 4))) (vC (zz 3 Ju (qd 4)))))
  (jH (yL (qc (qd 2) (qc (qd 3) qC)))))))
noncomputable abbrev km:List D->Out (D×List D):=ku xc [.val,.val] (xf)
abbrev gf P w K mg base cv:=DefOk P w K mg base cv 1 "unshared" ["one", "two"] [.val,.val] .sh (km)
theorem VA (Z:Zt K mg cv ca) (T:ja K mg "unshared" uB ["one", "two"]):gf P w K mg base cv:=
 qG (k:=0) (own':=[]) (fb:=xf) T sc_unshared fun cdv f A outer s H E hr=>(qg (kn (i:=2) sc_unshared.nd rfl (Or.inl rfl) (kt (qbH rfl) rfl Z.z_list Vp (vr 0)))
  (qg (kn (i:=3) sc_unshared.nd rfl (Or.inl rfl) (kS qf))
  (qg (kc PassesOwn.leaving rfl (qK rfl (vr 1)) (qu (i:=4) sc_unshared.nd rfl (Or.inl rfl))
  (ql (qY (qM (YI rfl hr.units) (vr 4) (vT (i:=2) rfl (Or.inl rfl) (by decide))) (ql (jO (Xl (i:=2) rfl (Or.inl rfl) (by decide) (vr 4)))) (ql (jO (wK (i:=3) rfl rfl (Or.inl rfl) (by decide) (vr 4)))))))
  (kB [2,3] (ql (qm (vd (qb (vr 2) (qb (vr 3) qf)))))))))
abbrev jA:Stmt:=top 46
abbrev vG:List Str:=["seen", "found", "later", "pair"]
theorem sc_contrasts_of:FnScope vG ["seen"] (qe jA):=fsc
noncomputable def vH:Sl->Out (Fl×Sl):=(qS (jL 1 (gC qC))
  (qS (gD (gG (qd 0)) (jG 2 (qy (gNm 2) (qy (gNm 3) jF)))
  (vC (zz 1 qdF (qN [1] 1 [3] (jr (kX (qd 0) none (some (qd 2)))) (gNm 0) ftT (qt [.vl,.vl] km (qc (qd 0) (qc (qd 1) qC)))))))
  (jH (qd 1))))
noncomputable abbrev vI:List D->Out (D×List D):=ku vG [.val] (vH)
abbrev uc P w K mg base cv:=DefOk P w K mg base cv 2 "contrasts_of" ["seen"] [.val] .sh (vI)
theorem gh (Z:Zt K mg cv ca) (T:ja K mg "contrasts_of" jA ["seen"]) (ok_unshared:gf P w K mg base cv):uc P w K mg base cv:=
 qG (k:=1) (own':=[]) (fb:=vH) T sc_contrasts_of fun cdv f A outer s H E hr=>(qg (kn (i:=1) sc_contrasts_of.nd rfl (Or.inl rfl) (kS qf))
  (qg (kc PassesOwn.leaving rfl (ze rfl rfl Z.z_enumerate (vr 0)) (wH rfl rfl (qU (qu (i:=2) sc_contrasts_of.nd rfl (Or.inl rfl)) (qU (qu (i:=3) sc_contrasts_of.nd rfl (Or.inr rfl)) vf)))
  (ql (jO (YD (i:=1) rfl (Or.inl rfl) (by decide) (jn (N:=["ahead", "pair"]) (nt:=1) (cap:=[3]) rfl (kE (names:=(qe jA).names) rfl (by decide +kernel)) (jB (names:=(qe jA).names) (N:=vG) rfl rfl (by decide +kernel)) (qK rfl (Kr rfl (vr 0) zc (Qs (vr 2)))) (fun fp L s1 H1=>(qu (i:=0) (show List.Nodup (["ahead", "pair"]:List Str) from by decide +kernel) rfl (Or.inl rfl))) (fun fp L s1 H1=>qR) (fun fp L s1 H1=>(qh ok_unshared hr (by decide) xL rfl (qb (vr 0) (qb (vr 1) qf)))))))))
  (kB [1] (ql (qm (vr 1))))))
abbrev qV:Stmt:=top 47
abbrev jY:List Str:=["contrast", "room", "fixed", "first", "second"]
theorem sc_may_differ:FnScope jY ["contrast", "room", "fixed"] (qe qV):=fsc
noncomputable def ud:Sl->Out (Fl×Sl):=(qS (jL 3 (d2 ixD (qd 0) (dC (.int 0))))
  (qS (jL 4 (d2 ixD (qd 0) (dC (.int 1))))
  (qS (sIf (gy (uK (d1 Ul (qN [] 1 [2] (jr (d2 kz (qd 3) (qd 4))) (gNm 0) ftT (d2 inA (qd 0) (qd 1)))))) (jH (dC (.bl true))) jm)
  (jH (d2 neD (d2 gB (d2 Jr (d1 Qz (qN [] 1 [2] (jr (qd 3)) (gNm 0) ftT (d2 ixD (qd 1) (qd 0)))) (d1 Qz (qN [] 1 [2] (jr (qd 4)) (gNm 0) ftT (d2 ixD (qd 1) (qd 0))))) (qd 1)) (dC (.int 0)))))))
noncomputable abbrev kw:List D->Out (D×List D):=ku jY [.val,.val,.val] (ud)
abbrev wo P w K mg base cv:=DefOk P w K mg base cv 1 "may_differ" ["contrast", "room", "fixed"] [.val,.val,.val] .sh (kw)
theorem QR (Z:Zt K mg cv ca) (T:ja K mg "may_differ" qV ["contrast", "room", "fixed"]):wo P w K mg base cv:=
 qG (k:=0) (own':=[]) (fb:=ud) T sc_may_differ fun cdv f A outer s H E hr=>(qg (qE (i:=3) sc_may_differ.nd rfl (Or.inl rfl) (jw rfl hr.units (vr 0) qr (fun _ _=>rfl)))
  (qg (qE (i:=4) sc_may_differ.nd rfl (Or.inl rfl) (jw rfl hr.units (vr 0) qr (fun _ _=>rfl)))
  (qg (qY (jK (jj rfl (qD (gQ rfl rfl) rfl Z.z_all gU (jn (N:=["letter", "fixed"]) (nt:=1) (cap:=[2]) rfl (kE (names:=(qe qV).names) rfl (by decide +kernel)) (jB (names:=(qe qV).names) (N:=jY) rfl rfl (by decide +kernel)) (qK rfl (jb (jR rfl) (vr 3) (vr 4))) (fun fp L s1 H1=>(qu (i:=0) (show List.Nodup (["letter", "fixed"]:List Str) from by decide +kernel) rfl (Or.inl rfl))) (fun fp L s1 H1=>qR) (fun fp L s1 H1=>(kQ (YI rfl hr.units) (vr 0) (vr 1))))) (fun _=>rfl))) (ql (qm wz)) qJ)
  (ql (qm (kQ (zv rfl hr.units) (jb uJ (jb xn (qD (Vo rfl rfl) rfl Z.z_sum Xr (jn (N:=["letter", "fixed"]) (nt:=1) (cap:=[2]) rfl (kE (names:=(qe qV).names) rfl (by decide +kernel)) (jB (names:=(qe qV).names) (N:=jY) rfl rfl (by decide +kernel)) (qK rfl (vr 3)) (fun fp L s1 H1=>(qu (i:=0) (show List.Nodup (["letter", "fixed"]:List Str) from by decide +kernel) rfl (Or.inl rfl))) (fun fp L s1 H1=>qR) (fun fp L s1 H1=>(jw rfl hr.units (vr 1) (vr 0) (fun _ _=>rfl))))) (qD (Vo rfl rfl) rfl Z.z_sum Xr (jn (N:=["letter", "fixed"]) (nt:=1) (cap:=[2]) rfl (kE (names:=(qe qV).names) rfl (by decide +kernel)) (jB (names:=(qe qV).names) (N:=jY) rfl rfl (by decide +kernel)) (qK rfl (vr 4)) (fun fp L s1 H1=>(qu (i:=0) (show List.Nodup (["letter", "fixed"]:List Str) from by decide +kernel) rfl (Or.inl rfl))) (fun fp L s1 H1=>qR) (fun fp L s1 H1=>(jw rfl hr.units (vr 1) (vr 0) (fun _ _=>rfl)))))) (vr 1)) qr))))))
abbrev vw:Stmt:=top 48
abbrev xG:List Str:=["fixed", "letter", "worth", "more"]
theorem sc_with_worth:FnScope xG ["fixed", "letter", "worth"] (qe vw):=fsc
noncomputable def ue:Sl->Out (Fl×Sl):=(qS (jL 3 (d1 Xo (qd 0)))
  (qS (zL 3 (qd 2) (qd 1))
  (jH (qd 3))))
noncomputable abbrev vx:List D->Out (D×List D):=ku xG [.val,.val,.val] (ue)
abbrev wp P w K mg base cv:=DefOk P w K mg base cv 1 "with_worth" ["fixed", "letter", "worth"] [.val,.val,.val] .sh (vx)
theorem QS (Z:Zt K mg cv ca) (T:ja K mg "with_worth" vw ["fixed", "letter", "worth"]):wp P w K mg base cv:=
 qG (k:=0) (own':=[]) (fb:=ue) T sc_with_worth fun cdv f A outer s H E hr=>(qg (kn (i:=3) sc_with_worth.nd rfl (Or.inl rfl) (kt (Gq rfl) rfl Z.z_dict Xp (vr 0)))
  (qg (zf (n:=3) hr.units rfl (Or.inl rfl) (by decide) (vr 2) (vr 1))
  (kB [3] (ql (qm (vr 3))))))
abbrev qZ:Stmt:=top 49
abbrev jo:List Str:=["contrasts", "room", "fixed", "letters", "choices", "worth"]
theorem sc_can_be_filled:FnScope jo ["contrasts", "room", "fixed", "letters"] (qe qZ):=fsc
noncomputable def jp (gr:List D->Out (D×List D)):Sl->Out (Fl×Sl):=(qS (sIf (gy (uK (d1 Ul (qN [] 1 [1,2] (jr (qd 0)) (gNm 0) ftT (qt [.vl,.vl,.vl] kw (qc (qd 0) (qc (qd 1) (qc (qd 2) qC)))))))) (jH (dC (.bl false))) jm)
  (qS (sIf (qT (d2 eqD (d1 ki (qd 3)) (dC (.int 0)))) (jH (dC (.bl true))) jm)
  (qS (jL 4 (dIf (qT (d2 eqD (d1 ki (qd 2)) (dC (.int 0)))) (gC (qc (dC (.int 0)) qC)) (d1 ux (qd 1))))
  (qS (gD (jr (qd 4)) (gNm 5)
  (sIf (uK (qt [.vl,.vl,.vl,.vl] gr (qc (qd 0) (qc (qd 1) (qc (qt [.vl,.vl,.vl] vx (qc (qd 2) (qc (d2 ixD (qd 3) (dC (.int 0))) (qc (qd 5) qC)))) (qc (kX (qd 3) (some (dC (.int 1))) none) qC)))))) (jH (dC (.bl true))) jm))
  (jH (dC (.bl false)))))))
noncomputable def qP:Nat->List D->Out (D×List D)
 | 0=>ku jo [.val,.val,.val,.val] qgg
 | n+1=>ku jo [.val,.val,.val,.val] (jp (qP n))
noncomputable abbrev uf:List D->Out (D×List D):=qP 14
abbrev wy P w K mg base cv:=DefOk P w K mg base cv 16 "can_be_filled" ["contrasts", "room", "fixed", "letters"] [.val,.val,.val,.val] .sh uf
theorem xT (Z:Zt K mg cv ca) (T:ja K mg "can_be_filled" qZ ["contrasts", "room", "fixed", "letters"]) (ok_may_differ:wo P w K mg base cv) (ok_with_worth:wp P w K mg base cv) (n:Nat):DefOk P w K mg base cv (2+n) "can_be_filled" ["contrasts", "room", "fixed", "letters"] [.val,.val,.val,.val] .sh (qP n):=by
 induction n with
 | zero=>exact qG (k:=1) (own':=[]) (fb:=qgg) T sc_can_be_filled fun cdv f A outer s H E hr=>qbT
 | succ n ok_can_be_filled=>exact qG (k:=2+n) (own':=[]) (fb:=jp (qP n)) T sc_can_be_filled fun cdv f A outer s H E hr=>(qg (qY (jK (jj rfl (qD (gQ rfl rfl) rfl Z.z_all gU (jn (N:=["contrast", "room", "fixed"]) (nt:=1) (cap:=[1,2]) rfl (kE (names:=(qe qZ).names) rfl (by decide +kernel)) (jB (names:=(qe qZ).names) (N:=jo) rfl rfl (by decide +kernel)) (qK rfl (vr 0)) (fun fp L s1 H1=>(qu (i:=0) (show List.Nodup (["contrast", "room", "fixed"]:List Str) from by decide +kernel) rfl (Or.inl rfl))) (fun fp L s1 H1=>qR) (fun fp L s1 H1=>(qh ok_may_differ hr (by omega) xL rfl (qb (vr 0) (qb (vr 1) (qb (vr 2) qf))))))) (fun _=>rfl))) (ql (qm wz)) qJ)
  (qg (qY (qM (yM rfl hr.units) (qD (jM rfl) rfl Z.z_len jI (vr 3)) qr) (ql (qm wz)) qJ)
  (qg (qE (i:=4) sc_can_be_filled.nd rfl (Or.inl rfl) (qbq (qM (yM rfl hr.units) (qD (jM rfl) rfl Z.z_len jI (vr 2)) qr) (kS (qb qr qf)) (Ut rfl rfl Z.z_list Vp rfl Z.z_range Gs (vr 1))))
  (qg (kc PassesOwn.leaving rfl (qK rfl (vr 4)) (qu (i:=5) sc_can_be_filled.nd rfl (Or.inl rfl))
  (ql (qY (jj rfl (qh ok_can_be_filled hr (by omega) qI rfl (qb (vr 0) (qb (vr 1) (qb (qh ok_with_worth hr (by omega) qI rfl (qb (vr 2) (qb (jw rfl hr.units (vr 3) qr (fun _ _=>rfl)) (qb (vr 5) qf)))) (qb (Kr rfl (vr 3) (Qs qr) zc) qf))))) (fun _=>rfl)) (ql (qm wz)) qJ)))
  (ql (qm wz))))))
theorem xU (Z:Zt K mg cv ca) (T:ja K mg "can_be_filled" qZ ["contrasts", "room", "fixed", "letters"]) (ok_may_differ:wo P w K mg base cv) (ok_with_worth:wp P w K mg base cv):wy P w K mg base cv:=xT Z T ok_may_differ ok_with_worth 14
abbrev jZ:Stmt:=top 50
abbrev vy:List Str:=["seen", "room", "fixed", "bound", "letters"]
theorem sc_can_differ:FnScope vy ["seen", "room", "fixed"] (qe jZ):=fsc
noncomputable def vz:Sl->Out (Fl×Sl):=(qS (sIf (qT (d2 ltD (qd 1) (d1 ki (qd 0)))) (jH (dC (.bl false))) jm)
  (qS (jL 3 (qt [.vl,.vl] wn (qc (qd 0) (qc (qd 2) qC))))
  (qS (jL 4 (qN [] 1 [2] (jr (qt [.vl] jD (qc (qd 3) qC))) (gNm 0) (qT (d2 xN (qd 0) (qd 1))) (qd 0)))
  (jH (qt [.vl,.vl,.vl,.vl] uf (qc (qt [.vl] vI (qc (qd 3) qC)) (qc (qd 1) (qc (qd 2) (qc (qd 4) qC)))))))))
noncomputable abbrev kx:List D->Out (D×List D):=ku vy [.val,.val,.val] (vz)
abbrev yH P w K mg base cv:=DefOk P w K mg base cv 17 "can_differ" ["seen", "room", "fixed"] [.val,.val,.val] .sh (kx)
theorem QT (Z:Zt K mg cv ca) (T:ja K mg "can_differ" jZ ["seen", "room", "fixed"]) (ok_letters_of:wf P w K mg base cv) (ok_bound_pairs:uP P w K mg base cv) (ok_contrasts_of:uc P w K mg base cv) (ok_can_be_filled:wy P w K mg base cv):yH P w K mg base cv:=
 qG (k:=16) (own':=[]) (fb:=vz) T sc_can_differ fun cdv f A outer s H E hr=>(qg (qY (qM qbn (vr 1) (qD (jM rfl) rfl Z.z_len jI (vr 0))) (ql (qm wz)) qJ)
  (qg (qE (i:=3) sc_can_differ.nd rfl (Or.inl rfl) (qh ok_bound_pairs hr (by decide) qI rfl (qb (vr 0) (qb (vr 2) qf))))
  (qg (zb (N:=["letter", "fixed"]) (nt:=1) (cap:=[2]) sc_can_differ.nd (i:=4) rfl (Or.inl rfl) rfl (kE (names:=(qe jZ).names) rfl (by decide +kernel)) (jB (names:=(qe jZ).names) (N:=vy) rfl rfl (by decide +kernel)) (qK rfl (qh ok_letters_of hr (by decide) qI rfl (qb (vr 3) qf))) (fun fp L s1 H1=>(qu (i:=0) (show List.Nodup (["letter", "fixed"]:List Str) from by decide +kernel) rfl (Or.inl rfl))) (fun fp L s1 H1=>(Qr (qM (vL rfl hr.units) (vr 0) (vr 1)))) (fun fp L s1 H1=>(vr 0)))
  (kB [4] (ql (qm (qh ok_can_be_filled hr (by decide) qI rfl (qb (qh ok_contrasts_of hr (by decide) qI rfl (qb (vr 3) qf)) (qb (vr 1) (qb (vr 2) (qb (vr 4) qf)))))))))))
abbrev wq:Stmt:=top 51
abbrev yb:List Str:=["seen", "room", "found"]
theorem sc_room_from:FnScope yb ["seen", "room"] (qe wq):=fsc
noncomputable def yc:Sl->Out (Fl×Sl):=(qS (jL 2 (qd 1))
  (qS (jk (gy (uK (qt [.vl,.vl,.vl] kx (qc (qd 0) (qc (qd 2) (qc (dC (.dct [])) qC))))))
  (jL 2 (d2 kz (qd 2) (dC (.int 1)))) 100)
  (jH (qd 2))))
noncomputable abbrev yd:List D->Out (D×List D):=ku yb [.val,.val] (yc)
abbrev xH P w K mg base cv:=DefOk P w K mg base cv 18 "room_from" ["seen", "room"] [.val,.val] .sh (yd)
theorem KB (Z:Zt K mg cv ca) (T:ja K mg "room_from" wq ["seen", "room"]) (ok_can_differ:yH P w K mg base cv):xH P w K mg base cv:=
 qG (k:=17) (own':=[]) (fb:=yc) T sc_room_from fun cdv f A outer s H E hr=>(qg (qE (i:=2) sc_room_from.nd rfl (Or.inl rfl) (vr 1))
  (qg (zw 100 PassesOwn.leaving (jK (jj rfl (qh ok_can_differ hr (by decide) qI rfl (qb (vr 0) (qb (vr 2) (qb Qm qf)))) (fun _=>rfl)))
  (ql (qE (i:=2) sc_room_from.nd rfl (Or.inl rfl) (jb (jR rfl) (vr 2) qr))))
  (ql (qm (vr 2)))))
abbrev vA:Stmt:=top 52
abbrev xI:List Str:=["words", "look", "seen"]
theorem sc_least_room:FnScope xI ["words", "look"] (qe vA):=fsc
noncomputable def ug:Sl->Out (Fl×Sl):=(qS (jL 2 (qt [.vl,.vl] kA (qc (qd 0) (qc (qd 1) qC))))
  (qS (sIf (qT (d2 qbr (qt [.vl] kM (qc (qd 2) qC)) (dC .non))) (uV "Never" (qc (dC (.str "two words are seen as the same two letters")) qC)) jm)
  (jH (qt [.vl,.vl] yd (qc (qd 2) (qc (d1 ki (qd 2)) qC))))))
noncomputable abbrev jg:List D->Out (D×List D):=ku xI [.val,.val] (ug)
abbrev yI P w K mg base cv:=DefOk P w K mg base cv 19 "least_room" ["words", "look"] [.val,.val] .sh (jg)
theorem QU (Z:Zt K mg cv ca) (T:ja K mg "least_room" vA ["words", "look"]) (ok_pairs:yz P w K mg base cv) (ok_clash_of:ya P w K mg base cv) (ok_room_from:xH P w K mg base cv):yI P w K mg base cv:=
 qG (k:=18) (own':=[]) (fb:=ug) T sc_least_room fun cdv f A outer s H E hr=>(qg (qE (i:=2) sc_least_room.nd rfl (Or.inl rfl) (qh ok_pairs hr (by decide) qI rfl (qb (vr 0) (qb (vr 1) qf))))
  (qg (qY (qM qbs (qh ok_clash_of hr (by decide) qI rfl (qb (vr 2) qf)) yl) (ql (wJ rfl (Kb rfl) rfl rfl (Z.mref "Never" (by decide +kernel)) (Z.xs.val "Never" (by decide +kernel)) (Z.xin "Never" (by decide +kernel)) (qb wF qf))) qJ)
  (ql (qm (qh ok_room_from hr (by decide) qI rfl (qb (vr 2) (qb (qD (jM rfl) rfl Z.z_len jI (vr 2)) qf)))))))
abbrev uC:Stmt:=top 54
abbrev Qa:List Str:=["_law_script", "_law_k"]
theorem VB:FnScope Qa ["_law_script", "_law_k"] (qe uC):=fsc
noncomputable def vP:Sl->Out (Fl×Sl):=(qS (sIf (qT (d2 ltD (qd 1) (d1 ki (qd 0)))) (jH (d2 ixD (qd 0) (qd 1))) jm)
  (qS (sIf (qT (d2 eqD (qd 0) (gC qC))) (jH (dC (.int 0))) jm)
  (jH (d2 kz (d2 VY (d2 ixD (qd 0) (d2 gB (qd 1) (d1 ki (qd 0)))) (dC (.int 31))) (qd 1)))))
noncomputable abbrev xg:List D->Out (D×List D):=ku Qa [.val,.val] (vP)
abbrev gi P w K mg base cv:=DefOk P w K mg base cv 1 "_law_cell_at" ["_law_script", "_law_k"] [.val,.val] .sh (xg)
theorem VC (Z:Zt K mg cv ca) (T:ja K mg "_law_cell_at" uC ["_law_script", "_law_k"]):gi P w K mg base cv:=
 qG (k:=0) (own':=[]) (fb:=vP) T VB fun cdv f A outer s H E hr=>(qg (qY (qM qbn (vr 1) (qD (jM rfl) rfl Z.z_len jI (vr 0))) (ql (qm (jw rfl hr.units (vr 0) (vr 1) (fun _ _=>rfl)))) qJ)
  (qg (qY (qM (yM rfl hr.units) (vr 0) (kS qf)) (ql (qm qr)) qJ)
  (ql (qm (jb (jR rfl) (jb zu (jw rfl hr.units (vr 0) (jb uJ (vr 1) (qD (jM rfl) rfl Z.z_len jI (vr 0))) (fun _ _=>rfl)) qr) (vr 1))))))
abbrev zl:Stmt:=top 55
abbrev WF:List Str:=["_law_script", "_law_k", "_law_many", "_law_drawn"]
theorem sc_Lmixed:FnScope WF ["_law_script", "_law_k", "_law_many"] (qe zl):=fsc
noncomputable def QV:Sl->Out (Fl×Sl):=(qS (jL 3 (d2 gB (d2 VY (d2 kz (d2 kz (qt [.vl,.vl] xg (qc (qd 0) (qc (qd 1) qC))) (d2 VY (dC (.int 7919)) (qd 1))) (dC (.int 1))) (dC (.int 48271))) (dC (.int 2147483647))))
  (jH (d2 gB (d2 gB (d2 kz (d2 kz (d2 VY (qd 3) (qd 3)) (d2 VY (dC (.int 7)) (qd 3))) (qd 1)) (dC (.int 2147483629))) (qd 2))))
noncomputable abbrev QW:List D->Out (D×List D):=ku WF [.val,.val,.val] (QV)
abbrev KC P w K mg base cv:=DefOk P w K mg base cv 2 "_law_mixed" ["_law_script", "_law_k", "_law_many"] [.val,.val,.val] .sh (QW)
theorem XA (Z:Zt K mg cv ca) (T:ja K mg "_law_mixed" zl ["_law_script", "_law_k", "_law_many"]) (ok_Lcell_at:gi P w K mg base cv):KC P w K mg base cv:=
 qG (k:=1) (own':=[]) (fb:=QV) T sc_Lmixed fun cdv f A outer s H E hr=>(qg (qE (i:=3) sc_Lmixed.nd rfl (Or.inl rfl) (jb uJ (jb zu (jb (jR rfl) (jb (jR rfl) (qh ok_Lcell_at hr (by decide) qI rfl (qb (vr 0) (qb (vr 1) qf))) (jb zu qr (vr 1))) qr) qr) qr))
  (ql (qm (jb uJ (jb uJ (jb (jR rfl) (jb (jR rfl) (jb zu (vr 3) (vr 3)) (jb zu qr (vr 3))) (vr 1)) qr) (vr 2)))))
abbrev QX:Stmt:=top 56
abbrev XB:List Str:=["_law_script", "_law_town", "_law_many"]
theorem Gz:FnScope XB ["_law_script", "_law_town", "_law_many"] (qe QX):=fsc
noncomputable def VD:Sl->Out (Fl×Sl):=(qS (vC (zz 1 Ju (dC (.int 0))))
  (jH (qt [.vl,.vl,.vl] QW (qc (qd 0) (qc (d1 ki (qd 1)) (qc (qd 2) qC))))))
noncomputable abbrev jP:List D->Out (D×List D):=ku XB [.val,.io,.val] (VD)
abbrev uD P w K mg base cv:=DefOk P w K mg base cv 3 "_law_draw" ["_law_script", "_law_town", "_law_many"] [.val,.io,.val] .sh (jP)
theorem GA (Z:Zt K mg cv ca) (T:ja K mg "_law_draw" QX ["_law_script", "_law_town", "_law_many"]) (ok_Lmixed:KC P w K mg base cv):uD P w K mg base cv:=
 qG (k:=2) (own':=[1]) (fb:=VD) T Gz fun cdv f A outer s H E hr=>(qg (jO (wK (i:=1) rfl rfl (Or.inl rfl) (by decide) qr))
  (ql (qm (qh ok_Lmixed hr (by decide) qI rfl (qb (vr 0) (qb (qD (jM rfl) rfl Z.z_len jI (vT (i:=1) rfl (Or.inl rfl) (by decide))) (qb (vr 2) qf)))))))
abbrev QY:Stmt:=top 57
abbrev XC:List Str:=["_law_script", "_law_town", "_law_some"]
theorem GB:FnScope XC ["_law_script", "_law_town", "_law_some"] (qe QY):=fsc
noncomputable def VE:Sl->Out (Fl×Sl):=(jH (d2 ixD (qd 2) (qt [.vl,.sl 1,.vl] jP (qc (qd 0) (kC (qc (d1 ki (qd 2)) qC))))))
noncomputable abbrev gj:List D->Out (D×List D):=ku XC [.val,.io,.val] (VE)
abbrev zm P w K mg base cv:=DefOk P w K mg base cv 4 "_law_pick" ["_law_script", "_law_town", "_law_some"] [.val,.io,.val] .sh (gj)
theorem GC (Z:Zt K mg cv ca) (T:ja K mg "_law_pick" QY ["_law_script", "_law_town", "_law_some"]) (ok_Ldraw:uD P w K mg base cv):zm P w K mg base cv:=
 qG (k:=3) (own':=[1]) (fb:=VE) T GB fun cdv f A outer s H E hr=>(ql (qm (jw rfl hr.units (vr 2) (qh ok_Ldraw hr (by decide) qI rfl (qb (vr 0) (jl (i:=1) rfl (Or.inl rfl) (by decide) (qb (qD (jM rfl) rfl Z.z_len jI (vr 2)) qf)))) (fun _ _=>rfl))))
abbrev QZ:Stmt:=top 58
abbrev XD:List Str:=["_law_script", "_law_town", "_law_few", "_law_word_here", "_law_k"]
theorem sc_Lword:FnScope XD ["_law_script", "_law_town", "_law_few"] (qe QZ):=fsc
noncomputable def VF:Sl->Out (Fl×Sl):=(qS (jL 3 (dC (.str "")))
  (qS (gD (kb (d2 kz (dC (.int 1)) (qt [.vl,.sl 1,.vl] jP (qc (qd 0) (kC (qc (qt [.vl,.sl 1,.vl] gj (qc (qd 0) (kC (qc (gC (qc (dC (.int 2)) (qc (dC (.int 3)) (qc (dC (.int 6)) qC)))) qC)))) qC)))))) (gNm 4)
  (jL 3 (d2 kz (qd 3) (d2 ixD (dC (.str "abcdefghijklmnopqrstuvwxyz")) (qt [.vl,.sl 1,.vl] jP (qc (qd 0) (kC (qc (qd 2) qC))))))))
  (jH (qd 3))))
noncomputable abbrev Ja:List D->Out (D×List D):=ku XD [.val,.io,.val] (VF)
abbrev WG P w K mg base cv:=DefOk P w K mg base cv 5 "_law_word" ["_law_script", "_law_town", "_law_few"] [.val,.io,.val] .sh (Ja)
theorem GD (Z:Zt K mg cv ca) (T:ja K mg "_law_word" QZ ["_law_script", "_law_town", "_law_few"]) (ok_Ldraw:uD P w K mg base cv) (ok_Lpick:zm P w K mg base cv):WG P w K mg base cv:=
 qG (k:=4) (own':=[1]) (fb:=VF) T sc_Lword fun cdv f A outer s H E hr=>(qg (qE (i:=3) sc_Lword.nd rfl (Or.inl rfl) wF)
  (qg (kc PassesOwn.leaving rfl (uu rfl Z.z_range (jb (jR rfl) qr (qh ok_Ldraw hr (by decide) qI rfl (qb (vr 0) (jl (i:=1) rfl (Or.inl rfl) (by decide) (qb (qh ok_Lpick hr (by decide) qI rfl (qb (vr 0) (jl (i:=1) rfl (Or.inl rfl) (by decide) (qb (kS (qb qr (qb qr (qb qr qf)))) qf)))) qf)))))) (qu (i:=4) sc_Lword.nd rfl (Or.inl rfl))
  (ql (qE (i:=3) sc_Lword.nd rfl (Or.inl rfl) (jb (jR rfl) (vr 3) (jw rfl hr.units wF (qh ok_Ldraw hr (by decide) qI rfl (qb (vr 0) (jl (i:=1) rfl (Or.inl rfl) (by decide) (qb (vr 2) qf)))) (fun _ _=>rfl))))))
  (ql (qm (vr 3)))))
abbrev zn:Stmt:=top 59
abbrev WH:List Str:=["_law_script", "_law_town", "_law_most", "_law_few", "_law_made", "_law_k", "_law_word_here"]
theorem sc_Lwords:FnScope WH ["_law_script", "_law_town", "_law_most"] (qe zn):=fsc
noncomputable def Jb:Sl->Out (Fl×Sl):=(qS (jL 3 (qt [.vl,.sl 1,.vl] gj (qc (qd 0) (kC (qc (gC (qc (dC (.int 2)) (qc (dC (.int 3)) (qc (dC (.int 4)) (qc (dC (.int 6)) (qc (dC (.int 26)) qC)))))) qC)))))
  (qS (jL 4 (gC qC))
  (qS (gD (kb (d2 kz (dC (.int 1)) (qt [.vl,.sl 1,.vl] jP (qc (qd 0) (kC (qc (qd 2) qC)))))) (gNm 5)
  (qS (jL 6 (qt [.vl,.sl 1,.vl] Ja (qc (qd 0) (kC (qc (qd 3) qC)))))
  (sIf (qT (d2 xN (qd 6) (qd 4))) (vC (zz 4 Ju (qd 6))) jm)))
  (jH (d1 uL (qd 4))))))
noncomputable abbrev Jc:List D->Out (D×List D):=ku WH [.val,.io,.val] (Jb)
abbrev KD P w K mg base cv:=DefOk P w K mg base cv 6 "_law_words" ["_law_script", "_law_town", "_law_most"] [.val,.io,.val] .sh (Jc)
theorem XE (Z:Zt K mg cv ca) (T:ja K mg "_law_words" zn ["_law_script", "_law_town", "_law_most"]) (ok_Ldraw:uD P w K mg base cv) (ok_Lpick:zm P w K mg base cv) (ok_Lword:WG P w K mg base cv):KD P w K mg base cv:=
 qG (k:=5) (own':=[1]) (fb:=Jb) T sc_Lwords fun cdv f A outer s H E hr=>(qg (qE (i:=3) sc_Lwords.nd rfl (Or.inl rfl) (qh ok_Lpick hr (by decide) qI rfl (qb (vr 0) (jl (i:=1) rfl (Or.inl rfl) (by decide) (qb (kS (qb qr (qb qr (qb qr (qb qr (qb qr qf)))))) qf)))))
  (qg (kn (i:=4) sc_Lwords.nd rfl (Or.inl rfl) (kS qf))
  (qg (kc PassesOwn.leaving rfl (uu rfl Z.z_range (jb (jR rfl) qr (qh ok_Ldraw hr (by decide) qI rfl (qb (vr 0) (jl (i:=1) rfl (Or.inl rfl) (by decide) (qb (vr 2) qf)))))) (qu (i:=5) sc_Lwords.nd rfl (Or.inl rfl))
  (qg (qE (i:=6) sc_Lwords.nd rfl (Or.inl rfl) (qh ok_Lword hr (by decide) qI rfl (qb (vr 0) (jl (i:=1) rfl (Or.inl rfl) (by decide) (qb (vr 3) qf)))))
  (ql (qY (qM (vL rfl hr.units) (vr 6) (vT (i:=4) rfl (Or.inl rfl) (by decide))) (ql (jO (wK (i:=4) rfl rfl (Or.inl rfl) (by decide) (vr 6)))) qJ))))
  (ql (qm (kt (yt rfl) rfl Z.z_tuple vh (vT (i:=4) rfl (Or.inl rfl) (by decide))))))))
abbrev Jd:Stmt:=top 60
abbrev XF:List Str:=["_law_script", "_law_town"]
theorem GE:FnScope XF ["_law_script", "_law_town"] (qe Jd):=fsc
noncomputable def VG:Sl->Out (Fl×Sl):=(jH (yL (qc (d2 Jr (qt [.vl,.sl 1,.vl] jP (qc (qd 0) (kC (qc (dC (.int 6)) qC)))) (dC (.int 3))) (qc (d2 Jr (qt [.vl,.sl 1,.vl] jP (qc (qd 0) (kC (qc (dC (.int 6)) qC)))) (dC (.int 3))) qC))))
noncomputable abbrev VH:List D->Out (D×List D):=ku XF [.val,.io] (VG)
abbrev WJ P w K mg base cv:=DefOk P w K mg base cv 4 "_law_look" ["_law_script", "_law_town"] [.val,.io] .sh (VH)
theorem GF (Z:Zt K mg cv ca) (T:ja K mg "_law_look" Jd ["_law_script", "_law_town"]) (ok_Ldraw:uD P w K mg base cv):WJ P w K mg base cv:=
 qG (k:=3) (own':=[1]) (fb:=VG) T GE fun cdv f A outer s H E hr=>(ql (qm (vd (qb (jb xn (qh ok_Ldraw hr (by decide) qI rfl (qb (vr 0) (jl (i:=1) rfl (Or.inl rfl) (by decide) (qb qr qf)))) qr) (qb (jb xn (qh ok_Ldraw hr (by decide) qI rfl (qb (vr 0) (jl (i:=1) rfl (Or.inl rfl) (by decide) (qb qr qf)))) qr) qf)))))
abbrev uh:Stmt:=top 61
abbrev Je:List Str:=["_law_script", "_law_town", "_law_words_here", "_law_look_here", "_law_step", "_law_letters", "_law_book", "_law_named", "_law_about", "_law_about_it", "_law_room", "_law_numbers", "_law_none", "_law_times", "_law_great"]
theorem sc_law:FnScope Je ["_law_script"] (qe uh):=fsc
noncomputable def qb3:Sl->Out (Fl×Sl):=(qS (jL 1 (gC qC))
  (qS (jL 2 (qt [.vl,.sl 1,.vl] Jc (qc (qd 0) (kC (qc (dC (.int 6)) qC)))))
  (qS (jL 3 (qt [.vl,.sl 1] VH (qc (qd 0) (kC qC))))
  (qS (jL 4 (d2 kz (dC (.int 1)) (qt [.vl,.sl 1,.vl] jP (qc (qd 0) (kC (qc (dC (.int 25)) qC))))))
  (qS (jL 5 (dC (.str "abcdefghijklmnopqrstuvwxyz")))
  (qS (jL 6 (d1 Kp (qN [1] 1 [5,4] (kb (dC (.int 26))) (gNm 0) ftT (yL (qc (d2 ixD (qd 1) (qd 0)) (qc (d2 ixD (qd 1) (d2 gB (d2 kz (qd 0) (qd 2)) (dC (.int 26)))) qC))))))
  (qS (jL 7 (d1 uL (qN [1] 1 [6] (jr (qd 2)) (gNm 0) ftT (d1 (Qy "") (qN [] 1 [1] (jr (qd 0)) (gNm 0) ftT (d2 ixD (qd 1) (qd 0)))))))
  (qS (jL 8 (d1 uL (qN [1] 1 [] (jr (qd 2)) (gNm 0) ftT (Ka (qd 0) none none (some (d1 qan (dC (.int 1))))))))
  (qS (jL 9 (yL (qc (d2 Jr (d1 qan (dC (.int 1))) (d2 ixD (qd 3) (dC (.int 0)))) (qc (d2 Jr (d1 qan (dC (.int 1))) (d2 ixD (qd 3) (dC (.int 1)))) qC))))
  (qS (sIf (qT (d2 neD (qt [.vl,.vl] kA (qc (qd 7) (qc (qd 3) qC))) (qN [1] 2 [6] (jr (qt [.vl,.vl] kA (qc (qd 2) (qc (qd 3) qC)))) (jG 2 (qy (gNm 0) (qy (gNm 1) jF))) ftT (yL (qc (d2 ixD (qd 2) (qd 0)) (qc (d2 ixD (qd 2) (qd 1)) qC)))))) (jH (dC (.bl false))) jm)
  (qS (sIf (dOr (qT (d2 neD (qt [.vl,.vl] kA (qc (qd 8) (qc (qd 9) qC))) (qt [.vl,.vl] kA (qc (qd 2) (qc (qd 3) qC))))) (qT (d2 neD (qt [.vl,.vl] gc (qc (qd 7) (qc (qd 3) qC))) (qt [.vl,.vl] gc (qc (qd 2) (qc (qd 3) qC)))))) (jH (dC (.bl false))) jm)
  (qS (sIf (qT (d2 ZT (qt [.vl,.vl] gc (qc (qd 2) (qc (qd 3) qC))) (dC .non))) (sIf (dOr (qT (d2 neD (qt [.vl,.vl] jg (qc (qd 7) (qc (qd 3) qC))) (qt [.vl,.vl] jg (qc (qd 2) (qc (qd 3) qC))))) (qT (d2 neD (qt [.vl,.vl] jg (qc (qd 8) (qc (qd 9) qC))) (qt [.vl,.vl] jg (qc (qd 2) (qc (qd 3) qC)))))) (jH (dC (.bl false))) jm) jm)
  (qS (jL 10 (d2 kz (dC (.int 1)) (qt [.vl,.sl 1,.vl] jP (qc (qd 0) (kC (qc (dC (.int 9)) qC))))))
  (qS (jL 11 (d1 uL (qN [1] 1 [0,1,10] (jr (qd 2)) (gNm 0) ftT (qt [.vl,.sl 2,.vl] jP (qc (qd 1) (kC (qc (qd 3) qC)))))))
  (qS (jL 12 (d2 ZT (qt [.vl,.vl,.vl,.vl] Vw (qc (qd 2) (qc (qd 3) (qc (qd 10) (qc (qd 11) qC))))) (dC .non)))
  (qS (sIf (dOr (qT (d2 neD (d2 ZT (qt [.vl,.vl,.vl,.vl] Vw (qc (qd 7) (qc (qd 3) (qc (qd 10) (qc (qd 11) qC))))) (dC .non)) (qd 12))) (qT (d2 neD (d2 ZT (qt [.vl,.vl,.vl,.vl] Vw (qc (qd 8) (qc (qd 9) (qc (qd 10) (qc (qd 11) qC))))) (dC .non)) (qd 12)))) (jH (dC (.bl false))) jm)
  (qS (jL 13 (qt [.vl,.sl 1,.vl] gj (qc (qd 0) (kC (qc (gC (qc (dC (.int 3)) (qc (dC (.int 5)) (qc (dC (.int 7)) qC)))) qC)))))
  (qS (jL 14 (d1 uL (qN [1] 1 [13] (jr (qd 11)) (gNm 0) ftT (d2 VY (qd 1) (qd 0)))))
  (jH (d2 eqD (d2 ZT (qt [.vl,.vl,.vl,.vl] Vw (qc (qd 2) (qc (qd 3) (qc (d2 VY (qd 13) (qd 10)) (qc (qd 14) qC))))) (dC .non)) (qd 12)))))))))))))))))))))
noncomputable abbrev GG:List D->Out (D×List D):=ku Je [.val] (qb3)
theorem qd5 {f:Addr} {fd:FuncData} (Z:Zt K mg cv ca) (F:Fun K "law" "law" uh f fd) (ok_pairs:yz P w K mg base cv) (ok_bar:qaw P w K mg base cv) (ok_clash:WE P w K mg base cv) (ok_least_room:yI P w K mg base cv) (ok_Ldraw:uD P w K mg base cv) (ok_Lpick:zm P w K mg base cv) (ok_Lwords:KD P w K mg base cv) (ok_Llook:WJ P w K mg base cv):FnOk P w K mg base (CXk P w) 20 f fd ["_law_script"] (spD K cv [.val] .sh (GG)):=
 qgK (k:=19) (own':=[]) (fb:=qb3) F sc_law rfl (zt rfl) (.inl rfl) (fun cdv A outer s H E hr=>(qg (kn (i:=1) sc_law.nd rfl (Or.inr rfl) (kS qf))
  (qg (qE (i:=2) sc_law.nd rfl (Or.inl rfl) (qh ok_Lwords hr (by decide) qI rfl (qb (vr 0) (jl (i:=1) rfl (Or.inr (Or.inl rfl)) (by decide) (qb qr qf)))))
  (qg (qE (i:=3) sc_law.nd rfl (Or.inl rfl) (qh ok_Llook hr (by decide) qI rfl (qb (vr 0) (jl (i:=1) rfl (Or.inr (Or.inl rfl)) (by decide) qf))))
  (qg (qE (i:=4) sc_law.nd rfl (Or.inr rfl) (jb (jR rfl) qr (qh ok_Ldraw hr (by decide) qI rfl (qb (vr 0) (jl (i:=1) rfl (Or.inr (Or.inl rfl)) (by decide) (qb qr qf))))))
  (qg (qE (i:=5) sc_law.nd rfl (Or.inr rfl) wF)
  (qg (qE (i:=6) sc_law.nd rfl (Or.inr rfl) (kt (Gp rfl rfl) rfl Z.z_dict Xp (jn (N:=["_law_at", "_law_letters", "_law_step"]) (nt:=1) (cap:=[5,4]) rfl (kE (names:=(qe uh).names) rfl (by decide +kernel)) (jB (names:=(qe uh).names) (N:=Je) rfl rfl (by decide +kernel)) (uu rfl Z.z_range qr) (fun fp L s1 H1=>(qu (i:=0) (show List.Nodup (["_law_at", "_law_letters", "_law_step"]:List Str) from by decide +kernel) rfl (Or.inl rfl))) (fun fp L s1 H1=>qR) (fun fp L s1 H1=>(vd (qb (jw rfl hr.units (vr 1) (vr 0) (fun _ _=>rfl)) (qb (jw rfl hr.units (vr 1) (jb uJ (jb (jR rfl) (vr 0) (vr 2)) qr) (fun _ _=>rfl)) qf)))))))
  (qg (qE (i:=7) sc_law.nd rfl (Or.inl rfl) (kt (yt rfl) rfl Z.z_tuple vh (jn (N:=["_law_word_here", "_law_book"]) (nt:=1) (cap:=[6]) rfl (kE (names:=(qe uh).names) rfl (by decide +kernel)) (jB (names:=(qe uh).names) (N:=Je) rfl rfl (by decide +kernel)) (qK rfl (vr 2)) (fun fp L s1 H1=>(qu (i:=0) (show List.Nodup (["_law_word_here", "_law_book"]:List Str) from by decide +kernel) rfl (Or.inl rfl))) (fun fp L s1 H1=>qR) (fun fp L s1 H1=>(qbR rfl (jn (N:=["_law_sign", "_law_book"]) (nt:=1) (cap:=[1]) rfl (kE (names:=[(".0",.local),("_law_word_here",.local),("_law_book",.cell)]) rfl (by decide +kernel)) (jB (names:=[(".0",.local),("_law_word_here",.local),("_law_book",.cell)]) (N:=["_law_word_here", "_law_book"]) rfl rfl (by decide +kernel)) (qK rfl (vr 0)) (fun fp L s1 H1=>(qu (i:=0) (show List.Nodup (["_law_sign", "_law_book"]:List Str) from by decide +kernel) rfl (Or.inl rfl))) (fun fp L s1 H1=>qR) (fun fp L s1 H1=>(jw rfl hr.units (vr 1) (vr 0) (fun _ _=>rfl)))))))))
  (qg (qE (i:=8) sc_law.nd rfl (Or.inl rfl) (kt (yt rfl) rfl Z.z_tuple vh (jn (N:=["_law_word_here"]) (nt:=1) (cap:=[]) rfl (kE (names:=(qe uh).names) rfl (by decide +kernel)) (jB (names:=(qe uh).names) (N:=Je) rfl rfl (by decide +kernel)) (qK rfl (vr 2)) (fun fp L s1 H1=>(qu (i:=0) (show List.Nodup (["_law_word_here"]:List Str) from by decide +kernel) rfl (Or.inl rfl))) (fun fp L s1 H1=>qR) (fun fp L s1 H1=>(Gd rfl (vr 0) zc zc (Qs (ZO Wo qr)))))))
  (qg (qE (i:=9) sc_law.nd rfl (Or.inl rfl) (vd (qb (jb xn (ZO Wo qr) (jw rfl hr.units (vr 3) qr (fun _ _=>rfl))) (qb (jb xn (ZO Wo qr) (jw rfl hr.units (vr 3) qr (fun _ _=>rfl))) qf))))
  (qg (qY (qM (zv rfl hr.units) (qh ok_pairs hr (by decide) qI rfl (qb (vr 7) (qb (vr 3) qf))) (jn (N:=["_law_one", "_law_other", "_law_book"]) (nt:=2) (cap:=[6]) rfl (kE (names:=(qe uh).names) rfl (by decide +kernel)) (jB (names:=(qe uh).names) (N:=Je) rfl rfl (by decide +kernel)) (qK rfl (qh ok_pairs hr (by decide) qI rfl (qb (vr 2) (qb (vr 3) qf)))) (fun fp L s1 H1=>(wH rfl rfl (qU (qu (i:=0) (show List.Nodup (["_law_one", "_law_other", "_law_book"]:List Str) from by decide +kernel) rfl (Or.inl rfl)) (qU (qu (i:=1) (show List.Nodup (["_law_one", "_law_other", "_law_book"]:List Str) from by decide +kernel) rfl (Or.inl rfl)) vf)))) (fun fp L s1 H1=>qR) (fun fp L s1 H1=>(vd (qb (jw rfl hr.units (vr 2) (vr 0) (fun _ _=>rfl)) (qb (jw rfl hr.units (vr 2) (vr 1) (fun _ _=>rfl)) qf)))))) (ql (qm wz)) qJ)
  (qg (qY (PW.pt (xo (qM (zv rfl hr.units) (qh ok_pairs hr (by decide) qI rfl (qb (vr 8) (qb (vr 9) qf))) (qh ok_pairs hr (by decide) qI rfl (qb (vr 2) (qb (vr 3) qf)))) (kR (qM (zv rfl hr.units) (qh ok_clash hr (by decide) qI rfl (qb (vr 7) (qb (vr 3) qf))) (qh ok_clash hr (by decide) qI rfl (qb (vr 2) (qb (vr 3) qf))))))) (ql (qm wz)) qJ)
  (qg (qY (qM JP (qh ok_clash hr (by decide) qI rfl (qb (vr 2) (qb (vr 3) qf))) yl) (ql (qY (PW.pt (xo (qM (zv rfl hr.units) (qh ok_least_room hr (by decide) qI rfl (qb (vr 7) (qb (vr 3) qf))) (qh ok_least_room hr (by decide) qI rfl (qb (vr 2) (qb (vr 3) qf)))) (kR (qM (zv rfl hr.units) (qh ok_least_room hr (by decide) qI rfl (qb (vr 8) (qb (vr 9) qf))) (qh ok_least_room hr (by decide) qI rfl (qb (vr 2) (qb (vr 3) qf))))))) (ql (qm wz)) qJ)) qJ)
  (qg (qE (i:=10) sc_law.nd rfl (Or.inr rfl) (jb (jR rfl) qr (qh ok_Ldraw hr (by decide) qI rfl (qb (vr 0) (jl (i:=1) rfl (Or.inr (Or.inl rfl)) (by decide) (qb qr qf))))))
  (qg (qE (i:=11) sc_law.nd rfl (Or.inl rfl) (kt (yt rfl) rfl Z.z_tuple vh (jn (N:=["_law_word_here", "_law_script", "_law_town", "_law_room"]) (nt:=1) (cap:=[0,1,10]) rfl (kE (names:=(qe uh).names) rfl (by decide +kernel)) (jB (names:=(qe uh).names) (N:=Je) rfl rfl (by decide +kernel)) (qK rfl (vr 2)) (fun fp L s1 H1=>(qu (i:=0) (show List.Nodup (["_law_word_here", "_law_script", "_law_town", "_law_room"]:List Str) from by decide +kernel) rfl (Or.inl rfl))) (fun fp L s1 H1=>qR) (fun fp L s1 H1=>(qh ok_Ldraw hr (by decide) xL rfl (qb (vr 1) (jl (i:=2) rfl (by first | exact Or.inr (Or.inr rfl) | exact Or.inr (Or.inl rfl)) (by decide) (qb (vr 3) qf))))))))
  (qg (qE (i:=12) sc_law.nd rfl (Or.inl rfl) (kQ JP (qh ok_bar hr (by decide) qI rfl (qb (vr 2) (qb (vr 3) (qb (vr 10) (qb (vr 11) qf))))) yl))
  (qg (qY (PW.pt (xo (qM (zv rfl hr.units) (kQ JP (qh ok_bar hr (by decide) qI rfl (qb (vr 7) (qb (vr 3) (qb (vr 10) (qb (vr 11) qf))))) yl) (vr 12)) (kR (qM (zv rfl hr.units) (kQ JP (qh ok_bar hr (by decide) qI rfl (qb (vr 8) (qb (vr 9) (qb (vr 10) (qb (vr 11) qf))))) yl) (vr 12))))) (ql (qm wz)) qJ)
  (qg (qE (i:=13) sc_law.nd rfl (Or.inr rfl) (qh ok_Lpick hr (by decide) qI rfl (qb (vr 0) (jl (i:=1) rfl (Or.inr (Or.inl rfl)) (by decide) (qb (kS (qb qr (qb qr (qb qr qf)))) qf)))))
  (qg (qE (i:=14) sc_law.nd rfl (Or.inl rfl) (kt (yt rfl) rfl Z.z_tuple vh (jn (N:=["_law_number", "_law_times"]) (nt:=1) (cap:=[13]) rfl (kE (names:=(qe uh).names) rfl (by decide +kernel)) (jB (names:=(qe uh).names) (N:=Je) rfl rfl (by decide +kernel)) (qK rfl (vr 11)) (fun fp L s1 H1=>(qu (i:=0) (show List.Nodup (["_law_number", "_law_times"]:List Str) from by decide +kernel) rfl (Or.inl rfl))) (fun fp L s1 H1=>qR) (fun fp L s1 H1=>(jb zu (vr 1) (vr 0))))))
  (ql (qm (kQ (yM rfl hr.units) (kQ JP (qh ok_bar hr (by decide) qI rfl (qb (vr 2) (qb (vr 3) (qb (jb zu (vr 13) (vr 10)) (qb (vr 14) qf))))) yl) (vr 12))))))))))))))))))))))) fun _=>.inr rfl
end
end Kx
namespace Kx
open PySem PySem.Spec L2 L2.D2
theorem kO {α:Type} (xs:List α) (k:Nat):atI xs (k:Int)=xs[k]?:=by
 unfold atI ixN
 rw [if_pos (by omega)]
 by_cases h:k < xs.length
 ·rw [if_pos (by omega)]
  simp
 ·rw [if_neg (by omega),List.getElem?_eq_none (by omega)]
  rfl
theorem qax {α:Type} {xs:List α} {i:Int} (h0:0<=i) (h1:i < xs.length):∃ d,atI xs i=some d/\d∈xs:=by
 obtain ⟨k,rfl⟩:=Int.eq_ofNat_of_zero_le h0
 have hk:k < xs.length:=by omega
 exact ⟨xs[k],by rw [kO,List.getElem?_eq_getElem hk],List.getElem_mem hk⟩
theorem big:2000<=sizeLine:=by rw [sizeLine_eq]; decide
abbrev scr (ns:List Int):D:=.lst (ns.map .int)
theorem qb4 (ns:List Int) (k:Nat):∃ i,xg [scr ns,.int k]=.ok (.int i,[.non,.non]):=by
 by_cases h:k < ns.length
 ·refine ⟨ns[k],?_⟩
  refine runD_ap.trans ?_
  simp [vP,qx,ki,ltD,ixD,qv,h,kO]
 ·by_cases h0:ns=[]
  ·subst h0
   have hk:¬((k:Int) < 0):=by omega
   exact ⟨0,by refine runD_ap.trans ?_; simp [vP,qx,ki,ltD,ixD,qv,eqD,eqN,wG,hk]⟩
  ·have hp:0 < ns.length:=List.length_pos_iff.mpr h0
   have hm:k % ns.length < ns.length:=Nat.mod_lt _ hp
   have e:atI (ns.map D.int) ((k:Int) % (ns.length:Int))=some (.int ns[k % ns.length]):=by
    rw [show ((k:Int) % (ns.length:Int))=((k % ns.length:Nat):Int) by simp,kO,List.getElem?_map,List.getElem?_eq_getElem hm]
    rfl
   refine ⟨ns[k % ns.length] * 31+k,?_⟩
   refine runD_ap.trans ?_
   simp [vP,qx,ki,ltD,ixD,qv,eqD,eqN,h,h0,gB,VY,kz,xm,hp,e,CMul]
theorem GH (ns:List Int) (k:Nat) {many:Int} (hm:0 < many):∃ r,0<=r/\r < many/\QW [scr ns,.int k,.int many]=.ok (.int r,[.non,.non,.non]):=by
 obtain ⟨c,hc⟩:=qb4 ns k
 have h1:=Int.emod_nonneg ((c+7919 * k+1) * 48271) (show (2147483647:Int)≠0 by decide)
 have h2:=Int.emod_lt_of_pos ((c+7919 * k+1) * 48271) (show (0:Int) < 2147483647 by decide)
 generalize hd:(c+7919 * (k:Int)+1) * 48271 % 2147483647=d at h1 h2
 have c1:CMul d d:=.inl ⟨by omega,by omega⟩
 refine ⟨(d * d+7 * d+k) % 2147483629 % many,Int.emod_nonneg _ (by omega),Int.emod_lt_of_pos _ hm,?_⟩
 refine runD_ap.trans ?_
 simp [QV,qx,qv,qB,jq,hc,VY,gB,kz,xm,hm,hd,c1,show ∀ j,CMul 7919 j from fun j=>.inl ⟨by omega,by omega⟩,show ∀ j,CMul 7 j from fun j=>.inl ⟨by omega,by omega⟩,show ∀ i,CMul i 48271 from fun i=>.inr ⟨by omega,by omega⟩]
theorem wt (ns:List Int) (town:List D) {many:Int} (hm:0 < many) (ht:town.length < 1000):∃ r,0<=r/\r < many/\jP [scr ns,.lst town,.int many]=.ok (.int r,[.non,.lst (town++[.int 0]),.non]):=by
 obtain ⟨r,h0,h1,h⟩:=GH ns (town.length+1) hm
 have hl:town.length < sizeLine:=Nat.lt_of_lt_of_le (Nat.lt_trans ht (by decide)) big
 refine ⟨r,h0,h1,?_⟩
 simp at h
 refine runD_ap.trans ?_
 simp [VD,qx,qv,qB,jq,yQ,Ju,ki,hl,h]
theorem VI (ns:List Int) (town xs:List D) (hx:xs≠[]) (ht:town.length < 1000):∃ d,d∈xs/\gj [scr ns,.lst town,.lst xs]=.ok (d,[.non,.lst (town++[.int 0]),.non]):=by
 have hp:0 < xs.length:=List.length_pos_iff.mpr hx
 obtain ⟨r,h0,h1,h⟩:=wt ns town (many:=(xs.length:Int)) (by omega) ht
 obtain ⟨d,e,hd⟩:=qax (xs:=xs) h0 h1
 refine ⟨d,hd,?_⟩
 refine runD_ap.trans ?_
 simp [VE,qx,qv,qB,jq,ki,h,ixD,e]
def az (c:Nat):Prop:=97<=c/\c<=122
def KF (w:Str):Prop:=1<=w.length/\w.length<=6/\∀ c∈w.cps.toList,az c
theorem vc (x:Str):x.length=x.cps.size:=rfl
theorem gk (x y:Str):(x++y).cps=x.cps++y.cps:=rfl
theorem XG:∀ cs:List Nat,Txt.join (Str.ofString "") (cs.map fun c=>(⟨#[c]⟩:Str))=⟨cs.toArray⟩:=by
 intro cs
 have e:∀ cs:List Nat,Str.join (Str.ofString "") (cs.map fun c=>(⟨#[c]⟩:Str))=⟨cs.toArray⟩:=by
  intro cs
  induction cs with
  | nil=>rfl
  | cons c cs ih=>
   cases cs with
   | nil=>rfl
   | cons d ds=>
    show (⟨#[c]⟩:Str)++Str.ofString ""++Str.join (Str.ofString "") ((d::ds).map fun c=>(⟨#[c]⟩:Str))=_
    rw [ih]
    have:((⟨#[c]⟩:Str)++Str.ofString ""++(⟨(d::ds).toArray⟩:Str)).cps=(c::d::ds).toArray:=by
     rw [gk,gk]
     have:(Str.ofString "").cps=#[]:=by decide +kernel
     rw [this]
     simp
    generalize h:(⟨#[c]⟩:Str)++Str.ofString ""++(⟨(d::ds).toArray⟩:Str)=x at this
    obtain ⟨y⟩:=x
    simp only at this
    rw [this]
 unfold Txt.join
 rw [StrLaws.glued_eq_join]
 exact e cs
theorem WK:∀ cs:List Nat,((cs.map fun c=>(⟨#[c]⟩:Str)).map (·.length)).sum=cs.length
 | []=>rfl
 | c::cs=>by
  have ih:=WK cs
  rw [List.map_cons,List.map_cons,List.sum_cons,ih,List.length_cons]
  show 1 + _=_
  omega
theorem ui:∀ ws:List Str,yu (ws.map D.str)=some ws
 | []=>rfl
 | w::ws=>by simp [yu,ui ws]
theorem vQ (w:Str):∀ ws:List Str,gN 7 (.str w) (ws.map D.str)=some (decide (w∈ws))
 | []=>by simp [gN]
 | a::ws=>by
  have ih:=vQ w ws
  simp only [List.map_cons,gN,ih]
  simp [eqN,eqS]
  by_cases h:a=w
  ·simp [h]
  ·simp [h,Ne.symm h]
def je (ws:List Str):Prop:=1<=ws.length/\ws.length<=6/\ws.Nodup/\∀ w∈ws,KF w
theorem qb5:(Str.ofString "abcdefghijklmnopqrstuvwxyz").cps.toList.length=26:=by decide +kernel
theorem qd6:∀ c∈(Str.ofString "abcdefghijklmnopqrstuvwxyz").cps.toList,az c:=by
 unfold az
 decide +kernel
abbrev qd7:Sl->Out (Fl×Sl):=(jL 3 (d2 kz (qd 3) (d2 ixD (dC (.str "abcdefghijklmnopqrstuvwxyz")) (qt [.vl,.sl 1,.vl] jP (qc (qd 0) (kC (qc (qd 2) qC)))))))
theorem KG (ns:List Int) {few:Int} (h0:0 < few) (h1:few<=26):∀ (ds:List D) (town:List D) (w:Str) (k:Option D),town.length+ds.length < 1000->w.length+ds.length<=100->(∀ c∈w.cps.toList,az c) ->
  ∃ town' w' k',town'.length=town.length+ds.length/\w'.length=w.length+ds.length/\(∀ c∈w'.cps.toList,az c)/\jS (gNm 4) qd7 ds [some (scr ns),some (.lst town),some (.int few),some (.str w),k]=.ok (.nx,[some (scr ns),some (.lst town'),some (.int few),some (.str w'),k'])
 | [],town,w,k,_,_,hw=>⟨town,w,k,rfl,rfl,hw,rfl⟩
 | d::ds,town,w,k,ht,hl,hw=>by
  rw [List.length_cons] at ht hl
  obtain ⟨r,r0,r1,hr⟩:=wt ns town (many:=few) h0 (by omega)
  obtain ⟨c,hc,hm⟩:=qax (xs:=(Str.ofString "abcdefghijklmnopqrstuvwxyz").cps.toList) (i:=r) r0 (by rw [qb5]; omega)
  obtain ⟨town',w',k',a1,a2,a3,a4⟩:=KG ns h0 h1 ds (town++[.int 0]) (w++⟨#[c]⟩) (some d) (by rw [List.length_append]; simp; omega) (by rw [vc,gk,Array.size_append]; rw [vc] at hl; simp; omega) (fun x hx=>by
   rw [gk,Array.toList_append,List.mem_append] at hx
   rcases hx with hx | hx
   ·exact hw x hx
   ·simp at hx
    rw [hx]
    exact qd6 c hm)
  refine ⟨town',w',k',?_,?_,a3,?_⟩
  ·rw [a1,List.length_append,List.length_cons]
   simp
   omega
  ·rw [a2,vc,gk,Array.size_append,<-vc,List.length_cons]
   simp
   omega
  ·have hz:w.length+Str.length ⟨#[c]⟩<=sizeLine:=by
    have:=big
    simp [vc] at hl ⊢
    omega
   rw [<-a4]
   simp [jS,qd7,qB,jq,hr,ixD,hc,kz,hz]
theorem qb6 (ns:List Int) (town:List D) {few:Int} (h0:0 < few) (h1:few<=26) (ht:town.length < 900):∃ w town',KF w/\town'.length<=town.length+8/\Ja [scr ns,.lst town,.int few]=.ok (.str w,[.non,.lst town',.non]):=by
 obtain ⟨d,hd,hp⟩:=VI ns town [.int 2,.int 3,.int 6] (by simp) (by omega)
 obtain ⟨m,rfl,m0,m1⟩:∃ m:Int,d=.int m/\0 < m/\m<=6:=by
  simp at hd
  rcases hd with rfl | rfl | rfl
  ·exact ⟨2,rfl,by omega,by omega⟩
  ·exact ⟨3,rfl,by omega,by omega⟩
  ·exact ⟨6,rfl,by omega,by omega⟩
 obtain ⟨r,r0,r1,hr⟩:=wt ns (town++[.int 0]) (many:=m) m0 (by rw [List.length_append]; simp; omega)
 have hlen:(Js 0 (1+r).toNat).length=(1+r).toNat:=by simp [Js]
 have e0:Str.length (Str.ofString "")=0:=by decide +kernel
 obtain ⟨town',w',k',a1,a2,a3,a4⟩:=KG ns h0 h1 (Js 0 (1+r).toNat) (town++[.int 0]++[.int 0]) "" none (by rw [hlen,List.length_append,List.length_append]; simp; omega) (by rw [hlen,e0]; omega) (by
  have:(Str.ofString "").cps.toList=[]:=by decide +kernel
  rw [this]
  intro c hc
  cases hc)
 refine ⟨w',town',⟨?_,?_,a3⟩,?_,?_⟩
 ·rw [a2,e0,hlen]
  omega
 ·rw [a2,e0,hlen]
  omega
 ·rw [a1,hlen,List.length_append,List.length_append]
  simp
  omega
 ·refine runD_ap.trans ?_
  have c1:-(2 ^ 62:Int)<=1+r/\1+r < 2 ^ 62:=by omega
  have hb:=big
  have hz:3<=sizeLine:=by omega
  simp only [List.append_assoc,List.cons_append,List.nil_append] at a4 hr
  simp [VF,qx,qv,qB,jq,hp,hr,kb,kz,-Int.reducePow,c1,hz,a4]
abbrev XH:Sl->Out (Fl×Sl):=(qS (jL 6 (qt [.vl,.sl 1,.vl] Ja (qc (qd 0) (kC (qc (qd 3) qC)))))
  (sIf (qT (d2 xN (qd 6) (qd 4))) (vC (zz 4 Ju (qd 6))) jm))
theorem xh (ns:List Int) (most:D) {few:Int} (h0:0 < few) (h1:few<=26):∀ (ds:List D) (town:List D) (ws:List Str) (k u:Option D),town.length+8 * ds.length < 900->ws.length+ds.length<=100->ws.Nodup->(∀ w∈ws,KF w) ->
  ∃ (town':List D) (ws':List Str) (k' u':Option D),town'.length<=town.length+8 * ds.length/\ws'.length<=ws.length+ds.length/\ws.length<=ws'.length/\(ds≠[]->1<=ws'.length)/\ws'.Nodup/\(∀ w∈ws',KF w) /\
   jS (gNm 5) XH ds [some (scr ns),some (.lst town),some most,some (.int few),some (.lst (ws.map D.str)),k,u]=.ok (.nx,[some (scr ns),some (.lst town'),some most,some (.int few),some (.lst (ws'.map D.str)),k',u'])
 | [],town,ws,k,u,_,_,hn,hw=>⟨town,ws,k,u,by simp,by simp,by simp,by simp,hn,hw,rfl⟩
 | d::ds,town,ws,k,u,ht,hl,hn,hw=>by
  rw [List.length_cons] at ht hl
  obtain ⟨w,t1,hW,ht1,hg⟩:=qb6 ns town h0 h1 (by omega)
  have hb:=big
  have hz:ws.length < sizeLine:=by omega
  by_cases hm:w∈ws
  ·obtain ⟨town',ws',k',u',a1,a2,a3,a4,a5,a6,a7⟩:=xh ns most h0 h1 ds t1 ws (some d) (some (.str w)) (by omega) (by omega) hn hw
   refine ⟨town',ws',k',u',by rw [List.length_cons]; omega,by rw [List.length_cons]; omega,a3,fun _=>?_,a5,a6,?_⟩
   ·have:0 < ws.length:=List.length_pos_of_mem hm
    omega
   ·rw [<-a7]
    simp [jS,XH,qB,jq,hg,xN,Ug,inD,vQ,hm]
  ·obtain ⟨town',ws',k',u',a1,a2,a3,a4,a5,a6,a7⟩:=xh ns most h0 h1 ds t1 (ws++[w]) (some d) (some (.str w)) (by omega) (by rw [List.length_append]; simp; omega) (List.nodup_append.mpr ⟨hn,by simp,fun a ha b hb=>by
    rw [List.mem_singleton.mp hb]
    exact fun z=>hm (z ▸ ha)⟩) (fun x hx=>by
    rcases List.mem_append.mp hx with hx | hx
    ·exact hw x hx
    ·rw [List.mem_singleton.mp hx]
     exact hW)
   rw [List.length_append] at a2 a3
   simp at a2 a3
   refine ⟨town',ws',k',u',by rw [List.length_cons]; omega,by rw [List.length_cons]; omega,by omega,fun _=>by omega,a5,a6,?_⟩
   rw [<-a7]
   simp [jS,XH,qB,jq,hg,xN,Ug,inD,vQ,hm,yQ,Ju,hz]
theorem GI (ns:List Int) (town:List D) (ht:town.length < 700):∃ ws town',je ws/\town'.length<=town.length+50/\Jc [scr ns,.lst town,.int 6]=.ok (.tup (ws.map D.str),[.non,.lst town',.non]):=by
 obtain ⟨d,hd,hp⟩:=VI ns town [.int 2,.int 3,.int 4,.int 6,.int 26] (by simp) (by omega)
 obtain ⟨m,rfl,m0,m1⟩:∃ m:Int,d=.int m/\0 < m/\m<=26:=by
  simp at hd
  rcases hd with rfl | rfl | rfl | rfl | rfl
  ·exact ⟨2,rfl,by omega,by omega⟩
  ·exact ⟨3,rfl,by omega,by omega⟩
  ·exact ⟨4,rfl,by omega,by omega⟩
  ·exact ⟨6,rfl,by omega,by omega⟩
  ·exact ⟨26,rfl,by omega,by omega⟩
 obtain ⟨r,r0,r1,hr⟩:=wt ns (town++[.int 0]) (many:=6) (by omega) (by rw [List.length_append]; simp; omega)
 have hlen:(Js 0 (1+r).toNat).length=(1+r).toNat:=by simp [Js]
 obtain ⟨town',ws',k',u',a1,a2,a3,a4,a5,a6,a7⟩:=xh ns (.int 6) m0 m1 (Js 0 (1+r).toNat) (town++[.int 0]++[.int 0]) [] none none (by rw [hlen,List.length_append,List.length_append]; simp; omega) (by rw [hlen]; simp; omega) List.nodup_nil (by simp)
 have hne:Js 0 (1+r).toNat≠[]:=fun z=>by
  rw [z] at hlen
  simp at hlen
  omega
 refine ⟨ws',town',⟨a4 hne,?_,a5,a6⟩,?_,?_⟩
 ·rw [hlen] at a2
  simp at a2
  omega
 ·rw [hlen,List.length_append,List.length_append] at a1
  simp at a1
  omega
 ·refine runD_ap.trans ?_
  have c1:-(2 ^ 62:Int)<=1+r/\1+r < 2 ^ 62:=by omega
  have hb:=big
  have hz:5<=sizeLine:=by omega
  simp only [List.append_assoc,List.cons_append,List.nil_append,List.map_nil] at a7 hr
  simp [Jb,qx,qv,qB,jq,hp,hr,kb,kz,-Int.reducePow,c1,hz,a7,uL]
def KP (p q:Int):Prop:=(-3<=p/\p<=2)/\-3<=q/\q<=2
theorem qb7 (ns:List Int) (town:List D) (ht:town.length < 900):∃ p q town',KP p q/\town'.length=town.length+2/\VH [scr ns,.lst town]=.ok (.tup [.int p,.int q],[.non,.lst town']):=by
 obtain ⟨r,r0,r1,hr⟩:=wt ns town (many:=6) (by omega) (by omega)
 obtain ⟨u,u0,u1,hu⟩:=wt ns (town++[.int 0]) (many:=6) (by omega) (by rw [List.length_append]; simp; omega)
 have hb:=big
 have hz:2<=sizeLine:=by omega
 refine ⟨r - 3,u - 3,town++[.int 0,.int 0],⟨⟨by omega,by omega⟩,by omega,by omega⟩,by simp,?_⟩
 refine runD_ap.trans ?_
 simp only [List.append_assoc,List.cons_append,List.nil_append] at hu
 simp [VG,qx,qv,qB,jq,hr,hu,Jr,xm,hz]
noncomputable def vR (n:Nat) (p:Int):Nat:=(max 0 (min (if 0<=p then p else (n:Int)+p) ((n:Int) - 1))).toNat
noncomputable def Qb (w:Str) (p:Int):Str:=⟨#[(w.cps.toList[vR w.length p]?).getD 0]⟩
theorem xJ {w:Str} (hw:KF w) (p:Int):kZ [.str w,.int p]=.ok (.str (Qb w p),[.non,.non]):=by
 have h1:=hw.1
 have hn:(w.cps.toList.length:Int)=w.length:=by simp [vc]
 have key:∀ q:Int,q=(if 0<=p then p else (w.length:Int)+p)->atI w.cps.toList (if 0 < (if (w.length:Int) - 1 < q then (w.length:Int) - 1 else q) then (if (w.length:Int) - 1 < q then (w.length:Int) - 1 else q) else 0)=some ((w.cps.toList[vR w.length p]?).getD 0):=by
  intro q hq
  have e:(if 0 < (if (w.length:Int) - 1 < q then (w.length:Int) - 1 else q) then (if (w.length:Int) - 1 < q then (w.length:Int) - 1 else q) else 0)=(vR w.length p:Int):=by
   unfold vR
   rw [<-hq]
   have:1<=(w.length:Int):=by omega
   generalize (w.length:Int)=n at *
   split <;> split <;> omega
  have hl:vR w.length p < w.cps.toList.length:=by
   have hn':w.cps.toList.length=w.length:=by simp [vc]
   rw [hn']
   unfold vR
   omega
  rw [e,kO,List.getElem?_eq_getElem hl]
  rfl
 refine runD_ap.trans ?_
 by_cases hp:0<=p
 ·have k:=key p (by rw [if_pos hp])
  simp [wc,qx,qv,geD,xm,hp,qfa,qfb,Jr,ki,ixD,k,Qb]
 ·have k:=key (w.length+p) (by rw [if_neg hp])
  simp [wc,qx,qv,geD,xm,hp,qfa,qfb,Jr,kz,ki,ixD,k,Qb]
theorem KH {w:Str} (h:KF w):(∃ a,w=⟨#[a]⟩)\/(∃ a b,w=⟨#[a,b]⟩)\/(∃ a b c,w=⟨#[a,b,c]⟩)\/(∃ a b c d,w=⟨#[a,b,c,d]⟩)\/(∃ a b c d e,w=⟨#[a,b,c,d,e]⟩)\/∃ a b c d e f,w=⟨#[a,b,c,d,e,f]⟩:=by
 obtain ⟨⟨l⟩⟩:=w
 have h1:1<=l.length:=h.1
 have h2:l.length<=6:=h.2.1
 match l,h1,h2 with
 | [a],_,_=>exact .inl ⟨a,rfl⟩
 | [a,b],_,_=>exact .inr (.inl ⟨a,b,rfl⟩)
 | [a,b,c],_,_=>exact .inr (.inr (.inl ⟨a,b,c,rfl⟩))
 | [a,b,c,d],_,_=>exact .inr (.inr (.inr (.inl ⟨a,b,c,d,rfl⟩)))
 | [a,b,c,d,e],_,_=>exact .inr (.inr (.inr (.inr (.inl ⟨a,b,c,d,e,rfl⟩))))
 | [a,b,c,d,e,f],_,_=>exact .inr (.inr (.inr (.inr (.inr ⟨a,b,c,d,e,f,rfl⟩))))
theorem uE {own:List Nat} (ρc:Sl):∀ (cap:List Nat) (n:Nat) (ρ:Sl),(∀ k∈cap,k∉own)->jU own ρc n cap ρ=ρ
 | [],n,ρ,_=>rfl
 | k::cap,n,ρ,h=>by
  unfold jU
  rw [if_neg (h k (List.mem_cons_self ..))]
  exact uE ρc cap (n+1) ρ fun x hx=>h x (List.mem_cons_of_mem _ hx)
theorem qd8 {fe:Sl->Out (D×Sl)} {ft:Sl->Out (Bool×Sl)} {P:D->Bool} {F:D->D} {caps:Sl}:∀ (ds:List D) (x:Option D),(∀ d∈ds,ft (some d::caps)=.ok (P d,some d::caps))->(∀ d∈ds,P d=true->fe (some d::caps)=.ok (F d,some d::caps))->∃ x',jN (gNm 0) ft fe ds (x::caps)=.ok ((ds.filter P).map F,x'::caps)
 | [],x,_,_=>⟨x,rfl⟩
 | d::ds,x,h,h'=>by
  obtain ⟨x',e⟩:=qd8 ds (some d) (fun d' hd=>h d' (List.mem_cons_of_mem _ hd)) fun d' hd=>h' d' (List.mem_cons_of_mem _ hd)
  refine ⟨x',?_⟩
  have h1:=h d (List.mem_cons_self ..)
  have h2:=h' d (List.mem_cons_self ..)
  cases q:P d with
  | true=>simp [jN,zy,h1,q,h2 q,e]
  | false=>simp [jN,zy,h1,q,e]
theorem XI {own:List Nat} {cap:List Nat} {fi:Sl->Out (List D×Sl)} {fe:Sl->Out (D×Sl)} {ft:Sl->Out (Bool×Sl)} {ρ ρ1:Sl} {ds:List D} (P:D->Bool) (F:D->D) (ho:∀ k∈cap,k∉own) (h:fi ρ=.ok (ds,ρ1)) (hl:ds.length<=sizeLine)
  (ht:∀ d∈ds,ft (some d::cap.map fun k=>(ρ1[k]?).getD none)=.ok (P d,some d::cap.map fun k=>(ρ1[k]?).getD none)) (he:∀ d∈ds,P d=true->fe (some d::cap.map fun k=>(ρ1[k]?).getD none)=.ok (F d,some d::cap.map fun k=>(ρ1[k]?).getD none)) :
  qN own 1 cap fi (gNm 0) ft fe ρ=.ok (.lst ((ds.filter P).map F),ρ1):=by
 obtain ⟨x',e⟩:=qd8 ds none ht he
 unfold qN
 rw [h]
 simp only [ka]
 rw [if_pos hl,show kD 1 cap ρ1=none::cap.map fun k=>(ρ1[k]?).getD none from rfl,e]
 simp only [ka,uE _ _ _ _ ho]
theorem xi {own:List Nat} {cap:List Nat} {fi:Sl->Out (List D×Sl)} {fe:Sl->Out (D×Sl)} {ρ ρ1:Sl} {ds:List D} (F:D->D) (ho:∀ k∈cap,k∉own) (h:fi ρ=.ok (ds,ρ1)) (hl:ds.length<=sizeLine) (ht:∀ d∈ds,fe (some d::cap.map fun k=>(ρ1[k]?).getD none)=.ok (F d,some d::cap.map fun k=>(ρ1[k]?).getD none)) :
  qN own 1 cap fi (gNm 0) ftT fe ρ=.ok (.lst (ds.map F),ρ1):=by
 have e:=XI (ft:=ftT) (fun _=>true) F ho h hl (fun _ _=>rfl) fun d hd _=>ht d hd
 rw [List.filter_eq_self.mpr fun _ _=>rfl] at e
 exact e
theorem uj {cap:List Nat} {fi:Sl->Out (List D×Sl)} {fe:Sl->Out (D×Sl)} {ρ ρ1:Sl} {ds:List D} (F:D->D) (h:fi ρ=.ok (ds,ρ1)) (hl:ds.length<=sizeLine) (ht:∀ d∈ds,fe (some d::cap.map fun k=>(ρ1[k]?).getD none)=.ok (F d,some d::cap.map fun k=>(ρ1[k]?).getD none)) :
  qN [] 1 cap fi (gNm 0) ftT fe ρ=.ok (.lst (ds.map F),ρ1):=xi F (fun _ _=>by simp) h hl ht
theorem qay {fe:Sl->Out (D×Sl)} {ft:Sl->Out (Bool×Sl)} {P:D×D->Bool} {F:D×D->D} {caps:Sl}:∀ (ps:List (D×D)) (x y:Option D),(∀ p∈ps,ft (some p.1::some p.2::caps)=.ok (P p,some p.1::some p.2::caps))->(∀ p∈ps,P p=true->fe (some p.1::some p.2::caps)=.ok (F p,some p.1::some p.2::caps)) ->
  ∃ x' y',jN (jG 2 (qy (gNm 0) (qy (gNm 1) jF))) ft fe (ps.map fun p=>.tup [p.1,p.2]) (x::y::caps)=.ok ((ps.filter P).map F,x'::y'::caps)
 | [],x,y,_,_=>⟨x,y,rfl⟩
 | p::ps,x,y,h,h'=>by
  obtain ⟨x',y',e⟩:=qay ps (some p.1) (some p.2) (fun d' hd=>h d' (List.mem_cons_of_mem _ hd)) fun d' hd=>h' d' (List.mem_cons_of_mem _ hd)
  refine ⟨x',y',?_⟩
  have h1:=h p (List.mem_cons_self ..)
  have h2:=h' p (List.mem_cons_self ..)
  cases q:P p with
  | true=>simp [jN,zy,jG,qy,jF,h1,q,h2 q,e]
  | false=>simp [jN,zy,jG,qy,jF,h1,q,e]
theorem qb8 {own:List Nat} {cap:List Nat} {fi:Sl->Out (List D×Sl)} {fe:Sl->Out (D×Sl)} {ft:Sl->Out (Bool×Sl)} {ρ ρ1:Sl} {ps:List (D×D)} (P:D×D->Bool) (F:D×D->D) (ho:∀ k∈cap,k∉own) (h:fi ρ=.ok (ps.map fun p=>.tup [p.1,p.2],ρ1)) (hl:ps.length<=sizeLine)
  (ht:∀ p∈ps,ft (some p.1::some p.2::cap.map fun k=>(ρ1[k]?).getD none)=.ok (P p,some p.1::some p.2::cap.map fun k=>(ρ1[k]?).getD none))
  (he:∀ p∈ps,P p=true->fe (some p.1::some p.2::cap.map fun k=>(ρ1[k]?).getD none)=.ok (F p,some p.1::some p.2::cap.map fun k=>(ρ1[k]?).getD none)) :
  qN own 2 cap fi (jG 2 (qy (gNm 0) (qy (gNm 1) jF))) ft fe ρ=.ok (.lst ((ps.filter P).map F),ρ1):=by
 obtain ⟨x',y',e⟩:=qay ps none none ht he
 unfold qN
 rw [h]
 simp only [ka]
 rw [if_pos (by rw [List.length_map]; exact hl),show kD 2 cap ρ1=none::none::cap.map fun k=>(ρ1[k]?).getD none from rfl,e]
 simp only [ka,uE _ _ _ _ ho]
noncomputable def qH (ws:List Str) (p q:Int):List (Str×Str):=ws.map fun w=>(Qb w p,Qb w q)
noncomputable def qo (l:List (Str×Str)):List D:=l.map fun x=>.tup [.str x.1,.str x.2]
theorem jz {n:Nat} (h:n<=2000):n<=sizeLine:=Nat.le_trans h big
abbrev Wd (ws:List Str):D:=.tup (ws.map D.str)
abbrev Ld (p q:Int):D:=.tup [.int p,.int q]
theorem UD {G:List D->Out (D×List D)} {ws:List Str} (hw:je ws) {p q:Int} (hG:∀ w∈ws,G [.str w,.int p]=.ok (.str (Qb w p),[.non,.non])/\G [.str w,.int q]=.ok (.str (Qb w q),[.non,.non])) :
  qN [] 1 [1] (jr (qd 0)) (gNm 0) ftT (yL (qc (qt [.vl,.vl] G (qc (qd 0) (qc (d2 ixD (qd 1) (dC (.int 0))) qC))) (qc (qt [.vl,.vl] G (qc (qd 0) (qc (d2 ixD (qd 1) (dC (.int 1))) qC))) qC))) [some (Wd ws),some (Ld p q)]
   = .ok (.lst (qo (qH ws p q)),[some (Wd ws),some (Ld p q)]):=by
 have e:=uj (cap:=[1]) (fi:=jr (qd 0)) (ρ:=[some (Wd ws),some (Ld p q)]) (ρ1:=[some (Wd ws),some (Ld p q)]) (ds:=ws.map D.str)
  (fe:=(yL (qc (qt [.vl,.vl] G (qc (qd 0) (qc (d2 ixD (qd 1) (dC (.int 0))) qC))) (qc (qt [.vl,.vl] G (qc (qd 0) (qc (d2 ixD (qd 1) (dC (.int 1))) qC))) qC))))
  (fun d=>match d with | .str w=>.tup [.str (Qb w p),.str (Qb w q)] | d=>d) (by simp [jt]) (by rw [List.length_map]; exact jz (by have:=hw.2.1; omega)) (fun d hd=>by
   obtain ⟨w,hm,rfl⟩:=List.mem_map.mp hd
   obtain ⟨h1,h2⟩:=hG w hm
   have hz:2<=sizeLine:=jz (by omega)
   simp [qB,jq,ixD,atI,ixN,h1,h2,hz])
 rw [e]
 simp [qo,qH]
def Pl:D->Prop
 | .raw _=>False
 | .xcp _=>False
 | .ins _ _=>False
 | .dct _=>False
 | .at_ _ _=>False
 | _=>True
@[simp] theorem kk1:kl "NoneType" "int"=some false:=by decide +kernel
@[simp] theorem kk2:kl "bool" "int"=some true:=by decide +kernel
@[simp] theorem kk3:kl "int" "int"=some true:=by decide +kernel
@[simp] theorem kk4:kl "str" "int"=some false:=by decide +kernel
@[simp] theorem kk5:kl "tuple" "int"=some false:=by decide +kernel
@[simp] theorem kk6:kl "list" "int"=some false:=by decide +kernel
@[simp] theorem kb1:kl "NoneType" "bool"=some false:=by decide +kernel
@[simp] theorem kb2:kl "bool" "bool"=some true:=by decide +kernel
@[simp] theorem kb3:kl "int" "bool"=some false:=by decide +kernel
@[simp] theorem kb4:kl "str" "bool"=some false:=by decide +kernel
@[simp] theorem kb5:kl "tuple" "bool"=some false:=by decide +kernel
@[simp] theorem kb6:kl "list" "bool"=some false:=by decide +kernel
@[simp] theorem ks1:kl "NoneType" "str"=some false:=by decide +kernel
@[simp] theorem ks2:kl "bool" "str"=some false:=by decide +kernel
@[simp] theorem ks3:kl "int" "str"=some false:=by decide +kernel
@[simp] theorem ks4:kl "str" "str"=some true:=by decide +kernel
@[simp] theorem ks5:kl "tuple" "str"=some false:=by decide +kernel
@[simp] theorem ks6:kl "list" "str"=some false:=by decide +kernel
@[simp] theorem kt1:kl "NoneType" "tuple"=some false:=by decide +kernel
@[simp] theorem kt2:kl "bool" "tuple"=some false:=by decide +kernel
@[simp] theorem kt3:kl "int" "tuple"=some false:=by decide +kernel
@[simp] theorem kt4:kl "str" "tuple"=some false:=by decide +kernel
@[simp] theorem kt5:kl "tuple" "tuple"=some true:=by decide +kernel
@[simp] theorem kt6:kl "list" "tuple"=some false:=by decide +kernel
noncomputable def qb9:D->Bool
 | .tup _=>true
 | _=>false
noncomputable def isInt:D->Bool
 | .int _=>true
 | .bl _=>true
 | _=>false
theorem qd9 {d:D} (h:Pl d):gz "tuple" d=.ok (.bl (qb9 d)):=by cases d <;> first | exact h.elim | simp [gz,tyN,qb9]
noncomputable def qaz:D->Bool
 | .str x=>decide (x.length=1)&&(!uS x "a"&&!uS "z" x)
 | _=>false
noncomputable def VJ (lo hi:Int):D->Bool
 | .int i=>decide (lo<=i)&&decide (i<=hi)
 | _=>false
theorem KI {d:D} (h:Pl d):vY [d]=.ok (.bl (qaz d),[.non]):=by
 refine runD_ap.trans ?_
 cases d <;> first
  | exact h.elim
  | (simp [kY,qx,qv,gz,tyN,qaz]; done)
  | skip
 rename_i x
 by_cases h1:x.length=1
 ·have h1':(x.length:Int)=1:=by omega
  cases h2:uS x "a" <;> simp [kY,qx,gz,tyN,ki,eqD,eqN,eqS,leD,qv,qaz,h1,h1',h2]
 ·have h1':¬(x.length:Int)=1:=by omega
  simp [kY,qx,gz,tyN,ki,eqD,eqN,eqS,leD,qv,qaz,h1,h1']
theorem kJ {d:D} (h:Pl d) (lo hi:Int):jC [d,.int lo,.int hi]=.ok (.bl (VJ lo hi d),[.non,.non,.non]):=by
 refine runD_ap.trans ?_
 cases d <;> first
  | exact h.elim
  | (simp [vj,qx,qv,gz,tyN,VJ,ww]; done)
  | skip
 rename_i i
 by_cases h1:lo<=i <;> simp [vj,qx,gz,tyN,leD,qv,VJ,ww,h1]
theorem qea {c:Nat} (h:az c):qaz (.str ⟨#[c]⟩)=true:=by
 have ha:(Str.ofString "a").cps.toList=[97]:=by decide +kernel
 have hz:(Str.ofString "z").cps.toList=[122]:=by decide +kernel
 obtain ⟨h1,h2⟩:=h
 have l1:¬([c]:List Nat) < [97]:=by
  rw [List.cons_lt_cons_iff]
  simp
  omega
 have l2:¬([122]:List Nat) < [c]:=by
  rw [List.cons_lt_cons_iff]
  simp
  omega
 have e1:uS ⟨#[c]⟩ (Str.ofString "a")=false:=by
  unfold uS
  rw [ha]
  exact decide_eq_false l1
 have e2:uS (Str.ofString "z") ⟨#[c]⟩=false:=by
  unfold uS
  rw [hz]
  exact decide_eq_false l2
 simp [qaz,vc,e1,e2]
theorem Qc {α:Type} (f:α->Bool):∀ l:List α,xq (l.map fun x=>.bl (f x))=some (l.map f)
 | []=>rfl
 | a::l=>by
  have ih:=Qc f l
  simp [xq,ih]
theorem yJ {α:Type} (f:α->Bool) (l:List α):Ul (.lst (l.map fun x=>.bl (f x)))=.ok (.bl (l.all f)):=by
 simp only [Ul,Qc]
 simp [List.all_map,Function.comp_def]
theorem VL {w:Str} (hw:KF w) (p:Int):∃ c,az c/\Qb w p=⟨#[c]⟩:=by
 have hn:w.cps.toList.length=w.length:=by simp [vc]
 have hl:vR w.length p < w.cps.toList.length:=by
  have:=hw.1
  rw [hn]
  unfold vR
  omega
 refine ⟨w.cps.toList[vR w.length p],hw.2.2 _ (List.getElem_mem hl),?_⟩
 unfold Qb
 rw [List.getElem?_eq_getElem hl]
 rfl
theorem UE {w:Str} (hw:KF w):yw [.str w]=.ok (.bl true,[.non]):=by
 refine runD_ap.trans ?_
 have e:=uj (cap:=[]) (fi:=jr (qd 0)) (ρ:=[some (.str w)]) (ρ1:=[some (.str w)]) (ds:=xM w) (fe:=qt [.vl] vY (qc (qd 0) qC)) (fun d=>.bl (qaz d)) (by simp [jt]) (by
   have:=hw.2.1
   simp [xM,<-vc]
   exact jz (by omega)) (fun d hd=>by
   obtain ⟨c,hc,rfl⟩:=List.mem_map.mp hd
   have h1:=KI (d:=.str ⟨#[c]⟩) trivial
   simp [qB,jq,h1])
 have ha:(xM w).all qaz=true:=by
  rw [List.all_eq_true]
  intro d hd
  obtain ⟨c,hc,rfl⟩:=List.mem_map.mp hd
  exact qea (hw.2.2 c hc)
 have h1:(1:Int)<=w.length:=by have:=hw.1; omega
 have h6:(w.length:Int)<=6:=by have:=hw.2.1; omega
 simp only [zQ,qx,List.map_cons,List.map_nil,List.length_cons,List.length_nil,Nat.reduceAdd,Nat.sub_self,List.replicate_zero,List.append_nil]
 simp [gz,tyN,ww,ki,leD,h1,h6,e,yJ,ha,qv]
theorem gl:∀ (ws ks:List Str),ws.Nodup->(∀ x∈ws,x∉ks)->ws.foldl vE ks=ks++ws
 | [],ks,_,_=>by simp
 | w::ws,ks,hn,hd=>by
  have h1:=List.nodup_cons.mp hn
  rw [List.foldl_cons,show vE ks w=ks++[w] from if_neg (hd w (List.mem_cons_self ..)),gl ws (ks++[w]) h1.2 ?_]
  ·simp
  ·intro x hx z
   rcases List.mem_append.mp z with z | z
   ·exact hd x (List.mem_cons_of_mem _ hx) z
   ·rw [List.mem_singleton.mp z] at hx
    exact h1.1 hx
theorem KJ (ws:List Str):∀ ks:List Str,ks.Nodup->(ws.foldl vE ks).Nodup/\∀ x,x∈ws.foldl vE ks↔x∈ks\/x∈ws:=by
 induction ws with
 | nil=>intro ks hn; exact ⟨hn,fun x=>by simp⟩
 | cons w ws ih=>
  intro ks hn
  have hn2:(vE ks w).Nodup:=by
   unfold vE
   split
   ·exact hn
   ·rename_i h
    exact List.nodup_append.mpr ⟨hn,by simp,fun a ha b hb=>by
     rw [List.mem_singleton.mp hb]
     exact fun z=>h (z ▸ ha)⟩
  obtain ⟨a,b⟩:=ih (vE ks w) hn2
  refine ⟨a,fun x=>?_⟩
  rw [List.foldl_cons,b x]
  unfold vE
  split
  ·rename_i h
   constructor
   ·rintro (q | q)
    ·exact .inl q
    ·exact .inr (List.mem_cons_of_mem _ q)
   ·rintro (q | q)
    ·exact .inl q
    ·rcases List.mem_cons.mp q with rfl | q
     ·exact .inl h
     ·exact .inr q
  ·simp [List.mem_append,or_assoc]
theorem VM {ws:List Str} (hw:je ws):yU [.tup (ws.map D.str)]=.ok (.bl true,[.non]):=by
 refine runD_ap.trans ?_
 have e:=uj (cap:=[]) (fi:=jr (qd 0)) (ρ:=[some (.tup (ws.map D.str))]) (ρ1:=[some (.tup (ws.map D.str))]) (ds:=ws.map D.str) (fe:=qt [.vl] yw (qc (qd 0) qC)) (fun d=>.bl true) (by simp [jt]) (by
   rw [List.length_map]
   exact jz (by have:=hw.2.1; omega)) (fun d hd=>by
   obtain ⟨w,hm,rfl⟩:=List.mem_map.mp hd
   have h1:=UE (hw.2.2.2 w hm)
   simp [qB,jq,h1])
 have h1:(1:Int)<=ws.length:=by have:=hw.1; omega
 have h6:(ws.length:Int)<=6:=by have:=hw.2.1; omega
 have hf:ws.foldl vE []=ws:=by rw [gl ws [] hw.2.2.1 (by simp)]; simp
 have h4:ws.length < 4000:=by omega
 have ha:=yJ (fun _:D=>true) (ws.map D.str)
 simp only [yT,qx,List.map_cons,List.map_nil,List.length_cons,List.length_nil,Nat.reduceAdd,Nat.sub_self,List.replicate_zero,List.append_nil]
 simp [-List.map_map,gz,tyN,ww,ki,leD,h1,h6,e,ha,qv,Qw,zH,ui,hf,h4,eqD,eqN,eqS]
theorem gK {ws:List Str} (hw:je ws):wa [.tup (ws.map D.str)]=.ok (.non,[.non]):=by
 refine runD_ap.trans ?_
 have h:=VM hw
 simp [vZ,qx,qv,qB,jq,h,ww]
theorem UF {p q:Int} (hl:KP p q):zU [.tup [.int p,.int q]]=.ok (.bl true,[.non]):=by
 refine runD_ap.trans ?_
 have e:=uj (cap:=[]) (fi:=jr (qd 0)) (ρ:=[some (.tup [.int p,.int q])]) (ρ1:=[some (.tup [.int p,.int q])]) (ds:=[.int p,.int q]) (fe:=qt [.vl,.vl,.vl] jC (qc (qd 0) (qc (dC (.int (-3))) (qc (dC (.int 2)) qC)))) (fun d=>.bl (VJ (-3) 2 d)) (by simp [jt]) (jz (by simp)) (fun d hd=>by
   have hd:d=.int p\/d=.int q:=by simpa using hd
   have h1:=kJ (d:=.int p) trivial (-3) 2
   have h2:=kJ (d:=.int q) trivial (-3) 2
   rcases hd with rfl | rfl
   ·simp [qB,jq,h1]
   ·simp [qB,jq,h2])
 have b1:VJ (-3) 2 (.int p)=true:=by simp [VJ]; exact hl.1
 have b2:VJ (-3) 2 (.int q)=true:=by simp [VJ]; exact hl.2
 simp only [zT,qx,List.map_cons,List.map_nil,List.length_cons,List.length_nil,Nat.reduceAdd,Nat.sub_self,List.replicate_zero,List.append_nil]
 simp [gz,tyN,ww,ki,neD,eqN,eqS,e,Ul,xq,b1,b2,qv]
theorem Jf {p q:Int} (hl:KP p q):wO [.tup [.int p,.int q]]=.ok (.non,[.non]):=by
 refine runD_ap.trans ?_
 have h:=UF hl
 simp [wN,qx,qv,qB,jq,h,ww]
theorem wu {ws:List Str} (hw:je ws) {p q:Int} (hl:KP p q):kA [Wd ws,Ld p q]=.ok (.lst (qo (qH ws p q)),[.non,.non]):=by
 refine runD_ap.trans ?_
 have e:=UD (G:=kZ) hw (p:=p) (q:=q) fun w hm=>⟨xJ (hw.2.2.2 w hm) p,xJ (hw.2.2.2 w hm) q⟩
 have c1:=gK hw
 have c2:=Jf hl
 simp only [Vu,qx,List.map_cons,List.map_nil,List.length_cons,List.length_nil,Nat.reduceAdd,Nat.sub_self,List.replicate_zero,List.append_nil]
 simp [qB,jq,c1,c2,e,qv]
noncomputable def LS (l:List (Str×Str)):List Str:=xO ((l.map (·.1)++l.map (·.2)).foldl vE [])
theorem mem_LS {l:List (Str×Str)} {x:Str}:x∈LS l↔∃ p∈l,x=p.1\/x=p.2:=by
 unfold LS
 rw [(jV _).mem_iff,(KJ _ [] List.nodup_nil).2]
 simp only [List.not_mem_nil,false_or,List.mem_append,List.mem_map]
 constructor
 ·rintro (⟨p,hp,rfl⟩ | ⟨p,hp,rfl⟩)
  ·exact ⟨p,hp,.inl rfl⟩
  ·exact ⟨p,hp,.inr rfl⟩
 ·rintro ⟨p,hp,rfl | rfl⟩
  ·exact .inl ⟨p,hp,rfl⟩
  ·exact .inr ⟨p,hp,rfl⟩
theorem yK {l:List (Str×Str)} (hl:l.length<=20):jD [.lst (qo l)]=.ok (.lst ((LS l).map D.str),[.non]):=by
 refine runD_ap.trans ?_
 have hz:(qo l).length<=sizeLine:=by
  unfold qo
  rw [List.length_map]
  exact jz (by omega)
 have e1:=uj (cap:=[]) (fi:=jr (qd 0)) (ρ:=[some (.lst (qo l))]) (ρ1:=[some (.lst (qo l))]) (ds:=qo l) (fe:=d2 ixD (qd 0) (dC (.int 0))) (fun d=>match d with | .tup [a,b]=>a | d=>d) (by simp [jt]) hz (fun d hd=>by
   obtain ⟨x,hx,rfl⟩:=List.mem_map.mp hd
   simp [ixD,atI,ixN])
 have e2:=uj (cap:=[]) (fi:=jr (qd 0)) (ρ:=[some (.lst (qo l))]) (ρ1:=[some (.lst (qo l))]) (ds:=qo l) (fe:=d2 ixD (qd 0) (dC (.int 1))) (fun d=>match d with | .tup [a,b]=>b | d=>d) (by simp [jt]) hz (fun d hd=>by
   obtain ⟨x,hx,rfl⟩:=List.mem_map.mp hd
   simp [ixD,atI,ixN])
 have f1:(qo l).map (fun d=>match d with | .tup [a,b]=>a | d=>d)=(l.map (·.1)).map D.str:=by simp [qo]
 have f2:(qo l).map (fun d=>match d with | .tup [a,b]=>b | d=>d)=(l.map (·.2)).map D.str:=by simp [qo]
 rw [f1] at e1
 rw [f2] at e2
 have hs:l.length+l.length<=sizeLine:=jz (by omega)
 have h64:l.length+l.length < 64:=by omega
 simp only [wX,qx,List.map_cons,List.map_nil,List.length_cons,List.length_nil,Nat.reduceAdd,Nat.sub_self,List.replicate_zero,List.append_nil,qbP,wB,qf4,e1,e2,ka]
 simp only [kz,List.length_map,if_pos hs,qfZ,ka,<-List.map_append,zd,zH,ui,List.length_append,if_pos h64]
 simp [qv,LS]
theorem at0 {a:D} {l:List D}:atI (a::l) 0=some a:=by
 have:=kO (a::l) 0
 simpa using this
theorem at1 {a b:D} {l:List D}:atI (a::b::l) 1=some b:=by
 have:=kO (a::b::l) 1
 simpa using this
theorem Jg {d:D} (h:Pl d):wQ [d]=if VJ 1 99 d=true then .ok (.non,[.non]) else .exc "NoRoom" [some .non]:=by
 refine runD_ap.trans ?_
 have h1:=kJ h 1 99
 have hz:1<=sizeLine:=jz (by omega)
 cases e:VJ 1 99 d <;> simp [wP,qx,qv,qB,jq,h1,e,ww,uV]
theorem qw {ms:List PM} {f g:Sl->Out (Fl×Sl)} {ρ ρ1:Sl} (h:f ρ=.ok (.nx,ρ1)):UL ms (qS f g ρ)=UL ms (g ρ1):=by
 rw [zI,h]
 rfl
theorem qeb {ws:List Str} (hw:je ws) (p q:Int):(LS (qH ws p q)).length<=12:=by
 have hs:(qH ws p q).length<=6:=by simp [qH]; exact hw.2.1
 unfold LS
 rw [(jV _).length_eq]
 have:=wL ((qH ws p q).map (·.1)++(qH ws p q).map (·.2)) []
 simp only [List.length_append,List.length_map,List.length_nil] at this
 omega
theorem qgj {ws:List Str} (hw:je ws) (p q:Int):∀ x∈LS (qH ws p q),∃ c,az c/\x=⟨#[c]⟩:=fun x hx=>by
 obtain ⟨y,hy,h⟩:=mem_LS.mp hx
 obtain ⟨w,hm,rfl⟩:=List.mem_map.mp hy
 rcases h with rfl | rfl
 ·exact VL (hw.2.2.2 w hm) p
 ·exact VL (hw.2.2.2 w hm) q
abbrev Pr:=Str×Str
abbrev Wk:=List Nat
noncomputable def inL (l:Wk):List D:=l.map fun (k:Nat)=>.int (k:Nat)
abbrev lD (l:Wk):D:=.lst (inL l)
abbrev nD (ns:List Int):D:=.tup (ns.map D.int)
abbrev pD (p:Pr):D:=.tup [.str p.1,.str p.2]
noncomputable def nI (ns:List Int) (k:Nat):Int:=(ns[k]?).getD 0
theorem qec {ns:List Int} {k:Nat} (h:k < ns.length):ixD (nD ns) (.int (k:Nat))=.ok (.int (nI ns k)):=by
 unfold ixD nI
 simp only []
 rw [kO,List.getElem?_map,List.getElem?_eq_getElem h]
 rfl
noncomputable def qL (ns:List Int) (t:Int) (l:Wk):Int:=l.foldl (fun a k=>nI ns k - a) t
def qcQ (nd:D) (ns:List Int):Prop:=∀ k:Nat,k < ns.length->ixD nd (.int (k:Nat))=.ok (.int (nI ns k))
theorem qed (ns:List Int):qcQ (nD ns) ns:=fun _ h=>qec h
theorem Qd {nd:D} {ns:List Int} (hnd:qcQ nd ns) {a s:Option D}:∀ (l:Wk) (t:Int) (x:Option D),(∀ k∈l,k < ns.length)->∃ x',jS (gNm 4) (jL 3 (d2 Jr (d2 ixD (qd 1) (qd 4)) (qd 3))) (inL l) [a,some nd,s,some (.int t),x]=.ok (.nx,[a,some nd,s,some (.int (qL ns t l)),x'])
 | [],t,x,_=>⟨x,rfl⟩
 | k::l,t,x,h=>by
  have hk:=hnd k (h k (List.mem_cons_self ..))
  obtain ⟨x',e⟩:=Qd hnd (a:=a) (s:=s) l (nI ns k - t) (some (.int (k:Nat))) fun j hj=>h j (List.mem_cons_of_mem _ hj)
  refine ⟨x',?_⟩
  have e0:qL ns t (k::l)=qL ns (nI ns k - t) l:=rfl
  rw [e0,<-e]
  simp [inL,jS,hk,Jr,xm]
theorem VN {nd:D} {ns:List Int} (hnd:qcQ nd ns) {l:Wk} (h:∀ k∈l,k < ns.length) (t:Int):yY [lD l,nd,.int t]=.ok (.int (qL ns t l),[.non,.non,.non]):=by
 obtain ⟨x',e⟩:=Qd hnd (a:=some (lD l)) (s:=some (.int t)) l t none h
 refine runD_ap.trans ?_
 unfold yX
 rw [show qx yW [lD l,nd,.int t]=[some (lD l),some nd,some (.int t),none,none] from rfl]
 refine (qw (ρ1:=[some (lD l),some nd,some (.int t),some (.int t),none]) (by simp)).trans ?_
 refine (qw (ρ1:=[some (lD l),some nd,some (.int t),some (.int (qL ns t l)),x']) (by rw [vW]; exact e)).trans ?_
 simp [qv]
noncomputable def odd (l:Wk):Bool:=decide (l.length % 2=1)
theorem gm (l:Wk):we [lD l]=.ok (.bl (odd l),[.non]):=by
 refine runD_ap.trans ?_
 have h:((inL l).length:Int) % 2=((l.length % 2:Nat):Int):=by simp [inL]
 by_cases q:l.length % 2=1
 ·simp [zh,qx,ki,gB,xm,eqD,eqN,eqS,qv,h,odd,q]
 ·have q':¬((l.length % 2:Nat):Int)=1:=by omega
  simp [zh,qx,ki,gB,xm,eqD,eqN,eqS,qv,h,odd,q,q']
  omega
noncomputable def UG (l:Wk) (r:Int) (ns:List Int):Bool:=if odd l=true then decide (r % 2=0)&&decide (qL ns 0 l % 2=1) else !decide (qL ns 0 l % r=0)
theorem qca {nd:D} {ns:List Int} (hnd:qcQ nd ns) {l:Wk} (h:∀ k∈l,k < ns.length) {r:Int} (hr:1<=r):WD [lD l,.int r,nd]=.ok (.bl (UG l r ns),[.non,.non,.non]):=by
 have h1:=VN hnd h 0
 have h2:=gm l
 have hr':0 < r:=by omega
 refine runD_ap.trans ?_
 unfold UG
 generalize qL ns 0 l=t at h1
 cases q:odd l with
 | true=>
  rw [q] at h2
  by_cases e1:r % 2=0 <;> simp [WC,qx,qB,jq,h1,h2,ww,gB,xm,eqD,eqN,eqS,qv,e1] <;> rfl
 | false=>
  rw [q] at h2
  simp [WC,qx,qB,jq,h1,h2,ww,gB,xm,neD,eqN,eqS,qv,hr']
  rfl
abbrev Wy:=List (Str×Str×Wk)
noncomputable def wD (W:Wy):List (Key×D):=W.map fun e=>(.inr e.1,.tup [.str e.2.1,lD e.2.2])
noncomputable def kW (W:Wy):List Str:=W.map (·.1)
theorem qaA (W:Wy) (x:Str):ky (wD W) (.inr x)=decide (x∈kW W):=by
 unfold ky wD kW
 induction W with
 | nil=>rfl
 | cons e W ih=>
  rw [List.map_cons,List.any_cons,ih]
  by_cases h:e.1=x
  ·subst h; simp
  ·have h2:¬(Sum.inr e.1:Key)=Sum.inr x:=fun z=>h (Sum.inr.inj z)
   have h3:¬x=e.1:=fun z=>h z.symm
   simp [h2,h3]
theorem qaB {W:Wy} {x r:Str} {l:Wk} (h:x∉kW W):yg (wD W) (.inr x) (.tup [.str r,lD l])=wD (W++[(x,r,l)]):=by
 unfold yg
 have h1:((wD W).any fun p=>decide (p.1=(Sum.inr x:Key)))=false:=by
  have:=qaA W x
  unfold ky at this
  rw [this]
  exact decide_eq_false h
 rw [h1,if_neg Bool.false_ne_true]
 unfold wD
 rw [List.map_append]
 rfl
theorem qcb:∀ {W:Wy} {e:Str×Str×Wk},(kW W).Nodup->e∈W->ixD (.dct (wD W)) (.str e.1)=.ok (.tup [.str e.2.1,lD e.2.2])
 | [],e,_,h=>by cases h
 | a::W,e,hn,h=>by
  have hn2:=List.nodup_cons.mp (show (a.1::kW W).Nodup from hn)
  rcases List.mem_cons.mp h with rfl | h
  ·simp [ixD,wD]
  ·have hne:a.1≠e.1:=fun z=>hn2.1 (by rw [z]; exact List.mem_map.mpr ⟨e,h,rfl⟩)
   have ih:=qcb hn2.2 h
   unfold ixD at ih ⊢
   simp only [wD,List.map_cons] at ih ⊢
   have h2:¬(Sum.inr a.1:Key)=Sum.inr e.1:=fun z=>hne (Sum.inr.inj z)
   rw [List.find?_cons_of_neg (by simpa using h2)]
   exact ih
inductive Path (seen:List Pr) (r:Str):Wk->Str->Prop
 | nil:Path seen r [] r
 | snoc {l:Wk} {x y:Str} {k:Nat} {p:Pr}:Path seen r l x->seen[k]?=some p->(p=(x,y)\/p=(y,x))->Path seen r (l++[k]) y
theorem Path.lt {seen:List Pr} {r x:Str} {l:Wk} (h:Path seen r l x):∀ k∈l,k < seen.length:=by
 induction h with
 | nil=>simp
 | snoc _ e _ ih=>
  intro k hk
  rcases List.mem_append.mp hk with hk | hk
  ·exact ih k hk
  ·rw [List.mem_singleton.mp hk]
   exact (List.getElem?_eq_some_iff.mp e).1
structure WI (seen:List Pr) (W:Wy):Prop where
 nd:(kW W).Nodup
 sub:∀ x∈kW W,x∈LS seen
 path:∀ e∈W,Path seen e.2.1 e.2.2 e.1
 len:∀ e∈W,e.2.2.length < W.length
theorem vS (W V:Wy):kW (W++V)=kW W++kW V:=by simp [kW]
theorem WI.add {seen:List Pr} {W:Wy} (h:WI seen W) {x r:Str} {l:Wk} (hx:x∉kW W) (hm:x∈LS seen) (hp:Path seen r l x) (hl:l.length<=W.length):WI seen (W++[(x,r,l)]) where
 nd:=by
  rw [vS]
  refine List.nodup_append.mpr ⟨h.nd,by simp [kW],fun a ha b hb=>?_⟩
  rw [show kW [(x,r,l)]=[x] from rfl] at hb
  rw [List.mem_singleton.mp hb]
  exact fun z=>hx (z ▸ ha)
 sub:=fun y hy=>by
  rw [vS] at hy
  rcases List.mem_append.mp hy with hy | hy
  ·exact h.sub y hy
  ·rw [show y=x from List.mem_singleton.mp hy]; exact hm
 path:=fun e he=>by
  rcases List.mem_append.mp he with he | he
  ·exact h.path e he
  ·rw [List.mem_singleton.mp he]; exact hp
 len:=fun e he=>by
  rw [List.length_append]
  rcases List.mem_append.mp he with he | he
  ·have:=h.len e he; simp; omega
  ·rw [List.mem_singleton.mp he]; simp; omega
theorem XJ:∀ {a b:List Str},a.Nodup->(∀ x∈a,x∈b)->a.length<=b.length
 | [],b,_,_=>Nat.zero_le _
 | x::a,b,hn,h=>by
  have hn2:=List.nodup_cons.mp hn
  have hx:=h x (List.mem_cons_self ..)
  have ih:=XJ (b:=b.erase x) hn2.2 fun y hy=>(List.mem_erase_of_ne (fun z=>hn2.1 (by rw [<-z]; exact hy))).mpr (h y (List.mem_cons_of_mem _ hy))
  rw [List.length_erase_of_mem hx] at ih
  have:=List.length_pos_of_mem hx
  rw [List.length_cons]
  omega
theorem WI.le {seen:List Pr} {W:Wy} (h:WI seen W):W.length<=(LS seen).length:=by
 have:=XJ h.nd h.sub
 simpa [kW] using this
noncomputable def oth (p:Pr) (x:Str):Str:=if x=p.1 then p.2 else p.1
theorem GJ (p:Pr) (x:Str):kr [pD p,.str x]=.ok (.str (oth p x),[.non,.non]):=by
 refine runD_ap.trans ?_
 unfold oth
 by_cases h:x=p.1 <;> simp [vF,qx,qv,ixD,at0,at1,eqD,eqN,eqS,h]
theorem qcc (p:Pr) (x:Str):inA (.str x) (pD p)=.ok (.bl (decide (x=p.1\/x=p.2))):=by
 have h:=vQ x [p.1,p.2]
 simp only [List.map_cons,List.map_nil] at h
 show (inD (.str x) (pD p)).bind (fun b=>Out.ok (D.bl b))=_
 unfold inD
 simp only [h]
 simp
theorem WL (W:Wy) (x:Str):xN (.str x) (.dct (wD W))=.ok (.bl (!decide (x∈kW W))):=by
 unfold xN
 simp only [Kc]
 rw [qaA]
theorem qee {seen:List Pr} {p:Pr} (hp:p∈seen) (x:Str):oth p x∈LS seen:=by
 rw [mem_LS]
 refine ⟨p,hp,?_⟩
 unfold oth
 split
 ·exact .inr rfl
 ·exact .inl rfl
abbrev spB:Sl->Out (Fl×Sl):=(qS (jL 7 (qt [.vl,.vl] kr (qc (qd 6) (qc (qd 4) qC))))
  (sIf (qaj (qT (d2 inA (qd 4) (qd 6))) (qT (d2 xN (qd 7) (qd 2)))) (qS (zL 2 (yL (qc (qd 1) (qc (d2 kz (d2 ixD (d2O 2 ixD (qd 4)) (dC (.int 1))) (gC (qc (qd 5) qC))) qC))) (qd 7))
  (vC (zz 3 Ju (qd 7)))) jm))
theorem qef {f g:Sl->Out (Fl×Sl)} {ρ ρ1:Sl} (h:f ρ=.ok (.nx,ρ1)):qS f g ρ=g ρ1:=by
 rw [zI,h]
 rfl
theorem gn {g:D->Sl->Out Sl} {fb:Sl->Out (Fl×Sl)} {d:D} {ds:List D} {ρ ρ1 ρ2:Sl} (h1:g d ρ=.ok ρ1) (h2:fb ρ1=.ok (.nx,ρ2)):jS g fb (d::ds) ρ=jS g fb ds ρ2:=by
 rw [jS,h1]
 simp only [Out.plain,ka]
 rw [h2]
 rfl
theorem qeg {g:D->Sl->Out Sl} {fb:Sl->Out (Fl×Sl)} {d v:D} {ds:List D} {ρ ρ1 ρ2:Sl} (h1:g d ρ=.ok ρ1) (h2:fb ρ1=.ok (.rt v,ρ2)):jS g fb (d::ds) ρ=.ok (.rt v,ρ2):=by
 rw [jS,h1]
 simp only [Out.plain,ka]
 rw [h2]
 rfl
theorem qcd {seen:List Pr} (hs:(LS seen).length<=20) {W:Wy} (hW:WI seen W) {root y:Str} {ly:Wk} (hy:(y,root,ly)∈W) {k:Nat} {p:Pr} (hk:seen[k]?=some p) (Q:List Str) (hQ:Q.length<=1000) (sd x7:Option D) :
  ∃ (M:Wy) (rch:Option D),WI seen (W++M)/\(∀ e∈M,e.2.1=root)/\M.length<=1/\((y=p.1\/y=p.2)->oth p y∈kW (W++M)) /\
   spB [sd,some (.str root),some (.dct (wD W)),some (.lst (Q.map D.str)),some (.str y),some (.int (k:Nat)),some (pD p),x7]=.ok (.nx,[sd,some (.str root),some (.dct (wD (W++M))),some (.lst ((Q++kW M).map D.str)),some (.str y),some (.int (k:Nat)),some (pD p),rch]):=by
 have h1:=GJ p y
 have h2:=qcc p y
 have h3:=WL W (oth p y)
 have hle:=hW.le
 have hbg:=big
 have hll:=hW.len _ hy
 have hpm:p∈seen:=List.mem_of_getElem? hk
 by_cases q:(y=p.1\/y=p.2)/\oth p y∉kW W
 ·refine ⟨[(oth p y,root,ly++[k])],some (.str (oth p y)),hW.add q.2 (qee hpm y) (.snoc (hW.path _ hy) hk ?_) (by rw [List.length_append]; simp; simp at hll; omega),by simp,by simp,fun _=>by rw [vS]; exact List.mem_append.mpr (.inr (by simp [kW])),?_⟩
  ·obtain ⟨p1,p2⟩:=p
   unfold oth
   rcases q.1 with e | e
   ·have e:y=p1:=e
    subst e
    simp
   ·have e:y=p2:=e
    subst e
    by_cases z:y=p1
    ·subst z; simp
    ·simp [z]
  ·unfold spB
   rw [qef (ρ1:=[sd,some (.str root),some (.dct (wD W)),some (.lst (Q.map D.str)),some (.str y),some (.int (k:Nat)),some (pD p),some (.str (oth p y))]) (by simp [qB,jq,h1])]
   have hb1:decide (y=p.1\/y=p.2)=true:=decide_eq_true q.1
   have hb2:(!decide (oth p y∈kW W))=true:=by rw [decide_eq_false q.2]; rfl
   rw [hb1] at h2
   rw [hb2] at h3
   have hix:=qcb hW.nd hy
   simp only [] at hix
   have hix2:ixD (.tup [.str root,lD ly]) (.int 1)=.ok (lD ly):=by simp [ixD,at1]
   have hput:=qaB (W:=W) (x:=oth p y) (r:=root) (l:=ly++[k]) q.2
   have hl:(inL ly).length+1<=sizeLine:=by simp [inL]; simp at hll; omega
   have z1:1<=sizeLine:=by omega
   have z2:2<=sizeLine:=by omega
   have hwl:(wD W).length < sizeLine:=by simp [wD]; omega
   have hql:Q.length < sizeLine:=by omega
   have hin:inL ly++[.int (k:Nat)]=inL (ly++[k]):=by simp [inL]
   rw [qdP,show qaj (qT (d2 inA (qd 4) (qd 6))) (qT (d2 xN (qd 7) (qd 2))) [sd,some (.str root),some (.dct (wD W)),some (.lst (Q.map D.str)),some (.str y),some (.int (k:Nat)),some (pD p),some (.str (oth p y))]=.ok (true,[sd,some (.str root),some (.dct (wD W)),some (.lst (Q.map D.str)),some (.str y),some (.int (k:Nat)),some (pD p),some (.str (oth p y))]) by simp [h2,h3]]
   simp only [ka,if_true]
   rw [qef (ρ1:=[sd,some (.str root),some (.dct (wD (W++[(oth p y,root,ly++[k])]))),some (.lst (Q.map D.str)),some (.str y),some (.int (k:Nat)),some (pD p),some (.str (oth p y))]) (by
    simp [zL,d2O,hix,hix2,kz,z1,z2,hl,hin,Kc,hwl,hput])]
   simp [yQ,Ju,hql,kW]
 ·refine ⟨[],some (.str (oth p y)),by simpa using hW,by simp,by simp,fun z=>?_,?_⟩
  ·rw [List.append_nil]
   exact Classical.byContradiction fun w=>q ⟨z,w⟩
  ·unfold spB
   rw [qef (ρ1:=[sd,some (.str root),some (.dct (wD W)),some (.lst (Q.map D.str)),some (.str y),some (.int (k:Nat)),some (pD p),some (.str (oth p y))]) (by simp [qB,jq,h1])]
   by_cases z:y=p.1\/y=p.2
   ·have hb1:decide (y=p.1\/y=p.2)=true:=decide_eq_true z
    have hm:oth p y∈kW W:=Classical.byContradiction fun w=>q ⟨z,w⟩
    have hb2:(!decide (oth p y∈kW W))=false:=by rw [decide_eq_true hm]; rfl
    rw [hb1] at h2
    rw [hb2] at h3
    simp [h2,h3,kW]
   ·have hb1:decide (y=p.1\/y=p.2)=false:=decide_eq_false z
    rw [hb1] at h2
    simp [h2,kW]
noncomputable def en (k0:Nat) (rest:List Pr):List D:=(rest.zipIdx k0).map fun p=>.tup [.int (p.2:Nat),pD p.1]
theorem qeh (seen:List Pr):xP (qo seen)=en 0 seen:=by
 unfold xP en qo
 rw [List.zipIdx_map,List.map_map]
 rfl
theorem qaC {seen:List Pr} (hs:(LS seen).length<=20) {root y:Str} {ly:Wk} (sd:Option D):∀ (rest:List Pr) (k0:Nat) (W:Wy) (Q:List Str) (x5 x6 x7:Option D),seen.drop k0=rest->WI seen W->(y,root,ly)∈W->Q.length+rest.length<=500 ->
  ∃ (M:Wy) (y5 y6 y7:Option D),WI seen (W++M)/\(∀ e∈M,e.2.1=root)/\(∀ p∈rest,(y=p.1\/y=p.2)->oth p y∈kW (W++M))/\M.length<=rest.length /\
   jS (jG 2 (qy (gNm 5) (qy (gNm 6) jF))) spB (en k0 rest) [sd,some (.str root),some (.dct (wD W)),some (.lst (Q.map D.str)),some (.str y),x5,x6,x7]=.ok (.nx,[sd,some (.str root),some (.dct (wD (W++M))),some (.lst ((Q++kW M).map D.str)),some (.str y),y5,y6,y7])
 | [],k0,W,Q,x5,x6,x7,_,hW,_,_=>⟨[],x5,x6,x7,by simpa using hW,by simp,by simp,by simp,by simp [en,jS,kW]⟩
 | p::rest,k0,W,Q,x5,x6,x7,hd,hW,hy,hQ=>by
  rw [List.length_cons] at hQ
  have hk:seen[k0]?=some p:=by
   have:=congrArg List.head? hd
   rw [List.head?_drop] at this
   simpa using this
  have hd2:seen.drop (k0+1)=rest:=by
   have:=congrArg List.tail hd
   rw [List.tail_drop] at this
   simpa using this
  obtain ⟨M1,r1,a1,a2,a3,a4,a5⟩:=qcd hs hW hy hk Q (by omega) sd x7
  have hm1:(kW M1).length<=1:=by simpa [kW] using a3
  obtain ⟨M2,y5,y6,y7,b1,b2,b3,b4,b5⟩:=qaC hs sd rest (k0+1) (W++M1) (Q++kW M1) (some (.int (k0:Nat))) (some (pD p)) r1 hd2 a1 (List.mem_append.mpr (.inl hy)) (by rw [List.length_append]; omega)
  refine ⟨M1++M2,y5,y6,y7,by rw [<-List.append_assoc]; exact b1,fun e he=>?_,fun p' hp' hz=>?_,by rw [List.length_append,List.length_cons]; omega,?_⟩
  ·rcases List.mem_append.mp he with he | he
   ·exact a2 e he
   ·exact b2 e he
  ·rw [<-List.append_assoc,vS]
   rcases List.mem_cons.mp hp' with rfl | hp'
   ·exact List.mem_append.mpr (.inl (a4 hz))
   ·have:=b3 p' hp' hz
    rw [vS] at this
    exact this
  ·rw [vS,<-List.append_assoc,<-List.append_assoc]
   refine Eq.trans ?_ b5
   have e0:en k0 (p::rest)=.tup [.int (k0:Nat),pD p]::en (k0+1) rest:=by simp [en,List.zipIdx_cons]
   rw [e0]
   exact gn rfl a5
theorem GK {ft:Sl->Out (Bool×Sl)} {fb:Sl->Out (Fl×Sl)} {n:Nat} {ρ ρ1 ρ2:Sl} (h1:ft ρ=.ok (true,ρ1)) (h2:fb ρ1=.ok (.nx,ρ2)):jk ft fb (n+1) ρ=jk ft fb n ρ2:=by
 rw [jk,h1]
 simp only [ka,if_true]
 rw [h2]
 rfl
theorem XM {ft:Sl->Out (Bool×Sl)} {fb:Sl->Out (Fl×Sl)} {n:Nat} {ρ ρ1:Sl} (h1:ft ρ=.ok (false,ρ1)):jk ft fb (n+1) ρ=.ok (.nx,ρ1):=by
 rw [jk,h1]
 rfl
abbrev spC:Sl->Out (Bool×Sl):=qT (d2 gtD (d1 ki (qd 3)) (dC (.int 0)))
abbrev spW:Sl->Out (Fl×Sl):=(qS (jL 4 (Xi 3)) (gD (gG (qd 0)) (jG 2 (qy (gNm 5) (qy (gNm 6) jF))) spB))
abbrev sD (seen:List Pr):D:=.lst (qo seen)
theorem WM {seen:List Pr} (hn:seen.length<=10) (hs:(LS seen).length<=20) (root:Str):∀ (n:Nat) (W:Wy) (Q:List Str) (x4 x5 x6 x7:Option D),n<=100->WI seen W->(∀ x∈Q,∃ l,(x,root,l)∈W)->Q.length+((LS seen).length - W.length) < n ->
  ∃ (M:Wy) (y4 y5 y6 y7:Option D),WI seen (W++M)/\(∀ e∈M,e.2.1=root)/\(∀ x,x∈Q\/x∈kW M->∀ p∈seen,(x=p.1\/x=p.2)->oth p x∈kW (W++M)) /\
   jk spC spW n [some (sD seen),some (.str root),some (.dct (wD W)),some (.lst (Q.map D.str)),x4,x5,x6,x7]=.ok (.nx,[some (sD seen),some (.str root),some (.dct (wD (W++M))),some (.lst []),y4,y5,y6,y7])
 | 0,W,Q,x4,x5,x6,x7,_,_,_,h=>absurd h (Nat.not_lt_zero _)
 | n+1,W,[],x4,x5,x6,x7,_,hW,_,_=>⟨[],x4,x5,x6,x7,by simpa using hW,by simp,by simp [kW],by
  rw [List.append_nil]
  exact XM (by simp [ki,gtD,xm])⟩
 | n+1,W,y::Q,x4,x5,x6,x7,h100,hW,hQ,hm=>by
  obtain ⟨ly,hy⟩:=hQ y (List.mem_cons_self ..)
  rw [List.length_cons] at hm
  obtain ⟨M1,y5,y6,y7,a1,a2,a3,a4,a5⟩:=qaC hs (some (sD seen)) seen 0 W Q x5 x6 x7 (by simp) hW hy (by omega)
  have hle:=a1.le
  rw [List.length_append] at hle
  obtain ⟨M2,z4,z5,z6,z7,b1,b2,b3,b4⟩:=WM hn hs root n (W++M1) (Q++kW M1) (some (.str y)) y5 y6 y7 (by omega) a1 (fun x hx=>by
   rcases List.mem_append.mp hx with hx | hx
   ·obtain ⟨l,hl⟩:=hQ x (List.mem_cons_of_mem _ hx)
    exact ⟨l,List.mem_append.mpr (.inl hl)⟩
   ·obtain ⟨e,he,rfl⟩:=List.mem_map.mp hx
    refine ⟨e.2.2,List.mem_append.mpr (.inr ?_)⟩
    rw [<-a2 e he]
    exact he) (by
   rw [List.length_append,List.length_append,show (kW M1).length=M1.length by simp [kW]]
   omega)
  refine ⟨M1++M2,z4,z5,z6,z7,by rw [<-List.append_assoc]; exact b1,fun e he=>?_,fun x hx p hp hz=>?_,?_⟩
  ·rcases List.mem_append.mp he with he | he
   ·exact a2 e he
   ·exact b2 e he
  ·rw [<-List.append_assoc]
   by_cases q:x=y
   ·subst q
    rw [vS]
    exact List.mem_append.mpr (.inl (a3 p hp hz))
   ·refine b3 x ?_ p hp hz
    rcases hx with hx | hx
    ·rcases List.mem_cons.mp hx with e | hx
     ·exact absurd e q
     ·exact .inl (List.mem_append.mpr (.inl hx))
    ·rw [vS] at hx
     rcases List.mem_append.mp hx with hx | hx
     ·exact .inl (List.mem_append.mpr (.inr hx))
     ·exact .inr hx
  ·rw [<-List.append_assoc]
   refine Eq.trans ?_ b4
   refine GK (ρ1:=[some (sD seen),some (.str root),some (.dct (wD W)),some (.lst ((y::Q).map D.str)),x4,x5,x6,x7]) (by
    have:(0:Int) < (Q.length:Int)+1:=by omega
    simp [ki,gtD,xm,this]) ?_
   unfold spW
   rw [qef (ρ1:=[some (sD seen),some (.str root),some (.dct (wD W)),some (.lst (Q.map D.str)),some (.str y),x5,x6,x7]) (by simp [Xi])]
   rw [vW,show gG (qd 0) [some (sD seen),some (.str root),some (.dct (wD W)),some (.lst (Q.map D.str)),some (.str y),x5,x6,x7]=.ok (xP (qo seen),[some (sD seen),some (.str root),some (.dct (wD W)),some (.lst (Q.map D.str)),some (.str y),x5,x6,x7]) from rfl,ka,qeh]
   exact a5
theorem XN {seen:List Pr} (hn:seen.length<=6) (hs:(LS seen).length<=12) {W:Wy} (hW:WI seen W) {root:Str} (hr:root∉kW W) (hm:root∈LS seen) :
  ∃ M:Wy,WI seen (W++M)/\(∀ e∈M,e.2.1=root)/\(root,root,[])∈M/\(∀ x∈kW M,∀ p∈seen,(x=p.1\/x=p.2)->oth p x∈kW (W++M))/\zj [sD seen,.str root,.dct (wD W)]=.ok (.non,[.non,.non,.dct (wD (W++M))]):=by
 have hW1:=hW.add hr hm (r:=root) (l:=[]) .nil (Nat.zero_le _)
 have hle:=hW1.le
 have hle0:=hW.le
 have hbg:=big
 obtain ⟨M,y4,y5,y6,y7,a1,a2,a3,a4⟩:=WM (by omega) (by omega) root 20 (W++[(root,root,[])]) [root] none none none none (by omega) hW1 (fun x hx=>⟨[],by rw [List.mem_singleton.mp hx]; exact List.mem_append.mpr (.inr (List.mem_singleton.mpr rfl))⟩) (by simp; omega)
 rw [List.append_assoc] at a1 a3 a4
 refine ⟨[(root,root,[])]++M,a1,fun e he=>?_,List.mem_append.mpr (.inl (List.mem_singleton.mpr rfl)),fun x hx p hp hz=>a3 x ?_ p hp hz,?_⟩
 ·rcases List.mem_append.mp he with he | he
  ·rw [List.mem_singleton.mp he]
  ·exact a2 e he
 ·rw [vS] at hx
  rcases List.mem_append.mp hx with hx | hx
  ·exact .inl hx
  ·exact .inr hx
 ·refine runD_ap.trans ?_
  unfold QM
  rw [show qx QL [sD seen,.str root,.dct (wD W)]=[some (sD seen),some (.str root),some (.dct (wD W)),none,none,none,none,none] from rfl]
  have hput:=qaB (W:=W) (x:=root) (r:=root) (l:=[]) hr
  rw [show lD []=.lst [] from rfl] at hput
  have z2:2<=sizeLine:=by omega
  have z1:1<=sizeLine:=by omega
  have hwl:(wD W).length < sizeLine:=by simp [wD]; omega
  refine (qw (ρ1:=[some (sD seen),some (.str root),some (.dct (wD (W++[(root,root,[])]))),none,none,none,none,none]) (by simp [zL,z2,Kc,hwl,hput])).trans ?_
  refine (qw (ρ1:=[some (sD seen),some (.str root),some (.dct (wD (W++[(root,root,[])]))),some (.lst [.str root]),none,none,none,none]) (by simp [z1])).trans ?_
  exact (congrArg (UL [.val,.val,.io]) a4).trans rfl
def CI (seen:List Pr) (W:Wy):Prop:=∀ e∈W,∀ p∈seen,(e.1=p.1\/e.1=p.2)->∃ e'∈W,e'.1=oth p e.1/\e'.2.1=e.2.1
def RI (W:Wy):Prop:=∀ e∈W,(e.2.1,e.2.1,[])∈W
theorem qce {p:Pr} {x:Str} (h:x=p.1\/x=p.2):oth p (oth p x)=x/\(oth p x=p.1\/oth p x=p.2):=by
 obtain ⟨a,b⟩:=p
 unfold oth
 simp only []
 by_cases q:x=a
 ·subst q
  simp only [if_true]
  by_cases q2:b=x
  ·subst q2; simp
  ·simp [q2]
 ·have:x=b:=by rcases h with h | h; exact absurd h q; exact h
  subst this
  simp [q]
theorem Jh:∀ {W:Wy},(kW W).Nodup->∀ {e e':Str×Str×Wk},e∈W->e'∈W->e.1=e'.1->e=e'
 | [],_,e,e',h,_,_=>by cases h
 | a::W,hn,e,e',h,h',q=>by
  have hn2:=List.nodup_cons.mp (show (a.1::kW W).Nodup from hn)
  rcases List.mem_cons.mp h with h1 | h1
  ·rcases List.mem_cons.mp h' with h2 | h2
   ·rw [h1,h2]
   ·exact absurd (show a.1∈kW W from List.mem_map.mpr ⟨e',h2,by rw [<-q,h1]⟩) hn2.1
  ·rcases List.mem_cons.mp h' with h2 | h2
   ·exact absurd (show a.1∈kW W from List.mem_map.mpr ⟨e,h1,by rw [q,h2]⟩) hn2.1
   ·exact Jh hn2.2 h1 h2 q
abbrev woB:Sl->Out (Fl×Sl):=(sIf (qT (d2 xN (qd 2) (qd 1))) (vC (qt [.vl,.vl,.sl 1] zj (qc (qd 0) (qc (qd 2) (kC qC))))) jm)
theorem gq {seen:List Pr} (hn:seen.length<=6) (hs:(LS seen).length<=12):∀ (xs:List Str) (W:Wy) (x:Option D),(∀ x∈xs,x∈LS seen)->WI seen W->CI seen W->RI W ->
  ∃ (M:Wy) (x':Option D),WI seen (W++M)/\CI seen (W++M)/\RI (W++M)/\(∀ x∈xs,x∈kW (W++M))/\jS (gNm 2) woB (xs.map D.str) [some (sD seen),some (.dct (wD W)),x]=.ok (.nx,[some (sD seen),some (.dct (wD (W++M))),x'])
 | [],W,x,_,hW,hC,hR=>⟨[],x,by simpa using hW,by simpa using hC,by simpa using hR,by simp,by simp [jS]⟩
 | y::xs,W,x,hx,hW,hC,hR=>by
  have h3:=WL W y
  by_cases q:y∈kW W
  ·obtain ⟨M,x',a1,a2,a3,a4,a5⟩:=gq hn hs xs W (some (.str y)) (fun z hz=>hx z (List.mem_cons_of_mem _ hz)) hW hC hR
   refine ⟨M,x',a1,a2,a3,fun z hz=>?_,?_⟩
   ·rcases List.mem_cons.mp hz with rfl | hz
    ·rw [vS]; exact List.mem_append.mpr (.inl q)
    ·exact a4 z hz
   ·refine Eq.trans (gn (ρ1:=[some (sD seen),some (.dct (wD W)),some (.str y)]) rfl ?_) a5
    rw [decide_eq_true q] at h3
    simp [h3]
  ·obtain ⟨M1,b1,b2,b3,b4,b5⟩:=XN hn hs hW q (hx y (List.mem_cons_self ..))
   have hR1:RI (W++M1):=fun e he=>by
    rcases List.mem_append.mp he with he | he
    ·exact List.mem_append.mpr (.inl (hR e he))
    ·rw [b2 e he]
     exact List.mem_append.mpr (.inr b3)
   have hC1:CI seen (W++M1):=fun e he p hp hz=>by
    rcases List.mem_append.mp he with he | he
    ·obtain ⟨e',h1,h2⟩:=hC e he p hp hz
     exact ⟨e',List.mem_append.mpr (.inl h1),h2⟩
    ·have hk:=b4 e.1 (List.mem_map.mpr ⟨e,he,rfl⟩) p hp hz
     obtain ⟨e',h1,h2⟩:=List.mem_map.mp hk
     refine ⟨e',h1,h2,?_⟩
     rcases List.mem_append.mp h1 with h1' | h1'
     ·exfalso
      obtain ⟨o1,o2⟩:=qce hz
      rw [<-h2] at o1 o2
      obtain ⟨e2,h4,h5,_⟩:=hC e' h1' p hp o2
      rw [o1] at h5
      have:=Jh b1.nd (List.mem_append.mpr (.inl h4)) (List.mem_append.mpr (.inr he)) h5
      subst this
      have hnd:=b1.nd
      rw [vS] at hnd
      exact (List.nodup_append.mp hnd).2.2 e2.1 (List.mem_map.mpr ⟨e2,h4,rfl⟩) e2.1 (List.mem_map.mpr ⟨e2,he,rfl⟩) rfl
     ·rw [b2 e' h1',b2 e he]
   obtain ⟨M2,x',a1,a2,a3,a4,a5⟩:=gq hn hs xs (W++M1) (some (.str y)) (fun z hz=>hx z (List.mem_cons_of_mem _ hz)) b1 hC1 hR1
   rw [List.append_assoc] at a1 a2 a3 a4 a5
   refine ⟨M1++M2,x',a1,a2,a3,fun z hz=>?_,?_⟩
   ·rcases List.mem_cons.mp hz with rfl | hz
    ·rw [vS,vS]
     exact List.mem_append.mpr (.inr (List.mem_append.mpr (.inl (List.mem_map.mpr ⟨_,b3,rfl⟩))))
    ·exact a4 z hz
   ·refine Eq.trans (gn (ρ1:=[some (sD seen),some (.dct (wD W)),some (.str y)]) rfl ?_) a5
    rw [decide_eq_false q] at h3
    simp [h3,qB,jq,b5]
theorem UH {seen:List Pr} (hn:seen.length<=6) (hs:(LS seen).length<=12) :
  ∃ W:Wy,WI seen W/\CI seen W/\RI W/\(∀ x∈LS seen,x∈kW W)/\yF [sD seen]=.ok (.dct (wD W),[.non]):=by
 obtain ⟨W,x',a1,a2,a3,a4,a5⟩:=gq hn hs (LS seen) [] none (fun _ h=>h) ⟨by simp [kW],by simp [kW],by simp,by simp⟩ (fun e he=>by cases he) (fun e he=>by cases he)
 rw [List.nil_append] at a1 a2 a3 a4 a5
 refine ⟨W,a1,a2,a3,a4,?_⟩
 have hlo:=yK (l:=seen) (by omega)
 refine runD_ap.trans ?_
 unfold ga
 rw [show qx zZ [sD seen]=[some (sD seen),none,none] from rfl]
 refine (qw (ρ1:=[some (sD seen),some (.dct []),none]) (by simp)).trans ?_
 refine (qw (ρ1:=[some (sD seen),some (.dct (wD W)),x']) (by
  rw [vW,show jr (qt [.vl] jD (qc (qd 0) qC)) [some (sD seen),some (.dct []),none]=.ok ((LS seen).map D.str,[some (sD seen),some (.dct []),none]) by simp [qB,jq,hlo,jt],ka]
  exact a5)).trans ?_
 simp [qv]
noncomputable def jE (W:Wy) (x:Str):Str×Wk:=((W.find? fun e=>decide (e.1=x)).map (·.2)).getD (⟨#[]⟩,[])
theorem kh {W:Wy} {x:Str} (h:x∈kW W):(x,jE W x)∈W:=by
 unfold jE
 cases q:W.find? fun e=>decide (e.1=x) with
 | none=>
  obtain ⟨e,he,rfl⟩:=List.mem_map.mp h
  have:=List.find?_eq_none.mp q e he
  simp at this
 | some e=>
  have h1:=List.mem_of_find?_eq_some q
  have h2:e.1=x:=by simpa using List.find?_some q
  rw [<-h2]
  exact h1
theorem XO {W:Wy} (hn:(kW W).Nodup) {x:Str} (h:x∈kW W):ixD (.dct (wD W)) (.str x)=.ok (.tup [.str (jE W x).1,lD (jE W x).2]):=qcb hn (kh h)
theorem qhA {a b:D}:ixD (.tup [a,b]) (.int 0)=.ok a:=by simp [ixD,at0]
theorem qg2 {a b:D}:ixD (.tup [a,b]) (.int 1)=.ok b:=by simp [ixD,at1]
theorem qcf (a b:Wk):inL a++inL b=inL (a++b):=by simp [inL]
theorem XQ (a:Wk):(inL a).length=a.length:=by simp [inL]
theorem qei (l:Wk):yv (lD l)=.ok (lD l.reverse):=by simp [yv,inL]
theorem XR {a b:Wk} (h:a.length+b.length<=2000):kz (lD a) (lD b)=.ok (lD (a++b)):=by
 have hz:(inL a).length+(inL b).length<=sizeLine:=by rw [XQ,XQ]; exact jz h
 show (if (inL a).length+(inL b).length<=sizeLine then Out.ok (D.lst (inL a++inL b)) else .bad)=_
 rw [if_pos hz,qcf]
abbrev Ci:=Str×Wk
noncomputable def cd (c:Ci):D:=.tup [.str c.1,lD c.2]
noncomputable def cD (C:List Ci):List D:=C.map cd
noncomputable def VO (W:Wy) (p:Pr) (k:Nat):Ci:=((jE W p.1).1,(jE W p.1).2++[k]++(jE W p.2).2.reverse)
noncomputable def CL (W:Wy) (k0:Nat) (rest:List Pr):List Ci:=(rest.zipIdx k0).map fun p=>VO W p.1 p.2
abbrev ciB:Sl->Out (Fl×Sl):=(qS (jL 5 (d1 yv (d2 ixD (d2 ixD (qd 1) (d2 ixD (qd 4) (dC (.int 1)))) (dC (.int 1)))))
  (vC (zz 2 Ju (yL (qc (d2 ixD (d2 ixD (qd 1) (d2 ixD (qd 4) (dC (.int 0)))) (dC (.int 0))) (qc (d2 kz (d2 kz (d2 ixD (d2 ixD (qd 1) (d2 ixD (qd 4) (dC (.int 0)))) (dC (.int 1))) (gC (qc (qd 3) qC))) (qd 5)) qC))))))
theorem qcg {seen:List Pr} (hs:(LS seen).length<=20) {W:Wy} (hW:WI seen W) {p:Pr} (h1:p.1∈kW W) (h2:p.2∈kW W) {k:Nat} {acc:List D} (ha:acc.length < 1000) (sd x5:Option D) :
  ∃ y5,ciB [sd,some (.dct (wD W)),some (.lst acc),some (.int (k:Nat)),some (pD p),x5]=.ok (.nx,[sd,some (.dct (wD W)),some (.lst (acc++[cd (VO W p k)])),some (.int (k:Nat)),some (pD p),y5]):=by
 have i1:=XO hW.nd h1
 have i2:=XO hW.nd h2
 have l1:=hW.len _ (kh h1)
 have l2:=hW.len _ (kh h2)
 have hle:=hW.le
 have hbg:=big
 simp only [] at l1 l2
 have z1:1<=sizeLine:=by omega
 have z2:2<=sizeLine:=by omega
 have hal:acc.length < sizeLine:=by omega
 have a1:=XR (a:=(jE W p.1).2) (b:=[k]) (by simp; omega)
 have a2:=XR (a:=(jE W p.1).2++[k]) (b:=(jE W p.2).2.reverse) (by simp; omega)
 have a1:kz (lD (jE W p.1).2) (.lst [.int (k:Nat)])=.ok (lD ((jE W p.1).2++[k])):=a1
 have r2:=qei (jE W p.2).2
 refine ⟨some (lD (jE W p.2).2.reverse),?_⟩
 unfold ciB VO cd
 rw [qef (ρ1:=[sd,some (.dct (wD W)),some (.lst acc),some (.int (k:Nat)),some (pD p),some (lD (jE W p.2).2.reverse)]) (by simp [qg2,i2,r2])]
 simp [yQ,qhA,qg2,i1,a1,a2,z1,z2,Ju,hal]
theorem XS {seen:List Pr} (hs:(LS seen).length<=20) {W:Wy} (hW:WI seen W) (sd:Option D):∀ (rest:List Pr) (k0:Nat) (acc:List Ci) (x3 x4 x5:Option D),(∀ p∈rest,p.1∈kW W/\p.2∈kW W)->acc.length+rest.length<=500 ->
  ∃ y3 y4 y5,jS (jG 2 (qy (gNm 3) (qy (gNm 4) jF))) ciB (en k0 rest) [sd,some (.dct (wD W)),some (.lst (cD acc)),x3,x4,x5]=.ok (.nx,[sd,some (.dct (wD W)),some (.lst (cD (acc++CL W k0 rest))),y3,y4,y5])
 | [],k0,acc,x3,x4,x5,_,_=>⟨x3,x4,x5,by simp [en,CL,jS]⟩
 | p::rest,k0,acc,x3,x4,x5,h,hl=>by
  rw [List.length_cons] at hl
  obtain ⟨h1,h2⟩:=h p (List.mem_cons_self ..)
  obtain ⟨r5,e⟩:=qcg hs hW h1 h2 (k:=k0) (acc:=cD acc) (by simp [cD]; omega) sd x5
  obtain ⟨y3,y4,y5,ih⟩:=XS hs hW sd rest (k0+1) (acc++[VO W p k0]) (some (.int (k0:Nat))) (some (pD p)) r5 (fun q hq=>h q (List.mem_cons_of_mem _ hq)) (by rw [List.length_append]; simp; omega)
  refine ⟨y3,y4,y5,?_⟩
  have e0:en k0 (p::rest)=.tup [.int (k0:Nat),pD p]::en (k0+1) rest:=by simp [en,List.zipIdx_cons]
  have e1:acc++CL W k0 (p::rest)=(acc++[VO W p k0])++CL W (k0+1) rest:=by simp [CL,List.zipIdx_cons]
  rw [e0,e1]
  refine Eq.trans (gn rfl e) ?_
  rw [show cD acc++[cd (VO W p k0)]=cD (acc++[VO W p k0]) by simp [cD]]
  exact ih
theorem ul {seen:List Pr} {W:Wy} (ha:∀ x∈LS seen,x∈kW W):∀ p∈seen,p.1∈kW W/\p.2∈kW W:=fun p hp=>⟨ha _ (mem_LS.mpr ⟨p,hp,.inl rfl⟩),ha _ (mem_LS.mpr ⟨p,hp,.inr rfl⟩)⟩
theorem UI {seen:List Pr} (hn:seen.length<=6) (hs:(LS seen).length<=20) {W:Wy} (hW:WI seen W) (ha:∀ x∈LS seen,x∈kW W):ub [sD seen,.dct (wD W)]=.ok (.lst (cD (CL W 0 seen)),[.non,.non]):=by
 obtain ⟨y3,y4,y5,e⟩:=XS hs hW (some (sD seen)) seen 0 [] none none none (ul ha) (by simp; omega)
 rw [List.nil_append] at e
 refine runD_ap.trans ?_
 unfold ua
 rw [show qx wZ [sD seen,.dct (wD W)]=[some (sD seen),some (.dct (wD W)),none,none,none,none] from rfl]
 refine (qw (ρ1:=[some (sD seen),some (.dct (wD W)),some (.lst []),none,none,none]) (by simp)).trans ?_
 refine (qw (ρ1:=[some (sD seen),some (.dct (wD W)),some (.lst (cD (CL W 0 seen))),y3,y4,y5]) (by
  rw [vW,show gG (qd 0) [some (sD seen),some (.dct (wD W)),some (.lst []),none,none,none]=.ok (xP (qo seen),[some (sD seen),some (.dct (wD W)),some (.lst []),none,none,none]) from rfl,ka,qeh]
  exact e)).trans ?_
 simp [qv]
theorem qgk {seen:List Pr} {W:Wy} (hW:WI seen W) (ha:∀ x∈LS seen,x∈kW W):∀ c∈CL W 0 seen,∀ k∈c.2,k < seen.length:=by
 intro c hc k hk
 obtain ⟨q,hq,rfl⟩:=List.mem_map.mp hc
 obtain ⟨p,j⟩:=q
 have hj:=List.mem_zipIdx hq
 have hp:p∈seen:=by rw [hj.2.2]; exact List.getElem_mem _
 obtain ⟨h1,h2⟩:=ul ha p hp
 unfold VO at hk
 simp only [List.mem_append,List.mem_reverse,List.mem_singleton] at hk
 rcases hk with (hk | hk) | hk
 ·exact (hW.path _ (kh h1)).lt k hk
 ·have:=hj.2.1
  omega
 ·exact (hW.path _ (kh h2)).lt k hk
noncomputable def fD (F:List Ci):List (Key×D):=F.map fun c=>(.inr c.1,lD c.2)
noncomputable def kF (F:List Ci):List Str:=F.map (·.1)
theorem qaD (F:List Ci) (x:Str):ky (fD F) (.inr x)=decide (x∈kF F):=by
 unfold ky fD kF
 induction F with
 | nil=>rfl
 | cons e F ih=>
  rw [List.map_cons,List.any_cons,ih]
  by_cases h:e.1=x
  ·subst h; simp
  ·have h2:¬(Sum.inr e.1:Key)=Sum.inr x:=fun z=>h (Sum.inr.inj z)
   have h3:¬x=e.1:=fun z=>h z.symm
   simp [h2,h3]
theorem qej {F:List Ci} {x:Str} {l:Wk} (h:x∉kF F):yg (fD F) (.inr x) (lD l)=fD (F++[(x,l)]):=by
 unfold yg
 have h1:((fD F).any fun p=>decide (p.1=(Sum.inr x:Key)))=false:=by
  have:=qaD F x
  unfold ky at this
  rw [this]
  exact decide_eq_false h
 rw [h1,if_neg Bool.false_ne_true]
 unfold fD
 rw [List.map_append]
 rfl
noncomputable def xV (F:List Ci) (x:Str):Wk:=((F.find? fun c=>decide (c.1=x)).map (·.2)).getD []
theorem XT:∀ (F:List Ci) (x:Str),(fD F).find? (fun kv=>decide (kv.1=(Sum.inr x:Key)))=(F.find? fun c=>decide (c.1=x)).map fun c=>(Sum.inr c.1,lD c.2)
 | [],x=>rfl
 | c::F,x=>by
  have ih:=XT F x
  unfold fD at ih ⊢
  rw [List.map_cons]
  by_cases h:c.1=x
  ·rw [List.find?_cons_of_pos (by simp [h]),List.find?_cons_of_pos (by simp [h])]
   rfl
  ·have h2:¬(Sum.inr c.1:Key)=Sum.inr x:=fun z=>h (Sum.inr.inj z)
   rw [List.find?_cons_of_neg (by simpa using h2),List.find?_cons_of_neg (by simpa using h),ih]
theorem qgl {F:List Ci} {x:Str} (h:x∈kF F):ixD (.dct (fD F)) (.str x)=.ok (lD (xV F x)):=by
 unfold ixD xV
 simp only [XT]
 cases q:F.find? fun c=>decide (c.1=x) with
 | none=>
  obtain ⟨e,he,rfl⟩:=List.mem_map.mp h
  have:=List.find?_eq_none.mp q e he
  simp at this
 | some c=>rfl
noncomputable def FO:List Ci->List Ci->List Ci
 | F,[]=>F
 | F,c::C=>FO (if odd c.2=true/\c.1∉kF F then F++[c] else F) C
theorem Qe:∀ (C F:List Ci),(∀ c∈FO F C,c∈F\/c∈C)/\(∀ x∈kF F,x∈kF (FO F C))/\(∀ c∈C,odd c.2=true->c.1∈kF (FO F C))/\(FO F C).length<=F.length+C.length
 | [],F=>⟨fun c h=>.inl h,fun x h=>h,by simp,by simp [FO]⟩
 | c::C,F=>by
  unfold FO
  by_cases q:odd c.2=true/\c.1∉kF F
  ·rw [if_pos q]
   obtain ⟨a,b,d,e⟩:=Qe C (F++[c])
   refine ⟨fun y hy=>?_,fun x hx=>b x (by simp [kF] at hx ⊢; exact .inl hx),fun y hy ho=>?_,by rw [List.length_append] at e; simp at e ⊢; omega⟩
   ·rcases a y hy with h | h
    ·rcases List.mem_append.mp h with h | h
     ·exact .inl h
     ·exact .inr (by rw [List.mem_singleton.mp h]; exact List.mem_cons_self ..)
    ·exact .inr (List.mem_cons_of_mem _ h)
   ·rcases List.mem_cons.mp hy with rfl | hy
    ·exact b _ (by simp [kF])
    ·exact d y hy ho
  ·rw [if_neg q]
   obtain ⟨a,b,d,e⟩:=Qe C F
   refine ⟨fun y hy=>?_,b,fun y hy ho=>?_,by simp at e ⊢; omega⟩
   ·rcases a y hy with h | h
    ·exact .inl h
    ·exact .inr (List.mem_cons_of_mem _ h)
   ·rcases List.mem_cons.mp hy with rfl | hy
    ·exact b _ (Classical.byContradiction fun w=>q ⟨ho,w⟩)
    ·exact d y hy ho
abbrev foB:Sl->Out (Fl×Sl):=(sIf (qaj (uK (qt [.vl] we (qc (qd 3) qC))) (qT (d2 xN (qd 2) (qd 1)))) (zL 1 (qd 3) (qd 2)) jm)
theorem qek (F:List Ci) (x:Str):xN (.str x) (.dct (fD F))=.ok (.bl (!decide (x∈kF F))):=by
 unfold xN
 simp only [Kc]
 rw [qaD]
theorem VP (cd0:Option D):∀ (C F:List Ci) (x2 x3:Option D),F.length+C.length<=500->∃ y2 y3,jS (jG 2 (qy (gNm 2) (qy (gNm 3) jF))) foB (cD C) [cd0,some (.dct (fD F)),x2,x3]=.ok (.nx,[cd0,some (.dct (fD (FO F C))),y2,y3])
 | [],F,x2,x3,_=>⟨x2,x3,rfl⟩
 | c::C,F,x2,x3,hl=>by
  rw [List.length_cons] at hl
  have h1:=gm c.2
  have h2:=qek F c.1
  have hwl:(fD F).length < sizeLine:=Nat.lt_of_lt_of_le (by simp [fD]; omega) big
  unfold FO
  by_cases q:odd c.2=true/\c.1∉kF F
  ·rw [if_pos q]
   obtain ⟨y2,y3,ih⟩:=VP cd0 C (F++[c]) (some (.str c.1)) (some (lD c.2)) (by rw [List.length_append]; simp; omega)
   refine ⟨y2,y3,Eq.trans (gn (d:=cd c) (ρ1:=[cd0,some (.dct (fD F)),some (.str c.1),some (lD c.2)]) rfl ?_) ih⟩
   rw [q.1] at h1
   rw [decide_eq_false q.2] at h2
   have hp:=qej (F:=F) (x:=c.1) (l:=c.2) q.2
   simp [qB,jq,h1,ww,h2,zL,Kc,hwl,hp]
  ·rw [if_neg q]
   obtain ⟨y2,y3,ih⟩:=VP cd0 C F (some (.str c.1)) (some (lD c.2)) (by omega)
   refine ⟨y2,y3,Eq.trans (gn (d:=cd c) (ρ1:=[cd0,some (.dct (fD F)),some (.str c.1),some (lD c.2)]) rfl ?_) ih⟩
   cases q1:odd c.2 with
   | false=>
    rw [q1] at h1
    simp [qB,jq,h1,ww]
   | true=>
    rw [q1] at h1
    have:c.1∈kF F:=Classical.byContradiction fun w=>q ⟨q1,w⟩
    rw [decide_eq_true this] at h2
    simp [qB,jq,h1,ww,h2]
theorem GL (C:List Ci) (hl:C.length<=400):uZ [.lst (cD C)]=.ok (.dct (fD (FO [] C)),[.non]):=by
 obtain ⟨y2,y3,e⟩:=VP (some (.lst (cD C))) C [] none none (by simp; omega)
 refine runD_ap.trans ?_
 unfold uY
 rw [show qx uX [.lst (cD C)]=[some (.lst (cD C)),none,none,none] from rfl]
 refine (qw (ρ1:=[some (.lst (cD C)),some (.dct []),none,none]) (by simp)).trans ?_
 refine (qw (ρ1:=[some (.lst (cD C)),some (.dct (fD (FO [] C))),y2,y3]) (by
  rw [vW,show jr (qd 0) [some (.lst (cD C)),some (.dct []),none,none]=.ok (cD C,[some (.lst (cD C)),some (.dct []),none,none]) from rfl,ka]
  exact e)).trans ?_
 simp [qv]
noncomputable def JN (F C:List Ci):List Ci:=(C.filter fun c=>odd c.2).map fun c=>(c.1,xV F c.1++c.2)
abbrev joT:Sl->Out (Bool×Sl):=uK (qt [.vl] we (qc (qd 1) qC))
abbrev joE:Sl->Out (D×Sl):=yL (qc (qd 0) (qc (d2 kz (d2 ixD (qd 2) (qd 0)) (qd 1)) qC))
theorem XU {F:List Ci} (hF:∀ c∈F,c.2.length<=100):∀ (C:List Ci) (x y:Option D),(∀ c∈C,c.2.length<=100)->(∀ c∈C,odd c.2=true->c.1∈kF F) ->
  ∃ x' y',jN (jG 2 (qy (gNm 0) (qy (gNm 1) jF))) joT joE (cD C) [x,y,some (.dct (fD F))]=.ok (cD (JN F C),[x',y',some (.dct (fD F))])
 | [],x,y,_,_=>⟨x,y,rfl⟩
 | c::C,x,y,hl,hk=>by
  obtain ⟨x',y',ih⟩:=XU hF C (some (.str c.1)) (some (lD c.2)) (fun d hd=>hl d (List.mem_cons_of_mem _ hd)) fun d hd=>hk d (List.mem_cons_of_mem _ hd)
  refine ⟨x',y',?_⟩
  have h1:=gm c.2
  have z2:2<=sizeLine:=jz (by omega)
  have e0:cD (c::C)=.tup [.str c.1,lD c.2]::cD C:=rfl
  cases q:odd c.2 with
  | false=>
   rw [q] at h1
   have e1:JN F (c::C)=JN F C:=by simp [JN,q]
   rw [e0,e1]
   simp [jN,zy,jG,qy,jF,qB,jq,h1,ww,ih]
  | true=>
   rw [q] at h1
   have e1:JN F (c::C)=(c.1,xV F c.1++c.2)::JN F C:=by simp [JN,q]
   have hm:=hk c (List.mem_cons_self ..) q
   have i1:=qgl hm
   have hg:(xV F c.1).length<=100:=by
    unfold xV
    cases w:F.find? fun d=>decide (d.1=c.1) with
    | none=>simp
    | some d=>exact hF d (List.mem_of_find?_eq_some w)
   have hcl:=hl c (List.mem_cons_self ..)
   have a1:=XR (a:=xV F c.1) (b:=c.2) (by omega)
   rw [e0,e1]
   simp [jN,zy,jG,qy,jF,qB,jq,h1,ww,i1,a1,z2,ih]
   simp [cD,cd]
theorem WN {own cap:List Nat} {nt:Nat} {fi:Sl->Out (List D×Sl)} {g:D->Sl->Out Sl} {ft:Sl->Out (Bool×Sl)} {fe:Sl->Out (D×Sl)} {ρ ρ1 ρ2:Sl} {ds es:List D} (h:fi ρ=.ok (ds,ρ1)) (hl:ds.length<=sizeLine) (hc:jN g ft fe ds (kD nt cap ρ1)=.ok (es,ρ2)):qN own nt cap fi g ft fe ρ=.ok (.lst es,jU own ρ2 nt cap ρ1):=by
 unfold qN
 rw [h]
 simp only [ka]
 rw [if_pos hl,hc]
 rfl
abbrev baB:Sl->Out (Fl×Sl):=(sIf (uK (qt [.vl,.vl,.vl] WD (qc (qd 7) (qc (qd 1) (qc (qd 2) qC))))) (jH (yL (qc (qd 6) (qc (qd 7) qC)))) jm)
theorem XV {nd:D} {ns:List Int} (hnd:qcQ nd ns) {r:Int} (hr:1<=r) (a b c d:Option D):∀ (L:List Ci) (x y:Option D),(∀ w∈L,∀ k∈w.2,k < ns.length)->∃ ρ,jS (jG 2 (qy (gNm 6) (qy (gNm 7) jF))) baB (cD L) [a,some (.int r),some nd,b,c,d,x,y]=.ok (match L.find? fun w=>UG w.2 r ns with | some w=>.rt (cd w) | none=>.nx,ρ)
 | [],x,y,_=>⟨_,rfl⟩
 | w::L,x,y,h=>by
  have h1:=qca hnd (h w (List.mem_cons_self ..)) hr
  have z2:2<=sizeLine:=jz (by omega)
  cases q:UG w.2 r ns with
  | true=>
   rw [q] at h1
   refine ⟨[a,some (.int r),some nd,b,c,d,some (.str w.1),some (lD w.2)],?_⟩
   rw [List.find?_cons_of_pos (by simpa using q)]
   exact qeg (d:=cd w) (ρ1:=[a,some (.int r),some nd,b,c,d,some (.str w.1),some (lD w.2)]) rfl (by simp [qB,jq,h1,ww,z2,cd])
  | false=>
   rw [q] at h1
   obtain ⟨ρ,ih⟩:=XV hnd hr a b c d L (some (.str w.1)) (some (lD w.2)) fun v hv=>h v (List.mem_cons_of_mem _ hv)
   refine ⟨ρ,?_⟩
   rw [List.find?_cons_of_neg (by simpa using q)]
   exact Eq.trans (gn (d:=cd w) (ρ1:=[a,some (.int r),some nd,b,c,d,some (.str w.1),some (lD w.2)]) rfl (by simp [qB,jq,h1,ww])) ih
noncomputable def BO (W:Wy) (seen:List Pr) (r:Int) (ns:List Int):Option Ci:=(CL W 0 seen++JN (FO [] (CL W 0 seen)) (CL W 0 seen)).find? fun w=>UG w.2 r ns
theorem qel {seen:List Pr} (hs:(LS seen).length<=20) {W:Wy} (hW:WI seen W) (ha:∀ x∈LS seen,x∈kW W):∀ c∈CL W 0 seen,c.2.length<=100:=by
 intro c hc
 obtain ⟨q,hq,rfl⟩:=List.mem_map.mp hc
 obtain ⟨p,j⟩:=q
 have hj:=List.mem_zipIdx hq
 have hp:p∈seen:=by rw [hj.2.2]; exact List.getElem_mem _
 obtain ⟨h1,h2⟩:=ul ha p hp
 have l1:=hW.len _ (kh h1)
 have l2:=hW.len _ (kh h2)
 have hle:=hW.le
 simp only [] at l1 l2
 unfold VO
 simp
 omega
theorem qch (W:Wy) (k0:Nat) (seen:List Pr):(CL W k0 seen).length=seen.length:=by simp [CL]
structure Sn (seen:List Pr) (W:Wy):Prop where
 n:seen.length<=6
 s:(LS seen).length<=12
 w:WI seen W
 C:CI seen W
 R:RI W
 a:∀ x∈LS seen,x∈kW W
 e:yF [sD seen]=.ok (.dct (wD W),[.non])
 z:∀ x∈LS seen,x.length<=2000
theorem XW {seen:List Pr} {W:Wy} (S:Sn seen W) {nd:D} {ns:List Int} (hnd:qcQ nd ns) (hns:ns.length=seen.length) {r:Int} (hr:1<=r) :
  QP [sD seen,.int r,nd]=.ok (match BO W seen r ns with | some w=>cd w | none=>.non,[.non,.non,.non]):=by
 have hs:(LS seen).length<=20:=by have:=S.s; omega
 have h1:=UI S.n hs S.w S.a
 have hcl:=qch W 0 seen
 have hn:=S.n
 have h2:=GL (CL W 0 seen) (by omega)
 have hlen:=qel hs S.w S.a
 have hlt:=qgk S.w S.a
 obtain ⟨f1,_,f3,f4⟩:=Qe (CL W 0 seen) []
 have hF:∀ c∈FO [] (CL W 0 seen),c∈CL W 0 seen:=fun c hc=>by
  rcases f1 c hc with h | h
  ·cases h
  ·exact h
 unfold BO
 generalize hC:CL W 0 seen=C at h1 h2 hcl hlen hlt f3 hF
 generalize hFo:FO [] C=F at h2 f3 hF
 obtain ⟨x',y',jc⟩:=XU (F:=F) (fun c hc=>hlen c (hF c hc)) C none none hlen f3
 refine runD_ap.trans ?_
 unfold QO
 rw [show qx zk [sD seen,.int r,nd]=[some (sD seen),some (.int r),some (nd),none,none,none,none,none] from rfl]
 have hw:=S.e
 refine (qw (ρ1:=[some (sD seen),some (.int r),some (nd),some (.lst (cD C)),none,none,none,none]) (by simp [qB,jq,hw,h1])).trans ?_
 refine (qw (ρ1:=[some (sD seen),some (.int r),some (nd),some (.lst (cD C)),some (.dct (fD F)),none,none,none]) (by simp [qB,jq,h2])).trans ?_
 have jd:=WN (own:=[]) (cap:=[4]) (nt:=2) (fi:=jr (qd 3)) (g:=jG 2 (qy (gNm 0) (qy (gNm 1) jF))) (ft:=joT) (fe:=joE) (ρ:=[some (sD seen),some (.int r),some (nd),some (.lst (cD C)),some (.dct (fD F)),none,none,none]) (ρ1:=[some (sD seen),some (.int r),some (nd),some (.lst (cD C)),some (.dct (fD F)),none,none,none]) (ds:=cD C) rfl (by simp [cD]; exact jz (by omega)) jc
 refine (qw (ρ1:=[some (sD seen),some (.int r),some (nd),some (.lst (cD C)),some (.dct (fD F)),some (.lst (cD (JN F C))),none,none]) (by rw [vV,jd]; rfl)).trans ?_
 have hjl:(JN F C).length<=6:=by
  unfold JN
  rw [List.length_map]
  have:=List.length_filter_le (fun c:Ci=>odd c.2) C
  omega
 have hz:(cD C).length+(cD (JN F C)).length<=sizeLine:=by simp [cD]; exact jz (by omega)
 have hall:∀ w∈C++JN F C,∀ k∈w.2,k < ns.length:=fun w hw k hk=>by
  rw [hns]
  rcases List.mem_append.mp hw with h | h
  ·exact hlt w h k hk
  ·obtain ⟨c,hc,rfl⟩:=List.mem_map.mp h
   have hc:=(List.mem_filter.mp hc).1
   rcases List.mem_append.mp hk with h | h
   ·unfold xV at h
    cases w:F.find? fun d=>decide (d.1=c.1) with
    | none=>rw [w] at h; cases h
    | some d=>
     rw [w] at h
     exact hlt d (hF d (List.mem_of_find?_eq_some w)) k h
   ·exact hlt c hc k h
 obtain ⟨ρ,e⟩:=XV hnd hr (some (sD seen)) (some (.lst (cD C))) (some (.dct (fD F))) (some (.lst (cD (JN F C)))) (C++JN F C) none none hall
 have hfor:gD (jr (d2 kz (qd 3) (qd 5))) (jG 2 (qy (gNm 6) (qy (gNm 7) jF))) baB [some (sD seen),some (.int r),some (nd),some (.lst (cD C)),some (.dct (fD F)),some (.lst (cD (JN F C))),none,none]=jS (jG 2 (qy (gNm 6) (qy (gNm 7) jF))) baB (cD (C++JN F C)) [some (sD seen),some (.int r),some (nd),some (.lst (cD C)),some (.dct (fD F)),some (.lst (cD (JN F C))),none,none]:=by
  rw [vW,show jr (d2 kz (qd 3) (qd 5)) [some (sD seen),some (.int r),some (nd),some (.lst (cD C)),some (.dct (fD F)),some (.lst (cD (JN F C))),none,none]=.ok (cD (C++JN F C),[some (sD seen),some (.int r),some (nd),some (.lst (cD C)),some (.dct (fD F)),some (.lst (cD (JN F C))),none,none]) by
   simp [kz,hz,jt]
   simp [cD]]
  rfl
 cases q:(C++JN F C).find? fun w=>UG w.2 r ns with
 | some w=>
  rw [q] at e
  rw [zI,hfor.trans e]
  rfl
 | none=>
  rw [q] at e
  refine (qw (hfor.trans e)).trans ?_
  rfl
theorem GM {ws:List Str} (hw:je ws) {p q:Int} (hl:KP p q):kA [Wd ws,Ld p q]=.ok (sD (qH ws p q),[.non,.non]):=wu hw hl
def Qf (n:Nat) (r:Int) (ns:List Int):Prop:=ns.length=n/\∀ i∈ns,0<=i/\i < r
theorem Ji {n:Nat} {r:Int} {ns:List Int} (h:Qf n r ns) (hn:n<=50):wT [nD ns,.int (n:Nat),.int r]=.ok (.bl true,[.non,.non,.non]):=by
 have ht:=qd9 (d:=nD ns) trivial
 have e:=uj (cap:=[2]) (fi:=jr (qd 0)) (ρ:=[some (nD ns),some (.int (n:Nat)),some (.int r)]) (ρ1:=[some (nD ns),some (.int (n:Nat)),some (.int r)]) (ds:=ns.map D.int) (fe:=qt [.vl,.vl,.vl] jC (qc (qd 0) (qc (dC (.int 0)) (qc (d2 Jr (qd 1) (dC (.int 1))) qC)))) (fun d=>.bl (VJ 0 (r - 1) d)) (by simp [jt]) (by rw [List.length_map,h.1]; exact jz (by omega)) (fun d hd=>by
  obtain ⟨i,hi,rfl⟩:=List.mem_map.mp hd
  have h1:=kJ (d:=.int i) trivial 0 (r - 1)
  simp [qB,jq,Jr,xm,h1])
 have ha:=yJ (VJ 0 (r - 1)) (ns.map D.int)
 have hall:(ns.map D.int).all (VJ 0 (r - 1))=true:=by
  rw [List.all_eq_true]
  intro d hd
  obtain ⟨i,hi,rfl⟩:=List.mem_map.mp hd
  have:=h.2 i hi
  simp [VJ]
  omega
 rw [hall] at ha
 have hlen:(ns.map D.int).length=n:=by rw [List.length_map,h.1]
 refine runD_ap.trans ?_
 simp [-List.map_map,wS,qx,qv,ht,qb9,ww,ki,neD,eqN,eqS,h.1,e,ha]
theorem xW {n:Nat} {r:Int} {ns:List Int} (h:Qf n r ns) (hn:n<=50):vb [nD ns,.int (n:Nat),.int r]=.ok (.non,[.non,.non,.non]):=by
 have h1:=Ji h hn
 refine runD_ap.trans ?_
 simp [va,qx,qv,qB,jq,h1,ww]
theorem qci {ws:List Str} (hw:je ws) {p q:Int} (hl:KP p q) {r:Int} (h0:1<=r) (h1:r<=99) {ns:List Int} (hn:Qf ws.length r ns):wW [Wd ws,Ld p q,.int r,nD ns]=.ok (sD (qH ws p q),[.non,.non,.non,.non]):=by
 have e1:=GM hw hl
 have e2:=Jg (d:=.int r) trivial
 rw [if_pos (by simp [VJ]; exact ⟨h0,h1⟩)] at e2
 have e3:=xW hn (by have:=hw.2.1; omega)
 refine runD_ap.trans ?_
 simp [wV,qx,qv,qB,jq,e1,e2,ki,e3]
theorem qgm {ws:List Str} (hw:je ws) (p q:Int):∃ W,Sn (qH ws p q) W:=by
 have h1:(qH ws p q).length<=6:=by simp [qH]; exact hw.2.1
 have h2:=qeb hw p q
 obtain ⟨W,a,b,c,d,e⟩:=UH h1 h2
 exact ⟨W,h1,h2,a,b,c,d,e,fun x hx=>by
  obtain ⟨k,_,rfl⟩:=qgj hw p q x hx
  show 1<=2000
  omega⟩
theorem qem {ws:List Str} (hw:je ws) {p q:Int} (hl:KP p q) {r:Int} (h0:1<=r) (h1:r<=99) {ns:List Int} (hn:Qf ws.length r ns) {W:Wy} (S:Sn (qH ws p q) W) :
  Vw [Wd ws,Ld p q,.int r,nD ns]=.ok (match BO W (qH ws p q) r ns with | some w=>cd w | none=>.non,[.non,.non,.non,.non]):=by
 have e1:=qci hw hl h0 h1 hn
 have e2:=XW S (qed ns) (by rw [hn.1]; simp [qH]) h0
 refine runD_ap.trans ?_
 simp [qb2,qx,qv,qB,jq,e1,e2]
noncomputable def gt (t r:Int):Int:=if t % r % 2=0 then t % r / 2 else (t % r+r) / 2
noncomputable def rW (l:Wk) (r:Int) (ns:List Int):List Int:=if l=[] then (List.range r.toNat).map fun (j:Nat)=>(j:Int) else if r % 2=0 then [gt (qL ns 0 l) r,gt (qL ns 0 l) r+r / 2] else [gt (qL ns 0 l) r]
noncomputable def sg (l:Wk):Int:=if odd l=true then -1 else 1
theorem GN (k:Nat) (l:Wk):odd (k::l)=!odd l:=by
 unfold odd
 rw [List.length_cons]
 by_cases h:l.length % 2=1
 ·rw [decide_eq_true h,decide_eq_false (by omega)]; rfl
 ·rw [decide_eq_false h,decide_eq_true (by omega)]; rfl
theorem qcj (k:Nat) (l:Wk):sg (k::l)=- sg l:=by
 unfold sg
 rw [GN]
 cases odd l <;> rfl
theorem um (ns:List Int) (t:Int) (a b:Wk):qL ns t (a++b)=qL ns (qL ns t a) b:=List.foldl_append ..
theorem xj (ns:List Int) (t:Int) (k:Nat) (l:Wk):qL ns t (k::l)=qL ns (nI ns k - t) l:=rfl
theorem wv (ns:List Int):∀ (l:Wk) (t:Int),qL ns t l=qL ns 0 l+sg l * t
 | [],t=>by simp [qL,sg,odd]
 | k::l,t=>by
  have h1:=wv ns l (nI ns k - t)
  have h2:=wv ns l (nI ns k - 0)
  rw [xj,xj,h1,h2,qcj,Int.mul_sub,Int.mul_sub,Int.neg_mul]
  simp
  omega
theorem KK (ns:List Int):∀ (l:Wk) (s:Int),qL ns (qL ns s l) l.reverse=s
 | [],s=>rfl
 | k::l,s=>by
  have h:=KK ns l (nI ns k - s)
  rw [xj,List.reverse_cons,um,h]
  show nI ns k - (nI ns k - s)=s
  omega
theorem GO (l:Wk):sg l=1\/sg l=-1:=by
 unfold sg
 split
 ·exact .inr rfl
 ·exact .inl rfl
theorem qen {r a:Int} (l:Wk):r ∣ sg l * a↔r ∣ a:=by
 rcases GO l with h | h
 ·rw [h,Int.one_mul]
 ·rw [h,Int.neg_one_mul,Int.dvd_neg]
def Sol (seen:List Pr) (r:Int) (ns:List Int) (v:Str->Int):Prop:=∀ (k:Nat) (p:Pr),seen[k]?=some p->r ∣ v p.1+v p.2 - nI ns k
theorem Path.val {seen:List Pr} {r:Int} {ns:List Int} {v:Str->Int} (hS:Sol seen r ns v) {ρ x:Str} {l:Wk} (h:Path seen ρ l x):r ∣ v x - qL ns (v ρ) l:=by
 induction h with
 | nil=>
  show r ∣ v ρ - v ρ
  rw [Int.sub_self]
  exact ⟨0,by simp⟩
 | snoc hp e hq ih=>
  rename_i l x y k p
  have hk:=hS k p e
  have hsum:r ∣ v x+v y - nI ns k:=by
   rcases hq with rfl | rfl
   ·exact hk
   ·rw [Int.add_comm (v x)]; exact hk
  rw [um]
  show r ∣ v y - (nI ns k - qL ns (v ρ) l)
  have e1:v y - (nI ns k - qL ns (v ρ) l)=(v x+v y - nI ns k) - (v x - qL ns (v ρ) l):=by omega
  rw [e1]
  exact Int.dvd_sub hsum ih
def okS (r:Int) (ns:List Int) (c:Wk) (s:Int):Prop:=r ∣ qL ns s c - s
theorem Jj {r:Int} {ns:List Int} {c:Wk} (h:odd c=false) (s:Int):okS r ns c s↔r ∣ qL ns 0 c:=by
 unfold okS
 rw [wv,show sg c=1 by unfold sg; rw [h]; rfl,Int.one_mul,Int.add_sub_cancel]
theorem Jk {r:Int} {ns:List Int} {c:Wk} (h:odd c=true) (s:Int):okS r ns c s↔r ∣ qL ns 0 c - 2 * s:=by
 unfold okS
 rw [wv,show sg c=-1 by unfold sg; rw [h]; rfl,show qL ns 0 c + -1 * s - s=qL ns 0 c - 2 * s by omega]
theorem XX (W:Wy) (p:Pr) (k:Nat) (r:Int) (ns:List Int) (s:Int):okS r ns (VO W p k).2 s↔r ∣ qL ns s (jE W p.1).2+qL ns s (jE W p.2).2 - nI ns k:=by
 unfold okS VO
 simp only []
 rw [um,um]
 have h1:=KK ns (jE W p.2).2 s
 generalize qL ns s (jE W p.1).2=A
 generalize qL ns s (jE W p.2).2=B at h1
 generalize (jE W p.2).2.reverse=L at h1
 show r ∣ qL ns (nI ns k - A) L - s↔_
 have e:qL ns (nI ns k - A) L - s=sg L * (nI ns k - A - B):=by
  have h2:=wv ns L (nI ns k - A)
  have h3:=wv ns L B
  rw [h1] at h3
  rw [h2,Int.mul_sub (sg L) (nI ns k - A) B]
  omega
 rw [e,qen,show nI ns k - A - B=-(A+B - nI ns k) by omega,Int.dvd_neg]
theorem qeo {W:Wy} {seen:List Pr} {k:Nat} {p:Pr} (h:seen[k]?=some p):VO W p k∈CL W 0 seen:=List.mem_map.mpr ⟨(p,k),List.mem_zipIdx_iff_getElem?.mpr h,rfl⟩
theorem qgn {W:Wy} {seen:List Pr} {c:Ci} (h:c∈CL W 0 seen):∃ (k:Nat) (p:Pr),seen[k]?=some p/\c=VO W p k:=by
 obtain ⟨q,hq,rfl⟩:=List.mem_map.mp h
 obtain ⟨p,k⟩:=q
 exact ⟨k,p,List.mem_zipIdx_iff_getElem?.mp hq,rfl⟩
theorem qck (p:Pr):oth p p.1=p.2:=by unfold oth; rw [if_pos rfl]
theorem KL {seen:List Pr} {W:Wy} (S:Sn seen W) {p:Pr} (hp:p∈seen):(jE W p.1).1=(jE W p.2).1:=by
 obtain ⟨h1,h2⟩:=ul S.a p hp
 obtain ⟨e',he,e1,e2⟩:=S.C _ (kh h1) p hp (.inl rfl)
 simp only [] at e1 e2
 rw [qck] at e1
 have:=Jh S.w.nd he (kh h2) e1
 rw [this] at e2
 exact e2.symm
theorem qep {seen:List Pr} {W:Wy} (S:Sn seen W) {r:Int} {ns:List Int} {v:Str->Int} (hS:Sol seen r ns v):∀ c∈CL W 0 seen,okS r ns c.2 (v c.1):=by
 intro c hc
 obtain ⟨k,p,hk,rfl⟩:=qgn hc
 have hp:=List.mem_of_getElem? hk
 obtain ⟨h1,h2⟩:=ul S.a p hp
 have v1:=(S.w.path _ (kh h1)).val hS
 have v2:=(S.w.path _ (kh h2)).val hS
 simp only [] at v1 v2
 rw [<-KL S hp] at v2
 show okS r ns (VO W p k).2 (v (jE W p.1).1)
 rw [XX]
 have hs:=hS k p hk
 generalize qL ns (v (jE W p.1).1) (jE W p.1).2=A at v1
 generalize qL ns (v (jE W p.1).1) (jE W p.2).2=B at v2
 have e:A+B - nI ns k=(v p.1+v p.2 - nI ns k) - (v p.1 - A) - (v p.2 - B):=by omega
 rw [e]
 exact Int.dvd_sub (Int.dvd_sub hs v1) v2
noncomputable def vO (W:Wy) (r:Int) (ns:List Int) (σ:Str->Int) (x:Str):Int:=qL ns (σ (jE W x).1) (jE W x).2 % r
theorem qeq {seen:List Pr} {W:Wy} (S:Sn seen W) {r:Int} {ns:List Int} {σ:Str->Int} (h:∀ c∈CL W 0 seen,okS r ns c.2 (σ c.1)):Sol seen r ns (vO W r ns σ):=by
 intro k p hk
 have hp:=List.mem_of_getElem? hk
 have h1:=h _ (qeo hk)
 have h1:okS r ns (VO W p k).2 (σ (jE W p.1).1):=h1
 rw [XX] at h1
 unfold vO
 rw [<-KL S hp]
 generalize qL ns (σ (jE W p.1).1) (jE W p.1).2=A at h1
 generalize qL ns (σ (jE W p.1).1) (jE W p.2).2=B at h1
 have d1:r ∣ A - A % r:=Int.dvd_self_sub_emod
 have d2:r ∣ B - B % r:=Int.dvd_self_sub_emod
 have e:A % r+B % r - nI ns k=(A+B - nI ns k) - (A - A % r) - (B - B % r):=by omega
 rw [e]
 exact Int.dvd_sub (Int.dvd_sub h1 d1) d2
theorem XY:∀ (C F:List Ci),∀ c∈FO F C,c∈F\/(c∈C/\odd c.2=true)
 | [],F,c,h=>.inl h
 | d::C,F,c,h=>by
  unfold FO at h
  by_cases q:odd d.2=true/\d.1∉kF F
  ·rw [if_pos q] at h
   rcases XY C _ c h with h | h
   ·rcases List.mem_append.mp h with h | h
    ·exact .inl h
    ·rw [List.mem_singleton.mp h]
     exact .inr ⟨List.mem_cons_self ..,q.1⟩
   ·exact .inr ⟨List.mem_cons_of_mem _ h.1,h.2⟩
  ·rw [if_neg q] at h
   rcases XY C _ c h with h | h
   ·exact .inl h
   ·exact .inr ⟨List.mem_cons_of_mem _ h.1,h.2⟩
theorem Jl {F:List Ci} {x:Str} (h:x∈kF F):(x,xV F x)∈F:=by
 unfold xV
 cases q:F.find? fun c=>decide (c.1=x) with
 | none=>
  obtain ⟨e,he,rfl⟩:=List.mem_map.mp h
  have:=List.find?_eq_none.mp q e he
  simp at this
 | some c=>
  have h1:=List.mem_of_find?_eq_some q
  have h2:c.1=x:=by simpa using List.find?_some q
  rw [<-h2]
  exact h1
theorem GP {F:List Ci} {x:Str} (h:x∉kF F):xV F x=[]:=by
 unfold xV
 cases q:F.find? fun c=>decide (c.1=x) with
 | none=>rfl
 | some c=>
  have h1:=List.mem_of_find?_eq_some q
  have h2:c.1=x:=by simpa using List.find?_some q
  exact absurd (List.mem_map.mpr ⟨c,h1,h2⟩) h
theorem XZ (a b:Wk):odd (a++b)=(odd a != odd b):=by
 unfold odd
 rw [List.length_append]
 by_cases h1:a.length % 2=1 <;> by_cases h2:b.length % 2=1
 ·rw [decide_eq_true h1,decide_eq_true h2,decide_eq_false (by omega)]; rfl
 ·rw [decide_eq_true h1,decide_eq_false h2,decide_eq_true (by omega)]; rfl
 ·rw [decide_eq_false h1,decide_eq_true h2,decide_eq_true (by omega)]; rfl
 ·rw [decide_eq_false h1,decide_eq_false h2,decide_eq_false (by omega)]; rfl
theorem zo {r:Int} {ns:List Int} {c:Wk} (h:odd c=false):UG c r ns=false↔r ∣ qL ns 0 c:=by
 unfold UG
 rw [h,if_neg Bool.false_ne_true,Int.dvd_iff_emod_eq_zero]
 simp
theorem Za {r:Int} {ns:List Int} {c:Wk} (h:odd c=true):UG c r ns=false↔¬(r % 2=0/\qL ns 0 c % 2=1):=by
 unfold UG
 rw [h,if_pos rfl]
 simp
theorem qaE (ns:List Int) (f c:Wk) (h:odd c=true):qL ns 0 (f++c)=qL ns 0 c - qL ns 0 f:=by
 rw [um,wv,show sg c=-1 by unfold sg; rw [h]; rfl]
 omega
section
variable {seen:List Pr} {W:Wy} {r:Int} {ns:List Int}
abbrev FF (W:Wy) (seen:List Pr):List Ci:=FO [] (CL W 0 seen)
theorem Zb {c:Ci} (h:c∈FF W seen):c∈CL W 0 seen/\odd c.2=true:=by
 rcases XY _ _ c h with h | h
 ·cases h
 ·exact h
theorem bo_none:BO W seen r ns=none↔∀ c∈CL W 0 seen,(odd c.2=false->r ∣ qL ns 0 c.2)/\(odd c.2=true->¬(r % 2=0/\qL ns 0 c.2 % 2=1)/\r ∣ qL ns 0 c.2 - qL ns 0 (xV (FF W seen) c.1)):=by
 unfold BO
 rw [List.find?_eq_none]
 have hk:∀ c∈CL W 0 seen,odd c.2=true->odd (xV (FF W seen) c.1)=true:=fun c hc ho=>(Zb (Jl ((Qe _ _).2.2.1 c hc ho))).2
 constructor
 ·intro h c hc
  have h1:UG c.2 r ns=false:=by simpa using h c (List.mem_append.mpr (.inl hc))
  refine ⟨fun ho=>(zo ho).mp h1,fun ho=>⟨(Za ho).mp h1,?_⟩⟩
  have h2:UG (xV (FF W seen) c.1++c.2) r ns=false:=by
   have:=h (c.1,xV (FF W seen) c.1++c.2) (List.mem_append.mpr (.inr (List.mem_map.mpr ⟨c,List.mem_filter.mpr ⟨hc,by simpa using ho⟩,rfl⟩)))
   simpa using this
  rw [zo (by rw [XZ,hk c hc ho,ho]; rfl),qaE _ _ _ ho] at h2
  exact h2
 ·intro h w hw
  rcases List.mem_append.mp hw with hw | hw
  ·cases ho:odd w.2 with
   | false=>simpa using (zo ho).mpr ((h w hw).1 ho)
   | true=>simpa using (Za ho).mpr ((h w hw).2 ho).1
  ·obtain ⟨c,hc,rfl⟩:=List.mem_map.mp hw
   obtain ⟨hc,ho⟩:=List.mem_filter.mp hc
   have ho:odd c.2=true:=by simpa using ho
   have:UG (xV (FF W seen) c.1++c.2) r ns=false:=by
    rw [zo (by rw [XZ,hk c hc ho,ho]; rfl),qaE _ _ _ ho]
    exact ((h c hc).2 ho).2
   simpa using this
theorem qcl (S:Sn seen W) {v:Str->Int} (hS:Sol seen r ns v):BO W seen r ns=none:=by
 have hok:=qep S hS
 rw [bo_none]
 intro c hc
 refine ⟨fun ho=>(Jj ho _).mp (hok c hc),fun ho=>?_⟩
 have h1:=(Jk ho _).mp (hok c hc)
 have hm:=Jl ((Qe (CL W 0 seen) []).2.2.1 c hc ho)
 obtain ⟨f1,f2⟩:=Zb hm
 have h2:=(Jk f2 _).mp (hok _ f1)
 refine ⟨fun ⟨e1,e2⟩=>?_,?_⟩
 ·obtain ⟨m,hm⟩:=h1
  obtain ⟨j,hj⟩:=Int.dvd_of_emod_eq_zero e1
  rw [hj,Int.mul_assoc] at hm
  omega
 ·simp only [] at h2
  have e:qL ns 0 c.2 - qL ns 0 (xV (FF W seen) c.1)=(qL ns 0 c.2 - 2 * v c.1) - (qL ns 0 (xV (FF W seen) c.1) - 2 * v c.1):=by omega
  rw [e]
  exact Int.dvd_sub h1 h2
end
theorem Zc {r t s:Int} (hr:1<=r) (s0:0<=s) (s1:s < r) (hp:¬(r % 2=0/\t % 2=1)):r ∣ t - 2 * s↔s∈(if r % 2=0 then [gt t r,gt t r+r / 2] else [gt t r]):=by
 have h0:0 < r:=by omega
 have t0:=Int.emod_nonneg t (show r≠0 by omega)
 have t1:=Int.emod_lt_of_pos t h0
 have hd:r ∣ t - t % r:=Int.dvd_self_sub_emod
 have hpar:r % 2=0->t % r % 2=0:=fun e=>by
  obtain ⟨m,hm⟩:=hd
  obtain ⟨j,hj⟩:=Int.dvd_of_emod_eq_zero e
  have:t % 2=0:=by
   have:=Int.emod_two_eq t
   rcases this with h | h
   ·exact h
   ·exact absurd ⟨e,h⟩ hp
  have e2:r * m=2 * (j * m):=by rw [hj,Int.mul_assoc]
  generalize t % r=u at hm ⊢
  omega
 have key:r ∣ t - 2 * s↔(t % r - 2 * s=0\/t % r - 2 * s=-r):=by
  constructor
  ·intro h
   have h2:r ∣ t % r - 2 * s:=by
    have e:t % r - 2 * s=(t - 2 * s) - (t - t % r):=by omega
    rw [e]
    exact Int.dvd_sub h hd
   generalize t % r=u at *
   by_cases q:2 * s<=u
   ·refine .inl ?_
    have:=Int.emod_eq_zero_of_dvd h2
    rwa [Int.emod_eq_of_lt (by omega) (by omega)] at this
   ·by_cases q2:2 * s<=u+r
    ·refine .inr ?_
     have h3:r ∣ u - 2 * s+r:=Int.dvd_add h2 ⟨1,by simp⟩
     have:=Int.emod_eq_zero_of_dvd h3
     rw [Int.emod_eq_of_lt (by omega) (by omega)] at this
     omega
    ·exfalso
     have h3:r ∣ u - 2 * s+r+r:=Int.dvd_add (Int.dvd_add h2 ⟨1,by simp⟩) ⟨1,by simp⟩
     have:=Int.emod_eq_zero_of_dvd h3
     rw [Int.emod_eq_of_lt (by omega) (by omega)] at this
     omega
  ·intro h
   have e:t - 2 * s=(t - t % r)+(t % r - 2 * s):=by omega
   rw [e]
   refine Int.dvd_add hd ?_
   rcases h with h | h
   ·rw [h]; exact ⟨0,by simp⟩
   ·rw [h]; exact ⟨-1,by simp⟩
 rw [key]
 unfold gt
 by_cases q:r % 2=0
 ·have hu:=hpar q
  rw [if_pos q,if_pos hu]
  generalize t % r=u at *
  simp only [List.mem_cons,List.not_mem_nil,or_false]
  constructor
  ·rintro (h | h)
   ·exact .inl (by omega)
   ·exact .inr (by omega)
  ·rintro (h | h)
   ·exact .inl (by omega)
   ·exact .inr (by omega)
 ·rw [if_neg q]
  generalize t % r=u at *
  rw [List.mem_singleton]
  by_cases q2:u % 2=0
  ·rw [if_pos q2]
   constructor
   ·rintro (h | h) <;> omega
   ·intro h; exact .inl (by omega)
  ·rw [if_neg q2]
   constructor
   ·rintro (h | h) <;> omega
   ·intro h; exact .inr (by omega)
theorem qcm {t r:Int} (hr:1<=r):0<=gt t r/\gt t r < r/\(r % 2=0->t % r % 2=0->gt t r+r / 2 < r):=by
 have t0:=Int.emod_nonneg t (show r≠0 by omega)
 have t1:=Int.emod_lt_of_pos t (show 0 < r by omega)
 unfold gt
 generalize t % r=u at *
 split <;> refine ⟨by omega,by omega,fun h h2=>by omega⟩
section
variable {seen:List Pr} {W:Wy} {r:Int} {ns:List Int}
abbrev ch (W:Wy) (seen:List Pr) (r:Int) (ns:List Int) (x:Str):List Int:=rW (xV (FF W seen) x) r ns
theorem qgo (hr:1<=r) (hb:BO W seen r ns=none) (x:Str) (s:Int):s∈ch W seen r ns x↔(0<=s/\s < r)/\∀ c∈CL W 0 seen,c.1=x->okS r ns c.2 s:=by
 have hb':=bo_none.mp hb
 unfold ch rW
 by_cases q:x∈kF (FF W seen)
 ·have hm:=Jl q
  obtain ⟨f1,f2⟩:=Zb hm
  simp only [] at f2
  have hne:xV (FF W seen) x≠[]:=fun z=>by rw [z] at f2; exact absurd f2 (by decide)
  have hf:=(hb' _ f1).2 f2
  simp only [] at hf
  rw [if_neg hne]
  have hT:∀ s,(∀ c∈CL W 0 seen,c.1=x->okS r ns c.2 s)↔r ∣ qL ns 0 (xV (FF W seen) x) - 2 * s:=fun s=>by
   constructor
   ·intro h
    exact (Jk f2 s).mp (h _ f1 rfl)
   ·intro h c hc he
    cases ho:odd c.2 with
    | false=>exact (Jj ho s).mpr ((hb' c hc).1 ho)
    | true=>
     have h1:=((hb' c hc).2 ho).2
     rw [he] at h1
     rw [Jk ho]
     have e:qL ns 0 c.2 - 2 * s=(qL ns 0 c.2 - qL ns 0 (xV (FF W seen) x))+(qL ns 0 (xV (FF W seen) x) - 2 * s):=by omega
     rw [e]
     exact Int.dvd_add h1 h
  rw [hT s]
  generalize qL ns 0 (xV (FF W seen) x)=t at hf
  have hin:=qcm (t:=t) hr
  have hpar:r % 2=0->t % r % 2=0:=fun e=>by
   obtain ⟨m,hm⟩:r ∣ t - t % r:=Int.dvd_self_sub_emod
   obtain ⟨j,hj⟩:=Int.dvd_of_emod_eq_zero e
   have:t % 2=0:=by
    rcases Int.emod_two_eq t with h | h
    ·exact h
    ·exact absurd ⟨e,h⟩ hf.1
   have e2:r * m=2 * (j * m):=by rw [hj,Int.mul_assoc]
   generalize t % r=u at hm ⊢
   omega
  constructor
  ·intro h
   have hs:0<=s/\s < r:=by
    by_cases q2:r % 2=0
    ·rw [if_pos q2] at h
     simp only [List.mem_cons,List.not_mem_nil,or_false] at h
     have:=hin.2.2 q2 (hpar q2)
     rcases h with rfl | rfl
     ·exact ⟨hin.1,hin.2.1⟩
     ·exact ⟨by omega,this⟩
    ·rw [if_neg q2] at h
     rw [List.mem_singleton.mp h]
     exact ⟨hin.1,hin.2.1⟩
   exact ⟨hs,(Zc hr hs.1 hs.2 hf.1).mpr h⟩
  ·rintro ⟨hs,h⟩
   exact (Zc hr hs.1 hs.2 hf.1).mp h
 ·rw [GP q,if_pos rfl]
  constructor
  ·intro h
   obtain ⟨j,hj,rfl⟩:=List.mem_map.mp h
   have:=List.mem_range.mp hj
   refine ⟨⟨by omega,by omega⟩,fun c hc he=>?_⟩
   cases ho:odd c.2 with
   | false=>exact (Jj ho _).mpr ((hb' c hc).1 ho)
   | true=>
    exact absurd (by rw [<-he]; exact (Qe (CL W 0 seen) []).2.2.1 c hc ho) q
  ·rintro ⟨⟨s0,s1⟩,_⟩
   exact List.mem_map.mpr ⟨s.toNat,List.mem_range.mpr (by omega),by omega⟩
end
noncomputable def al (x y:Str×Str):Bool:=decide (x=y)||decide (x=(y.2,y.1))
theorem al_iff {x y:Str×Str}:al x y=true↔x=y\/x=(y.2,y.1):=by simp [al]
noncomputable def pa (l:List (Str×Str)) (i:Nat):Str×Str:=(l[i]?).getD ("", "")
theorem qaF {l:List (Str×Str)} {i:Nat} (h:i < l.length):(qo l)[i]?=some (pD (pa l i)):=by
 unfold qo pa
 rw [List.getElem?_map,List.getElem?_eq_getElem h]
 rfl
theorem KM (x y:Str×Str):wl [pD x,pD y]=.ok (.bl (al x y),[.non,.non]):=by
 obtain ⟨a,b⟩:=x
 obtain ⟨c,d⟩:=y
 refine runD_ap.trans ?_
 have hz:2<=sizeLine:=jz (by omega)
 by_cases h1:a=c/\b=d
 ·obtain ⟨rfl,rfl⟩:=h1
  simp [wk,qx,qv,pD,eqD,eqN,wG,eqS,al]
 ·have e1:(a == c&&b == d)=false:=by
   cases q:(a == c&&b == d) with
   | false=>rfl
   | true=>simp at q; exact absurd q h1
  have e2:¬((a,b)=(c,d)):=fun z=>h1 ⟨congrArg Prod.fst z,congrArg Prod.snd z⟩
  have e3:(a == d&&b == c)=decide ((a,b)=(d,c)):=by
   by_cases q:(a,b)=(d,c)
   ·rw [decide_eq_true q]
    cases q
    simp
   ·rw [decide_eq_false q]
    cases q':(a == d&&b == c) with
    | false=>rfl
    | true=>simp at q'; exact absurd (by rw [q'.1,q'.2]) q
  have hal:al (a,b) (c,d)=decide ((a,b)=(d,c)):=by
   unfold al
   rw [decide_eq_false e2]
   rfl
  rw [hal,<-e3]
  simp [wk,qx,qv,pD,eqD,eqN,wG,eqS,e1,ixD,atI,ixN,hz]
theorem WO {l:List (Str×Str)}:xP (qo l)=(List.range l.length).map fun (j:Nat)=>.tup [.int j,pD (pa l j)]:=by
 refine List.ext_getElem? fun j=>?_
 unfold xP
 rw [List.getElem?_map,List.getElem?_map,List.getElem?_zipIdx]
 by_cases h:j < l.length
 ·rw [qaF h,List.getElem?_range h]
  simp
 ·have hn:(qo l).length=l.length:=by simp [qo]
  rw [List.getElem?_eq_none (by omega),List.getElem?_eq_none (by simp; omega)]
  rfl
theorem Jm (ws:List Str) (p q:Int):(qH ws p q).length=ws.length:=by simp [qH]
abbrev GQ:Sl->Out (Fl×Sl):=(sIf (uK (qt [.vl,.vl] wl (qc (d2 ixD (qd 0) (qd 3)) (qc (qd 2) qC)))) (jH (yL (qc (qd 3) (qc (qd 1) qC)))) jm)
abbrev GR:Sl->Out (Fl×Sl):=(gD (kb (qd 1)) (gNm 3) GQ)
abbrev clP (l:List (Str×Str)) (i j:Nat):Bool:=al (pa l j) (pa l i)
theorem WP {l:List (Str×Str)} {i:Nat}:∀ (js:List Nat) (x:Option D),(∀ j∈js,j < l.length) ->
  (∃ x',jS (gNm 3) GQ (js.map fun (j:Nat)=>.int j) [some (.lst (qo l)),some (.int i),some (pD (pa l i)),x]=.ok (.nx,[some (.lst (qo l)),some (.int i),some (pD (pa l i)),x'])/\js.find? (clP l i)=none)
  \/ ∃ a ρ',js.find? (clP l i)=some a/\jS (gNm 3) GQ (js.map fun (j:Nat)=>.int j) [some (.lst (qo l)),some (.int i),some (pD (pa l i)),x]=.ok (.rt (.tup [.int a,.int i]),ρ')
 | [],x,_=>.inl ⟨x,rfl,rfl⟩
 | j::js,x,hj=>by
  have h:=KM (pa l j) (pa l i)
  have hg:=qaF (hj j (List.mem_cons_self ..))
  have hz:2<=sizeLine:=jz (by omega)
  rw [List.find?_cons]
  cases q:al (pa l j) (pa l i) with
  | true=>
   rw [q] at h
   have q:clP l i j=true:=q
   rw [q]
   exact .inr ⟨j,_,rfl,by simp [jS,GQ,ixD,kO,hg,qB,jq,h,ww,hz]; rfl⟩
  | false=>
   rw [q] at h
   have q:clP l i j=false:=q
   rw [q]
   have s1:jS (gNm 3) GQ ((j::js).map fun (j:Nat)=>.int j) [some (.lst (qo l)),some (.int i),some (pD (pa l i)),x]=jS (gNm 3) GQ (js.map fun (j:Nat)=>.int j) [some (.lst (qo l)),some (.int i),some (pD (pa l i)),some (.int j)]:=by
    simp [jS,GQ,ixD,kO,hg,qB,jq,h,ww]
   rw [s1]
   exact WP js (some (.int j)) (fun k hk=>hj k (List.mem_cons_of_mem _ hk))
theorem qg3 (n:Nat):Js 0 n=(List.range n).map fun (j:Nat)=>.int j:=by
 unfold Js
 simp
theorem iR0 {f:Sl->Out (D×Sl)} {ρ ρ1:Sl} {k:Int} (h0:0<=k) (h1:k<=2000) (h:f ρ=.ok (.int k,ρ1)):kb f ρ=.ok (Js 0 k.toNat,ρ1):=by
 have c1:-(2 ^ 62:Int)<=k/\k < 2 ^ 62:=by omega
 simp [kb,h,-Int.reducePow,c1]
theorem iR1 {f:Sl->Out (D×Sl)} {ρ ρ1:Sl} {n:Nat} (h:f ρ=.ok (.int n,ρ1)) (hn:n<=2000):kb f ρ=.ok ((List.range n).map fun (j:Nat)=>.int j,ρ1):=by
 rw [iR0 (by omega) (by omega) h,qg3,Int.toNat_natCast]
abbrev clS (l:List (Str×Str)) (i:Nat) (z:Option D):Sl:=[some (.lst (qo l)),some (.int i),some (pD (pa l i)),z]
theorem GS {l:List (Str×Str)} (hl:l.length<=100) {i:Nat} (hi:i < l.length) (z:Option D) :
  (∃ x',GR (clS l i z)=.ok (.nx,clS l i x')/\(List.range i).find? (clP l i)=none)
  \/ ∃ a ρ',(List.range i).find? (clP l i)=some a/\GR (clS l i z)=.ok (.rt (.tup [.int a,.int i]),ρ'):=by
 have hr:=iR1 (f:=qd 1) (ρ:=clS l i z) (ρ1:=clS l i z) (n:=i) rfl (by omega)
 have e0:GR (clS l i z)=jS (gNm 3) GQ ((List.range i).map fun (j:Nat)=>.int j) (clS l i z):=by
  show (kb (qd 1) (clS l i z)).bind (fun p=>jS (gNm 3) GQ p.1 p.2)=_
  rw [hr,ka]
 rw [e0]
 exact WP (l:=l) (i:=i) (List.range i) z (fun j hj=>by have:=List.mem_range.mp hj; omega)
noncomputable def clF (l:List (Str×Str)) (i:Nat):Option (Nat×Nat):=((List.range i).find? (clP l i)).map fun a=>(a,i)
theorem Zd {l:List (Str×Str)} {B:Sl->Out (Fl×Sl)} (hB:∀ i,i < l.length->∀ z,(∃ x',B (clS l i z)=.ok (.nx,clS l i x')/\(List.range i).find? (clP l i)=none)
  \/ ∃ a ρ',(List.range i).find? (clP l i)=some a/\B (clS l i z)=.ok (.rt (.tup [.int a,.int i]),ρ')):∀ (is:List Nat) (x y z:Option D),(∀ i∈is,i < l.length) ->
  (∃ x' y' z',jS (jG 2 (qy (gNm 1) (qy (gNm 2) jF))) B (is.map fun (j:Nat)=>.tup [.int j,pD (pa l j)]) [some (.lst (qo l)),x,y,z]=.ok (.nx,[some (.lst (qo l)),x',y',z'])/\is.findSome? (clF l)=none)
  \/ ∃ (a b:Nat) (ρ':Sl),is.findSome? (clF l)=some (a,b)/\jS (jG 2 (qy (gNm 1) (qy (gNm 2) jF))) B (is.map fun (j:Nat)=>.tup [.int j,pD (pa l j)]) [some (.lst (qo l)),x,y,z]=.ok (.rt (.tup [.int a,.int b]),ρ'):=by
 intro is
 induction is with
 | nil=>exact fun x y z _=>.inl ⟨x,y,z,rfl,rfl⟩
 | cons i is ih=>
  intro x y z hi
  rw [List.findSome?_cons]
  rcases hB i (hi i (List.mem_cons_self ..)) z with ⟨x',e,n⟩ | ⟨a,ρ',ha,e⟩
  ·have s1:jS (jG 2 (qy (gNm 1) (qy (gNm 2) jF))) B ((i::is).map fun (j:Nat)=>.tup [.int j,pD (pa l j)]) [some (.lst (qo l)),x,y,z]=jS (jG 2 (qy (gNm 1) (qy (gNm 2) jF))) B (is.map fun (j:Nat)=>.tup [.int j,pD (pa l j)]) (clS l i x'):=by
    simp [jS,jG,qy,jF,e]
   have n':clF l i=none:=by unfold clF; rw [n]; rfl
   rw [s1,n']
   exact ih (some (.int i)) (some (pD (pa l i))) x' (fun k hk=>hi k (List.mem_cons_of_mem _ hk))
  ·have n':clF l i=some (a,i):=by unfold clF; rw [ha]; rfl
   rw [n']
   refine .inr ⟨a,i,ρ',rfl,?_⟩
   simp [jS,jG,qy,jF,e]
noncomputable def clo (l:List (Str×Str)):Option (Nat×Nat):=(List.range l.length).findSome? (clF l)
noncomputable def clD:Option (Nat×Nat)->D
 | none=>.non
 | some x=>.tup [.int x.1,.int x.2]
theorem ye {l:List (Str×Str)} (hl:l.length<=100):kM [.lst (qo l)]=.ok (clD (clo l),[.non]):=by
 refine runD_ap.trans ?_
 rcases Zd (l:=l) (B:=GR) (fun i hi z=>GS (by omega) hi z) (List.range l.length) none none none (fun j hj=>List.mem_range.mp hj) with ⟨x',y',z',e,n⟩ | ⟨a,b,ρ',n,e⟩
 all_goals
  rw [<-WO] at e
  have n:clo l=_:=n
  rw [n]
  simp [yZ,qx,qv,gG,e,clD]
theorem Ze {ws:List Str} (hw:je ws) {p q:Int} (hl:KP p q) {d:D} (e:kM [.lst (qo (qH ws p q))]=.ok (d,[.non])):gc [Wd ws,Ld p q]=.ok (d,[.non,.non]):=by
 have h:=wu hw hl
 refine runD_ap.trans ?_
 simp [Vy,qx,qv,qB,jq,h,e]
noncomputable def co (x:Str×Str) (c:Str):Int:=(if x.1=c then 1 else 0)+if x.2=c then 1 else 0
noncomputable def cn (K:List (Str×Str)) (c:Str):Int:=(K.map fun x=>co x c).sum
theorem GT (x:Str×Str) (c:Str):0<=co x c/\co x c<=2:=by
 unfold co
 split <;> split <;> omega
theorem Zf (x:Str×Str) (c:Str):uM (pD x) (.str c)=.ok (.int (co x c)):=by
 obtain ⟨a,b⟩:=x
 have h:=vQ c [a,b]
 have h:gN 7 (.str c) [.str a,.str b]=some (decide (c∈[a,b])):=h
 unfold uM co
 simp only [h]
 by_cases q:a=c <;> by_cases q2:b=c <;> simp [eqN,eqS,q,q2]
theorem Zg {l:List Int} (h1:l.length<=1000) (h2:∀ k∈l,0<=k/\k<=100000):Qz (.lst (l.map D.int))=.ok (.int l.sum):=by
 have:l.length<=1000/\(l.all fun k=>decide (0<=k/\k<=100000))=true:=⟨h1,List.all_eq_true.mpr fun k hk=>decide_eq_true (h2 k hk)⟩
 simp only [Qz,Kq,if_pos this]
theorem qcn {K:List (Str×Str)} (hK:K.length<=100) (c:Str) (a b:Option D):qN [] 1 [3] (jr (qd 1)) (gNm 0) ftT (dM qcP uM (qd 0) (qd 1)) [a,some (.lst (qo K)),b,some (.str c)]=.ok (.lst ((K.map fun x=>co x c).map D.int),[a,some (.lst (qo K)),b,some (.str c)]):=by
 have e:=uj (cap:=[3]) (fi:=jr (qd 1)) (ρ:=[a,some (.lst (qo K)),b,some (.str c)]) (ρ1:=[a,some (.lst (qo K)),b,some (.str c)]) (ds:=qo K) (fe:=dM qcP uM (qd 0) (qd 1)) (fun d=>match d with | .tup [.str x,.str y]=>.int (co (x,y) c) | d=>d) (by simp [jt]) (by unfold qo; rw [List.length_map]; exact jz (by omega)) (fun d hd=>by
   obtain ⟨x,hx,rfl⟩:=List.mem_map.mp hd
   have h:=Zf x c
   have h:uM (.tup [.str x.1,.str x.2]) (.str c)=.ok (.int (co x c)):=h
   simp [dM,qcP,h])
 rw [e]
 congr 2
 simp [qo]
noncomputable def lo (K:List (Str×Str)) (x:Str×Str):Bool:=decide (cn K x.1=1)||decide (cn K x.2=1)
theorem qaG (K L:List (Str×Str)) (c:Str):cn (K++L) c=cn K c+cn L c:=by
 unfold cn
 rw [List.map_append,List.sum_append]
theorem qer (K:List (Str×Str)) (c:Str):0<=cn K c:=by
 induction K with
 | nil=>exact Int.le_refl _
 | cons x K ih=>
  have:=GT x c
  show 0<=co x c+cn K c
  omega
theorem qes:∀ {K L:List (Str×Str)},K.Sublist L->∀ c,cn K c<=cn L c:=by
 intro K L h
 induction h with
 | slnil=>intro c; exact Int.le_refl _
 | cons x h ih=>
  intro c
  have:=GT x c
  have:=ih c
  show _<=co x c+cn _ c
  omega
 | cons_cons x h ih=>
  intro c
  have:=ih c
  show co x c+cn _ c<=co x c+cn _ c
  omega
def NA (K:List (Str×Str)):Prop:=K.Pairwise fun x y=>al x y=false
abbrev Cn:=List Str×List Str
abbrev sE (l:List Str):D:=.lst (l.map D.str)
noncomputable def cE (c:Cn):D:=.tup [sE c.1,sE c.2]
noncomputable def st1 (c:Cn) (y:Str):Cn:=if y∈c.1 then (c.1.erase y,c.2) else (c.1,c.2++[y])
noncomputable def un (x y:Str×Str):Cn:=st1 (st1 ([x.1,x.2],[]) y.1) y.2
abbrev unB:Sl->Out (Fl×Sl):=(sIf (qT (d2 inA (qd 4) (qd 2))) (vC (zz 2 qbZ (qd 4))) (vC (zz 3 Ju (qd 4))))
theorem qgp (y:Str) (l:List Str):inA (.str y) (sE l)=.ok (.bl (decide (y∈l))):=by
 show (inD (.str y) (.lst (l.map D.str))).bind _=_
 unfold inD
 simp only [vQ]
 rfl
theorem Zh {a b:Option D} {c:Cn} (h2:c.2.length<=2) (y:Str):unB [a,b,some (sE c.1),some (sE c.2),some (.str y)]=.ok (.nx,[a,b,some (sE (st1 c y).1),some (sE (st1 c y).2),some (.str y)]):=by
 have h:=qgp y c.1
 have hz:c.2.length < sizeLine:=Nat.lt_of_lt_of_le (by omega) big
 unfold st1
 by_cases q:y∈c.1
 ·rw [if_pos q]
  have hr:qbZ (c.1.map D.str) (.str y)=.ok ((c.1.erase y).map D.str):=by
   unfold qbZ
   simp only [ui,if_pos q]
  simp [unB,h,q,zz,yQ,sE,hr]
 ·rw [if_neg q]
  have ha:Ju (c.2.map D.str) (.str y)=.ok ((c.2++[y]).map D.str):=by
   unfold Ju
   rw [List.length_map,if_pos hz]
   simp
  simp [unB,h,q,zz,yQ,sE,ha]
theorem VQ (c:Cn) (y:Str):(st1 c y).1.length<=c.1.length/\(st1 c y).2.length<=c.2.length+1:=by
 unfold st1
 split
 ·exact ⟨List.length_erase_le,Nat.le_succ _⟩
 ·simp
theorem qet (x y:Str×Str):(un x y).1.length<=2/\(un x y).2.length<=2:=by
 have h1:=VQ ([x.1,x.2],[]) y.1
 have h2:=VQ (st1 ([x.1,x.2],[]) y.1) y.2
 unfold un
 simp at h1
 omega
theorem qhB {g:D->Sl->Out Sl} {B:Sl->Out (Fl×Sl)} {d1 d2:D} {ρ0 ρ1 ρ2 ρ3 ρ4:Sl} (h1:g d1 ρ0=.ok ρ1) (h2:B ρ1=.ok (.nx,ρ2)) (h3:g d2 ρ2=.ok ρ3) (h4:B ρ3=.ok (.nx,ρ4)):jS g B [d1,d2] ρ0=.ok (.nx,ρ4):=by
 simp [jS,h1,h2,h3,h4]
theorem VR (x y:Str×Str):km [pD x,pD y]=.ok (cE (un x y),[.non,.non]):=by
 refine runD_ap.trans ?_
 have h1:=VQ ([x.1,x.2],[]) y.1
 have e1:=Zh (a:=some (pD x)) (b:=some (pD y)) (c:=([x.1,x.2],[])) (by simp) y.1
 have e2:=Zh (a:=some (pD x)) (b:=some (pD y)) (c:=st1 ([x.1,x.2],[]) y.1) (by simp at h1; omega) y.2
 have hz:2<=sizeLine:=jz (by omega)
 have hz0:0<=sizeLine:=Nat.zero_le _
 have e3:jS (gNm 4) unB [.str y.1,.str y.2] [some (pD x),some (pD y),some (sE [x.1,x.2]),some (sE []),none]=.ok (.nx,[some (pD x),some (pD y),some (sE (un x y).1),some (sE (un x y).2),some (.str y.2)]):=by
  have e1':unB [some (pD x),some (pD y),some (sE [x.1,x.2]),some (sE []),some (.str y.1)]=_:=e1
  exact qhB rfl e1' rfl e2
 unfold xf
 rw [show qx xc [pD x,pD y]=[some (pD x),some (pD y),none,none,none] from rfl]
 refine (qw (ρ1:=[some (pD x),some (pD y),some (sE [x.1,x.2]),none,none]) (by simp [qbG,sE,hz])).trans ?_
 refine (qw (ρ1:=[some (pD x),some (pD y),some (sE [x.1,x.2]),some (sE []),none]) (by simp [sE])).trans ?_
 refine (qw (ρ1:=[some (pD x),some (pD y),some (sE (un x y).1),some (sE (un x y).2),some (.str y.2)]) (by
  rw [vW,show jr (qd 1) [some (pD x),some (pD y),some (sE [x.1,x.2]),some (sE []),none]=.ok ([.str y.1,.str y.2],[some (pD x),some (pD y),some (sE [x.1,x.2]),some (sE []),none]) from rfl,ka]
  exact e3)).trans ?_
 simp [qv,cE,hz]
noncomputable def CT (l:List (Str×Str)):List Cn:=(List.range l.length).flatMap fun j=>(l.take j).map fun a=>un a (pa l j)
abbrev ctB:Sl->Out (Fl×Sl):=(vC (zz 1 qdF (qN [1] 1 [3] (jr (kX (qd 0) none (some (qd 2)))) (gNm 0) ftT (qt [.vl,.vl] km (qc (qd 0) (qc (qd 1) qC))))))
theorem qco {l:List (Str×Str)} (hl:l.length<=10) {j:Nat} (hj:j < l.length) (f:Option D):qN [1] 1 [3] (jr (kX (qd 0) none (some (qd 2)))) (gNm 0) ftT (qt [.vl,.vl] km (qc (qd 0) (qc (qd 1) qC))) [some (.lst (qo l)),f,some (.int j),some (pD (pa l j))]
  = .ok (.lst (((l.take j).map fun a=>un a (pa l j)).map cE),[some (.lst (qo l)),f,some (.int j),some (pD (pa l j))]):=by
 have hc:Gr (qo l) none (some (j:Int))=qo (l.take j):=by
  unfold Gr
  rw [HT.sIx_none,HT.sIx_nat]
  have:(qo l).length=l.length:=by simp [qo]
  rw [this,show min j l.length - 0=j by omega]
  simp [qo]
 have hi:jr (kX (qd 0) none (some (qd 2))) [some (.lst (qo l)),f,some (.int j),some (pD (pa l j))]=.ok (qo (l.take j),[some (.lst (qo l)),f,some (.int j),some (pD (pa l j))]):=by
  simp [jr,kX,uH,qdY,hc,jt]
 have e:=xi (own:=[1]) (cap:=[3]) (fi:=jr (kX (qd 0) none (some (qd 2)))) (ρ:=[some (.lst (qo l)),f,some (.int j),some (pD (pa l j))]) (ρ1:=[some (.lst (qo l)),f,some (.int j),some (pD (pa l j))]) (ds:=qo (l.take j)) (fe:=qt [.vl,.vl] km (qc (qd 0) (qc (qd 1) qC))) (fun d=>match d with | .tup [.str x,.str y]=>cE (un (x,y) (pa l j)) | d=>d) (by simp) hi (by simp only [qo,List.length_map,List.length_take]; exact jz (by omega)) (fun d hd=>by
   obtain ⟨x,hx,rfl⟩:=List.mem_map.mp hd
   have h:=VR x (pa l j)
   have h:km [.tup [.str x.1,.str x.2],pD (pa l j)]=.ok (cE (un x (pa l j)),[.non,.non]):=h
   simp [qB,jq,h])
 rw [e]
 congr 2
 unfold qo
 rw [List.map_map,List.map_map]
 rfl
theorem Zi {l:List (Str×Str)} (hl:l.length<=10):∀ (js:List Nat) (found:List Cn) (x y:Option D),(∀ j∈js,j < l.length)->found.length+10 * js.length<=500 ->
  ∃ x' y',jS (jG 2 (qy (gNm 2) (qy (gNm 3) jF))) ctB (js.map fun (j:Nat)=>.tup [.int j,pD (pa l j)]) [some (.lst (qo l)),some (.lst (found.map cE)),x,y]
   = .ok (.nx,[some (.lst (qo l)),some (.lst ((found++js.flatMap fun j=>(l.take j).map fun a=>un a (pa l j)).map cE)),x',y'])
 | [],found,x,y,_,_=>⟨x,y,by simp [jS]⟩
 | j::js,found,x,y,hj,hf=>by
  rw [List.length_cons] at hf
  have hjl:=hj j (List.mem_cons_self ..)
  have ht:(l.take j).length<=10:=by rw [List.length_take]; omega
  obtain ⟨x',y',e⟩:=Zi hl js (found++(l.take j).map fun a=>un a (pa l j)) (some (.int j)) (some (pD (pa l j))) (fun i hi=>hj i (List.mem_cons_of_mem _ hi)) (by rw [List.length_append,List.length_map]; omega)
  refine ⟨x',y',?_⟩
  rw [List.flatMap_cons,<-List.append_assoc,<-e]
  have hc:=qco hl hjl (some (.lst (found.map cE)))
  have hz:(found.map cE).length+(((l.take j).map fun a=>un a (pa l j)).map cE).length<=sizeLine:=by rw [List.length_map,List.length_map,List.length_map]; exact jz (by omega)
  have hx:qdF (found.map cE) (.lst (((l.take j).map fun a=>un a (pa l j)).map cE))=.ok ((found++(l.take j).map fun a=>un a (pa l j)).map cE):=by
   unfold qdF
   simp only [if_pos hz,<-List.map_append]
  generalize ((l.take j).map fun a=>un a (pa l j)).map cE=M at hc hx
  generalize (found++(l.take j).map fun a=>un a (pa l j)).map cE=M2 at hx ⊢
  generalize found.map cE=M1 at hc hx ⊢
  generalize D.lst (qo l)=Z at hc ⊢
  simp [jS,jG,qy,jF,ctB,zz,yQ,hc,hx]
theorem KN {l:List (Str×Str)} (hl:l.length<=10):vI [.lst (qo l)]=.ok (.lst ((CT l).map cE),[.non]):=by
 refine runD_ap.trans ?_
 obtain ⟨x',y',e⟩:=Zi hl (List.range l.length) [] none none (fun j hj=>List.mem_range.mp hj) (by simp; omega)
 rw [<-WO] at e
 have e:jS (jG 2 (qy (gNm 2) (qy (gNm 3) jF))) ctB (xP (qo l)) [some (.lst (qo l)),some (.lst []),none,none]=.ok (.nx,[some (.lst (qo l)),some (.lst ((CT l).map cE)),x',y']):=e
 have hz0:0<=sizeLine:=Nat.zero_le _
 generalize (CT l).map cE=M at e ⊢
 simp [vH,qx,qv,gG,e]
theorem qeu (l:List (Str×Str)) (hl:l.length<=10):(CT l).length<=100:=by
 unfold CT
 have:∀ js:List Nat,(js.flatMap fun j=>(l.take j).map fun a=>un a (pa l j)).length<=10 * js.length:=fun js=>by
  induction js with
  | nil=>simp
  | cons j js ih=>
   rw [List.flatMap_cons,List.length_append,List.length_map,List.length_take,List.length_cons]
   omega
 have:=this (List.range l.length)
 rw [List.length_range] at this
 omega
theorem qaH {l:List (Str×Str)} {c:Cn} (h:c∈CT l):c.1.length<=2/\c.2.length<=2:=by
 obtain ⟨j,_,h⟩:=List.mem_flatMap.mp h
 obtain ⟨a,_,rfl⟩:=List.mem_map.mp h
 exact qet a _
abbrev Fx:=List (Key×D)
def GU (k:Fx):Prop:=∀ kv∈k,∃ v:Int,kv.2=.int v/\0<=v/\v<=1000
noncomputable def vl (k:Fx) (x:Str):Int:=match k.find? fun kv=>decide (kv.1=Sum.inr x) with
 | some (_,.int v)=>v
 | _=>0
theorem qev {k:Fx} (hk:GU k) {x:Str} (h:ky k (.inr x)=true):ixD (.dct k) (.str x)=.ok (.int (vl k x))/\0<=vl k x/\vl k x<=1000:=by
 unfold ky at h
 cases q:k.find? fun kv=>decide (kv.1=Sum.inr x) with
 | none=>
  rw [List.find?_eq_none] at q
  obtain ⟨p,hp,h⟩:=List.any_eq_true.mp h
  exact absurd h (q p hp)
 | some kv=>
  obtain ⟨v,e,h1,h2⟩:=hk kv (List.mem_of_find?_eq_some q)
  obtain ⟨k0,d⟩:=kv
  have e:d=.int v:=e
  subst e
  have e2:vl k x=v:=by unfold vl; simp only [q]
  rw [e2]
  exact ⟨by unfold ixD; simp only [q],h1,h2⟩
theorem qgq {α:Type} {Cs:List α} {cap:List Nat} {fi:Sl->Out (List D×Sl)} {fe:Sl->Out (D×Sl)} {ρ:Sl} (A B:α->D) (h:fi ρ=.ok (Cs.map A,ρ)) (hl:Cs.length<=sizeLine)
  (ht:∀ c∈Cs,fe (some (A c)::cap.map fun k=>(ρ[k]?).getD none)=.ok (B c,some (A c)::cap.map fun k=>(ρ[k]?).getD none)):qN [] 1 cap fi (gNm 0) ftT fe ρ=.ok (.lst (Cs.map B),ρ):=by
 have key:∀ (l:List α) (x:Option D),(∀ c∈l,c∈Cs)->∃ x',jN (gNm 0) ftT fe (l.map A) (x::cap.map fun k=>(ρ[k]?).getD none)=.ok (l.map B,x'::cap.map fun k=>(ρ[k]?).getD none):=by
  intro l
  induction l with
  | nil=>intro x _; exact ⟨x,rfl⟩
  | cons c l ih=>
   intro x hc
   obtain ⟨x',e⟩:=ih (some (A c)) fun d hd=>hc d (List.mem_cons_of_mem _ hd)
   have h1:=ht c (hc c (List.mem_cons_self ..))
   exact ⟨x',by simp [jN,zy,h1,e]⟩
 obtain ⟨x',e⟩:=key Cs none fun _ h=>h
 unfold qN
 rw [h]
 simp only [ka]
 rw [if_pos (by rw [List.length_map]; exact hl),show kD 1 cap ρ=none::cap.map fun k=>(ρ[k]?).getD none from rfl,e]
 simp only [ka]
 rw [uE (own:=[]) _ cap 1 ρ fun _ _=>List.not_mem_nil]
noncomputable def md (r:Int) (k:Fx) (c:Cn):Bool:=if ((c.1++c.2).all fun x=>ky k (.inr x))=true then decide (¬((c.1.map (vl k)).sum - (c.2.map (vl k)).sum) % r=0) else true
theorem WQ {k:Fx} (hk:GU k) (j:Nat) {l:List Str} (hl:l.length<=2) (ha:∀ x∈l,ky k (.inr x)=true) {ρ:Sl} (h1:ρ[j]?=some (some (sE l))) (h2:ρ[2]?=some (some (.dct k))) :
  d1 Qz (qN [] 1 [2] (jr (qd j)) (gNm 0) ftT (d2 ixD (qd 1) (qd 0))) ρ=.ok (.int (l.map (vl k)).sum,ρ):=by
 have e:=uj (cap:=[2]) (fi:=jr (qd j)) (ρ:=ρ) (ρ1:=ρ) (ds:=l.map D.str) (fe:=d2 ixD (qd 1) (qd 0)) (fun d=>match d with | .str x=>.int (vl k x) | d=>d) (by simp [h1,jt]) (by rw [List.length_map]; exact jz (by omega)) (fun d hd=>by
   obtain ⟨x,hx,rfl⟩:=List.mem_map.mp hd
   have h:=(qev hk (ha x hx)).1
   simp [h2,h])
 have e2:(l.map D.str).map (fun d=>match d with | .str x=>.int (vl k x) | d=>d)=(l.map (vl k)).map D.int:=by
  rw [List.map_map,List.map_map]
  rfl
 rw [e2] at e
 have hs:=Zg (l:=l.map (vl k)) (by rw [List.length_map]; omega) fun i hi=>by
  obtain ⟨x,hx,rfl⟩:=List.mem_map.mp hi
  have:=(qev hk (ha x hx)).2
  omega
 rw [wB,e]
 simp only [ka]
 rw [hs]
 rfl
theorem qew {c:Cn} (h1:c.1.length<=2) (h2:c.2.length<=2) {r:Int} (hr:0 < r) {k:Fx} (hk:GU k):kw [cE c,.int r,.dct k]=.ok (.bl (md r k c),[.non,.non,.non]):=by
 refine runD_ap.trans ?_
 have z4:(c.1.map D.str).length+(c.2.map D.str).length<=sizeLine:=by rw [List.length_map,List.length_map]; exact jz (by omega)
 have hi:jr (d2 kz (qd 3) (qd 4)) [some (cE c),some (.int r),some (.dct k),some (sE c.1),some (sE c.2)]=.ok ((c.1++c.2).map D.str,[some (cE c),some (.int r),some (.dct k),some (sE c.1),some (sE c.2)]):=by
  have:kz (sE c.1) (sE c.2)=.ok (.lst ((c.1++c.2).map D.str)):=by
   unfold kz
   simp only [if_pos z4,List.map_append]
  generalize sE c.1=U at this ⊢
  generalize sE c.2=V at this ⊢
  simp [this,jt]
 have e:=uj (cap:=[2]) (fi:=jr (d2 kz (qd 3) (qd 4))) (ρ:=[some (cE c),some (.int r),some (.dct k),some (sE c.1),some (sE c.2)]) (ρ1:=[some (cE c),some (.int r),some (.dct k),some (sE c.1),some (sE c.2)]) (ds:=(c.1++c.2).map D.str) (fe:=d2 inA (qd 0) (qd 1)) (fun d=>match d with | .str x=>.bl (ky k (.inr x)) | d=>d) hi (by rw [List.length_map,List.length_append]; exact jz (by omega)) (fun d hd=>by
   obtain ⟨x,hx,rfl⟩:=List.mem_map.mp hd
   simp [inA,Kc])
 have e2:((c.1++c.2).map D.str).map (fun d=>match d with | .str x=>.bl (ky k (.inr x)) | d=>d)=(c.1++c.2).map fun x=>D.bl (ky k (.inr x)):=by
  rw [List.map_map]
  rfl
 rw [e2] at e
 have ha:=yJ (fun x=>ky k (.inr x)) (c.1++c.2)
 have hA:d1 Ul (qN [] 1 [2] (jr (d2 kz (qd 3) (qd 4))) (gNm 0) ftT (d2 inA (qd 0) (qd 1))) [some (cE c),some (.int r),some (.dct k),some (sE c.1),some (sE c.2)]=.ok (.bl ((c.1++c.2).all fun x=>ky k (.inr x)),[some (cE c),some (.int r),some (.dct k),some (sE c.1),some (sE c.2)]):=by
  rw [wB,e]
  simp only [ka]
  rw [ha]
  rfl
 unfold ud md
 rw [show qx jY [cE c,.int r,.dct k]=[some (cE c),some (.int r),some (.dct k),none,none] from rfl]
 refine (qw (ρ1:=[some (cE c),some (.int r),some (.dct k),some (sE c.1),none]) (by simp [cE,ixD,at0])).trans ?_
 refine (qw (ρ1:=[some (cE c),some (.int r),some (.dct k),some (sE c.1),some (sE c.2)]) (by simp [cE,ixD,at1])).trans ?_
 cases q:(c.1++c.2).all fun x=>ky k (.inr x) with
 | false=>
  rw [q] at hA
  simp [-wB,hA,ww,qv]
 | true=>
  rw [q] at hA
  have hall:=List.all_eq_true.mp q
  have s1:=WQ hk 3 h1 (fun x hx=>hall x (List.mem_append.mpr (.inl hx))) (ρ:=[some (cE c),some (.int r),some (.dct k),some (sE c.1),some (sE c.2)]) rfl rfl
  have s2:=WQ hk 4 h2 (fun x hx=>hall x (List.mem_append.mpr (.inr hx))) (ρ:=[some (cE c),some (.int r),some (.dct k),some (sE c.1),some (sE c.2)]) rfl rfl
  refine (qw (ρ1:=[some (cE c),some (.int r),some (.dct k),some (sE c.1),some (sE c.2)]) (by simp [-wB,hA,ww])).trans ?_
  by_cases q2:((c.1.map (vl k)).sum - (c.2.map (vl k)).sum) % r=0 <;> simp [-wB,s1,s2,Jr,gB,xm,hr,neD,eqN,eqS,qv,q2]
theorem qcp {k:Fx} (hl:k.length<=100) (x:Str) (v:Int):vx [.dct k,.str x,.int v]=.ok (.dct (yg k (.inr x) (.int v)),[.non,.non,.non]):=by
 refine runD_ap.trans ?_
 have hz:k.length < sizeLine:=Nat.lt_of_lt_of_le (by omega) big
 simp [ue,qx,qv,Xo,zL,Kc,hz]
theorem qcq (k:Fx) (x:Key) (d:D):(yg k x d).length<=k.length+1:=by
 unfold yg
 split <;> simp
theorem qex {k:Fx} (hk:GU k) (x:Key) {v:Int} (h0:0<=v) (h1:v<=1000):GU (yg k x (.int v)):=by
 unfold yg
 intro kv hkv
 split at hkv
 ·obtain ⟨p,hp,rfl⟩:=List.mem_map.mp hkv
  split
  ·exact ⟨v,rfl,h0,h1⟩
  ·exact hk p hp
 ·rcases List.mem_append.mp hkv with h | h
  ·exact hk kv h
  ·rw [List.mem_singleton.mp h]
   exact ⟨v,rfl,h0,h1⟩
abbrev cfB (gr:List D->Out (D×List D)):Sl->Out (Fl×Sl):=(sIf (uK (qt [.vl,.vl,.vl,.vl] gr (qc (qd 0) (qc (qd 1) (qc (qt [.vl,.vl,.vl] vx (qc (qd 2) (qc (d2 ixD (qd 3) (dC (.int 0))) (qc (qd 5) qC)))) (qc (kX (qd 3) (some (dC (.int 1))) none) qC)))))) (jH (dC (.bl true))) jm)
theorem qey (x:Str) (ls:List Str):ixD (sE (x::ls)) (.int 0)=.ok (.str x)/\qdY (some 1) none (sE (x::ls))=.ok (sE ls):=by
 refine ⟨by simp [ixD,at0],?_⟩
 have:Gr ((x::ls).map D.str) (some 1) none=ls.map D.str:=by
  unfold Gr
  rw [HT.sIx_none,show (some (1:Int))=some ((1:Nat):Int) from rfl,HT.sIx_nat]
  simp
  exact List.take_of_length_le (by simp)
 show Out.ok (D.lst (Gr ((x::ls).map D.str) (some 1) none))=_
 rw [this]
theorem qcr {Cs:List Cn} (hC:∀ c∈Cs,c.1.length<=2/\c.2.length<=2) (hn:Cs.length<=100) {r:Int} (hr:0 < r) {k:Fx} (hk:GU k) (a b c:Option D) :
  d1 Ul (qN [] 1 [1,2] (jr (qd 0)) (gNm 0) ftT (qt [.vl,.vl,.vl] kw (qc (qd 0) (qc (qd 1) (qc (qd 2) qC))))) [some (.lst (Cs.map cE)),some (.int r),some (.dct k),a,b,c]=.ok (.bl (Cs.all (md r k)),[some (.lst (Cs.map cE)),some (.int r),some (.dct k),a,b,c]):=by
 have e:=qgq (Cs:=Cs) (ρ:=[some (.lst (Cs.map cE)),some (.int r),some (.dct k),a,b,c]) (cap:=[1,2]) (fi:=jr (qd 0)) (fe:=qt [.vl,.vl,.vl] kw (qc (qd 0) (qc (qd 1) (qc (qd 2) qC)))) cE (fun c=>.bl (md r k c)) (by simp [jt]) (jz (by omega)) fun c hc=>by
  have h:=qew (hC c hc).1 (hC c hc).2 hr hk
  generalize cE c=Z at h ⊢
  simp [qB,jq,h]
 rw [wB,e]
 simp only [ka]
 rw [yJ]
 rfl
theorem GV (n:Nat):Js 0 n=((List.range n).map fun (j:Nat)=>(j:Int)).map D.int:=by
 rw [qg3,List.map_map]
 rfl
theorem qez (l:List (Str×Str)):(LS l).length<=2 * l.length:=by
 unfold LS
 rw [(jV _).length_eq]
 have:=wL (l.map (·.1)++l.map (·.2)) []
 simp only [List.length_append,List.length_map,List.length_nil] at this
 omega
noncomputable def nu (v:Str->Int) (p:Str×Str):Int:=v p.1+v p.2
def Ds (r:Int) (v:Str->Int) (K:List (Str×Str)):Prop:=K.Pairwise fun p q=>¬r ∣ nu v p - nu v q
def Ext (k:Fx) (v:Str->Int):Prop:=∀ x,ky k (.inr x)=true->v x=vl k x
def OKs (r:Int) (k:Fx) (K:List (Str×Str)):Prop:=∃ v,Ext k v/\Ds r v K
theorem qcs {r a b:Int} (h:¬r ∣ a - b):¬r ∣ b - a:=fun z=>h (by
 have:=Int.dvd_neg.mpr z
 rwa [Int.neg_sub] at this)
theorem ds_mid {r:Int} {v:Str->Int} {A C:List (Str×Str)} {x:Str×Str}:Ds r v (A++x::C)↔(∀ p∈A++C,¬r ∣ nu v x - nu v p)/\Ds r v (A++C):=by
 unfold Ds
 rw [List.pairwise_middle fun h=>qcs h,List.pairwise_cons]
theorem qaI {α:Type} [DecidableEq α]:∀ {a b:List α},a.Nodup->(∀ x∈a,x∈b)->a.length<=b.length
 | [],_,_,_=>Nat.zero_le _
 | x::a,b,hn,h=>by
  obtain ⟨h1,h2⟩:=List.nodup_cons.mp hn
  have hx:=h x (List.mem_cons_self ..)
  have ih:=qaI (b:=b.erase x) h2 fun y hy=>(List.mem_erase_of_ne fun (z:y=x)=>h1 (z ▸ hy)).mpr (h y (List.mem_cons_of_mem _ hy))
  rw [List.length_erase_of_mem hx] at ih
  have:=List.length_pos_of_mem hx
  rw [List.length_cons]
  omega
theorem WR {r:Int} (hr:1<=r) (bad:List Int) (h:(bad.length:Int) < r):∃ t:Int,0<=t/\t < r/\t∉bad:=by
 refine Classical.byContradiction fun z=>?_
 have hall:∀ t∈(List.range r.toNat).map fun (j:Nat)=>(j:Int),t∈bad:=fun t ht=>by
  obtain ⟨j,hj,rfl⟩:=List.mem_map.mp ht
  have:=List.mem_range.mp hj
  exact Classical.byContradiction fun q=>z ⟨j,by omega,by omega,q⟩
 have hnd:((List.range r.toNat).map fun (j:Nat)=>(j:Int)).Nodup:=List.pairwise_map.mpr (List.nodup_range.imp fun {a b} hab e=>hab (by omega))
 have:=qaI hnd hall
 rw [List.length_map,List.length_range] at this
 omega
noncomputable def loK (k:Fx) (K:List (Str×Str)) (x:Str×Str):Bool:=(!ky k (.inr x.1)&&decide (cn K x.1=1))||(!ky k (.inr x.2)&&decide (cn K x.2=1))
theorem qaJ (A C:List (Str×Str)) (x:Str×Str) (c:Str):cn (A++x::C) c=co x c+cn (A++C) c:=by
 rw [qaG,qaG]
 show cn A c+(co x c+cn C c)=_
 omega
theorem qct {K:List (Str×Str)} {c:Str} (h:cn K c=0):∀ p∈K,p.1≠c/\p.2≠c:=fun p hp=>by
 obtain ⟨A,C,rfl⟩:=List.append_of_mem hp
 rw [qaJ] at h
 have h1:=qer (A++C) c
 have h2:=GT p c
 have h3:co p c=0:=by omega
 unfold co at h3
 refine ⟨fun z=>?_,fun z=>?_⟩
 ·rw [if_pos z] at h3
  split at h3 <;> omega
 ·rw [if_pos z] at h3
  split at h3 <;> omega
theorem qeA {r:Int} (hr:1<=r) {k:Fx} {K0 A C:List (Str×Str)} {x:Str×Str} (hs:(A++x::C).Sublist K0) (hl:loK k K0 x=true) (hn:((A++x::C).length:Int)<=r) (h:OKs r k (A++C)):OKs r k (A++x::C):=by
 obtain ⟨v,hv,hd⟩:=h
 have key:∀ c d:Str,(∀ w:Str->Int,nu w x=w c+w d)->(c=x.1\/c=x.2)->ky k (.inr c)=false->cn K0 c=1->OKs r k (A++x::C):=fun c d hcd hc hk h1=>by
  have hle:=qes hs c
  rw [qaJ] at hle
  have hnn:=qer (A++C) c
  have hco:1<=co x c:=by
   unfold co
   rcases hc with rfl | rfl
   ·rw [if_pos rfl]
    split <;> omega
   ·rw [if_pos (rfl:x.2=x.2)]
    split <;> omega
  have h0:cn (A++C) c=0:=by omega
  have hz:=qct h0
  have hdc:d≠c:=fun z=>by
   have e:=hcd fun y=>if y=c then 1 else 0
   subst z
   unfold nu at e
   have:co x d=2:=by
    unfold co
    simpa using e
   omega
  obtain ⟨t,t0,t1,ht⟩:=WR hr ((A++C).map fun p=>(nu v p - v d) % r) (by
   rw [List.length_map]
   rw [List.length_append,List.length_cons] at hn
   rw [List.length_append]
   omega)
  refine ⟨fun y=>if y=c then t else v y,fun y hy=>?_,ds_mid.mpr ⟨fun p hp=>?_,?_⟩⟩
  ·have:y≠c:=fun z=>by rw [z,hk] at hy; cases hy
   show (if y=c then t else v y)=_
   rw [if_neg this]
   exact hv y hy
  ·have e1:nu (fun y=>if y=c then t else v y) x=t+v d:=by
    rw [hcd]
    simp [hdc]
   have e2:nu (fun y=>if y=c then t else v y) p=nu v p:=by
    obtain ⟨q1,q2⟩:=hz p hp
    simp [nu,q1,q2]
   rw [e1,e2]
   intro z
   refine ht (List.mem_map.mpr ⟨p,hp,?_⟩)
   have:r ∣ (nu v p - v d) - t:=by
    have:=Int.dvd_neg.mpr z
    rw [show -(t+v d - nu v p)=nu v p - v d - t by omega] at this
    exact this
   have e3:(nu v p - v d) % r=t % r:=Int.emod_eq_emod_iff_emod_sub_eq_zero.mpr (Int.emod_eq_zero_of_dvd this)
   exact e3.trans (Int.emod_eq_of_lt t0 t1)
  ·refine hd.imp_of_mem fun {p q} hp hq hpq=>?_
   obtain ⟨p1,p2⟩:=hz p hp
   obtain ⟨q1,q2⟩:=hz q hq
   have e1:nu (fun y=>if y=c then t else v y) p=nu v p:=by simp [nu,p1,p2]
   have e2:nu (fun y=>if y=c then t else v y) q=nu v q:=by simp [nu,q1,q2]
   rw [e1,e2]
   exact hpq
 unfold loK at hl
 rw [Bool.or_eq_true,Bool.and_eq_true,Bool.and_eq_true] at hl
 rcases hl with ⟨a,b⟩ | ⟨a,b⟩
 ·exact key x.1 x.2 (fun w=>rfl) (.inl rfl) (by simpa using a) (of_decide_eq_true b)
 ·exact key x.2 x.1 (fun w=>Int.add_comm _ _) (.inr rfl) (by simpa using a) (of_decide_eq_true b)
noncomputable def peK (k:Fx) (K:List (Str×Str)):List (Str×Str):=K.filter fun x=>!loK k K x
theorem qcu {r:Int} (hr:1<=r) {k:Fx} {K0:List (Str×Str)} (hn:(K0.length:Int)<=r):∀ (M A:List (Str×Str)),(A++M).Sublist K0->OKs r k (A++M.filter fun x=>!loK k K0 x)->OKs r k (A++M)
 | [],A,_,h=>h
 | x::M,A,hs,h=>by
  have hlen:((A++x::M).length:Int)<=r:=by
   have:=hs.length_le
   omega
  cases q:loK k K0 x with
  | false=>
   rw [List.filter_cons_of_pos (by simp [q])] at h
   have:=qcu hr hn M (A++[x]) (by simpa using hs) (by simpa using h)
   simpa using this
  | true=>
   rw [List.filter_cons_of_neg (by simp [q])] at h
   exact qeA hr hs q hlen (qcu hr hn M A ((List.Sublist.refl A).append (List.sublist_cons_self x M) |>.trans hs) h)
theorem qeB {r:Int} (hr:1<=r) {k:Fx} {K:List (Str×Str)} (hn:(K.length:Int)<=r):OKs r k (peK k K)↔OKs r k K:=
 ⟨fun h=>qcu hr hn K [] (List.Sublist.refl _) h,fun ⟨v,a,b⟩=>⟨v,a,List.Pairwise.sublist List.filter_sublist b⟩⟩
noncomputable def sv (v:Str->Int) (l:List Str):Int:=(l.map v).sum
noncomputable def Dc (v:Str->Int) (c:Cn):Int:=sv v c.1 - sv v c.2
theorem qeC (v:Str->Int) (a b:List Str):sv v (a++b)=sv v a+sv v b:=by
 unfold sv
 rw [List.map_append,List.sum_append]
theorem WS (v:Str->Int):∀ {l:List Str} {y:Str},y∈l->sv v (l.erase y)=sv v l - v y
 | x::l,y,h=>by
  by_cases q:x=y
  ·subst q
   rw [List.erase_cons_head]
   show _=v x+sv v l - v x
   omega
  ·rw [List.erase_cons_tail (by simpa using q)]
   have ih:=WS v ((List.mem_cons.mp h).resolve_left fun z=>q z.symm)
   show v x+sv v (l.erase y)=v x+sv v l - v y
   omega
theorem qeD (v:Str->Int) (c:Cn) (y:Str):Dc v (st1 c y)=Dc v c - v y:=by
 unfold st1 Dc
 split
 ·rename_i h
  show sv v (c.1.erase y) - sv v c.2=_
  rw [WS v h]
  omega
 ·show sv v c.1 - sv v (c.2++[y])=_
  rw [qeC,show sv v [y]=v y by simp [sv]]
  omega
theorem qgr (v:Str->Int) (x y:Str×Str):Dc v (un x y)=nu v x - nu v y:=by
 unfold un
 rw [qeD,qeD]
 simp [Dc,sv,nu]
 omega
theorem qeE (c:Cn) (y:Str):((st1 c y).1.length:Int) - (st1 c y).2.length=(c.1.length:Int) - c.2.length - 1:=by
 unfold st1
 split
 ·rename_i h
  show ((c.1.erase y).length:Int) - c.2.length=_
  rw [List.length_erase_of_mem h]
  have:=List.length_pos_of_mem h
  omega
 ·show (c.1.length:Int) - (c.2++[y]).length=_
  rw [List.length_append]
  simp
  omega
theorem qhC (x y:Str×Str):(un x y).1.length=(un x y).2.length:=by
 have h1:=qeE ([x.1,x.2],[]) y.1
 have h2:=qeE (st1 ([x.1,x.2],[]) y.1) y.2
 unfold un
 simp at h1
 omega
theorem qaK {P:Str->Prop} {c:Cn} {y:Str} (h1:∀ z∈c.1++c.2,P z) (h2:P y):∀ z∈(st1 c y).1++(st1 c y).2,P z:=by
 unfold st1
 split
 ·exact fun z hz=>(List.mem_append.mp hz).elim (fun q=>h1 z (List.mem_append.mpr (.inl (List.mem_of_mem_erase q)))) fun q=>h1 z (List.mem_append.mpr (.inr q))
 ·intro z hz
  rcases List.mem_append.mp hz with q | q
  ·exact h1 z (List.mem_append.mpr (.inl q))
  ·rcases List.mem_append.mp q with q | q
   ·exact h1 z (List.mem_append.mpr (.inr q))
   ·rw [List.mem_singleton.mp q]; exact h2
theorem qgs {P:Str->Prop} {x y:Str×Str} (h1:P x.1) (h2:P x.2) (h3:P y.1) (h4:P y.2):∀ z∈(un x y).1++(un x y).2,P z:=
 qaK (qaK (fun z hz=>by
  simp at hz
  rcases hz with rfl | rfl
  ·exact h1
  ·exact h2) h3) h4
theorem ct_iff {l:List (Str×Str)} {c:Cn}:c∈CT l↔∃ i j,∃ (hi:i < l.length) (hj:j < l.length),i < j/\c=un l[i] l[j]:=by
 unfold CT
 rw [List.mem_flatMap]
 constructor
 ·rintro ⟨j,hj,h⟩
  have hj:=List.mem_range.mp hj
  obtain ⟨a,ha,rfl⟩:=List.mem_map.mp h
  obtain ⟨i,hi,rfl⟩:=List.mem_take_iff_getElem.mp ha
  refine ⟨i,j,by omega,hj,by omega,?_⟩
  have:pa l j=l[j]:=by unfold pa; rw [List.getElem?_eq_getElem hj]; rfl
  rw [this]
 ·rintro ⟨i,j,hi,hj,hij,rfl⟩
  refine ⟨j,List.mem_range.mpr hj,List.mem_map.mpr ⟨l[i],List.mem_take_iff_getElem.mpr ⟨i,by omega,rfl⟩,?_⟩⟩
  have:pa l j=l[j]:=by unfold pa; rw [List.getElem?_eq_getElem hj]; rfl
  rw [this]
theorem ds_ct {r:Int} {v:Str->Int} {l:List (Str×Str)}:Ds r v l↔∀ c∈CT l,¬r ∣ Dc v c:=by
 unfold Ds
 rw [List.pairwise_iff_getElem]
 constructor
 ·intro h c hc
  obtain ⟨i,j,hi,hj,hij,rfl⟩:=ct_iff.mp hc
  rw [qgr]
  exact h i j hi hj hij
 ·intro h i j hi hj hij
  have:=h _ (ct_iff.mpr ⟨i,j,hi,hj,hij,rfl⟩)
  rw [qgr] at this
  exact this
theorem qeF {l:List (Str×Str)} {c:Cn} (h:c∈CT l):∀ z∈c.1++c.2,z∈LS l:=by
 obtain ⟨i,j,hi,hj,_,rfl⟩:=ct_iff.mp h
 have m1:=List.getElem_mem hi
 have m2:=List.getElem_mem hj
 exact qgs (mem_LS.mpr ⟨_,m1,.inl rfl⟩) (mem_LS.mpr ⟨_,m1,.inr rfl⟩) (mem_LS.mpr ⟨_,m2,.inl rfl⟩) (mem_LS.mpr ⟨_,m2,.inr rfl⟩)
theorem qhD {l:List (Str×Str)} {c:Cn} (h:c∈CT l):c.1.length=c.2.length:=by
 obtain ⟨i,j,hi,hj,_,rfl⟩:=ct_iff.mp h
 exact qhC _ _
theorem Jn {k:Fx} {x:Str} (h:ky k (.inr x)=false) (d:D):yg k (.inr x) d=k++[(.inr x,d)]:=by
 unfold yg
 unfold ky at h
 rw [h]
 rfl
theorem yf {k:Fx} {x:Str} (h:ky k (.inr x)=false) (d:D) (y:Str):ky (yg k (.inr x) d) (.inr y)=(ky k (.inr y)||decide (x=y)):=by
 rw [Jn h]
 unfold ky
 rw [List.any_append]
 simp
theorem WT {k:Fx} {x:Str} (h:ky k (.inr x)=false) (w:Int):vl (yg k (.inr x) (.int w)) x=w/\∀ y,y≠x->vl (yg k (.inr x) (.int w)) y=vl k y:=by
 rw [Jn h]
 unfold vl
 refine ⟨?_,fun y hy=>?_⟩
 ·have:(k.find? fun kv=>decide (kv.1=Sum.inr x))=none:=by
   rw [List.find?_eq_none]
   intro p hp z
   unfold ky at h
   rw [List.any_eq_false] at h
   exact h p hp z
  rw [List.find?_append,this]
  simp
 ·rw [List.find?_append]
  have:([(Sum.inr x,D.int w)]:Fx).find? (fun kv=>decide (kv.1=Sum.inr y))=none:=by
   rw [List.find?_eq_none]
   intro p hp z
   rw [List.mem_singleton.mp hp] at z
   have:=of_decide_eq_true z
   exact hy (Sum.inr.inj this).symm
  rw [this,Option.or_none]
theorem qeG {v w:Str->Int} {l:List Str} (h:∀ x∈l,v x=w x):sv v l=sv w l:=by
 unfold sv
 rw [List.map_congr_left h]
theorem qcv {v w:Str->Int} {c:Cn} (h:∀ x∈c.1++c.2,v x=w x):Dc v c=Dc w c:=by
 unfold Dc
 rw [qeG fun x hx=>h x (List.mem_append.mpr (.inl hx)),qeG fun x hx=>h x (List.mem_append.mpr (.inr hx))]
theorem qcw {r:Int} {v w:Str->Int} (h:∀ x,r ∣ v x - w x):∀ l:List Str,r ∣ sv v l - sv w l
 | []=>by simp [sv]
 | x::l=>by
  have ih:=qcw h l
  show r ∣ (v x+sv v l) - (w x+sv w l)
  rw [show (v x+sv v l) - (w x+sv w l)=(v x - w x)+(sv v l - sv w l) by omega]
  exact Int.dvd_add (h x) ih
theorem qgt {r:Int} {v w:Str->Int} (h:∀ x,r ∣ v x - w x) {c:Cn} (hc:¬r ∣ Dc v c):¬r ∣ Dc w c:=fun z=>hc (by
 have h1:=qcw h c.1
 have h2:=qcw h c.2
 have:Dc v c=(sv v c.1 - sv w c.1) - (sv v c.2 - sv w c.2)+Dc w c:=by unfold Dc; omega
 rw [this]
 exact Int.dvd_add (Int.dvd_sub h1 h2) z)
theorem md_iff {r:Int} {k:Fx} {c:Cn}:md r k c=true↔((∀ y∈c.1++c.2,ky k (.inr y)=true)->¬r ∣ Dc (vl k) c):=by
 unfold md
 cases q:(c.1++c.2).all fun x=>ky k (.inr x) with
 | false=>
  have:¬∀ y∈c.1++c.2,ky k (.inr y)=true:=fun z=>by
   rw [List.all_eq_true.mpr z] at q
   cases q
  exact ⟨fun _ z=>absurd z this,fun _=>rfl⟩
 | true=>
  rw [if_pos rfl,decide_eq_true_eq]
  have hall:=List.all_eq_true.mp q
  exact ⟨fun h _ z=>h (Int.emod_eq_zero_of_dvd z),fun h z=>h hall (Int.dvd_of_emod_eq_zero z)⟩
noncomputable def chs (r:Int) (k:Fx):List Int:=if k=[] then [0] else (List.range r.toNat).map fun (j:Nat)=>(j:Int)
noncomputable def cf (r:Int) (Cs:List Cn):Nat->List Str->Fx->Bool
 | 0,_,_=>false
 | n+1,ls,k=>Cs.all (md r k)&&(match ls with
  | []=>true
  | x::ls=>(chs r k).any fun w=>cf r Cs n ls (yg k (.inr x) (.int w)))
def qcR (r:Int) (Cs:List Cn) (v:Str->Int):Prop:=∀ c∈Cs,¬r ∣ Dc v c
theorem Zj {r:Int} (hr:1<=r) {Cs:List Cn}:∀ (n:Nat) (ls:List Str) (k:Fx),ls.length < n->k≠[]->ls.Nodup->(∀ y∈ls,ky k (.inr y)=false)->(∀ c∈Cs,∀ y∈c.1++c.2,ky k (.inr y)=true\/y∈ls)->(cf r Cs n ls k=true↔∃ v,Ext k v/\qcR r Cs v)
 | 0,ls,k,h,_,_,_,_=>absurd h (Nat.not_lt_zero _)
 | n+1,ls,k,h,hk,hnd,hno,hin=>by
  have hmd:∀ v,Ext k v->qcR r Cs v->Cs.all (md r k)=true:=fun v hv hg=>List.all_eq_true.mpr fun c hc=>md_iff.mpr fun hall=>by
   rw [<-qcv fun y hy=>hv y (hall y hy)]
   exact hg c hc
  cases ls with
  | nil=>
   show (Cs.all (md r k)&&true)=true↔_
   rw [Bool.and_true]
   refine ⟨fun h=>⟨vl k,fun _ _=>rfl,fun c hc=>md_iff.mp (List.all_eq_true.mp h c hc) fun y hy=>(hin c hc y hy).resolve_right fun z=>by cases z⟩,fun ⟨v,hv,hg⟩=>hmd v hv hg⟩
  | cons x ls=>
   have hx:=hno x (List.mem_cons_self ..)
   obtain ⟨hxl,hnd2⟩:=List.nodup_cons.mp hnd
   have ih:=fun w=>Zj hr (Cs:=Cs) n ls (yg k (.inr x) (.int w)) (by rw [List.length_cons] at h; omega) (by rw [Jn hx]; simp) hnd2 (fun y hy=>by
    rw [yf hx,hno y (List.mem_cons_of_mem _ hy)]
    simp
    exact fun z=>hxl (z ▸ hy)) fun c hc y hy=>by
    rw [yf hx]
    rcases hin c hc y hy with q | q
    ·exact .inl (by rw [q]; rfl)
    ·rcases List.mem_cons.mp q with q | q
     ·exact .inl (by simp [q])
     ·exact .inr q
   show (Cs.all (md r k)&&(chs r k).any fun w=>cf r Cs n ls (yg k (.inr x) (.int w)))=true↔_
   rw [Bool.and_eq_true,List.any_eq_true]
   constructor
   ·rintro ⟨_,w,_,hw⟩
    obtain ⟨v,hv,hg⟩:=(ih w).mp hw
    refine ⟨v,fun y hy=>?_,hg⟩
    have hyx:y≠x:=fun z=>by rw [z,hx] at hy; cases hy
    rw [hv y (by rw [yf hx,hy]; rfl),(WT hx w).2 y hyx]
   ·rintro ⟨v,hv,hg⟩
    refine ⟨hmd v hv hg,v x % r,?_,(ih _).mpr ⟨fun y=>if y=x then v x % r else v y,fun y hy=>?_,fun c hc=>qgt (fun y=>?_) (hg c hc)⟩⟩
    ·unfold chs
     rw [if_neg hk]
     have h1:=Int.emod_nonneg (v x) (show r≠0 by omega)
     have h2:=Int.emod_lt_of_pos (v x) (show 0 < r by omega)
     exact List.mem_map.mpr ⟨(v x % r).toNat,List.mem_range.mpr (by omega),by omega⟩
    ·show (if y=x then v x % r else v y)=_
     by_cases q:y=x
     ·rw [if_pos q,q,(WT hx _).1]
     ·rw [if_neg q,(WT hx _).2 y q]
      rw [yf hx] at hy
      refine hv y ?_
      simpa [show ¬x=y from fun z=>q z.symm] using hy
    ·show r ∣ v y - (if y=x then v x % r else v y)
     by_cases q:y=x
     ·rw [if_pos q,q]
      exact Int.dvd_self_sub_of_emod_eq rfl
     ·rw [if_neg q,Int.sub_self]
      exact Int.dvd_zero r
theorem Jo (v:Str->Int) (t:Int):∀ l:List Str,sv (fun y=>v y - t) l=sv v l - t * l.length
 | []=>by simp [sv]
 | x::l=>by
  have ih:=Jo v t l
  show (v x - t)+sv (fun y=>v y - t) l=(v x+sv v l) - t * ((l.length+1:Nat):Int)
  rw [ih,Int.natCast_add,Int.mul_add]
  simp
  omega
theorem GW (v:Str->Int) (t:Int) {c:Cn} (h:c.1.length=c.2.length):Dc (fun y=>v y - t) c=Dc v c:=by
 unfold Dc
 rw [Jo,Jo,h]
 omega
theorem qcx {r:Int} (hr:1<=r) {Cs:List Cn} (hn:∀ c∈Cs,c.1.length=c.2.length) (n:Nat) (ls:List Str) (h:ls.length < n) (hnd:ls.Nodup) (hin:∀ c∈Cs,∀ y∈c.1++c.2,y∈ls):cf r Cs n ls []=true↔∃ v,qcR r Cs v:=by
 obtain ⟨n,rfl⟩:∃ m,n=m+1:=⟨n - 1,by omega⟩
 have h0:∀ y:Str,ky [] (.inr y)=false:=fun y=>rfl
 have hmd:∀ v,qcR r Cs v->Cs.all (md r [])=true:=fun v hg=>List.all_eq_true.mpr fun c hc=>md_iff.mpr fun hall=>by
  rw [qcv (w:=v) fun y hy=>absurd (hall y hy) (by rw [h0]; simp)]
  exact hg c hc
 cases ls with
 | nil=>
  show (Cs.all (md r [])&&true)=true↔_
  rw [Bool.and_true]
  exact ⟨fun h=>⟨vl [],fun c hc=>md_iff.mp (List.all_eq_true.mp h c hc) fun y hy=>by cases hin c hc y hy⟩,fun ⟨v,hg⟩=>hmd v hg⟩
 | cons x ls=>
  obtain ⟨hxl,hnd2⟩:=List.nodup_cons.mp hnd
  have ih:=Zj hr (Cs:=Cs) n ls (yg [] (.inr x) (.int 0)) (by rw [List.length_cons] at h; omega) (by rw [Jn (h0 x)]; simp) hnd2 (fun y hy=>by
   rw [yf (h0 x),h0]
   simp
   exact fun z=>hxl (z ▸ hy)) fun c hc y hy=>by
   rw [yf (h0 x),h0]
   rcases List.mem_cons.mp (hin c hc y hy) with q | q
   ·exact .inl (by simp [q])
   ·exact .inr q
  show (Cs.all (md r [])&&(chs r []).any fun w=>cf r Cs n ls (yg [] (.inr x) (.int w)))=true↔_
  rw [show chs r []=[0] from if_pos rfl,Bool.and_eq_true]
  simp only [List.any_cons,List.any_nil,Bool.or_false]
  rw [ih]
  constructor
  ·rintro ⟨_,v,_,hg⟩
   exact ⟨v,hg⟩
  ·rintro ⟨v,hg⟩
   refine ⟨hmd v hg,fun y=>v y - v x,fun y hy=>?_,fun c hc=>?_⟩
   ·rw [yf (h0 x),h0] at hy
    have:x=y:=by simpa using hy
    subst this
    rw [(WT (h0 x) 0).1]
    show v x - v x=0
    omega
   ·rw [GW v (v x) (hn c hc)]
    exact hg c hc
theorem qaL {c:Cn} (h:∀ z∈c.1,z∉c.2) (y:Str):∀ z∈(st1 c y).1,z∉(st1 c y).2:=by
 unfold st1
 split
 ·exact fun z hz=>h z (List.mem_of_mem_erase hz)
 ·rename_i hy
  intro z hz q
  rcases List.mem_append.mp q with q | q
  ·exact h z hz q
  ·rw [List.mem_singleton.mp q] at hz
   exact hy hz
theorem qgu (x y:Str×Str):∀ z∈(un x y).1,z∉(un x y).2:=qaL (qaL (fun z _ q=>by cases q) _) _
theorem qeH {x y:Str×Str} (h:un x y=([],[])):al x y=true:=by
 have hv:∀ v,nu v x=nu v y:=fun v=>by
  have:=qgr v x y
  rw [h] at this
  simp [Dc,sv] at this
  omega
 obtain ⟨a,b⟩:=x
 obtain ⟨c,d⟩:=y
 have h1:=hv fun z=>if z=a then 1 else 0
 simp only [nu,if_true] at h1
 have hac:c=a\/d=a:=by
  refine Classical.byContradiction fun z=>?_
  have z1:¬c=a:=fun q=>z (.inl q)
  have z2:¬d=a:=fun q=>z (.inr q)
  rw [if_neg z1,if_neg z2] at h1
  split at h1 <;> omega
 have one:∀ s t:Str,(∀ v:Str->Int,v s=v t)->s=t:=fun s t q=>by
  refine Classical.byContradiction fun z=>?_
  have:=q fun y=>if y=s then 1 else 0
  rw [if_pos rfl,if_neg fun w=>z w.symm] at this
  cases this
 refine al_iff.mpr ?_
 rcases hac with rfl | rfl
 ·refine .inl ?_
  have:=one b d fun v=>by
   have:=hv v
   simp only [nu] at this
   omega
  rw [this]
 ·refine .inr ?_
  have:=one b c fun v=>by
   have:=hv v
   simp only [nu] at this
   omega
  rw [this]
noncomputable def up (v:Str->Int) (x:Str) (t:Int) (y:Str):Int:=if y=x then t else v y
theorem qcy (v:Str->Int) (x:Str) (t:Int):∀ l:List Str,sv (up v x t) l=sv (up v x 0) l+t * (l.count x:Nat)
 | []=>by simp [sv]
 | y::l=>by
  have ih:=qcy v x t l
  show up v x t y+sv (up v x t) l=(up v x 0 y+sv (up v x 0) l)+t * ((y::l).count x:Nat)
  rw [ih,List.count_cons]
  by_cases q:y=x
  ·subst q
   simp only [up,if_true,beq_self_eq_true,Int.natCast_add,Int.mul_add]
   simp
   omega
  ·have q':(y == x)=false:=beq_false_of_ne q
   simp only [up,if_neg q,q',Bool.false_eq_true,if_false,Nat.add_zero]
   omega
noncomputable def bd (e D:Int):Int:=if e=1 then (-D) % 97 else if e=-1 then D % 97 else if e=2 then (-D * 49) % 97 else (D * 49) % 97
theorem qgv {e D t:Int} (he:e=1\/e=-1\/e=2\/e=-2) (t0:0<=t) (t1:t < 97) (h:t≠bd e D):¬(97:Int) ∣ D+t * e:=by
 unfold bd at h
 rcases he with rfl | rfl | rfl | rfl
 ·simp at h
  omega
 ·simp at h
  omega
 ·simp at h
  omega
 ·simp at h
  omega
theorem qaM {Cs:List Cn} (hd:∀ c∈Cs,∀ z∈c.1,z∉c.2) (h2:∀ c∈Cs,c.1.length<=2/\c.2.length<=2) (hl:Cs.length < 97):∀ (ls S:List Str) (v:Str->Int),(∀ c∈Cs,(∀ y∈c.1++c.2,y∈S)->¬(97:Int) ∣ Dc v c)->(∀ c∈Cs,∀ y∈c.1++c.2,y∈S\/y∈ls)->∃ w,qcR 97 Cs w
 | [],S,v,h,hin=>⟨v,fun c hc=>h c hc fun y hy=>(hin c hc y hy).resolve_right fun z=>by cases z⟩
 | x::ls,S,v,h,hin=>by
  obtain ⟨t,t0,t1,ht⟩:=WR (r:=97) (by omega) (Cs.map fun c=>bd ((c.1.count x:Int) - (c.2.count x:Int)) (Dc (up v x 0) c)) (by rw [List.length_map]; omega)
  refine qaM hd h2 hl ls (x::S) (if x∈S then v else up v x t) (fun c hc hall=>?_) fun c hc y hy=>?_
  ·by_cases hxS:x∈S
   ·rw [if_pos hxS]
    exact h c hc fun y hy=>(List.mem_cons.mp (hall y hy)).elim (fun z=>z ▸ hxS) id
   ·rw [if_neg hxS]
    by_cases hxc:x∈c.1++c.2
    ·have e:Dc (up v x t) c=Dc (up v x 0) c+t * ((c.1.count x:Int) - (c.2.count x:Int)):=by
      unfold Dc
      rw [qcy v x t c.1,qcy v x t c.2,Int.mul_sub]
      omega
     rw [e]
     have hb:t≠bd ((c.1.count x:Int) - (c.2.count x:Int)) (Dc (up v x 0) c):=fun z=>ht (List.mem_map.mpr ⟨c,hc,z.symm⟩)
     refine qgv ?_ t0 t1 hb
     have c1:c.1.count x<=c.1.length:=List.count_le_length
     have c2:c.2.count x<=c.2.length:=List.count_le_length
     have l2:=h2 c hc
     rcases List.mem_append.mp hxc with q | q
     ·have z:c.2.count x=0:=List.count_eq_zero.mpr (hd c hc x q)
      have p:0 < c.1.count x:=List.count_pos_iff.mpr q
      omega
     ·have z:c.1.count x=0:=List.count_eq_zero.mpr fun z=>hd c hc x z q
      have p:0 < c.2.count x:=List.count_pos_iff.mpr q
      omega
    ·rw [qcv (w:=v) fun y hy=>by
      have:y≠x:=fun z=>hxc (z ▸ hy)
      simp [up,this]]
     exact h c hc fun y hy=>(List.mem_cons.mp (hall y hy)).resolve_left fun z=>hxc (z ▸ hy)
  ·rcases hin c hc y hy with q | q
   ·exact .inl (List.mem_cons_of_mem _ q)
   ·rcases List.mem_cons.mp q with q | q
    ·exact .inl (by rw [q]; exact List.mem_cons_self ..)
    ·exact .inr q
theorem qcz {l:List (Str×Str)} (hl:l.length<=6):(CT l).length < 97:=by
 unfold CT
 have:∀ js:List Nat,(js.flatMap fun j=>(l.take j).map fun a=>un a (pa l j)).length<=6 * js.length:=fun js=>by
  induction js with
  | nil=>simp
  | cons j js ih=>
   rw [List.flatMap_cons,List.length_append,List.length_map,List.length_take,List.length_cons]
   omega
 have:=this (List.range l.length)
 rw [List.length_range] at this
 omega
theorem qhE {l:List (Str×Str)} (hna:NA l) (h6:l.length<=6):∃ v,Ds 97 v l:=by
 obtain ⟨w,hw⟩:=qaM (Cs:=CT l) (fun c hc=>by
  obtain ⟨i,j,hi,hj,_,rfl⟩:=ct_iff.mp hc
  exact qgu _ _) (fun c hc=>qaH hc) (qcz h6) (LS l) [] (fun _=>0) (fun c hc hall=>by
  obtain ⟨i,j,hi,hj,hij,rfl⟩:=ct_iff.mp hc
  exfalso
  have hne:(un l[i] l[j]).1++(un l[i] l[j]).2=[]:=by
   cases q:(un l[i] l[j]).1++(un l[i] l[j]).2 with
   | nil=>rfl
   | cons z t=>cases hall z (by rw [q]; exact List.mem_cons_self ..)
  obtain ⟨e1,e2⟩:=List.append_eq_nil_iff.mp hne
  have:=qeH (x:=l[i]) (y:=l[j]) (Prod.ext e1 e2)
  rw [List.pairwise_iff_getElem.mp hna i j hi hj hij] at this
  cases this) fun c hc y hy=>.inr (qeF hc y hy)
 exact ⟨w,ds_ct.mpr hw⟩
theorem GX {K:List (Str×Str)} (hK:K.length<=100) (c:Str) (a:Option D) (b:D):d1 Qz (qN [] 1 [3] (jr (qd 1)) (gNm 0) ftT (dM qcP uM (qd 0) (qd 1))) [a,some (.lst (qo K)),some b,some (.str c)]=.ok (.int (cn K c),[a,some (.lst (qo K)),some b,some (.str c)]):=by
 have hs:Qz (.lst ((K.map fun x=>co x c).map D.int))=.ok (.int (cn K c)):=Zg (by rw [List.length_map]; omega) fun k hk=>by
  obtain ⟨y,_,rfl⟩:=List.mem_map.mp hk
  have:=GT y c
  omega
 rw [wB,qcn hK c a (some b)]
 simp only [ka]
 rw [hs]
 rfl
theorem qcA {K:List (Str×Str)} (hK:K.length<=100) (k:Fx) (x:Str×Str):jX [pD x,.lst (qo K),.dct k]=.ok (.bl (loK k K x),[.non,.non,.non]):=by
 refine runD_ap.trans ?_
 have h:=fun c=>GX hK c (some (pD x)) (.dct k)
 have hn:∀ c:Str,xN (.str c) (.dct k)=.ok (.bl (!ky k (.inr c))):=fun c=>rfl
 generalize D.lst (qo K)=Z at h ⊢
 generalize D.dct k=Y at h hn ⊢
 obtain ⟨a,b⟩:=x
 unfold loK
 cases q1:ky k (.inr a) <;> cases q2:ky k (.inr b) <;> by_cases q3:cn K a=1 <;> by_cases q4:cn K b=1 <;> simp [xb,qx,qv,jt,jS,hn,q1,q2,-wB,h,eqD,eqN,eqS,q3,q4]
theorem WU {K:List (Str×Str)} (hK:K.length<=100) (k:Fx) (a b:Option D):qN [] 1 [2,1] (jr (qd 2)) (gNm 0) (gy (uK (qt [.vl,.vl,.vl] jX (qc (qd 0) (qc (qd 1) (qc (qd 2) qC)))))) (qd 0) [a,some (.dct k),some (.lst (qo K)),b]=.ok (.lst (qo (peK k K)),[a,some (.dct k),some (.lst (qo K)),b]):=by
 have e:=XI (own:=[]) (cap:=[2,1]) (fi:=jr (qd 2)) (ρ:=[a,some (.dct k),some (.lst (qo K)),b]) (ρ1:=[a,some (.dct k),some (.lst (qo K)),b]) (ds:=qo K) (ft:=gy (uK (qt [.vl,.vl,.vl] jX (qc (qd 0) (qc (qd 1) (qc (qd 2) qC)))))) (fe:=qd 0) (fun d=>match d with | .tup [.str x,.str y]=>!loK k K (x,y) | d=>false) (fun d=>d) (by simp) (by simp [jt]) (by unfold qo; rw [List.length_map]; exact jz (by omega)) (fun d hd=>by
   obtain ⟨x,hx,rfl⟩:=List.mem_map.mp hd
   have h:=qcA hK k x
   have h:jX [.tup [.str x.1,.str x.2],.lst (qo K),.dct k]=.ok (.bl (loK k K x),[.non,.non,.non]):=h
   simp [qB,jq,h,ww]) (fun d hd _=>rfl)
 rw [e]
 congr 2
 unfold peK
 rw [List.map_id']
 unfold qo
 rw [List.filter_map]
 rfl
theorem KO {r:Int} (hr:1<=r) (k:Fx) {a:Option D}:∀ (n:Nat) (K:List (Str×Str)),K.length < n->K.length<=100->(K.length:Int)<=r->∃ B R,(OKs r k B↔OKs r k K)/\B.Sublist K /\
  jk (qT (d2 ltD (d1 ki (qd 3)) (d1 ki (qd 2))))
   (qS (jL 2 (qd 3))
   (qS (jL 3 (qN [] 1 [2,1] (jr (qd 2)) (gNm 0) (gy (uK (qt [.vl,.vl,.vl] jX (qc (qd 0) (qc (qd 1) (qc (qd 2) qC)))))) (qd 0))) jm)) n [a,some (.dct k),some (.lst (qo K)),some (.lst (qo (peK k K)))]=.ok (.nx,[a,some (.dct k),some (.lst (qo B)),some (.lst R)])
 | 0,K,h,_,_=>absurd h (Nat.not_lt_zero _)
 | n+1,K,h,hK,hKr=>by
  have h1:ki (.lst (qo K))=.ok (.int K.length):=by simp [ki,qo]
  have h2:ki (.lst (qo (peK k K)))=.ok (.int (peK k K).length):=by simp [ki,qo]
  have hle:(peK k K).length<=K.length:=List.length_filter_le _ _
  by_cases q:(peK k K).length < K.length
  ·obtain ⟨B,R,n1,n2,e⟩:=KO hr k (a:=a) n (peK k K) (by omega) (by omega) (by omega)
   refine ⟨B,R,n1.trans (qeB hr hKr),n2.trans List.filter_sublist,?_⟩
   have hc:=WU (K:=peK k K) (by omega) k a (some (.lst (qo (peK k K))))
   rw [<-e]
   generalize D.lst (qo (peK k (peK k K)))=Z2 at hc ⊢
   generalize D.lst (qo (peK k K))=Z1 at h2 hc ⊢
   generalize D.lst (qo K)=Z at h1 ⊢
   generalize D.dct k=Y at hc ⊢
   simp [jk,h1,h2,ltD,q,hc]
  ·refine ⟨K,qo (peK k K),Iff.rfl,List.Sublist.refl _,?_⟩
   generalize D.lst (qo (peK k K))=Z1 at h2 ⊢
   generalize D.lst (qo K)=Z at h1 ⊢
   simp [jk,h1,h2,ltD,q]
theorem qcB {r:Int} (hr:1<=r) (k:Fx) {K:List (Str×Str)} (hK:K.length<=10) (hKr:(K.length:Int)<=r):∃ B,(OKs r k B↔OKs r k K)/\B.Sublist K/\wn [.lst (qo K),.dct k]=.ok (.lst (qo B),[.non,.non]):=by
 obtain ⟨B,R,n1,n2,e⟩:=KO hr k (a:=some (.lst (qo K))) 20 K (by omega) (by omega) hKr
 refine ⟨B,n1,n2,?_⟩
 have hc:=WU (K:=K) (by omega) k (some (.lst (qo K))) none
 refine runD_ap.trans ?_
 unfold wm
 rw [show qx kg [.lst (qo K),.dct k]=[some (.lst (qo K)),some (.dct k),none,none] from rfl]
 refine (qw (ρ1:=[some (.lst (qo K)),some (.dct k),some (.lst (qo K)),none]) (by simp)).trans ?_
 refine (qw (ρ1:=[some (.lst (qo K)),some (.dct k),some (.lst (qo K)),some (.lst (qo (peK k K)))]) (by rw [vV,hc]; rfl)).trans ?_
 refine (qw e).trans ?_
 simp [qv]
theorem WV {gr:List D->Out (D×List D)} {C S S1:D} {r:Int} {k:Fx} (hl:k.length<=100) {x:Str} {ch:Option D} (hi:ixD S (.int 0)=.ok (.str x)) (hs:qdY (some 1) none S=.ok S1) (P:Int->Bool):∀ (vs:List Int) (y:Option D),(∀ v∈vs,gr [C,.int r,.dct (yg k (.inr x) (.int v)),S1]=.ok (.bl (P v),[.non,.non,.non,.non])) ->
  (vs.any P=true/\∃ ρ,jS (gNm 5) (cfB gr) (vs.map D.int) [some C,some (.int r),some (.dct k),some S,ch,y]=.ok (.rt (.bl true),some C::some (.int r)::some (.dct k)::some S::ρ))\/(vs.any P=false/\∃ y',jS (gNm 5) (cfB gr) (vs.map D.int) [some C,some (.int r),some (.dct k),some S,ch,y]=.ok (.nx,[some C,some (.int r),some (.dct k),some S,ch,y']))
 | [],y,_=>.inr ⟨rfl,y,rfl⟩
 | v::vs,y,h=>by
  have hb:=h v (List.mem_cons_self ..)
  have hw:=qcp hl x v
  cases q:P v with
  | true=>
   rw [q] at hb
   refine .inl ⟨by simp [q],[ch,some (.int v)],?_⟩
   simp [jS,cfB,qB,jq,hw,hi,kX,uH,hs,hb,ww]
  | false=>
   rw [q] at hb
   have s1:jS (gNm 5) (cfB gr) ((v::vs).map D.int) [some C,some (.int r),some (.dct k),some S,ch,y]=jS (gNm 5) (cfB gr) (vs.map D.int) [some C,some (.int r),some (.dct k),some S,ch,some (.int v)]:=by
    simp [jS,cfB,qB,jq,hw,hi,kX,uH,hs,hb,ww]
   rw [s1,List.any_cons,q,Bool.false_or]
   exact WV hl hi hs P vs _ fun u hu=>h u (List.mem_cons_of_mem _ hu)
theorem qcC (r:Int) (Cs:List Cn) (n:Nat) (x:Str) (ls:List Str) (k:Fx):cf r Cs (n+1) (x::ls) k=(Cs.all (md r k)&&(chs r k).any fun w=>cf r Cs n ls (yg k (.inr x) (.int w))):=rfl
theorem Qg {Cs:List Cn} (hC:∀ c∈Cs,c.1.length<=2/\c.2.length<=2) (hn:Cs.length<=100) {r:Int} (hr:0 < r) (hr9:r<=99):∀ (n:Nat) (ls:List Str) (k:Fx),ls.length < n->GU k->k.length+ls.length<=100 ->
  qP n [.lst (Cs.map cE),.int r,.dct k,sE ls]=.ok (.bl (cf r Cs n ls k),[.non,.non,.non,.non])
 | 0,ls,k,h,_,_=>absurd h (Nat.not_lt_zero _)
 | n+1,ls,k,h,hk,hl=>by
  have hA:=fun a b c=>qcr hC hn hr hk a b c
  show ku jo [.val,.val,.val,.val] (jp (qP n)) [.lst (Cs.map cE),.int r,.dct k,sE ls]=_
  have hst:qx jo [.lst (Cs.map cE),.int r,.dct k,sE ls]=[some (.lst (Cs.map cE)),some (.int r),some (.dct k),some (sE ls),none,none]:=rfl
  cases q:Cs.all (md r k) with
  | false=>
   refine runD_ap.trans ?_
   have hcf:cf r Cs (n+1) ls k=false:=by
    cases ls <;> (unfold cf; rw [q]; rfl)
   rw [q] at hA
   rw [hst,hcf]
   simp [jp,-wB,hA,ww,qv]
  | true=>
   rw [q] at hA
   have hA:=hA (some (sE ls)) none none
   cases ls with
   | nil=>
    refine runD_ap.trans ?_
    rw [show cf r Cs (n+1) [] k=true by unfold cf; rw [q]; rfl]
    rw [hst]
    unfold jp
    refine (qw (ρ1:=[some (.lst (Cs.map cE)),some (.int r),some (.dct k),some (sE []),none,none]) (by simp [-wB,hA,ww])).trans ?_
    simp [ki,eqD,eqN,eqS,qv]
   | cons x ls=>
    rw [List.length_cons] at h hl
    rw [qcC,q,Bool.true_and]
    obtain ⟨hi,hs⟩:=qey x ls
    have hv:∀ v∈chs r k,0<=v/\v < r:=fun v hv=>by
     unfold chs at hv
     split at hv
     ·rw [List.mem_singleton.mp hv]; omega
     ·obtain ⟨j,hj,rfl⟩:=List.mem_map.mp hv
      have:=List.mem_range.mp hj
      omega
    have hch:dIf (qT (d2 eqD (d1 ki (qd 2)) (dC (.int 0)))) (gC (qc (dC (.int 0)) qC)) (d1 ux (qd 1)) [some (.lst (Cs.map cE)),some (.int r),some (.dct k),some (sE (x::ls)),none,none]=.ok (.lst ((chs r k).map D.int),[some (.lst (Cs.map cE)),some (.int r),some (.dct k),some (sE (x::ls)),none,none]):=by
     unfold chs
     by_cases q0:k=[]
     ·have z1:1<=sizeLine:=jz (by omega)
      simp [ki,eqD,eqN,eqS,q0,z1]
     ·rw [if_neg q0]
      have hrg:ux (.int r)=.ok (.lst (((List.range r.toNat).map fun (j:Nat)=>(j:Int)).map D.int)):=by
       unfold ux
       have c1:qdQ 0 r/\r<=1000000:=⟨⟨by decide,by omega⟩,by omega⟩
       simp only [Int.sub_zero,if_pos c1]
       rw [GV]
      generalize ((List.range r.toNat).map fun (j:Nat)=>(j:Int)).map D.int=M at hrg ⊢
      simp [ki,eqD,eqN,eqS,q0,hrg]
    have hloop:=WV (gr:=qP n) (C:=.lst (Cs.map cE)) (r:=r) (k:=k) (ch:=some (.lst ((chs r k).map D.int))) (by omega) hi hs (fun w=>cf r Cs n ls (yg k (.inr x) (.int w))) (chs r k) none fun v hv'=>
     Qg hC hn hr hr9 n ls (yg k (.inr x) (.int v)) (by omega) (qex hk _ (hv v hv').1 (by have:=(hv v hv').2; omega)) (by have:=qcq k (.inr x) (.int v); omega)
    have hlen:ki (sE (x::ls))=.ok (.int ((ls.length:Int)+1)):=by simp [ki]
    have hne:¬((ls.length:Int)+1=0):=by omega
    generalize hS:sE (x::ls)=S at *
    generalize D.lst (Cs.map cE)=C at *
    have fin:UL [.val,.val,.val,.val] ((qS (gD (jr (qd 4)) (gNm 5) (cfB (qP n))) (jH (dC (.bl false)))) [some C,some (.int r),some (.dct k),some S,some (.lst ((chs r k).map D.int)),none])=.ok (.bl ((chs r k).any fun w=>cf r Cs n ls (yg k (.inr x) (.int w))),[.non,.non,.non,.non]):=by
     have hit:jr (qd 4) [some C,some (.int r),some (.dct k),some S,some (.lst ((chs r k).map D.int)),none]=.ok ((chs r k).map D.int,[some C,some (.int r),some (.dct k),some S,some (.lst ((chs r k).map D.int)),none]):=by simp [jt]
     generalize (chs r k).map D.int=M at hit hloop ⊢
     rcases hloop with ⟨e0,ρ,e⟩ | ⟨e0,y',e⟩
     ·rw [e0,zI,vW,hit,ka,e]; rfl
     ·rw [e0,zI,vW,hit,ka,e]; rfl
    refine runD_ap.trans ?_
    rw [hst]
    unfold jp
    refine (qw (ρ1:=[some C,some (.int r),some (.dct k),some S,none,none]) (by simp [-wB,hA,ww])).trans ?_
    refine (qw (ρ1:=[some C,some (.int r),some (.dct k),some S,none,none]) (by simp [hlen,eqD,eqN,eqS,hne])).trans ?_
    refine (qw (ρ1:=[some C,some (.int r),some (.dct k),some S,some (.lst ((chs r k).map D.int)),none]) (by rw [vV,hch]; rfl)).trans ?_
    exact fin
theorem UJ {l:List (Str×Str)} (h6:l.length<=6) {r:Int} (hr:1<=r) (h99:r<=99) {k:Fx} (hk:GU k) (hkl:k.length<=50):∃ b,kx [.lst (qo l),.int r,.dct k]=.ok (.bl b,[.non,.non,.non])/\(b=true↔(l.length:Int)<=r/\OKs r k l):=by
 have hlen:ki (.lst (qo l))=.ok (.int l.length):=by simp [ki,qo]
 by_cases hlr:r < (l.length:Int)
 ·refine ⟨false,?_,⟨(fun z=>by cases z),fun z=>absurd z.1 (by omega)⟩⟩
  refine runD_ap.trans ?_
  generalize D.lst (qo l)=Z at hlen ⊢
  simp [vz,qx,qv,hlen,ltD,hlr]
 ·have hKr:(l.length:Int)<=r:=by omega
  obtain ⟨B,n1,n2,hb⟩:=qcB hr k (K:=l) (by omega) hKr
  have hB:B.length<=6:=Nat.le_trans n2.length_le h6
  have hL:=yK (l:=B) (by omega)
  have hc:=KN (l:=B) (by omega)
  have hll:=qez B
  have hfl:((LS B).filter fun x=>!ky k (.inr x)).length<=12:=by
   have:=List.length_filter_le (fun x=>!ky k (.inr x)) (LS B)
   omega
  have hf:=Qg (Cs:=CT B) (fun c hc=>qaH hc) (qeu B (by omega)) (r:=r) (by omega) h99 14 ((LS B).filter fun x=>!ky k (.inr x)) k (by omega) hk (by omega)
  refine ⟨cf r (CT B) 14 ((LS B).filter fun x=>!ky k (.inr x)) k,?_,?_⟩
  ·refine runD_ap.trans ?_
   have e:=XI (own:=[]) (cap:=[2]) (fi:=jr (qt [.vl] jD (qc (qd 3) qC))) (ρ:=[some (.lst (qo l)),some (.int r),some (.dct k),some (.lst (qo B)),none]) (ρ1:=[some (.lst (qo l)),some (.int r),some (.dct k),some (.lst (qo B)),none]) (ds:=(LS B).map D.str) (ft:=qT (d2 xN (qd 0) (qd 1))) (fe:=qd 0) (fun d=>match d with | .str x=>!ky k (.inr x) | _=>false) (fun d=>d) (by simp) (by
     generalize D.lst (qo B)=Z at hL ⊢
     simp [qB,jq,hL,jt]) (by rw [List.length_map]; exact jz (by omega)) (fun d hd=>by
     obtain ⟨x,hx,rfl⟩:=List.mem_map.mp hd
     simp [xN,Kc]) (fun d hd _=>rfl)
   rw [List.map_id',List.filter_map] at e
   have e:qN [] 1 [2] (jr (qt [.vl] jD (qc (qd 3) qC))) (gNm 0) (qT (d2 xN (qd 0) (qd 1))) (qd 0) [some (.lst (qo l)),some (.int r),some (.dct k),some (.lst (qo B)),none]=.ok (sE ((LS B).filter fun x=>!ky k (.inr x)),[some (.lst (qo l)),some (.int r),some (.dct k),some (.lst (qo B)),none]):=e
   unfold vz
   rw [show qx vy [.lst (qo l),.int r,.dct k]=[some (.lst (qo l)),some (.int r),some (.dct k),none,none] from rfl]
   generalize D.lst (qo l)=Z at *
   generalize D.lst (qo B)=ZB at *
   generalize D.dct k=Y at *
   refine (qw (ρ1:=[some Z,some (.int r),some Y,none,none]) (by simp [hlen,ltD,hlr])).trans ?_
   refine (qw (ρ1:=[some Z,some (.int r),some Y,some ZB,none]) (by simp [qB,jq,hb])).trans ?_
   refine (qw (ρ1:=[some Z,some (.int r),some Y,some ZB,some (sE ((LS B).filter fun x=>!ky k (.inr x)))]) (by rw [vV,e]; rfl)).trans ?_
   generalize sE ((LS B).filter fun x=>!ky k (.inr x))=S at *
   generalize D.lst ((CT B).map cE)=C at *
   simp [qB,jq,hc,hf,qv]
  ·have hnd:((LS B).filter fun x=>!ky k (.inr x)).Nodup:=((jV _).nodup_iff.mpr (KJ _ [] List.nodup_nil).1).filter _
   have hok:(∃ v,Ext k v/\qcR r (CT B) v)↔OKs r k B:=⟨fun ⟨v,a,b⟩=>⟨v,a,ds_ct.mpr b⟩,fun ⟨v,a,b⟩=>⟨v,a,ds_ct.mp b⟩⟩
   rw [<-n1,<-hok]
   have hin:∀ c∈CT B,∀ y∈c.1++c.2,ky k (.inr y)=true\/y∈(LS B).filter fun x=>!ky k (.inr x):=fun c hc y hy=>by
    cases q:ky k (.inr y) with
    | true=>exact .inl rfl
    | false=>exact .inr (List.mem_filter.mpr ⟨qeF hc y hy,by rw [q]; rfl⟩)
   by_cases q0:k=[]
   ·subst q0
    rw [qcx hr (fun c hc=>qhD hc) 14 _ (by omega) hnd fun c hc y hy=>(hin c hc y hy).resolve_left fun z=>by cases z]
    exact ⟨fun ⟨v,h⟩=>⟨hKr,v,(fun x hx=>by cases hx),h⟩,fun ⟨_,v,_,h⟩=>⟨v,h⟩⟩
   ·rw [Zj hr 14 _ k (by omega) q0 hnd (fun y hy=>by simpa using (List.mem_filter.mp hy).2) hin]
    exact ⟨fun h=>⟨hKr,h⟩,fun h=>h.2⟩
noncomputable def rv (w:Str):Str:=⟨⟨w.cps.toList.reverse⟩⟩
theorem qcD {w:Str} (h:KF w):KF (rv w):=⟨by show 1<=(w.cps.toList.reverse).length; rw [List.length_reverse]; exact h.1,by show (w.cps.toList.reverse).length<=6; rw [List.length_reverse]; exact h.2.1,fun c hc=>h.2.2 c (List.mem_reverse.mp hc)⟩
theorem qeI (w:Str):rv (rv w)=w:=by
 obtain ⟨⟨l⟩⟩:=w
 show (⟨⟨l.reverse.reverse⟩⟩:Str)=_
 rw [List.reverse_reverse]
theorem qeJ {w:Str} (h:KF w):slD none none (some (-1)) (.str w)=.ok (.str (rv w)):=by
 rcases KH h with ⟨a,rfl⟩ | ⟨a,b,rfl⟩ | ⟨a,b,c,rfl⟩ | ⟨a,b,c,d,rfl⟩ | ⟨a,b,c,d,e,rfl⟩ | ⟨a,b,c,d,e,f,rfl⟩ <;> kernel_rfl
theorem qaN {w:Str} (h:KF w) {p:Int} (hp:-3<=p/\p<=2):Qb (rv w) (-1 - p)=Qb w p:=by
 have hp':p=-3\/p=-2\/p=-1\/p=0\/p=1\/p=2:=by omega
 rcases hp' with rfl | rfl | rfl | rfl | rfl | rfl <;> rcases KH h with ⟨a,rfl⟩ | ⟨a,b,rfl⟩ | ⟨a,b,c,rfl⟩ | ⟨a,b,c,d,rfl⟩ | ⟨a,b,c,d,e,rfl⟩ | ⟨a,b,c,d,e,f,rfl⟩ <;> kernel_rfl
noncomputable def rvs (ws:List Str):List Str:=ws.map rv
theorem qeK {ws:List Str} (h:je ws):je (rvs ws):=by
 refine ⟨by unfold rvs; rw [List.length_map]; exact h.1,by unfold rvs; rw [List.length_map]; exact h.2.1,?_,fun w hw=>?_⟩
 ·unfold rvs List.Nodup
  rw [List.pairwise_map]
  refine List.Pairwise.imp (fun {a b} hab=>fun z=>hab ?_) h.2.2.1
  rw [<-qeI a,<-qeI b,z]
 ·obtain ⟨x,hx,rfl⟩:=List.mem_map.mp hw
  exact qcD (h.2.2.2 x hx)
theorem qcE {p q:Int} (h:KP p q):KP (-1 - p) (-1 - q):=⟨⟨by have:=h.1.2; omega,by have:=h.1.1; omega⟩,by have:=h.2.2; omega,by have:=h.2.1; omega⟩
theorem Jp {ws:List Str} (h:je ws) {p q:Int} (hl:KP p q):qH (rvs ws) (-1 - p) (-1 - q)=qH ws p q:=by
 unfold qH rvs
 rw [List.map_map]
 refine List.map_congr_left fun w hw=>?_
 show (Qb (rv w) (-1 - p),Qb (rv w) (-1 - q))=_
 rw [qaN (h.2.2.2 w hw) hl.1,qaN (h.2.2.2 w hw) hl.2]
def Lst (l:List (Str×Str)) (R:Int):Prop:=(l.length:Int)<=R/\OKs R [] l/\∀ r,(l.length:Int)<=r->r < R->¬OKs r [] l
theorem Lst.one {l:List (Str×Str)} {R R':Int} (h:Lst l R) (h':Lst l R'):R=R':=by
 obtain ⟨a,b,c⟩:=h
 obtain ⟨a',b',c'⟩:=h'
 by_cases q:R < R'
 ·exact absurd b (c' R a q)
 ·by_cases q':R' < R
  ·exact absurd b' (c R' a' q')
  ·omega
abbrev rfT:Sl->Out (Bool×Sl):=(gy (uK (qt [.vl,.vl,.vl] kx (qc (qd 0) (qc (qd 2) (qc (dC (.dct [])) qC))))))
abbrev rfB:Sl->Out (Fl×Sl):=(jL 2 (d2 kz (qd 2) (dC (.int 1))))
theorem WW {Z:D} {P:Int->Prop} (hd:∀ r,1<=r->r<=99->∃ b,kx [Z,.int r,.dct []]=.ok (.bl b,[.non,.non,.non])/\(b=true↔P r)) {m:Int} (hm:P m) (h97:m<=97) {a:Option D}:∀ (n:Nat) (f:Int),1<=f->f<=m->m < f+n ->
  ∃ R,f<=R/\P R/\(∀ r,f<=r->r < R->¬P r)/\jk rfT rfB n [some Z,a,some (.int f)]=.ok (.nx,[some Z,a,some (.int R)])
 | 0,f,h1,h2,h3=>by omega
 | n+1,f,h1,h2,h3=>by
  obtain ⟨b,e,hb⟩:=hd f h1 (by omega)
  cases b with
  | true=>exact ⟨f,by omega,hb.mp rfl,fun r r1 r2=>by omega,by simp [jk,qB,jq,e,ww]⟩
  | false=>
   have hf:¬P f:=fun z=>by have:=hb.mpr z; cases this
   have hne:f≠m:=fun z=>hf (by rw [z]; exact hm)
   obtain ⟨R,r1,r2,r3,r4⟩:=WW hd hm h97 n (f+1) (by omega) (by omega) (by omega)
   refine ⟨R,by omega,r2,fun r q1 q2=>?_,?_⟩
   ·by_cases q:r=f
    ·rw [q]; exact hf
    ·exact r3 r (by omega) q2
   ·have s1:jk rfT rfB (n+1) [some Z,a,some (.int f)]=jk rfT rfB n [some Z,a,some (.int (f+1))]:=by
     simp [jk,qB,jq,e,ww,kz]
    rw [s1]
    exact r4
theorem qeL {l:List (Str×Str)} (h:clo l=none):NA l:=by
 unfold NA
 rw [List.pairwise_iff_getElem]
 intro i j hi hj hij
 have h1:=List.findSome?_eq_none_iff.mp h j (List.mem_range.mpr hj)
 unfold clF at h1
 rw [Option.map_eq_none_iff,List.find?_eq_none] at h1
 have h2:=h1 i (List.mem_range.mpr hij)
 have e1:pa l i=l[i]:=by simp [pa,hi]
 have e2:pa l j=l[j]:=by simp [pa,hj]
 rw [<-e1,<-e2]
 simpa using h2
theorem Jq {ws:List Str} (hw:je ws) {p q:Int} (hl:KP p q) (hn:clo (qH ws p q)=none):∃ R,jg [Wd ws,Ld p q]=.ok (.int R,[.non,.non])/\Lst (qH ws p q) R:=by
 have hs:=Jm ws p q
 have h6:=hw.2.1
 have h0:=hw.1
 have h1:=wu hw hl
 have h2:=ye (l:=qH ws p q) (by omega)
 rw [hn] at h2
 have h2:kM [.lst (qo (qH ws p q))]=.ok (.non,[.non]):=h2
 have hlen:ki (.lst (qo (qH ws p q)))=.ok (.int (qH ws p q).length):=by simp [ki,qo]
 have hk:GU []:=fun kv hkv=>by cases hkv
 obtain ⟨v,hv⟩:=qhE (qeL hn) (by omega)
 have h97:((qH ws p q).length:Int)<=97/\OKs 97 [] (qH ws p q):=⟨by omega,v,(fun x hx=>by cases hx),hv⟩
 obtain ⟨R,r1,r2,r3,r4⟩:=WW (Z:=.lst (qo (qH ws p q))) (P:=fun r=>((qH ws p q).length:Int)<=r/\OKs r [] (qH ws p q)) (fun r a b=>UJ (by omega) a b hk (by simp)) h97 (by omega) (a:=some (.int (qH ws p q).length)) 100 (qH ws p q).length (by omega) (by omega) (by omega)
 refine ⟨R,?_,r1,r2.2,fun r a b c=>r3 r a b ⟨a,c⟩⟩
 generalize D.lst (qo (qH ws p q))=Z at *
 have h3:yd [Z,.int (qH ws p q).length]=.ok (.int R,[.non,.non]):=by
  refine runD_ap.trans ?_
  unfold yc
  rw [show qx yb [Z,.int (qH ws p q).length]=[some Z,some (.int (qH ws p q).length),none] from rfl]
  refine (qw (ρ1:=[some Z,some (.int (qH ws p q).length),some (.int (qH ws p q).length)]) (by simp)).trans ?_
  refine (qw r4).trans ?_
  simp [qv]
 refine runD_ap.trans ?_
 simp [ug,qx,qv,qB,jq,h1,h2,qbr,hlen,h3]
noncomputable def sf (t c:Nat):Nat:=if 97<=c/\c<=122 then 97+(c - 97+t) % 26 else c
theorem qeM {t a b:Nat} (h:sf t a=sf t b):a=b:=by
 unfold sf at h
 split at h <;> split at h <;> omega
noncomputable def gs (t:Nat) (x:Str):Str:=⟨⟨x.cps.toList.map (sf t)⟩⟩
theorem Zk {α β:Type} {f:α->β} (hf:∀ a b,f a=f b->a=b):∀ {l m:List α},l.map f=m.map f->l=m
 | [],[],_=>rfl
 | [],_::_,h=>by simp at h
 | _::_,[],h=>by simp at h
 | a::l,b::m,h=>by
  simp only [List.map_cons,List.cons.injEq] at h
  rw [hf _ _ h.1,Zk hf h.2]
theorem Qh {t:Nat} {x y:Str} (h:gs t x=gs t y):x=y:=by
 obtain ⟨⟨a⟩⟩:=x
 obtain ⟨⟨b⟩⟩:=y
 have h:(⟨⟨a.map (sf t)⟩⟩:Str)=⟨⟨b.map (sf t)⟩⟩:=h
 injection h with h
 injection h with h
 rw [Zk (fun _ _=>qeM) h]
abbrev gp (t:Nat) (x:Str×Str):Str×Str:=(gs t x.1,gs t x.2)
theorem Zl (t:Nat) (w:Str):(gs t w).length=w.length:=by
 obtain ⟨⟨a⟩⟩:=w
 show (a.map (sf t)).length=a.length
 rw [List.length_map]
theorem qeN (t:Nat) (w:Str) (p:Int):Qb (gs t w) p=gs t (Qb w p):=by
 have e:(((gs t w).cps.toList)[vR (gs t w).length p]?).getD 0=sf t ((w.cps.toList[vR w.length p]?).getD 0):=by
  rw [Zl]
  show ((w.cps.toList.map (sf t))[vR w.length p]?).getD 0=_
  rw [List.getElem?_map]
  cases w.cps.toList[vR w.length p]? with
  | none=>rfl
  | some c=>rfl
 unfold Qb
 rw [e]
 rfl
theorem qgw {t c:Nat} (h:az c):az (sf t c):=by
 obtain ⟨h1,h2⟩:=h
 unfold sf az
 rw [if_pos ⟨h1,h2⟩]
 omega
theorem qcF {t:Nat} {w:Str} (h:KF w):KF (gs t w):=⟨by rw [Zl]; exact h.1,by rw [Zl]; exact h.2.1,fun c hc=>by
 obtain ⟨d,hd,rfl⟩:=List.mem_map.mp (show c∈w.cps.toList.map (sf t) from hc)
 exact qgw (h.2.2 d hd)⟩
abbrev gss (t:Nat) (ws:List Str):List Str:=ws.map (gs t)
theorem qeO {t:Nat} {ws:List Str} (h:je ws):je (gss t ws):=by
 refine ⟨by rw [List.length_map]; exact h.1,by rw [List.length_map]; exact h.2.1,?_,fun w hw=>?_⟩
 ·unfold List.Nodup
  rw [List.pairwise_map]
  exact List.Pairwise.imp (fun hab z=>hab (Qh z)) h.2.2.1
 ·obtain ⟨x,hx,rfl⟩:=List.mem_map.mp hw
  exact qcF (h.2.2.2 x hx)
theorem uF (t:Nat) (ws:List Str) (p q:Int):qH (gss t ws) p q=(qH ws p q).map (gp t):=by
 unfold qH gss
 rw [List.map_map,List.map_map]
 refine List.map_congr_left fun w _=>?_
 simp [qeN]
theorem qgx (t:Nat) (x y:Str×Str):al (gp t x) (gp t y)=al x y:=by
 have h:al (gp t x) (gp t y)=true↔al x y=true:=by
  rw [al_iff,al_iff]
  obtain ⟨x1,x2⟩:=x
  obtain ⟨y1,y2⟩:=y
  simp only [gp,Prod.mk.injEq]
  constructor
  ·rintro (⟨h1,h2⟩ | ⟨h1,h2⟩)
   ·exact .inl ⟨Qh h1,Qh h2⟩
   ·exact .inr ⟨Qh h1,Qh h2⟩
  ·rintro (⟨rfl,rfl⟩ | ⟨rfl,rfl⟩)
   ·exact .inl ⟨rfl,rfl⟩
   ·exact .inr ⟨rfl,rfl⟩
 cases q:al x y with
 | true=>exact h.mpr q
 | false=>
  cases q':al (gp t x) (gp t y) with
  | false=>rfl
  | true=>rw [h.mp q'] at q; cases q
theorem qeP (t:Nat) (l:List (Str×Str)) (i:Nat):pa (l.map (gp t)) i=gp t (pa l i):=by
 unfold pa
 rw [List.getElem?_map]
 cases l[i]? with
 | none=>rfl
 | some x=>rfl
theorem qaO (t:Nat) (l:List (Str×Str)):clo (l.map (gp t))=clo l:=by
 have e:clF (l.map (gp t))=clF l:=by
  funext i
  unfold clF
  have:clP (l.map (gp t)) i=clP l i:=by
   funext j
   unfold clP
   rw [qeP,qeP,qgx]
  rw [this]
 unfold clo
 rw [e,List.length_map]
theorem back (t:Nat) (v:Str->Int):∃ v':Str->Int,∀ x,v' (gs t x)=v x:=by
 classical
 refine ⟨fun y=>if h:∃ x,gs t x=y then v h.choose else 0,fun x=>?_⟩
 have h:∃ z,gs t z=gs t x:=⟨x,rfl⟩
 simp only [dif_pos h]
 rw [Qh h.choose_spec]
theorem qeQ {r:Int} {t:Nat} {v v':Str->Int} (h:∀ x,v' (gs t x)=v x) {l:List (Str×Str)}:Ds r v' (l.map (gp t))↔Ds r v l:=by
 unfold Ds
 rw [List.pairwise_map]
 have:∀ p,nu v' (gp t p)=nu v p:=fun p=>by simp [nu,h]
 simp only [this]
theorem qeR {r:Int} {t:Nat} {l:List (Str×Str)}:OKs r [] (l.map (gp t))↔OKs r [] l:=by
 constructor
 ·rintro ⟨v,_,h⟩
  exact ⟨fun x=>v (gs t x),(fun x hx=>by cases hx),(qeQ fun _=>rfl).mp h⟩
 ·rintro ⟨v,_,h⟩
  obtain ⟨v',hv⟩:=back t v
  exact ⟨v',(fun x hx=>by cases hx),(qeQ hv).mpr h⟩
theorem qeS {t:Nat} {l:List (Str×Str)} {R:Int}:Lst (l.map (gp t)) R↔Lst l R:=by
 unfold Lst
 rw [List.length_map]
 simp only [qeR]
theorem qaP {r:Int} {t:Nat} {v v':Str->Int} (h:∀ x,v' (gs t x)=v x) {l:List (Str×Str)} {ns:List Int}:Sol (l.map (gp t)) r ns v'↔Sol l r ns v:=by
 unfold Sol
 constructor
 ·intro q k p hp
  have:=q k (gp t p) (by rw [List.getElem?_map,hp]; rfl)
  simpa [h] using this
 ·intro q k p hp
  rw [List.getElem?_map] at hp
  obtain ⟨p0,h0,rfl⟩:=Option.map_eq_some_iff.mp hp
  have:=q k p0 h0
  simpa [h] using this
theorem qgy {r:Int} {t:Nat} {l:List (Str×Str)} {ns:List Int}:(∃ v,Sol (l.map (gp t)) r ns v)↔∃ v,Sol l r ns v:=by
 constructor
 ·rintro ⟨v,h⟩
  exact ⟨fun x=>v (gs t x),(qaP fun _=>rfl).mp h⟩
 ·rintro ⟨v,h⟩
  obtain ⟨v',hv⟩:=back t v
  exact ⟨v',(qaP hv).mpr h⟩
theorem qaQ (t:Int) (ns:List Int) (k:Nat):nI (ns.map fun n=>t * n) k=t * nI ns k:=by
 unfold nI
 rw [List.getElem?_map]
 cases ns[k]? with
 | none=>simp
 | some x=>rfl
theorem qgz {t a b s:Int} (ht:t=3\/t=5\/t=7) (h:a+b=t * s):(a+(t - 1) / 2) / t+(b+(t - 1) / 2) / t=s:=by
 rcases ht with rfl | rfl | rfl <;> omega
theorem qeT {r t:Int} (ht:t=3\/t=5\/t=7) {l:List (Str×Str)} {ns:List Int}:(∃ v,Sol l (t * r) (ns.map fun n=>t * n) v)↔∃ v,Sol l r ns v:=by
 constructor
 ·rintro ⟨v,h⟩
  refine ⟨fun x=>(v x+(t - 1) / 2) / t,fun k p hp=>?_⟩
  obtain ⟨m,hm⟩:=h k p hp
  rw [qaQ] at hm
  have e:v p.1+v p.2=t * (nI ns k+r * m):=by
   rw [Int.mul_add,<-Int.mul_assoc]
   omega
  refine ⟨m,?_⟩
  have:=qgz ht e
  show (v p.1+(t - 1) / 2) / t+(v p.2+(t - 1) / 2) / t - nI ns k=r * m
  omega
 ·rintro ⟨v,h⟩
  refine ⟨fun x=>t * v x,fun k p hp=>?_⟩
  rw [qaQ,<-Int.mul_add,<-Int.mul_sub]
  exact Int.mul_dvd_mul_left t (h k p hp)
theorem qeU {seen:List Pr} {W:Wy} (S:Sn seen W) {r:Int} (hr:1<=r) {ns:List Int}:BO W seen r ns=none↔∃ v,Sol seen r ns v:=by
 constructor
 ·intro h
  have hx:∀ x,∃ s,s∈ch W seen r ns x:=fun x=>by
   unfold ch rW
   split
   ·exact ⟨0,List.mem_map.mpr ⟨0,List.mem_range.mpr (by omega),rfl⟩⟩
   ·split
    ·exact ⟨_,List.mem_cons_self ..⟩
    ·exact ⟨_,List.mem_cons_self ..⟩
  exact ⟨_,qeq S (σ:=fun x=>(hx x).choose) fun c hc=>((qgo hr h c.1 _).mp (hx c.1).choose_spec).2 c hc rfl⟩
 ·rintro ⟨v,h⟩
  exact qcl S h
theorem gu {k:Nat}:∀ ds:List D,(∀ d∈ds,eqN k d d=some true)->wG (eqN k) ds ds=some true
 | [],_=>rfl
 | d::ds,h=>by
  have e:=h d (List.mem_cons_self ..)
  have ih:=gu ds fun d' hd=>h d' (List.mem_cons_of_mem _ hd)
  simp [wG,e,ih]
theorem qcG {k:Nat} {ds:List D} (h:∀ d∈ds,eqN k d d=some true):eqN (k+1) (.lst ds) (.lst ds)=some true:=by
 have e:=gu ds h
 simp [eqN,e]
theorem qcH {k:Nat} {ds:List D} (h:∀ d∈ds,eqN k d d=some true):eqN (k+1) (.tup ds) (.tup ds)=some true:=by
 have e:=gu ds h
 simp [eqN,e]
theorem Zm (k:Nat) (x:Str):eqN k (.str x) (.str x)=some true:=by cases k <;> simp [eqN,eqS]
theorem qcI {d:D} (h:eqN 8 d d=some true):neD d d=.ok (.bl false):=by simp [neD,h]
theorem WX (l:List (Str×Str)):neD (.lst (qo l)) (.lst (qo l))=.ok (.bl false):=qcI (qcG fun d hd=>by
 obtain ⟨x,_,rfl⟩:=List.mem_map.mp hd
 exact qcH fun d hd=>by
  rcases List.mem_cons.mp hd with rfl | hd
  ·exact Zm _ _
  ·rcases List.mem_cons.mp hd with rfl | hd
   ·exact Zm _ _
   ·cases hd)
abbrev abc:D:=.str "abcdefghijklmnopqrstuvwxyz"
noncomputable def lt (k:Nat):Str:=⟨#[97+k]⟩
theorem qeV:∀ k,k < 26->(Str.ofString "abcdefghijklmnopqrstuvwxyz").cps.toList[k]?=some (97+k):=by decide +kernel
theorem qaR {k:Nat} (h:k < 26):ixD abc (.int k)=.ok (.str (lt k)):=by
 have e:=qeV k h
 show (match atI (Str.ofString "abcdefghijklmnopqrstuvwxyz").cps.toList (k:Int) with | some c=>Out.ok (D.str ⟨#[c]⟩) | none=>.bad)=_
 rw [kO,e]
 rfl
noncomputable def BKv (v:Nat->Str):List (Key×D):=(List.range 26).map fun k=>(.inr (lt k),.str (v k))
abbrev BK (t:Nat):D:=.dct (BKv fun k=>lt ((k+t) % 26))
theorem qcJ (v:Nat->Str):Kp (.lst ((List.range 26).map fun k=>.tup [.str (lt k),.str (v k)]))=.ok (.dct (BKv v)):=by kernel_rfl
theorem qeW {a b:Nat} (h:lt a=lt b):a=b:=by
 unfold lt at h
 injection h with h
 injection h with h
 injection h with h
 omega
theorem qgA (v:Nat->Str) {k:Nat} (h:k < 26):ixD (.dct (BKv v)) (.str (lt k))=.ok (.str (v k)):=by
 have e:(BKv v).find? (fun kv=>decide (kv.1=Sum.inr (lt k)))=some (.inr (lt k),.str (v k)):=by
  unfold BKv
  rw [List.find?_map]
  have:(List.range 26).find? ((fun kv:Key×D=>decide (kv.1=Sum.inr (lt k))) ∘ fun k=>(Sum.inr (lt k),D.str (v k)))=some k:=by
   rw [List.find?_range_eq_some]
   refine ⟨by simp,List.mem_range.mpr h,fun j hj=>?_⟩
   have:lt j≠lt k:=fun z=>by have:=qeW z; omega
   simp [this]
  rw [this]
  rfl
 show (match (BKv v).find? (fun kv=>decide (kv.1=Sum.inr (lt k))) with | some kv=>Out.ok kv.2 | none=>.bad)=_
 rw [e]
theorem qeX (t:Nat) {c:Nat} (h:az c):ixD (BK t) (.str ⟨#[c]⟩)=.ok (.str (gs t ⟨#[c]⟩)):=by
 obtain ⟨h1,h2⟩:=h
 obtain ⟨k,rfl⟩:∃ k,c=97+k:=⟨c - 97,by omega⟩
 have e:=qgA (fun k=>lt ((k+t) % 26)) (k:=k) (by omega)
 have e2:gs t ⟨#[97+k]⟩=lt ((k+t) % 26):=by
  show (⟨⟨[sf t (97+k)]⟩⟩:Str)=⟨⟨[97+(k+t) % 26]⟩⟩
  unfold sf
  rw [if_pos ⟨h1,h2⟩,show 97+k - 97+t=k+t by omega]
 rw [e2]
 exact e
theorem qaS (t:Nat) {w:Str} (hw:KF w) (p:Int):ixD (BK t) (.str (Qb w p))=.ok (.str (gs t (Qb w p))):=by
 obtain ⟨c,hc,e⟩:=VL hw p
 rw [e]
 exact qeX t hc
theorem qcK (t:Nat) {a b c d:Option D} {ρ:Sl} (hρ:ρ=[a,b,c,d,some (.int t),some abc,none,none,none,none,none,none,none,none,none]):d1 Kp (qN [1] 1 [5,4] (kb (dC (.int 26))) (gNm 0) ftT (yL (qc (d2 ixD (qd 1) (qd 0)) (qc (d2 ixD (qd 1) (d2 gB (d2 kz (qd 0) (qd 2)) (dC (.int 26)))) qC)))) ρ=.ok (BK t,ρ):=by
 subst hρ
 have hz:2<=sizeLine:=jz (by omega)
 have e:=xi (own:=[1]) (cap:=[5,4]) (fi:=kb (dC (.int 26))) (ρ:=[a,b,c,d,some (.int t),some abc,none,none,none,none,none,none,none,none,none]) (ρ1:=[a,b,c,d,some (.int t),some abc,none,none,none,none,none,none,none,none,none]) (ds:=(List.range 26).map fun (j:Nat)=>.int j) (fe:=yL (qc (d2 ixD (qd 1) (qd 0)) (qc (d2 ixD (qd 1) (d2 gB (d2 kz (qd 0) (qd 2)) (dC (.int 26)))) qC))) (fun x=>match x with | .int k=>.tup [.str (lt k.toNat),.str (lt ((k.toNat+t) % 26))] | x=>x) (by decide) (iR1 (n:=26) rfl (by omega)) (jz (by simp)) (fun x hx=>by
  obtain ⟨j,hj,rfl⟩:=List.mem_map.mp hx
  have hj:=List.mem_range.mp hj
  have e1:=qaR hj
  have e2:=qaR (k:=(j+t) % 26) (Nat.mod_lt _ (by omega))
  have e3:((j:Int)+(t:Int)) % 26=(((j+t) % 26:Nat):Int):=by omega
  rw [<-e3] at e2
  generalize abc=A at *
  simp only [List.map_cons,List.map_nil]
  simp [kz,gB,xm,e1,e2,hz])
 rw [wB,e,ka]
 have e4:=qcJ fun k=>lt ((k+t) % 26)
 rw [List.map_map]
 have e5:((List.range 26).map ((fun x=>match x with | D.int k=>D.tup [.str (lt k.toNat),.str (lt ((k.toNat+t) % 26))] | x=>x) ∘ fun (j:Nat)=>D.int j))=(List.range 26).map fun k=>D.tup [.str (lt k),.str (lt ((k+t) % 26))]:=List.map_congr_left fun k _=>by simp
 rw [e5,e4]
 rfl
theorem qcL (t:Nat) {w:Str} (hw:KF w):Qy (Str.ofString "") (.lst (((w.cps.toList.map (sf t)).map fun c=>(⟨#[c]⟩:Str)).map D.str))=.ok (.str (gs t w)):=by
 have e0:Str.length (Str.ofString "")=0:=by decide +kernel
 have hs:=WK (w.cps.toList.map (sf t))
 have hl:(w.cps.toList.map (sf t)).length<=6:=by
  rw [List.length_map]
  exact hw.2.1
 have hb:=big
 generalize hcs:w.cps.toList.map (sf t)=cs at *
 have hg:gs t w=⟨cs.toArray⟩:=by unfold gs; rw [hcs]
 unfold Qy
 simp only [ui,XG,hs,hg]
 rw [if_pos ⟨by simp [e0]; omega,by show cs.toArray.size<=_; simp; omega⟩]
theorem GY (t:Nat) {w:Str} (hw:KF w):d1 (Qy "") (qN [] 1 [1] (jr (qd 0)) (gNm 0) ftT (d2 ixD (qd 1) (qd 0))) [some (.str w),some (BK t)]=.ok (.str (gs t w),[some (.str w),some (BK t)]):=by
 have e:=uj (cap:=[1]) (fi:=jr (qd 0)) (ρ:=[some (.str w),some (BK t)]) (ρ1:=[some (.str w),some (BK t)]) (ds:=xM w) (fe:=d2 ixD (qd 1) (qd 0)) (fun d=>match d with | .str x=>.str (gs t x) | d=>d) (by simp [jt]) (by
   have:=hw.2.1
   simp [xM,<-vc]
   exact jz (by omega)) (fun d hd=>by
   obtain ⟨c,hc,rfl⟩:=List.mem_map.mp hd
   have h1:=qeX t (hw.2.2 c hc)
   generalize BK t=B at *
   simp [h1])
 rw [wB,e,ka]
 have e2:(xM w).map (fun d=>match d with | .str x=>D.str (gs t x) | d=>d)=((w.cps.toList.map (sf t)).map fun c=>(⟨#[c]⟩:Str)).map D.str:=by
  unfold xM
  rw [List.map_map,List.map_map,List.map_map]
  rfl
 have e3:=qcL t hw
 rw [e2]
 show (Qy (Str.ofString "") _).plain.bind _=_
 rw [e3]
 rfl
theorem Zn (t:Nat) {ws:List Str} (hw:je ws) {ρ:Sl} (h2:ρ[2]?=some (some (Wd ws))) (h6:ρ[6]?=some (some (BK t))):d1 uL (qN [1] 1 [6] (jr (qd 2)) (gNm 0) ftT (d1 (Qy "") (qN [] 1 [1] (jr (qd 0)) (gNm 0) ftT (d2 ixD (qd 1) (qd 0))))) ρ=.ok (Wd (gss t ws),ρ):=by
 have hl:=hw.2.1
 have e:=xi (own:=[1]) (cap:=[6]) (fi:=jr (qd 2)) (ρ:=ρ) (ρ1:=ρ) (ds:=ws.map D.str) (fe:=d1 (Qy "") (qN [] 1 [1] (jr (qd 0)) (gNm 0) ftT (d2 ixD (qd 1) (qd 0)))) (fun d=>match d with | .str x=>.str (gs t x) | d=>d) (by decide) (by simp [h2,jt]) (by rw [List.length_map]; exact jz (by omega)) (fun d hd=>by
  obtain ⟨w,hw2,rfl⟩:=List.mem_map.mp hd
  have:=GY t (hw.2.2.2 w hw2)
  simp only [List.map_cons,List.map_nil,h6,Option.getD_some]
  exact this)
 have e2:(ws.map D.str).map (fun d=>match d with | .str x=>D.str (gs t x) | d=>d)=(gss t ws).map D.str:=by
  unfold gss
  rw [List.map_map,List.map_map]
  rfl
 rw [e2] at e
 rw [wB,e,ka]
 rfl
theorem Zo {ws:List Str} (hw:je ws) {ρ:Sl} (h2:ρ[2]?=some (some (Wd ws))):d1 uL (qN [1] 1 [] (jr (qd 2)) (gNm 0) ftT (Ka (qd 0) none none (some (d1 qan (dC (.int 1)))))) ρ=.ok (Wd (rvs ws),ρ):=by
 have hl:=hw.2.1
 have e:=xi (own:=[1]) (cap:=[]) (fi:=jr (qd 2)) (fe:=Ka (qd 0) none none (some (d1 qan (dC (.int 1))))) (ρ:=ρ) (ρ1:=ρ) (ds:=ws.map D.str) (fun d=>match d with | .str x=>.str (rv x) | d=>d) (by decide) (by simp [h2,jt]) (by rw [List.length_map]; exact jz (by omega)) (fun d hd=>by
  obtain ⟨w,hw2,rfl⟩:=List.mem_map.mp hd
  have:=qeJ (hw.2.2.2 w hw2)
  simp [Ka,uH,qan,this])
 have e2:(ws.map D.str).map (fun d=>match d with | .str x=>D.str (rv x) | d=>d)=(rvs ws).map D.str:=by
  unfold rvs
  rw [List.map_map,List.map_map]
  rfl
 rw [e2] at e
 rw [wB,e,ka]
 rfl
theorem Zp (t:Nat) {ws:List Str} (hw:je ws) {p q:Int} (hl:KP p q) {ρ:Sl} (h2:ρ[2]?=some (some (Wd ws))) (h3:ρ[3]?=some (some (Ld p q))) (h6:ρ[6]?=some (some (BK t))):qN [1] 2 [6] (jr (qt [.vl,.vl] kA (qc (qd 2) (qc (qd 3) qC)))) (jG 2 (qy (gNm 0) (qy (gNm 1) jF))) ftT (yL (qc (d2 ixD (qd 2) (qd 0)) (qc (d2 ixD (qd 2) (qd 1)) qC))) ρ=.ok (.lst (qo (qH (gss t ws) p q)),ρ):=by
 have hp:=wu hw hl
 have hlen:=hw.2.1
 have hz:2<=sizeLine:=jz (by omega)
 have hs:=Jm ws p q
 have e:=qb8 (own:=[1]) (cap:=[6]) (fi:=jr (qt [.vl,.vl] kA (qc (qd 2) (qc (qd 3) qC)))) (ft:=ftT) (fe:=yL (qc (d2 ixD (qd 2) (qd 0)) (qc (d2 ixD (qd 2) (qd 1)) qC))) (ρ:=ρ) (ρ1:=ρ) (ps:=(qH ws p q).map fun x=>(.str x.1,.str x.2)) (fun _=>true) (fun x=>match x with | (.str a,.str b)=>.tup [.str (gs t a),.str (gs t b)] | x=>x.1) (by decide) (by
   have:(((qH ws p q).map fun x=>((.str x.1,.str x.2):D×D)).map fun x=>D.tup [x.1,x.2])=qo (qH ws p q):=by
    unfold qo
    rw [List.map_map]
    rfl
   rw [this]
   generalize qo (qH ws p q)=Z at hp ⊢
   simp [h2,h3,qB,jq,hp,jt]) (by rw [List.length_map]; exact jz (by omega)) (fun _ _=>rfl) (fun x hx _=>by
   obtain ⟨y,hy,rfl⟩:=List.mem_map.mp hx
   obtain ⟨w,hw2,rfl⟩:=List.mem_map.mp hy
   have e1:=qaS t (hw.2.2.2 w hw2) p
   have e2:=qaS t (hw.2.2.2 w hw2) q
   generalize BK t=B at *
   simp [h6,e1,e2,hz])
 rw [List.filter_eq_self.mpr fun _ _=>rfl,List.map_map] at e
 have e2:((qH ws p q).map ((fun x:D×D=>match x with | (.str a,.str b)=>D.tup [.str (gs t a),.str (gs t b)] | x=>x.1) ∘ fun x=>(.str x.1,.str x.2)))=qo (qH (gss t ws) p q):=by
  rw [uF]
  unfold qo
  rw [List.map_map]
  rfl
 rw [e2] at e
 exact e
theorem WY (ns:List Int) {room:Int} (hr:0 < room):∀ (ws:List Str) (town:List D) (x:Option D),town.length+ws.length < 1000 ->
  ∃ (es:List Int) (town':List D) (x':Option D),Qf ws.length room es/\town'.length=town.length+ws.length /\
   jN (gNm 0) ftT (qt [.vl,.sl 2,.vl] jP (qc (qd 1) (kC (qc (qd 3) qC)))) (ws.map D.str) [x,some (scr ns),some (.lst town),some (.int room)]=.ok (es.map D.int,[x',some (scr ns),some (.lst town'),some (.int room)])
 | [],town,x,_=>⟨[],town,x,⟨rfl,by simp⟩,by simp,rfl⟩
 | a::Ls,town,x,h=>by
  rw [List.length_cons] at h
  obtain ⟨r,r0,r1,hd⟩:=wt ns town (many:=room) hr (by omega)
  obtain ⟨es,town',x',a1,a2,a3⟩:=WY ns hr Ls (town++[.int 0]) (some (.str a)) (by rw [List.length_append]; simp; omega)
  refine ⟨r::es,town',x',⟨by simp [a1.1],fun e he=>?_⟩,by rw [a2,List.length_append]; simp; omega,?_⟩
  ·rcases List.mem_cons.mp he with rfl | he
   ·exact ⟨r0,r1⟩
   ·exact a1.2 e he
  ·simp [jN,zy,qB,jq,hd,a3]
theorem qaT {t:Int} (h0:0<=t) (h7:t<=7) (n:Int):VY (.int t) (.int n)=.ok (.int (t * n)):=by
 simp [VY,xm,show CMul t n from .inl ⟨by omega,by omega⟩]
theorem GZ {t:Int} (h0:0<=t) (h7:t<=7) {ns:List Int} (hn:ns.length<=6) {ρ:Sl} (h11:ρ[11]?=some (some (nD ns))) (h13:ρ[13]?=some (some (.int t))):d1 uL (qN [1] 1 [13] (jr (qd 11)) (gNm 0) ftT (d2 VY (qd 1) (qd 0))) ρ=.ok (nD (ns.map fun n=>t * n),ρ):=by
 have e:=xi (own:=[1]) (cap:=[13]) (fi:=jr (qd 11)) (fe:=d2 VY (qd 1) (qd 0)) (ρ:=ρ) (ρ1:=ρ) (ds:=ns.map D.int) (fun d=>match d with | .int n=>.int (t * n) | d=>d) (by decide) (by simp [h11,jt]) (by rw [List.length_map]; exact jz (by omega)) (fun d hd=>by
  obtain ⟨n,_,rfl⟩:=List.mem_map.mp hd
  simp [h13,qaT h0 h7])
 have e2:(ns.map D.int).map (fun d=>match d with | .int n=>D.int (t * n) | d=>d)=(ns.map fun n=>t * n).map D.int:=by
  rw [List.map_map,List.map_map]
  rfl
 rw [e2] at e
 rw [wB,e,ka]
 rfl
theorem qaa {ws:List Str} (hw:je ws) {p q:Int} (hl:KP p q) {r:Int} (h0:1<=r) (h1:r<=99) {ns:List Int} (hn:Qf ws.length r ns) {b:Bool} (hb:b=true↔∃ v,Sol (qH ws p q) r ns v):∃ d,Vw [Wd ws,Ld p q,.int r,nD ns]=.ok (d,[.non,.non,.non,.non])/\ZT d .non=.ok (.bl b):=by
 obtain ⟨W,S⟩:=qgm hw p q
 refine ⟨_,qem hw hl h0 h1 hn S,?_⟩
 have hi:=qeU S h0 (ns:=ns)
 cases q:BO W (qH ws p q) r ns with
 | none=>
  rw [hb.mpr (hi.mp q)]
  rfl
 | some c=>
  have:b=false:=by
   cases b with
   | false=>rfl
   | true=>rw [hi.mpr (hb.mp rfl)] at q; cases q
  rw [this]
  rfl
theorem qeY (x:Option (Nat×Nat)):neD (clD x) (clD x)=.ok (.bl false):=by
 cases x with
 | none=>rfl
 | some x=>simp [clD,neD,eqN,wG,eqS]
theorem qeZ (x:Int):neD (.int x) (.int x)=.ok (.bl false):=by simp [neD,eqN,eqS]
theorem qgB (b:Bool):neD (.bl b) (.bl b)=.ok (.bl false)/\eqD (.bl b) (.bl b)=.ok (.bl true):=by cases b <;> exact ⟨rfl,rfl⟩
theorem qe0 (x:Option (Nat×Nat)):ZT (clD x) .non=.ok (.bl (decide (x=none))):=by
 cases x with
 | none=>rfl
 | some x=>simp [clD,ZT]
theorem qe1 (ns0:List Int):GG [scr ns0]=.ok (.bl true,[.non]):=by
 refine runD_ap.trans ?_
 obtain ⟨ws,t0,hw,ht0,g1⟩:=GI ns0 [] (by simp)
 rw [List.length_nil] at ht0
 obtain ⟨p,q,t1,hl,ht1,g2⟩:=qb7 ns0 t0 (by omega)
 obtain ⟨s,s0,s1,g3⟩:=wt ns0 t1 (many:=25) (by omega) (by omega)
 obtain ⟨t,ht⟩:∃ t:Nat,1+s=(t:Int):=⟨(1+s).toNat,by omega⟩
 have ht2:(t1++[D.int 0]).length=t1.length+1:=by simp
 generalize t1++[D.int 0]=t2 at *
 obtain ⟨s',s'0,s'1,g4⟩:=wt ns0 t2 (many:=9) (by omega) (by omega)
 obtain ⟨r,hr⟩:∃ r:Int,1+s'=r:=⟨_,rfl⟩
 have ht3:(t2++[D.int 0]).length=t2.length+1:=by simp
 generalize t2++[D.int 0]=t3 at *
 have h6:=hw.2.1
 obtain ⟨es,t4,x',hes,ht4,g5⟩:=WY ns0 (room:=r) (by omega) ws t3 none (by omega)
 obtain ⟨d,hd,g6⟩:=VI ns0 t4 [.int 3,.int 5,.int 7] (by simp) (by omega)
 obtain ⟨m,hm,rfl⟩:∃ m:Int,(m=3\/m=5\/m=7)/\d=.int m:=by
  simp only [List.mem_cons,List.not_mem_nil,or_false] at hd
  rcases hd with rfl | rfl | rfl
  ·exact ⟨3,by simp,rfl⟩
  ·exact ⟨5,by simp,rfl⟩
  ·exact ⟨7,by simp,rfl⟩
 generalize t4++[D.int 0]=t5 at *
 obtain ⟨b,hb⟩:∃ b:Bool,b=true↔∃ v,Sol (qH ws p q) r es v:=by
  classical
  exact ⟨decide (∃ v,Sol (qH ws p q) r es v),decide_eq_true_iff⟩
 have hN:=qeO (t:=t) hw
 have hA:=qeK hw
 have hla:=qcE hl
 have hs:=Jm ws p q
 have p1:=wu hw hl
 have p2:=wu hN hl
 have p3:=wu hA hla
 rw [Jp hw hl] at p3
 have c1:=Ze hw hl (ye (l:=qH ws p q) (by omega))
 have c2:=Ze hN hl (ye (l:=qH (gss t ws) p q) (by rw [uF,List.length_map]; omega))
 rw [uF,qaO] at c2
 have hlr:clo (qH ws p q)=none->∃ R,jg [Wd ws,Ld p q]=.ok (.int R,[.non,.non])/\jg [Wd (gss t ws),Ld p q]=.ok (.int R,[.non,.non])/\jg [Wd (rvs ws),Ld (-1 - p) (-1 - q)]=.ok (.int R,[.non,.non]):=fun h=>by
  obtain ⟨R,a1,a2⟩:=Jq hw hl h
  obtain ⟨R',b1,b2⟩:=Jq hN hl (by rw [uF,qaO]; exact h)
  obtain ⟨R'',d1,d2⟩:=Jq hA hla (by rw [Jp hw hl]; exact h)
  rw [uF,qeS] at b2
  rw [Jp hw hl] at d2
  have e1:=a2.one b2
  have e2:=a2.one d2
  subst e1 e2
  exact ⟨R,a1,b1,d1⟩
 have m0:0<=m/\m<=7:=by rcases hm with rfl | rfl | rfl <;> omega
 obtain ⟨u1,b1,i1⟩:=qaa hw hl (r:=r) (by omega) (by omega) hes hb
 obtain ⟨u2,b2,i2⟩:=qaa hN hl (r:=r) (by omega) (by omega) (ns:=es) (by rw [List.length_map]; exact hes) (b:=b) (by rw [uF,qgy]; exact hb)
 obtain ⟨u3,b3,i3⟩:=qaa hA hla (r:=r) (by omega) (by omega) (ns:=es) (by unfold rvs; rw [List.length_map]; exact hes) (b:=b) (by rw [Jp hw hl]; exact hb)
 obtain ⟨u4,b4,i4⟩:=qaa hw hl (r:=m * r) (by rcases hm with rfl | rfl | rfl <;> omega) (by rcases hm with rfl | rfl | rfl <;> omega) (ns:=es.map fun n=>m * n) ⟨by rw [List.length_map]; exact hes.1,fun i hi=>by
  obtain ⟨n,hn,rfl⟩:=List.mem_map.mp hi
  have:=hes.2 n hn
  rcases hm with rfl | rfl | rfl <;> omega⟩ (b:=b) (by rw [qeT hm]; exact hb)
 obtain ⟨nb,eb⟩:=qgB b
 have hz:2<=sizeLine:=jz (by omega)
 have n1:=WX (qH (gss t ws) p q)
 have n2:=WX (qH ws p q)
 have n3:=qeY (clo (qH ws p q))
 have n4:=qe0 (clo (qH ws p q))
 have k6:=qcK t (a:=some (scr ns0)) (b:=some (.lst t2)) (c:=some (Wd ws)) (d:=some (Ld p q)) rfl
 have k7:=Zn t hw (ρ:=[some (scr ns0),some (.lst t2),some (Wd ws),some (Ld p q),some (.int t),some abc,some (BK t),none,none,none,none,none,none,none,none]) rfl rfl
 have k8:=Zo hw (ρ:=[some (scr ns0),some (.lst t2),some (Wd ws),some (Ld p q),some (.int t),some abc,some (BK t),some (Wd (gss t ws)),none,none,none,none,none,none,none]) rfl
 have k9:=Zp t hw hl (ρ:=[some (scr ns0),some (.lst t2),some (Wd ws),some (Ld p q),some (.int t),some abc,some (BK t),some (Wd (gss t ws)),some (Wd (rvs ws)),some (Ld (-1 - p) (-1 - q)),none,none,none,none,none]) rfl rfl rfl
 have k11:=WN (own:=[1]) (nt:=1) (cap:=[0,1,10]) (fi:=jr (qd 2)) (g:=gNm 0) (ft:=ftT) (fe:=qt [.vl,.sl 2,.vl] jP (qc (qd 1) (kC (qc (qd 3) qC)))) (ρ:=[some (scr ns0),some (.lst t3),some (Wd ws),some (Ld p q),some (.int t),some abc,some (BK t),some (Wd (gss t ws)),some (Wd (rvs ws)),some (Ld (-1 - p) (-1 - q)),some (.int r),none,none,none,none]) (ρ1:=[some (scr ns0),some (.lst t3),some (Wd ws),some (Ld p q),some (.int t),some abc,some (BK t),some (Wd (gss t ws)),some (Wd (rvs ws)),some (Ld (-1 - p) (-1 - q)),some (.int r),none,none,none,none]) (ds:=ws.map D.str) (by simp [jt]) (by rw [List.length_map]; exact jz (by omega)) g5
 have k11:qN [1] 1 [0,1,10] (jr (qd 2)) (gNm 0) ftT (qt [.vl,.sl 2,.vl] jP (qc (qd 1) (kC (qc (qd 3) qC)))) [some (scr ns0),some (.lst t3),some (Wd ws),some (Ld p q),some (.int t),some abc,some (BK t),some (Wd (gss t ws)),some (Wd (rvs ws)),some (Ld (-1 - p) (-1 - q)),some (.int r),none,none,none,none]=.ok (.lst (es.map D.int),[some (scr ns0),some (.lst t4),some (Wd ws),some (Ld p q),some (.int t),some abc,some (BK t),some (Wd (gss t ws)),some (Wd (rvs ws)),some (Ld (-1 - p) (-1 - q)),some (.int r),none,none,none,none]):=k11
 have k14:=GZ m0.1 m0.2 (ns:=es) (by rw [hes.1]; omega) (ρ:=[some (scr ns0),some (.lst t5),some (Wd ws),some (Ld p q),some (.int t),some abc,some (BK t),some (Wd (gss t ws)),some (Wd (rvs ws)),some (Ld (-1 - p) (-1 - q)),some (.int r),some (nD es),some (.bl b),some (.int m),none]) rfl rfl
 have mr:=qaT m0.1 m0.2 r
 unfold qb3
 rw [show qx Je [scr ns0]=[some (scr ns0),none,none,none,none,none,none,none,none,none,none,none,none,none,none] from rfl]
 refine (qw (ρ1:=[some (scr ns0),some (.lst []),none,none,none,none,none,none,none,none,none,none,none,none,none]) (by simp)).trans ?_
 refine (qw (ρ1:=[some (scr ns0),some (.lst t0),some (Wd ws),none,none,none,none,none,none,none,none,none,none,none,none]) (by simp [qB,jq,g1])).trans ?_
 refine (qw (ρ1:=[some (scr ns0),some (.lst t1),some (Wd ws),some (Ld p q),none,none,none,none,none,none,none,none,none,none,none]) (by
  generalize Wd ws=W
  simp [qB,jq,g2])).trans ?_
 refine (qw (ρ1:=[some (scr ns0),some (.lst t2),some (Wd ws),some (Ld p q),some (.int t),none,none,none,none,none,none,none,none,none,none]) (by
  generalize Wd ws=W
  generalize Ld p q=L
  simp [qB,jq,g3,kz,ht])).trans ?_
 refine (qw (ρ1:=[some (scr ns0),some (.lst t2),some (Wd ws),some (Ld p q),some (.int t),some abc,none,none,none,none,none,none,none,none,none]) rfl).trans ?_
 refine (qw (ρ1:=[some (scr ns0),some (.lst t2),some (Wd ws),some (Ld p q),some (.int t),some abc,some (BK t),none,none,none,none,none,none,none,none]) (by rw [vV,k6]; rfl)).trans ?_
 refine (qw (ρ1:=[some (scr ns0),some (.lst t2),some (Wd ws),some (Ld p q),some (.int t),some abc,some (BK t),some (Wd (gss t ws)),none,none,none,none,none,none,none]) (by rw [vV,k7]; rfl)).trans ?_
 refine (qw (ρ1:=[some (scr ns0),some (.lst t2),some (Wd ws),some (Ld p q),some (.int t),some abc,some (BK t),some (Wd (gss t ws)),some (Wd (rvs ws)),none,none,none,none,none,none]) (by rw [vV,k8]; rfl)).trans ?_
 refine (qw (ρ1:=[some (scr ns0),some (.lst t2),some (Wd ws),some (Ld p q),some (.int t),some abc,some (BK t),some (Wd (gss t ws)),some (Wd (rvs ws)),some (Ld (-1 - p) (-1 - q)),none,none,none,none,none]) (by
  clear k6 k7 k8 k9 k11 k14
  generalize Wd ws=W
  generalize Wd (gss t ws)=Wn
  generalize Wd (rvs ws)=Wa
  generalize BK t=B
  simp [qan,Jr,xm,ixD,at0,at1,hz])).trans ?_
 refine (qw (ρ1:=[some (scr ns0),some (.lst t2),some (Wd ws),some (Ld p q),some (.int t),some abc,some (BK t),some (Wd (gss t ws)),some (Wd (rvs ws)),some (Ld (-1 - p) (-1 - q)),none,none,none,none,none]) (by
  clear k6 k7 k8 k11 k14
  generalize Wd ws=W at *
  generalize Wd (gss t ws)=Wn at *
  generalize Wd (rvs ws)=Wa at *
  generalize Ld p q=L at *
  generalize D.lst (qo (qH (gss t ws) p q))=Z at *
  generalize BK t=B at *
  simp [qB,jq,p2,k9,n1])).trans ?_
 clear k6 k7 k8 k9
 generalize Wd ws=W at *
 generalize Wd (gss t ws)=Wn at *
 generalize Wd (rvs ws)=Wa at *
 generalize Ld p q=L at *
 generalize Ld (-1 - p) (-1 - q)=La at *
 generalize BK t=B at *
 generalize abc=A at *
 generalize clo (qH ws p q)=cl at *
 generalize D.lst (qo (qH ws p q))=Z at *
 refine (qw (ρ1:=[some (scr ns0),some (.lst t2),some W,some L,some (.int t),some A,some B,some Wn,some Wa,some La,none,none,none,none,none]) (by simp [qB,jq,p3,p1,n2,c1,c2,n3])).trans ?_
 refine (qw (ρ1:=[some (scr ns0),some (.lst t2),some W,some L,some (.int t),some A,some B,some Wn,some Wa,some La,none,none,none,none,none]) (by
  cases cl with
  | some c=>simp [qB,jq,c1,n4]
  | none=>
   obtain ⟨R,l1,l2,l3⟩:=hlr rfl
   simp [qB,jq,c1,n4,l1,l2,l3,qeZ])).trans ?_
 refine (qw (ρ1:=[some (scr ns0),some (.lst t3),some W,some L,some (.int t),some A,some B,some Wn,some Wa,some La,some (.int r),none,none,none,none]) (by simp [qB,jq,g4,kz,hr])).trans ?_
 refine (qw (ρ1:=[some (scr ns0),some (.lst t4),some W,some L,some (.int t),some A,some B,some Wn,some Wa,some La,some (.int r),some (nD es),none,none,none]) (by rw [vV,wB,k11]; rfl)).trans ?_
 refine (qw (ρ1:=[some (scr ns0),some (.lst t4),some W,some L,some (.int t),some A,some B,some Wn,some Wa,some La,some (.int r),some (nD es),some (.bl b),none,none]) (by
  clear k14
  generalize nD es=E at *
  simp [qB,jq,b1,i1])).trans ?_
 refine (qw (ρ1:=[some (scr ns0),some (.lst t4),some W,some L,some (.int t),some A,some B,some Wn,some Wa,some La,some (.int r),some (nD es),some (.bl b),none,none]) (by
  clear k14
  generalize nD es=E at *
  simp [qB,jq,b2,i2,b3,i3,nb])).trans ?_
 refine (qw (ρ1:=[some (scr ns0),some (.lst t5),some W,some L,some (.int t),some A,some B,some Wn,some Wa,some La,some (.int r),some (nD es),some (.bl b),some (.int m),none]) (by
  clear k14
  generalize nD es=E at *
  have z3:3<=sizeLine:=jz (by omega)
  simp [qB,jq,g6,z3])).trans ?_
 refine (qw (ρ1:=[some (scr ns0),some (.lst t5),some W,some L,some (.int t),some A,some B,some Wn,some Wa,some La,some (.int r),some (nD es),some (.bl b),some (.int m),some (nD (es.map fun n=>m * n))]) (by rw [vV,k14]; rfl)).trans ?_
 generalize nD es=E at *
 generalize nD (es.map fun n=>m * n)=G at *
 simp [qB,jq,mr,b4,i4,eb,qv]
end Kx
namespace Kx
open PySem PySem.Spec PyProof.Rows L2 L2.D2
theorem qg4 {us:List Value} {P:List Value->Prop} (hl:us.length=0) (h:P []):P us:=List.length_eq_zero_iff.mp hl ▸ h
theorem qe2 {us:List Value} {n:Nat} (hl:us.length=n+1):∃ a l,us=a::l/\l.length=n:=by
 cases us with
 | nil=>cases hl
 | cons a l=>exact ⟨a,l,rfl,Nat.succ.inj hl⟩
theorem qg5 {us:List Value} {P:List Value->Prop} (hl:us.length=1) (h:∀ a,P [a]):P us:=by
 obtain ⟨a,l,rfl,e⟩:=qe2 hl
 exact qg4 (P:=fun l=>P (a::l)) e (h a)
theorem qg6 {us:List Value} {P:List Value->Prop} (hl:us.length=2) (h:∀ a b,P [a,b]):P us:=by
 obtain ⟨a,l,rfl,e⟩:=qe2 hl
 exact qg5 (P:=fun l=>P (a::l)) e (h a)
theorem qg7 {us:List Value} {P:List Value->Prop} (hl:us.length=3) (h:∀ a b c,P [a,b,c]):P us:=by
 obtain ⟨a,l,rfl,e⟩:=qe2 hl
 exact qg6 (P:=fun l=>P (a::l)) e (h a)
theorem qg8 {us:List Value} {P:List Value->Prop} (hl:us.length=4) (h:∀ a b c d,P [a,b,c,d]):P us:=by
 obtain ⟨a,l,rfl,e⟩:=qe2 hl
 exact qg7 (P:=fun l=>P (a::l)) e (h a)
theorem qhF {us:List Value} {P:List Value->Prop} (hl:us.length=5) (h:∀ a b c d e,P [a,b,c,d,e]):P us:=by
 obtain ⟨a,l,rfl,e⟩:=qe2 hl
 exact qg8 (P:=fun l=>P (a::l)) e (h a)
theorem qcM {K:Frag} {h:Heap} {mg:Str->Option Value} (X:K.In h) (G:h.Ns mainGlobals mg) {x:Str} {st:Stmt} {ps:List Str} {f:Addr} {oc:Value} {od an:Option Addr} {osl:Array (Option Value)} {kV doc pm cdv ct:Value}
  (a:nsIn K mainGlobals x=some (some (.ref f))) (l:K.lookup f=some ⟨oc,od,.func (PySem.W.fnOf x x (wE st) (vB st) (qe st) .none kV doc pm an cdv ct),osl⟩) (c:codeIn K cdv x=true) (k:keepIn K (.ref f)=true)
  (hb:∀ (kV doc pm:Value) (an:Option Addr) (cdv ct:Value) (us:List Value),us.length=ps.length->bindArgs (PySem.W.fnOf x x (wE st) (vB st) (qe st) .none kV doc pm an cdv ct) ⟨us,[]⟩=pure (ps.zip us)):ja K mg x st ps:=
 ⟨f,_,Yb l c k,mg_of X G a,(Yb l c k).binds hb⟩
theorem Zq {l:List Str} {f:Str->Addr} (nd:(l.map f).Nodup) {x y:Str} (hx:x∈l) (hy:y∈l) (e:f x=f y):x=y:=by
 obtain ⟨i,hi,rfl⟩:=List.mem_iff_getElem.mp hx
 obtain ⟨j,hj,rfl⟩:=List.mem_iff_getElem.mp hy
 have q:=(List.getElem_inj (h₀:=by simpa using hi) (h₁:=by simpa using hj) nd).mp (show (l.map f)[i]'(by simpa using hi)=(l.map f)[j]'(by simpa using hj) by simpa using e)
 subst q
 rfl
noncomputable def caT (T:List (Str×Addr)) (x:Str):Addr:=(T.lookup x).getD 0
noncomputable def qab (K:Frag) (Cs:List Addr) (W:Addr):Bool:=decide Cs.Nodup&&Cs.all fun c=>xcB K c&&decide (PySem.W.exmOne K (.ref c) (.ref W)=some true)&&decide (PySem.W.kitOne K (.ref c) (.type "ValueError")=some true)&&PySem.W.excIn K c bmV "ValueError.__new__"&&Cs.all fun d=>decide (PySem.W.kitOne K (.ref c) (.ref d)=some (decide (c=d)))
theorem qac {K:Frag} {Cs:List Addr} {W:Addr} (h:qab K Cs W=true):Cs.Nodup/\∀ c∈Cs,xcB K c=true/\PySem.W.exmOne K (.ref c) (.ref W)=some true/\PySem.W.kitOne K (.ref c) (.type "ValueError")=some true/\PySem.W.excIn K c bmV "ValueError.__new__"=true/\∀ d∈Cs,PySem.W.kitOne K (.ref c) (.ref d)=some (decide (c=d)):=by
 unfold qab at h
 rw [Bool.and_eq_true,List.all_eq_true] at h
 refine ⟨of_decide_eq_true h.1,fun c hc=>?_⟩
 have q:=h.2 c hc
 simp only [Bool.and_eq_true,decide_eq_true_eq,List.all_eq_true] at q
 exact ⟨q.1.1.1.1,q.1.1.1.2,q.1.1.2,q.1.2,q.2⟩
def qg9 (ca:Str->Addr):Prop:=∀ x∈CS,∀ y∈CS,ca x=ca y->x=y
theorem qe3 {c:Str} (h:c∈CS):c = "NoWords"\/c = "NoLook"\/c = "NoNumbers"\/c = "NoRoom"\/c = "Never":=by simpa [CS] using h
theorem qgC {K:Frag} {h:Heap} {mg:Str->Option Value} (X:K.In h) (G:h.Ns mainGlobals mg) {CW C0 C1 C2 C3 C4:Addr}  {t_LEAST_PLACE t_MOST_LETTERS t_MOST_PLACE t_MOST_ROOM t_MOST_WORDS:Tok}
    (aW:nsIn K mainGlobals "WordError"=some (some (.ref CW)))
    (a0:nsIn K mainGlobals "NoWords"=some (some (.ref C0)))
    (a1:nsIn K mainGlobals "NoLook"=some (some (.ref C1)))
    (a2:nsIn K mainGlobals "NoNumbers"=some (some (.ref C2)))
    (a3:nsIn K mainGlobals "NoRoom"=some (some (.ref C3)))
    (a4:nsIn K mainGlobals "Never"=some (some (.ref C4)))
    (z_all:nsIn K mainGlobals "all"=some none)
    (z_bool:nsIn K mainGlobals "bool"=some none)
    (z_dict:nsIn K mainGlobals "dict"=some none)
    (z_enumerate:nsIn K mainGlobals "enumerate"=some none)
    (z_int:nsIn K mainGlobals "int"=some none)
    (z_isinstance:nsIn K mainGlobals "isinstance"=some none)
    (z_len:nsIn K mainGlobals "len"=some none)
    (z_list:nsIn K mainGlobals "list"=some none)
    (z_max:nsIn K mainGlobals "max"=some none)
    (z_min:nsIn K mainGlobals "min"=some none)
    (z_range:nsIn K mainGlobals "range"=some none)
    (z_reversed:nsIn K mainGlobals "reversed"=some none)
    (z_set:nsIn K mainGlobals "set"=some none)
    (z_sorted:nsIn K mainGlobals "sorted"=some none)
    (z_str:nsIn K mainGlobals "str"=some none)
    (z_sum:nsIn K mainGlobals "sum"=some none)
    (z_tuple:nsIn K mainGlobals "tuple"=some none)
    (c_LEAST_PLACE:nsIn K mainGlobals "LEAST_PLACE"=some (some (.int (-3) t_LEAST_PLACE)))
    (c_MOST_LETTERS:nsIn K mainGlobals "MOST_LETTERS"=some (some (.int 6 t_MOST_LETTERS)))
    (c_MOST_PLACE:nsIn K mainGlobals "MOST_PLACE"=some (some (.int 2 t_MOST_PLACE)))
    (c_MOST_ROOM:nsIn K mainGlobals "MOST_ROOM"=some (some (.int 99 t_MOST_ROOM)))
    (c_MOST_WORDS:nsIn K mainGlobals "MOST_WORDS"=some (some (.int 6 t_MOST_WORDS)))
    (ex:qab K [C0,C1,C2,C3,C4] CW=true)
     :
    Zt K mg (fun x=>.ref (caT [("WordError",CW),("NoWords",C0),("NoLook",C1),("NoNumbers",C2),("NoRoom",C3),("Never",C4)] x)) (caT [("WordError",CW),("NoWords",C0),("NoLook",C1),("NoNumbers",C2),("NoRoom",C3),("Never",C4)])/\qg9 (caT [("WordError",CW),("NoWords",C0),("NoLook",C1),("NoNumbers",C2),("NoRoom",C3),("Never",C4)]):=by
  obtain ⟨nd,al⟩:=qac ex
  generalize hT:([("WordError",CW),("NoWords",C0),("NoLook",C1),("NoNumbers",C2),("NoRoom",C3),("Never",C4)]:List (Str×Addr))=T
  have eW:caT T "WordError"=CW:=by subst hT; kernel_rfl
  have e0:caT T "NoWords"=C0:=by subst hT; kernel_rfl
  have e1:caT T "NoLook"=C1:=by subst hT; kernel_rfl
  have e2:caT T "NoNumbers"=C2:=by subst hT; kernel_rfl
  have e3:caT T "NoRoom"=C3:=by subst hT; kernel_rfl
  have e4:caT T "Never"=C4:=by subst hT; kernel_rfl
  have hm:CS.map (caT T)=[C0,C1,C2,C3,C4]:=by
    unfold CS
    simp only [List.map_cons,List.map_nil,e0,e1,e2,e3,e4]
  have hin:∀ c∈CS,caT T c∈[C0,C1,C2,C3,C4]:=fun c hc=>hm ▸ List.mem_map.mpr ⟨c,hc,rfl⟩
  refine ⟨⟨⟨fun c hc=>rfl,fun c hc=>?_,fun c hc=>(al _ (hin c hc)).1,fun c hc d hd=>(al _ (hin c hc)).2.2.2.2 _ (hin d hd),fun c hc=>(al _ (hin c hc)).2.2.1⟩,fun c hc=>?_,fun c hc=>(al _ (hin c hc)).2.2.2.1,fun x hx=>absurd hx (by simp [FS]),mg_none_of X G z_all,mg_none_of X G z_bool,mg_none_of X G z_dict,mg_none_of X G z_enumerate,mg_none_of X G z_int,mg_none_of X G z_isinstance,mg_none_of X G z_len,mg_none_of X G z_list,mg_none_of X G z_max,mg_none_of X G z_min,mg_none_of X G z_range,mg_none_of X G z_reversed,mg_none_of X G z_set,mg_none_of X G z_sorted,mg_none_of X G z_str,mg_none_of X G z_sum,mg_none_of X G z_tuple,⟨_,mg_of X G c_LEAST_PLACE⟩,⟨_,mg_of X G c_MOST_LETTERS⟩,⟨_,mg_of X G c_MOST_PLACE⟩,⟨_,mg_of X G c_MOST_ROOM⟩,⟨_,mg_of X G c_MOST_WORDS⟩⟩,fun x hx y hy e=>?_⟩
  · show PySem.W.exmOne K (.ref (caT T c)) (.ref (caT T "WordError"))=some true
    rw [eW]
    exact (al _ (hin c hc)).2.1
  · rcases qe3 hc with rfl | rfl | rfl | rfl | rfl
    · rw [e0]; exact mg_of X G a0
    · rw [e1]; exact mg_of X G a1
    · rw [e2]; exact mg_of X G a2
    · rw [e3]; exact mg_of X G a3
    · rw [e4]; exact mg_of X G a4
  ·
    rw [<-hm] at nd
    exact Zq nd hx hy e
structure Tx (K:Frag) (mg:Str->Option Value) (ca:Str->Addr):Prop where
 x_is_letter:ja K mg "is_letter" vX ["thing"]
 x_is_word:ja K mg "is_word" vM ["thing"]
 x_is_words:ja K mg "is_words" kL ["thing"]
 x_check_words:ja K mg "check_words" kH ["thing"]
 x_is_between:ja K mg "is_between" vi ["thing", "least", "most"]
 x_is_look:ja K mg "is_look" vN ["thing"]
 x_check_look:ja K mg "check_look" vm ["thing"]
 x_letter_at:ja K mg "letter_at" wb ["word", "place"]
 x_pairs:ja K mg "pairs" yV ["words", "look"]
 x_check_room:ja K mg "check_room" vn ["thing"]
 x_is_numbers:ja K mg "is_numbers" jW ["thing", "count", "room"]
 x_check_numbers:ja K mg "check_numbers" kf ["thing", "count", "room"]
 x_told_pairs:ja K mg "told_pairs" vo ["words", "look", "room", "numbers"]
 x_is_odd:ja K mg "is_odd" zg ["walk"]
 x_comes_to:ja K mg "comes_to" uy ["walk", "numbers", "start"]
 x_bars:ja K mg "bars" WB ["walk", "room", "numbers"]
 x_letters_of:ja K mg "letters_of" ju ["seen"]
 x_other_letter:ja K mg "other_letter" kq ["pair", "letter"]
 x_spread:ja K mg "spread" zi ["seen", "root", "ways"]
 x_ways_of:ja K mg "ways_of" yE ["seen"]
 x_circles_of:ja K mg "circles_of" vt ["seen", "ways"]
 x_first_odd:ja K mg "first_odd" wg ["circles"]
 x_bar_of:ja K mg "bar_of" uz ["seen", "room", "numbers"]
 x_bar:ja K mg "bar" Gw ["words", "look", "room", "numbers"]
 x_are_alike:ja K mg "are_alike" wj ["one", "two"]
 x_clash_of:ja K mg "clash_of" uA ["seen"]
 x_clash:ja K mg "clash" QQ ["words", "look"]
 x_is_loose:ja K mg "is_loose" kN ["pair", "seen", "fixed"]
 x_bound_pairs:ja K mg "bound_pairs" jf ["seen", "fixed"]
 x_unshared:ja K mg "unshared" uB ["one", "two"]
 x_contrasts_of:ja K mg "contrasts_of" jA ["seen"]
 x_may_differ:ja K mg "may_differ" qV ["contrast", "room", "fixed"]
 x_with_worth:ja K mg "with_worth" vw ["fixed", "letter", "worth"]
 x_can_be_filled:ja K mg "can_be_filled" qZ ["contrasts", "room", "fixed", "letters"]
 x_can_differ:ja K mg "can_differ" jZ ["seen", "room", "fixed"]
 x_room_from:ja K mg "room_from" wq ["seen", "room"]
 x_least_room:ja K mg "least_room" vA ["words", "look"]
 x_Lcell_at:ja K mg "_law_cell_at" uC ["_law_script", "_law_k"]
 x_Lmixed:ja K mg "_law_mixed" zl ["_law_script", "_law_k", "_law_many"]
 x_Ldraw:ja K mg "_law_draw" QX ["_law_script", "_law_town", "_law_many"]
 x_Lpick:ja K mg "_law_pick" QY ["_law_script", "_law_town", "_law_some"]
 x_Lword:ja K mg "_law_word" QZ ["_law_script", "_law_town", "_law_few"]
 x_Lwords:ja K mg "_law_words" zn ["_law_script", "_law_town", "_law_most"]
 x_Llook:ja K mg "_law_look" Jd ["_law_script", "_law_town"]
theorem qe4 {P:Program} {w:World} {K:Frag} {mg:Str->Option Value} {base:Heap} {cv:Str->Value} {ca:Str->Addr} {f:Addr} {fd:FuncData} (Z:Zt K mg cv ca) (T:Tx K mg ca) (F:Fun K "law" "law" uh f fd):FnOk P w K mg base (CXk P w) 20 f fd ["_law_script"] (spD K cv [.val] .sh GG):=by
 have o_is_letter:=Kt (P:=P) (w:=w) (base:=base) Z T.x_is_letter 
 have o_is_word:=Uz (P:=P) (w:=w) (base:=base) Z T.x_is_word o_is_letter
 have o_is_words:=Vs (P:=P) (w:=w) (base:=base) Z T.x_is_words o_is_word
 have o_check_words:=gI (P:=P) (w:=w) (base:=base) Z T.x_check_words o_is_words
 have o_is_between:=QB (P:=P) (w:=w) (base:=base) Z T.x_is_between 
 have o_is_look:=UB (P:=P) (w:=w) (base:=base) Z T.x_is_look o_is_between
 have o_check_look:=QD (P:=P) (w:=w) (base:=base) Z T.x_check_look o_is_look
 have o_letter_at:=Ku (P:=P) (w:=w) (base:=base) Z T.x_letter_at 
 have o_pairs:=Gv (P:=P) (w:=w) (base:=base) Z T.x_pairs o_check_words o_check_look o_letter_at
 have o_check_room:=QF (P:=P) (w:=w) (base:=base) Z T.x_check_room o_is_between
 have o_is_numbers:=QH (P:=P) (w:=w) (base:=base) Z T.x_is_numbers o_is_between
 have o_check_numbers:=xS (P:=P) (w:=w) (base:=base) Z T.x_check_numbers o_is_numbers
 have o_told_pairs:=QI (P:=P) (w:=w) (base:=base) Z T.x_told_pairs o_check_room o_check_numbers o_pairs
 have o_is_odd:=Xv (P:=P) (w:=w) (base:=base) Z T.x_is_odd 
 have o_comes_to:=Vv (P:=P) (w:=w) (base:=base) Z T.x_comes_to 
 have o_bars:=qb1 (P:=P) (w:=w) (base:=base) Z T.x_bars o_comes_to o_is_odd
 have o_letters_of:=QK (P:=P) (w:=w) (base:=base) Z T.x_letters_of 
 have o_other_letter:=zY (P:=P) (w:=w) (base:=base) Z T.x_other_letter 
 have o_spread:=Xx (P:=P) (w:=w) (base:=base) Z T.x_spread o_other_letter
 have o_ways_of:=UC (P:=P) (w:=w) (base:=base) Z T.x_ways_of o_letters_of o_spread
 have o_circles_of:=QN (P:=P) (w:=w) (base:=base) Z T.x_circles_of 
 have o_first_odd:=Kw (P:=P) (w:=w) (base:=base) Z T.x_first_odd o_is_odd
 have o_bar_of:=Xy (P:=P) (w:=w) (base:=base) Z T.x_bar_of o_is_odd o_bars o_ways_of o_circles_of o_first_odd
 have o_bar:=qd4 (P:=P) (w:=w) (base:=base) Z T.x_bar o_told_pairs o_bar_of
 have o_are_alike:=KA (P:=P) (w:=w) (base:=base) Z T.x_are_alike 
 have o_clash_of:=Vx (P:=P) (w:=w) (base:=base) Z T.x_clash_of o_are_alike
 have o_clash:=Gy (P:=P) (w:=w) (base:=base) Z T.x_clash o_pairs o_clash_of
 have o_is_loose:=Vz (P:=P) (w:=w) (base:=base) Z T.x_is_loose 
 have o_bound_pairs:=gJ (P:=P) (w:=w) (base:=base) Z T.x_bound_pairs o_is_loose
 have o_unshared:=VA (P:=P) (w:=w) (base:=base) Z T.x_unshared 
 have o_contrasts_of:=gh (P:=P) (w:=w) (base:=base) Z T.x_contrasts_of o_unshared
 have o_may_differ:=QR (P:=P) (w:=w) (base:=base) Z T.x_may_differ 
 have o_with_worth:=QS (P:=P) (w:=w) (base:=base) Z T.x_with_worth 
 have o_can_be_filled:=xU (P:=P) (w:=w) (base:=base) Z T.x_can_be_filled o_may_differ o_with_worth
 have o_can_differ:=QT (P:=P) (w:=w) (base:=base) Z T.x_can_differ o_letters_of o_bound_pairs o_contrasts_of o_can_be_filled
 have o_room_from:=KB (P:=P) (w:=w) (base:=base) Z T.x_room_from o_can_differ
 have o_least_room:=QU (P:=P) (w:=w) (base:=base) Z T.x_least_room o_pairs o_clash_of o_room_from
 have o_Lcell_at:=VC (P:=P) (w:=w) (base:=base) Z T.x_Lcell_at 
 have o_Lmixed:=XA (P:=P) (w:=w) (base:=base) Z T.x_Lmixed o_Lcell_at
 have o_Ldraw:=GA (P:=P) (w:=w) (base:=base) Z T.x_Ldraw o_Lmixed
 have o_Lpick:=GC (P:=P) (w:=w) (base:=base) Z T.x_Lpick o_Ldraw
 have o_Lword:=GD (P:=P) (w:=w) (base:=base) Z T.x_Lword o_Ldraw o_Lpick
 have o_Lwords:=XE (P:=P) (w:=w) (base:=base) Z T.x_Lwords o_Ldraw o_Lpick o_Lword
 have o_Llook:=GF (P:=P) (w:=w) (base:=base) Z T.x_Llook o_Ldraw
 exact qd5 Z F o_pairs o_bar o_clash o_least_room o_Ldraw o_Lpick o_Lwords o_Llook
def qad (K:Frag):Sp:=fun vs H Q _=>∃ (a:Addr) (ns:List Int),vs=[.ref a]/\SqL K H a (ns.map V.int)/\∀ H',Q (.bl true) H'
theorem WZ {K:Frag} {F:Hp}:∀ ns:List Int,IsL K F (ns.map V.int) (ns.map D.int)
 | []=>.nil
 | n::ns=>.cons (.int n) (WZ ns)
theorem qgD {K:Frag} {cv:Str->Value} {ca:Str->Addr} (h:qg9 ca) (vs:List V) (H:Hp) (Q:VK) (E:XK) (q:qad K vs H Q E):spD K cv [.val] .sh GG vs H Q E:=by
 obtain ⟨a,ns,rfl,hs,hq⟩:=q
 refine ⟨H,[scr ns],Same.refl _,⟨.lst hs (WZ ns),trivial⟩,List.nodup_nil,?_⟩
 rw [qe1 ns]
 intro v F' H' a1 a2 a3 a4
 have a4:Is K F' v (.bl true):=a4
 cases a4
 exact hq H'
abbrev NsX (K:Frag) (x:Str) (f:Addr):Prop:=nsIn K mainGlobals x=some (some (.ref f))
abbrev CdX (K:Frag) (v:Value) (x:Str):Prop:=codeIn K v x=true
abbrev KpX (K:Frag) (f:Addr):Prop:=keepIn K (.ref f)=true
abbrev LkX (K:Frag) (x:Str) (st:Stmt) (f:Addr) (oc:Value) (od an:Option Addr) (sl:Array (Option Value)) (kV dc pm cd ct:Value):Prop:=K.lookup f=some ⟨oc,od,.func (PySem.W.fnOf x x (wE st) (vB st) (qe st) .none kV dc pm an cd ct),sl⟩
def Dx (K:Frag) (x:Str) (st:Stmt):Prop:=∃ (f:Addr) (oc:Value) (od an:Option Addr) (sl:Array (Option Value)) (kV dc pm cd ct:Value),NsX K x f/\LkX K x st f oc od an sl kV dc pm cd ct/\CdX K cd x/\KpX K f
theorem jh {K:Frag} {h:Heap} {mg:Str->Option Value} (X:K.In h) (G:h.Ns mainGlobals mg) {x:Str} {st:Stmt} {ps:List Str} (q:Dx K x st) (hb:∀ (kV doc pm:Value) (an:Option Addr) (cdv ct:Value) (us:List Value),us.length=ps.length->bindArgs (PySem.W.fnOf x x (wE st) (vB st) (qe st) .none kV doc pm an cdv ct) ⟨us,[]⟩=pure (ps.zip us):=by
  intro _ _ _ _ _ _ us hl
  first | refine qg4 (P:=fun us=>bindArgs _ ⟨us,[]⟩=pure (List.zip _ us)) hl ?_ | refine qg5 (P:=fun us=>bindArgs _ ⟨us,[]⟩=pure (List.zip _ us)) hl ?_ | refine qg6 (P:=fun us=>bindArgs _ ⟨us,[]⟩=pure (List.zip _ us)) hl ?_ | refine qg7 (P:=fun us=>bindArgs _ ⟨us,[]⟩=pure (List.zip _ us)) hl ?_ | refine qg8 (P:=fun us=>bindArgs _ ⟨us,[]⟩=pure (List.zip _ us)) hl ?_ | refine qhF (P:=fun us=>bindArgs _ ⟨us,[]⟩=pure (List.zip _ us)) hl ?_
  all_goals intros; rfl):ja K mg x st ps:=by
 obtain ⟨f,oc,od,an,sl,kV,dc,pm,cd,ct,a,l,c,k⟩:=q
 exact qcM X G a l c k hb
theorem qe5 {l:PySem.W.OpenLaw} {w:World} {K:Frag} {h:Heap} {mg:Str->Option Value} {fa:Addr} (X:K.In h) (G:h.Ns mainGlobals mg) (hfa:mg "law"=some (.ref fa)) {CW C0 C1 C2 C3 C4:Addr} {t_LEAST_PLACE t_MOST_LETTERS t_MOST_PLACE t_MOST_ROOM t_MOST_WORDS:Tok}
  (aW:nsIn K mainGlobals "WordError"=some (some (.ref CW)))
  (a0:nsIn K mainGlobals "NoWords"=some (some (.ref C0)))
  (a1:nsIn K mainGlobals "NoLook"=some (some (.ref C1)))
  (a2:nsIn K mainGlobals "NoNumbers"=some (some (.ref C2)))
  (a3:nsIn K mainGlobals "NoRoom"=some (some (.ref C3)))
  (a4:nsIn K mainGlobals "Never"=some (some (.ref C4)))
  (z_all:nsIn K mainGlobals "all"=some none)
  (z_bool:nsIn K mainGlobals "bool"=some none)
  (z_dict:nsIn K mainGlobals "dict"=some none)
  (z_enumerate:nsIn K mainGlobals "enumerate"=some none)
  (z_int:nsIn K mainGlobals "int"=some none)
  (z_isinstance:nsIn K mainGlobals "isinstance"=some none)
  (z_len:nsIn K mainGlobals "len"=some none)
  (z_list:nsIn K mainGlobals "list"=some none)
  (z_max:nsIn K mainGlobals "max"=some none)
  (z_min:nsIn K mainGlobals "min"=some none)
  (z_range:nsIn K mainGlobals "range"=some none)
  (z_reversed:nsIn K mainGlobals "reversed"=some none)
  (z_set:nsIn K mainGlobals "set"=some none)
  (z_sorted:nsIn K mainGlobals "sorted"=some none)
  (z_str:nsIn K mainGlobals "str"=some none)
  (z_sum:nsIn K mainGlobals "sum"=some none)
  (z_tuple:nsIn K mainGlobals "tuple"=some none)
  (c_LEAST_PLACE:nsIn K mainGlobals "LEAST_PLACE"=some (some (.int (-3) t_LEAST_PLACE)))
  (c_MOST_LETTERS:nsIn K mainGlobals "MOST_LETTERS"=some (some (.int 6 t_MOST_LETTERS)))
  (c_MOST_PLACE:nsIn K mainGlobals "MOST_PLACE"=some (some (.int 2 t_MOST_PLACE)))
  (c_MOST_ROOM:nsIn K mainGlobals "MOST_ROOM"=some (some (.int 99 t_MOST_ROOM)))
  (c_MOST_WORDS:nsIn K mainGlobals "MOST_WORDS"=some (some (.int 6 t_MOST_WORDS)))
  (ex:qab K [C0,C1,C2,C3,C4] CW=true)
  (q0:Dx K "is_letter" vX)
  (q1:Dx K "is_word" vM)
  (q2:Dx K "is_words" kL)
  (q3:Dx K "check_words" kH)
  (q4:Dx K "is_between" vi)
  (q5:Dx K "is_look" vN)
  (q6:Dx K "check_look" vm)
  (q7:Dx K "letter_at" wb)
  (q8:Dx K "pairs" yV)
  (q9:Dx K "check_room" vn)
  (q10:Dx K "is_numbers" jW)
  (q11:Dx K "check_numbers" kf)
  (q12:Dx K "told_pairs" vo)
  (q13:Dx K "is_odd" zg)
  (q14:Dx K "comes_to" uy)
  (q15:Dx K "bars" WB)
  (q16:Dx K "letters_of" ju)
  (q17:Dx K "other_letter" kq)
  (q18:Dx K "spread" zi)
  (q19:Dx K "ways_of" yE)
  (q20:Dx K "circles_of" vt)
  (q21:Dx K "first_odd" wg)
  (q22:Dx K "bar_of" uz)
  (q23:Dx K "bar" Gw)
  (q24:Dx K "are_alike" wj)
  (q25:Dx K "clash_of" uA)
  (q26:Dx K "clash" QQ)
  (q27:Dx K "is_loose" kN)
  (q28:Dx K "bound_pairs" jf)
  (q29:Dx K "unshared" uB)
  (q30:Dx K "contrasts_of" jA)
  (q31:Dx K "may_differ" qV)
  (q32:Dx K "with_worth" vw)
  (q33:Dx K "can_be_filled" qZ)
  (q34:Dx K "can_differ" jZ)
  (q35:Dx K "room_from" wq)
  (q36:Dx K "least_room" vA)
  (q37:Dx K "_law_cell_at" uC)
  (q38:Dx K "_law_mixed" zl)
  (q39:Dx K "_law_draw" QX)
  (q40:Dx K "_law_pick" QY)
  (q41:Dx K "_law_word" QZ)
  (q42:Dx K "_law_words" zn)
  (q43:Dx K "_law_look" Jd)
  (q44:Dx K "law" uh) :
  ∃ fd:FuncData,(∀ (s:Shared) (v:Value),BindsTo s fd ⟨[v],[]⟩ [("_law_script",v)])/\∀ base:Heap,K.In base->base.Ns mainGlobals mg->FnOk l.prog w K mg base (CXk l.prog w) 20 fa fd ["_law_script"] (qad K):=by
 obtain ⟨f44,_,_,_,_,_,_,_,_,_,b_44,l_44,d_44,k_44⟩:=q44
 have e:=hfa.symm.trans (mg_of X G b_44)
 cases e
 obtain ⟨Z,cok⟩:=qgC X G aW a0 a1 a2 a3 a4 z_all z_bool z_dict z_enumerate z_int z_isinstance z_len z_list z_max z_min z_range z_reversed z_set z_sorted z_str z_sum z_tuple c_LEAST_PLACE c_MOST_LETTERS c_MOST_PLACE c_MOST_ROOM c_MOST_WORDS ex
 have T:Tx K mg (caT [("WordError",CW),("NoWords",C0),("NoLook",C1),("NoNumbers",C2),("NoRoom",C3),("Never",C4)]):=⟨jh X G q0,jh X G q1,jh X G q2,jh X G q3,jh X G q4,jh X G q5,jh X G q6,jh X G q7,jh X G q8,jh X G q9,jh X G q10,jh X G q11,jh X G q12,jh X G q13,jh X G q14,jh X G q15,jh X G q16,jh X G q17,jh X G q18,jh X G q19,jh X G q20,jh X G q21,jh X G q22,jh X G q23,jh X G q24,jh X G q25,jh X G q26,jh X G q27,jh X G q28,jh X G q29,jh X G q30,jh X G q31,jh X G q32,jh X G q33,jh X G q34,jh X G q35,jh X G q36,jh X G q37,jh X G q38,jh X G q39,jh X G q40,jh X G q41,jh X G q42,jh X G q43⟩
 have F:=Yb (st:=uh) l_44 d_44 k_44
 exact ⟨_,fun s v=>.of_eq rfl,fun base _ _=>(qe4 (P:=l.prog) (w:=w) (base:=base) Z T F).imp fun vs H Q E q=>qgD cok vs H Q E q⟩
theorem qhG {l:PySem.W.OpenLaw} {q:Program} {loose:List Str} {XP:(Str->Option Value)->Heap->Prop} {YP:World->Heap->Prop} {d:DefRec} {K:Params->Frag} (hn:l.most=some 63) (hdf:d.params.defaults=[])
  (hY:∀ (w:World) (h:Heap),YP w h->(K w.params).In h)
  (F:∀ (w:World) (mg:Str->Option Value) (fa:Addr) (h:Heap),(K w.params).In h->h.Ns mainGlobals mg->mg d.name=some (.ref fa) ->
   ∃ fd:FuncData,(∀ (s:Shared) (u:Value),BindsTo s fd ⟨[u],[]⟩ [("_law_script",u)])/\∀ base:Heap,(K w.params).In base->base.Ns mainGlobals mg->FnOk l.prog w (K w.params) mg base (CXk l.prog w) 20 fa fd ["_law_script"] (qad (K w.params))) :
  PySem.W.WalkO q loose XP YP l.row.toRowW d [] (fun f vs=>PySem.call f vs):=
 L2.qbj (n:=63) (k:=20) (x := "_law_script") (CX:=fun w=>CXk l.prog w) (sp:=fun w=>qad (K w.params)) hn (by decide) hdf ⟨rfl,by decide,by decide⟩ hY F (fun _ _ a ns hl _ hS=>⟨a,ns,rfl,hS,fun _=>rfl⟩) fun w H s e s' z=>by
  obtain ⟨ex,T,C,H',_,_,_,_,_,_,_,_,_,_,q⟩:=z
  exact q.elim
end Kx
open PySem PySem.W PyProof.Rows
set_option maxRecDepth 100000 in
set_option maxHeartbeats 0 in
theorem PySem.Challenge.cw_lookwords_k08_whole_named_otherwise_holds : PySem.Challenge.rw_lookwords_k08_whole_named_otherwise.Holds := by
  refine Kx.hd ?_
  k_fill
  refine Kx.qhG (l := PySem.Challenge.rw_lookwords_k08_whole_named_otherwise) rfl rfl (fun w h Y => PySem.W.kIn_of Y) ?F
  case F =>
    intro w mg fa h KX G hmg
    refine' Kx.qe5 KX G hmg ?_ ?_ ?_ ?_ ?_ ?_ ?_ ?_ ?_ ?_ ?_ ?_ ?_ ?_ ?_ ?_ ?_ ?_ ?_ ?_ ?_ ?_ ?_ ?_ ?_ ?_ ?_ ?_ ?_ ?_ ?_ ?_ ?_ ?_ ?_ ?_ ?_ ?_ ?_ ?_ ?_ ?_ ?_ ?_ ?_ ?_ ?_ ?_ ?_ ?_ ?_ ?_ ?_ ?_ ?_ ?_ ?_ ?_ ?_ ?_ ?_ ?_ ?_ ?_ ?_ ?_ ?_ ?_ ?_ ?_ ?_ ?_ ?_ ?_
    all_goals try first | k_is | exact ⟨_, _, _, _, _, _, _, _, _, _, by unfold Kx.NsX; k_is, by unfold Kx.LkX; k_is, by unfold Kx.CdX; k_is, by unfold Kx.KpX; k_is⟩ | kernel_rfl
