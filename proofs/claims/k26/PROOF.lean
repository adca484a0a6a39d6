import PyProof.Rows.All
import KE.KTryMore
import KE.KRevSl
import PySem.Challenge.RW_lookwords_k26_whole_worths_written
noncomputable section
open PySem.W (Frag nsIn keepIn codeIn mg_of mg_none_of)
set_option Elab.async false
set_option linter.all false
set_option maxRecDepth 100000
namespace Kx
noncomputable section
open PySem PySem.W PySem.Calls PyProof.Rows
noncomputable def zP:Pos:=⟨0,0,0,0⟩
noncomputable def anV:Option Value:=some (.ref 6)
noncomputable def hA (P:Params):List Obj:=(boot_heap P).objs.toList++[⟨.type "tuple",none,.seq #[] 0,#[]⟩,⟨.none,none,.fields #[],#[]⟩,
 ⟨.type "code",none,.fields #[.str "<module>" 182,.str "<module>" 183,.str "/claim/cut.py" 184,.int 1 0,.int 0 0,.int 0 0,.int 0 0,.int 0 0,.ref 11,.bool false,.int 181 0,.ref 12,.none,.none,.none,.none,.int 185 0,.int 1 0,.str "/claim/cut.py" 186],#[]⟩,
 ⟨.type "frame",none,.plain,#[some (.ref 13),some (.ref 3),some (.ref 3),none,some (.str "__main__" 164),none,some (.ref 0)]⟩]
noncomputable def enP (p:Program):Env:={ scope:=p.main.scope,locals:=mainNs,globals:=mainNs,cells:=[],code:=.ref 13,frame:=some 14 }
noncomputable def cdP (p:Program):Code:=.body (behindTheImports p) (enP p)
noncomputable def trA:List Obj->Nat->BT->BT
 | [],_,t=>t
 | o::l,i,t=>trA l (i+1) (t.ins i o)
noncomputable def SA (w:World) (os:OsState):SharedT:=⟨trA (hA w.params) 0 .nil,15,(boot_heap w.params).life,Array.mk [],boot_drawn,187,os⟩
noncomputable def runs (p:Program) (w:World) (M:Nat) (os:OsState):Option (Flow×Code×Shared):=
 (segRunT treeTable p w 11 anV 1 M (SA w os) (piecesOf (behindTheImports p) (enP p) (cdP p) zP [topFrame zP])).bind fun r=>
  (topRun treeTable p w 11 anV 5 r.2.1.abs (restOf [] (enP p) (cdP p) r.2.2.2 [topFrame zP])).map fun s=>(r.1,r.2.2.1,s)
abbrev lookA (p q:Program) (loose:List Str) (Xt:Shared->Bool) (w:World) (x:Flow×Code×Shared):=
 (x.1,x.2.1,(staticsOk (importedModules p.main.body) (boot_heap w.params) x.2.2.heap&&namesBound p x.2.2.heap&&gensDone x.2.2&&laidKept (boot_heap w.params) x.2.2.heap),openSeen q loose (importedModules p.main.body) Xt true x.2.2)
theorem left_T {p q:Program} {loose:List Str} {Xt:Shared->Bool} {α:Type} {Yf:Shared->α} {Ya:World->α} {N M:Nat}
  (e:opening p=plainProg p.main.scope.names) (hN:Nat.ble 600 N=true) (f:∀ s,fenceModules? p s=some s)
  (size:∀ w:World,((boot_heap w.params).isNs mainGlobals&&(Array.mk []:Array GenState).size == 0,(boot_heap w.params).objs.size,(boot_heap w.params).nsMap mainGlobals "__annotations__")=(true,11,anV))
  (pre:∀ (w:World) (os:OsState),topGo treeTable p w 11 anV 12 ⟨boot_heap w.params,Array.mk [],boot_drawn,boot_toks,os⟩ (topStub p)=some ((SA w os).abs,⟨denote treeTable (cdP p),cdP p,zP,[topFrame zP]⟩))
  (blk:∀ (w:World) (os:OsState),segRun treeTable p w 11 anV 1 1 (SA w os).abs (blockOf (behindTheImports p) (enP p) (cdP p) zP [topFrame zP])=some (.next,(SA w os).abs,cdP p,zP))
  (le:Nat.ble (12+(1+(M+5))) N=true)
  (m1:∀ (w:World) (os:OsState),(runs p w M os).map (lookA p q loose Xt w)=some (.next,cdP p,true,openGood q loose))
  (m2:∀ (w:World) (os:OsState),(runs p w M os).map (fun x=>Yf x.2.2)=some (Ya w)):LeftO p q loose Xt Yf Ya N:=fun w=>by
 obtain ⟨⟨h,gs,d,k,os⟩,a,a'⟩:=Option.map_eq_some_iff.mp (boot_open e hN f w)
 obtain ⟨rfl,rfl,rfl,rfl⟩:h=boot_heap w.params/\gs=Array.mk []/\d=boot_drawn/\k=boot_toks:=by simpa using a'
 obtain ⟨x,hx,hl⟩:=Option.map_eq_some_iff.mp (m1 w os)
 obtain ⟨y,hy,hY⟩:=Option.map_eq_some_iff.mp (m2 w os)
 obtain rfl:y=x:=Option.some.inj (hy.symm.trans hx)
 obtain ⟨r,hr,hz⟩:=Option.bind_eq_some_iff.mp hx
 obtain ⟨s,hs,rfl⟩:=Option.map_eq_some_iff.mp hz
 obtain ⟨fl,st,co,po⟩:=r
 unfold lookA at hl
 simp only [Prod.mk.injEq] at hl
 obtain ⟨rfl,rfl,l1,l2⟩:=hl
 have t1:=piece_app (rest:=[]) (segRun_of hr) hs
 rw [List.append_nil] at t1
 have t2:=piece_block (blk w os) t1
 have t3:=topRun_mono (N - (12+(1+(M+5)))) _ _ _ _ (go_top (pre w os) t2)
 rw [show 12+(1+(M+5))+(N - (12+(1+(M+5))))=N by have:=Nat.le_of_ble_eq_true le; omega] at t3
 obtain ⟨z1,z2,z3⟩:_/\_/\_:=by simpa only [Prod.mk.injEq] using size w
 have t:topFrom treeTable p w N ⟨boot_heap w.params,Array.mk [],boot_drawn,boot_toks,os⟩=some s:=by
  unfold topFrom
  dsimp only
  rw [z1,z2,z3,t3]
  show (match staticsOk (importedModules p.main.body) (boot_heap w.params) s.heap&&namesBound p s.heap&&gensDone s&&laidKept (boot_heap w.params) s.heap with | true=>_ | false=>_)=_
  rw [l1]
 unfold openEnds
 rw [a]
 show (topFrom treeTable p w N _).map _=_
 rw [t]
 exact congrArg some (Prod.ext l2 hY)
end
end Kx
noncomputable section
open PySem PySem.W PyProof.Rows
noncomputable def Kx.vq:Program:=view PySem.Challenge.pw_lookwords_k26_whole_worths_written [1,2,3,4,5,6,7,8,9,10,11,12,13,14,16,17,18,19,20,21,22,23,25,26,27,28,30,31,32,33,34,35,36]
noncomputable def Kx.xt (s:Shared):Bool:=xlAt Kx.vq [] s&&recOk (RowW.records (OpenRow.toRowW (OpenLaw.row PySem.Challenge.rw_lookwords_k26_whole_worths_written))) s
theorem Kx.m1:∀ (w:World) (os:OsState),(Kx.runs PySem.Challenge.pw_lookwords_k26_whole_worths_written w 15000 os).map (Kx.lookA PySem.Challenge.pw_lookwords_k26_whole_worths_written Kx.vq [] Kx.xt w)=some (.next,Kx.cdP PySem.Challenge.pw_lookwords_k26_whole_worths_written,true,openGood Kx.vq []):=by intro w os; kernel_rfl
local macro_rules | `(tactic| o_head $H) => `(tactic| (refine holds_open (q := Kx.vq) (loose := []) (Xt := Kx.xt) (XP := XL Kx.vq []) (Yf := Hook.obs $H) (Ya := Hook.val $H) (YP := Hook.says $H) (N := 20000) ?hl (Hook.of $H) (Hook.keeps $H) (fun s e => xl_of s (Bool.and_eq_true_iff.mp e).1) XL.keeps (by rfl) (by rfl) (by rfl) (fun s e => recFacts_of (Bool.and_eq_true_iff.mp e).2) (by rfl) (by first | assumption | decide +kernel) (by decide +kernel) ⟨rfl, rfl, rfl, rfl, rfl, by decide +kernel⟩ ?hw ?hc; (case hl => refine Kx.left_T (p := PySem.Challenge.pw_lookwords_k26_whole_worths_written) (M := 15000) ?e rfl ?f ?s ?p ?b rfl Kx.m1 ?m; (case e => kernel_rfl); (case f => intro s; kernel_rfl); (case s => intro w; kernel_rfl); (case p => intro w os; kernel_rfl); (case b => intro w os; kernel_rfl); (case m => intro w os; kernel_rfl))))
set_option maxHeartbeats 0 in
open_top Kx.hd for PySem.Challenge.rw_lookwords_k26_whole_worths_written
end
namespace L2
open PySem PySem.Spec PyProof.Rows
abbrev Key:=Sum Int Str
noncomputable def keyIs:Key->Value->Bool
 | .inl k,v=>Value.isInt k v
 | .inr x,v=>Value.isStrOf x v
noncomputable def keyH (w:World):Key->Int
 | .inl k=>hashInt k
 | .inr x=>hashStr w x
theorem keyIs_shape:∀ {k:Key} {v:Value},keyIs k v=true->(∃ i t,k=Sum.inl i/\v=Value.int i t)\/(∃ x t,k=Sum.inr x/\v=Value.str x t)
 | .inl i,v,h=>by
  obtain ⟨t,e⟩:=Value.isInt_shape (k:=i) (v:=v) h
  exact .inl ⟨i,t,rfl,e⟩
 | .inr x,v,h=>by
  obtain ⟨t,e⟩:=Value.isStrOf_shape (x:=x) (v:=v) h
  exact .inr ⟨x,t,rfl,e⟩
theorem keyIs_int (i:Int) (t:Tok):keyIs (.inl i) (.int i t)=true:=by simp [keyIs,Value.isInt]
theorem keyIs_str (x:Str) (t:Tok):keyIs (.inr x) (.str x t)=true:=by simp [keyIs,Value.isStrOf]
theorem key_ll (a b:Int):decide ((Sum.inl a:Key)=Sum.inl b)=(a == b):=by
 by_cases e:a=b
 ·subst e; simp
 ·have h:¬(Sum.inl a:Key)=Sum.inl b:=fun q=>e (Sum.inl.inj q)
  rw [decide_eq_false h]
  exact (beq_eq_false_iff_ne.mpr e).symm
theorem key_rr (a b:Str):decide ((Sum.inr a:Key)=Sum.inr b)=decide (a=b):=by
 by_cases e:a=b
 ·subst e; simp
 ·have h:¬(Sum.inr a:Key)=Sum.inr b:=fun q=>e (Sum.inr.inj q)
  rw [decide_eq_false h,decide_eq_false e]
theorem key_lr (a:Int) (b:Str):decide ((Sum.inl a:Key)=Sum.inr b)=false:=decide_eq_false (fun q=>nomatch q)
theorem key_rl (a:Str) (b:Int):decide ((Sum.inr a:Key)=Sum.inl b)=false:=decide_eq_false (fun q=>nomatch q)
noncomputable def mixKind (prog:Program) (w:World):PySem.KeyKind prog w Key where
 is:=keyIs
 hash:=keyH w
 inj:=fun v a b ha hb=>by
  rcases keyIs_shape ha with ⟨i,t,rfl,rfl⟩ | ⟨x,t,rfl,rfl⟩
  ·rcases keyIs_shape hb with ⟨j,u,rfl,e⟩ | ⟨y,u,rfl,e⟩
   ·injection e with e1 _; rw [e1]
   ·exact nomatch e
  ·rcases keyIs_shape hb with ⟨j,u,rfl,e⟩ | ⟨y,u,rfl,e⟩
   ·exact nomatch e
   ·injection e with e1 _; rw [e1]
 byValue:=fun k v h=>by
  rcases keyIs_shape h with ⟨i,t,rfl,rfl⟩ | ⟨x,t,rfl,rfl⟩ <;> rfl
 pyHash:=fun hv h=>by
  rcases keyIs_shape hv with ⟨i,t,rfl,rfl⟩ | ⟨x,t,rfl,rfl⟩
  ·exact wpAny_pyHash_int h
  ·exact wpAny_pyHash_str h
 eqBool:=fun hu hv h=>by
  rcases keyIs_shape hu with ⟨i,t,rfl,rfl⟩ | ⟨x,t,rfl,rfl⟩
  ·rcases keyIs_shape hv with ⟨j,u,rfl,rfl⟩ | ⟨y,u,rfl,rfl⟩
   ·rw [key_ll] at h; exact wpAny_eqBool_int h
   ·rw [key_lr] at h; exact SeqAt.EqAt.int_str i t y u _ _ _ _ h
  ·rcases keyIs_shape hv with ⟨j,u,rfl,rfl⟩ | ⟨y,u,rfl,rfl⟩
   ·rw [key_rl] at h; exact SeqAt.EqAt.str_int x t j u _ _ _ _ h
   ·rw [key_rr] at h; exact wpAny_eqBool_str h
 «strs»:=fun k x t v h=>by
  rcases keyIs_shape h with ⟨i,u,rfl,e⟩ | ⟨y,u,rfl,e⟩
  ·exact nomatch e
  ·injection e with e1 _
   subst e1
   cases v <;> rfl
theorem mixKind_int (prog:Program) (w:World) (i:Int) (t:Tok):(mixKind prog w).is (.inl i) (.int i t)=true:=keyIs_int i t
theorem mixKind_str (prog:Program) (w:World) (x:Str) (t:Tok):(mixKind prog w).is (.inr x) (.str x t)=true:=keyIs_str x t
inductive V where
 | non | bl (b:Bool) | int (i:Int) | str (x:Str) | byt (b:Array UInt8) | flt (b:UInt64) | ref (a:Addr) | ty (n:String)
 deriving DecidableEq
def RelV:V->Value->Prop
 | .non,u=>u=Value.none
 | .bl b,u=>u=Value.bool b
 | .int i,u=>∃ t,u=Value.int i t
 | .str x,u=>∃ t,u=Value.str x t
 | .byt b,u=>∃ t,u=Value.bytes b t
 | .flt b,u=>∃ t,u=Value.float b t
 | .ref a,u=>u=Value.ref a
 | .ty n,u=>u=Value.type n
abbrev Vals:List V->List Value->Prop:=Paired RelV
theorem Vals.length {xs:List V} {us:List Value} (r:Vals xs us):xs.length=us.length:=Paired.length r
theorem Vals.get:∀ {xs:List V} {us:List Value} {i:Nat} {x:V},Vals xs us->xs[i]?=some x->∃ u,us[i]?=some u/\RelV x u
 | _,_,_,_,.nil,e=>by simp at e
 | _,_,0,_,.cons r _,e=>by simp at e; subst e; exact ⟨_,rfl,r⟩
 | _,_,i+1,x,.cons _ t,e=>by
  obtain ⟨u,h1,h2⟩:=Vals.get (i:=i) (x:=x) t (by simpa using e)
  exact ⟨u,by simpa using h1,h2⟩
theorem Vals.set {x:V} {u:Value} (r:RelV x u):∀ {xs:List V} {us:List Value} (i:Nat),Vals xs us->Vals (xs.set i x) (us.set i u)
 | _,_,_,.nil=>.nil
 | _,_,0,.cons _ t=>.cons r t
 | _,_,i+1,.cons q t=>.cons q (Vals.set r i t)
theorem Vals.append:∀ {xs ys:List V} {us ws:List Value},Vals xs us->Vals ys ws->Vals (xs++ys) (us++ws)
 | _,_,_,_,.nil,s=>s
 | _,_,_,_,.cons r t,s=>.cons r (Vals.append t s)
theorem Vals.take:∀ {xs:List V} {us:List Value} (n:Nat),Vals xs us->Vals (xs.take n) (us.take n)
 | _,_,0,_=>.nil
 | _,_,_+1,.nil=>.nil
 | _,_,n+1,.cons r t=>.cons r (Vals.take n t)
theorem Vals.none_of:∀ {xs:List V} {us:List Value} {i:Nat},Vals xs us->xs[i]?=none->us[i]?=none:=fun {xs us i} r e=>by
 have h1:=r.length
 have h2:xs.length<=i:=List.getElem?_eq_none_iff.mp e
 exact List.getElem?_eq_none_iff.mpr (by omega)
def RelO:Option V->Option Value->Prop
 | some v,some u=>RelV v u
 | none,none=>True
 | _,_=>False
def KV {κ:Type}:List (κ×V)->List (κ×Value)->Prop:=Paired fun (p:κ×V) (q:κ×Value)=>p.1=q.1/\RelV p.2 q.2
noncomputable def kV:Key->V
 | .inl i=>.int i
 | .inr x=>.str x
inductive HO where
 /-- a list -/
 | lst (xs:List V)
 /-- a tuple (never changes) -/
 | tup (xs:List V)
 /-- a dict whose keys are ints and texts; one whose keys are tuples of ints and texts (the empty one is both) -/
 | dK (kvs:List (Key×V)) | dT (kvs:List (List Key×V))
 /-- a set of ints: its members,its size -/
 | set (S:Int->Bool) (n:Nat)
 /-- an instance of the class at C,its dict at dx,its attributes -/
 | ins (C dx:Addr) (fs:List (Str×V))
 /-- the dict of the instance at x -/
 | own (x:Addr)
 /-- the dict of an exception -/
 | xd (fs:List (Str×V))
 /-- a bound method,f of x -/
 | met (f x:Addr)
 /-- a range object lo,lo+1,.. below hi -/
 | rng (lo hi:Int)
 /-- a thing that is known to the object (the script; a dict while a loop walks it): read,never written while it is so -/
 | frz (o:Obj) (u:HO)
 /-- a code object's table -/
 | tbl (ps:Array Value)
 /-- any other thing,by what is true of its one object (a def of one's own: SetO a S n:=HO.ext fun h=>..) -/
 | ext (φ:Heap->Prop)
abbrev Hp:=Addr->Option HO
noncomputable def upd (H:Hp) (a:Addr) (o:HO):Hp:=fun b=>if b=a then some o else H b
theorem upd_same {H:Hp} {a:Addr} {o:HO}:upd H a o a=some o:=by unfold upd; rw [if_pos rfl]
theorem upd_ne {H:Hp} {a b:Addr} {o:HO} (h:b≠a):upd H a o b=H b:=by unfold upd; rw [if_neg h]
theorem ne_of_none {H:Hp} {a b:Addr} {o:HO} (h:H a=some o) (h':H b=none):a≠b:=by
 intro e; subst e; rw [h] at h'; cases h'
section
variable (P:Program) (w:World)
def ObjOk (H:Hp) (h:Heap) (a:Addr):HO->Prop
 | .lst xs=>xs.length<=sizeLine/\∃ (its:List Value) (n:Nat),Vals xs its/\h.get? a=some { cls:=.type "list",data:=.seq its.toArray n }
 | .tup xs=>(xs.length<=sizeLine/\∃ o,h.get? a=some o/\o.dict=none)/\∃ its:List Value,Vals xs its/\IsTup h a its.toArray
 | .dK kvs=>kvs.length<=sizeLine/\(a == sysModules)=false/\∃ vs,KV kvs vs/\h.DictOf (mixKind P w) a vs
 | .dT kvs=>kvs.length<=sizeLine/\(a == sysModules)=false/\∃ xs:List (List Key×Addr×Value),
   Paired (fun (p:List Key×V) (q:List Key×Addr×Value)=>p.1=q.1/\H q.2.1=some (.tup (p.1.map kV))/\RelV p.2 q.2.2) kvs xs /\
   ∃ o es ep,h.get? a=some o/\o.ExactDict/\o.data=.dict es ep/\es.toList=xs.map (entryOfKey (tupleKind (mixKind P w)))/\(xs.map (·.1)).Nodup
 | .set S n=>h.SetOf (intKind P w) a S n
 | .ins C dx fs=>H dx=some (.own a)/\fs.length<=1000/\dx≠a/\h.get? a=some (PySem.W.instObj C dx) /\
   ∃ mA,h.Ns1 dx mA/\(∀ f,RelO (fs.lookup f) (mA f))/\PySem.Within mA (fs.map (·.1))
 | .own _=>∃ o,h.get? a=some o
 | .xd fs=>∃ mA,h.Ns1 a mA/\∀ f,RelO (fs.lookup f) (mA f)
 | .rng lo hi=>∃ t u v,h.get? a=some { cls:=.type "range",data:=.fields #[.int lo t,.int hi u,.int 1 v] }
 | .frz o u=>h.get? a=some o/\ObjOk H h a u
 | .tbl ps=>h.get? a=some { cls:=.none,data:=.fields ps }
 | .met f x=>h.get? a=some (PySem.W.methodObj (.ref f) (.ref x))
 | .ext φ=>φ h/\(∃ o,h.get? a=some o)/\∀ h1 h2:Heap,φ h1->(∀ o,h1.get? a=some o->h2.get? a=some o)->φ h2
def HOk (H:Hp) (h:Heap):Prop:=∀ a o,H a=some o->ObjOk P w H h a o
end
section
variable {P:Program} {w:World} {H H':Hp} {h h':Heap} {a:Addr} {o:HO}
theorem ObjOk.lt (x:ObjOk P w H h a o):a < h.objs.size:=by
 cases o with
 | lst xs=>obtain ⟨_,_,_,_,e⟩:=x; exact Heap.lt_size e
 | tup xs=>obtain ⟨_,_,_,p⟩:=x; exact p.lt
 | dK kvs=>obtain ⟨_,_,_,_,o,_,_,e,_⟩:=x; exact Heap.lt_size e
 | dT kvs=>obtain ⟨_,_,_,_,o,_,_,e,_⟩:=x; exact Heap.lt_size e
 | set S n=>obtain ⟨o,_,_,_,e,_⟩:=x; exact Heap.lt_size e
 | ins C dx fs=>obtain ⟨_,_,_,e,_⟩:=x; exact Heap.lt_size e
 | own y=>obtain ⟨_,e⟩:=x; exact Heap.lt_size e
 | xd fs=>obtain ⟨_,⟨_,_,_,e,_⟩,_⟩:=x; exact Heap.lt_size e
 | rng lo hi=>obtain ⟨_,_,_,e⟩:=x; exact Heap.lt_size e
 | frz ob u=>obtain ⟨e,_⟩:=x; exact Heap.lt_size e
 | tbl ps=>exact Heap.lt_size (show h.get? a=some _ from x)
 | met f y=>exact Heap.lt_size (show h.get? a=some _ from x)
 | ext φ=>obtain ⟨_,⟨_,e⟩,_⟩:=x; exact Heap.lt_size e
theorem Paired.mapP {α β:Type} {F G:α->β->Prop}:∀ {l₁:List α} {l₂:List β},Paired F l₁ l₂->(∀ a b,F a b->G a b)->Paired G l₁ l₂
 | _,_,.nil,_=>.nil
 | _,_,.cons r t,f=>.cons (f _ _ r) (Paired.mapP t f)
theorem ObjOk.stay (x:ObjOk P w H h a o) (k:∀ b u,(b=a\/H b=some (.own a))->h.get? b=some u->h'.get? b=some u)
  (ho:∀ b,H b=some (.own a)->H' b=some (.own a)) (ht:∀ b xs,H b=some (.tup xs)->H' b=some (.tup xs)):ObjOk P w H' h' a o:=by
 induction o with
 | lst xs=>obtain ⟨z,its,n,r,e⟩:=x; exact ⟨z,its,n,r,k _ _ (.inl rfl) e⟩
 | tup xs=>obtain ⟨⟨z,o2,e2,d2⟩,its,r,ob,e,c⟩:=x; exact ⟨⟨z,o2,k _ _ (.inl rfl) e2,d2⟩,its,r,ob,k _ _ (.inl rfl) e,c⟩
 | dK kvs=>obtain ⟨z,y,vs,r,ob,es,ep,e,c⟩:=x; exact ⟨z,y,vs,r,ob,es,ep,k _ _ (.inl rfl) e,c⟩
 | dT kvs=>
  obtain ⟨z,y,xs,r,ob,es,ep,e,c⟩:=x
  exact ⟨z,y,xs,Paired.mapP r fun p q z=>⟨z.1,ht _ _ z.2.1,z.2.2⟩,ob,es,ep,k _ _ (.inl rfl) e,c⟩
 | set S n=>obtain ⟨ob,es,ep,t,e,c⟩:=x; exact ⟨ob,es,ep,t,k _ _ (.inl rfl) e,c⟩
 | ins C dx fs=>
  obtain ⟨d,z,ne,e,mA,⟨od,es,ep,e2,c⟩,r⟩:=x
  exact ⟨ho _ d,z,ne,k _ _ (.inl rfl) e,mA,⟨od,es,ep,k _ _ (.inr d) e2,c⟩,r⟩
 | own y=>obtain ⟨ob,e⟩:=x; exact ⟨ob,k _ _ (.inl rfl) e⟩
 | xd fs=>obtain ⟨mA,⟨od,es,ep,e,c⟩,r⟩:=x; exact ⟨mA,⟨od,es,ep,k _ _ (.inl rfl) e,c⟩,r⟩
 | rng lo hi=>obtain ⟨t,u,v,e⟩:=x; exact ⟨t,u,v,k _ _ (.inl rfl) e⟩
 | frz ob u ih=>obtain ⟨e,q⟩:=x; exact ⟨k _ _ (.inl rfl) e,ih q⟩
 | tbl ps=>
  have e:h.get? a=some { cls:=.none,data:=.fields ps }:=x
  show h'.get? a=some { cls:=.none,data:=.fields ps }
  exact k a _ (.inl rfl) e
 | met f y=>
  have e:h.get? a=some (PySem.W.methodObj (.ref f) (.ref y)):=x
  show h'.get? a=some (PySem.W.methodObj (.ref f) (.ref y))
  exact k a _ (.inl rfl) e
 | ext φ=>obtain ⟨p,⟨o,e⟩,st⟩:=x; exact ⟨st _ _ p fun o q=>k _ _ (.inl rfl) q,⟨o,k _ _ (.inl rfl) e⟩,st⟩
theorem HOk.lt (x:HOk P w H h) (e:H a=some o):a < h.objs.size:=(x a o e).lt
theorem HOk.fresh (x:HOk P w H h) (e:h.objs.size<=a):H a=none:=by
 cases q:H a with
 | none=>rfl
 | some u=>exact absurd (Nat.lt_of_lt_of_le (x.lt q) e) (Nat.lt_irrefl _)
theorem HOk.kept (x:HOk P w H h) (k:∀ b u,h.get? b=some u->h'.get? b=some u):HOk P w H h':=fun a o e=>
 (x a o e).stay (fun b u _ q=>k b u q) (fun _ q=>q) fun _ _ q=>q
theorem HOk.laid (x:HOk P w H h) (k:∀ b u,h.get? b=some u->h'.get? b=some u) (hp:h.objs.size<=a) (new:ObjOk P w (upd H a o) h' a o):HOk P w (upd H a o) h':=fun b u e=>by
 have hn:=x.fresh hp
 by_cases hb:b=a
 ·subst hb; rw [upd_same] at e; cases e; exact new
 ·rw [upd_ne hb] at e
  exact (x b u e).stay (fun c v _ q=>k c v q) (fun c q=>by rw [upd_ne (ne_of_none q hn)]; exact q) fun c xs q=>by rw [upd_ne (ne_of_none q hn)]; exact q
end
def Rd (H:Hp) (a:Addr) (u:HO):Prop:=H a=some u\/∃ o,H a=some (.frz o u)
theorem Rd.ok {P:Program} {w:World} {H:Hp} {h:Heap} {a:Addr} {u:HO} (r:Rd H a u) (x:HOk P w H h):ObjOk P w H h a u:=by
 rcases r with r | ⟨o,r⟩
 ·exact x a u r
 ·obtain ⟨_,q⟩:=x a _ r
  exact q
def Mut:Option HO->Prop
 | some (.lst _)=>True
 | some (.dK _)=>True
 | some (.dT _)=>True
 | some (.set _ _)=>True
 | some (.ins _ _ _)=>True
 | some (.ext _)=>True
 | _=>False
section
variable {P:Program} {w:World} {H:Hp} {h h':Heap} {x e:Addr} {o':HO}
theorem HOk.write (ok:HOk P w H h) (mu:Mut (H x)) (he:e=x\/H e=some (.own x)) (k:∀ b u,b≠e->h.get? b=some u->h'.get? b=some u) (heo:∃ u,h'.get? e=some u)
  (new:ObjOk P w (upd H x o') h' x o'):HOk P w (upd H x o') h':=fun b u q=>by
 have nown:∀ c y,H c=some (.own y)->c≠x:=fun c y r z=>by subst z; rw [r] at mu; exact mu
 have ntup:∀ c xs,H c=some (.tup xs)->c≠x:=fun c xs r z=>by subst z; rw [r] at mu; exact mu
 by_cases hb:b=x
 ·subst hb; rw [upd_same] at q; cases q; exact new
 ·rw [upd_ne hb] at q
  by_cases hbe:b=e
  ·have q':H b=some (.own x):=by
    rcases he with z | z
    ·exact absurd (hbe.trans z) hb
    ·rw [hbe]; exact z
   rw [q] at q'; cases q'
   obtain ⟨v,hv⟩:=heo
   exact ⟨v,by rw [hbe]; exact hv⟩
  ·refine (ok b u q).stay (fun c v hc r=>k c v ?_ r) (fun c r=>by rw [upd_ne (nown c b r)]; exact r) fun c xs r=>by rw [upd_ne (ntup c xs r)]; exact r
   rcases hc with rfl | hc
   ·exact hbe
   ·rintro rfl
    rcases he with z | z
    ·exact nown c b hc z
    ·rw [hc] at z; cases z; exact hb rfl
end
structure Un (fs ex:List Addr) (H H':Hp) (h h':Heap):Prop where
 keep:∀ b o,h.get? b=some o->H b=none->b∉fs->b∉ex->h'.get? b=some o
 slot:∀ b o,h.get? b=some o->H b=none->b∈fs->b∉ex->∃ sl,h'.get? b=some { o with slots:=sl }
 free:∀ b o,h.get? b=some o->H b=none->b∉ex->H' b=none
 there:∀ b o,h.get? b=some o->b∉ex->∃ o',h'.get? b=some o'
 tups:∀ b xs,H b=some (.tup xs)->H' b=some (.tup xs)
 frzs:∀ b o u,H b=some (.frz o u)->H' b=some (.frz o u)
 tbls:∀ b ps,H b=some (.tbl ps)->∃ more,H' b=some (.tbl (ps++more))
section
variable {fs fs' ex ex':List Addr} {H H1 H2:Hp} {h h1 h2 h':Heap} {a x e:Addr} {o:HO}
theorem Un.any (u:Un fs ex H H1 h h1) {b:Addr} {ob:Obj} (q:h.get? b=some ob) (n:H b=none) (hx:b∉ex):∃ sl,h1.get? b=some { ob with slots:=sl }:=by
 by_cases hb:b∈fs
 ·exact u.slot b ob q n hb hx
 ·exact ⟨ob.slots,u.keep b ob q n hb hx⟩
theorem Un.kept (k:∀ b u,h.get? b=some u->h'.get? b=some u):Un fs ex H H h h':=
 ⟨fun b ob q _ _ _=>k b ob q,fun b ob q _ _ _=>⟨ob.slots,k b ob q⟩,fun _ _ _ n _=>n,fun b ob q _=>⟨ob,k b ob q⟩,fun _ _ q=>q,fun _ _ _ q=>q,fun _ ps q=>⟨#[],by rw [q]; simp⟩⟩
theorem Un.refl:Un fs ex H H h h:=Un.kept fun _ _ q=>q
theorem Un.laid (k:∀ b u,h.get? b=some u->h'.get? b=some u) (hp:h.objs.size<=a) (hn:H a=none):Un fs ex H (upd H a o) h h' where
 keep:=fun b u q _ _ _=>k b u q
 slot:=fun b u q _ _ _=>⟨u.slots,k b u q⟩
 free:=fun b u q n _=>by rw [upd_ne (Nat.ne_of_lt (Nat.lt_of_lt_of_le (Heap.lt_size q) hp))]; exact n
 there:=fun b u q _=>⟨u,k b u q⟩
 tups:=fun b xs q=>by rw [upd_ne (ne_of_none q hn)]; exact q
 frzs:=fun b u xs q=>by rw [upd_ne (ne_of_none q hn)]; exact q
 tbls:=fun b ps q=>⟨#[],by rw [upd_ne (ne_of_none q hn),q]; simp⟩
theorem Un.write (mu:Mut (H x)) (he:e=x\/H e=some (.own x)) (k:∀ b u,b≠e->h.get? b=some u->h'.get? b=some u) (heo:∃ u,h'.get? e=some u):Un fs ex H (upd H x o) h h':=by
 have hx:∀ b,H b=none->b≠x:=fun b n z=>by subst z; rw [n] at mu; exact mu
 have hb:∀ b,H b=none->b≠e:=fun b n z=>by
  subst z
  rcases he with r | r
  ·exact hx b n r
  ·rw [n] at r; cases r
 have hm:∀ b u,H b=some u->¬Mut (some u)->b≠x:=fun b u q nm z=>by subst z; rw [q] at mu; exact nm mu
 refine ⟨fun b u q n _ _=>k b u (hb b n) q,fun b u q n _ _=>⟨u.slots,k b u (hb b n) q⟩,fun b u q n _=>by rw [upd_ne (hx b n)]; exact n,fun b u q _=>?_,
  fun b xs q=>by rw [upd_ne (hm b _ q fun z=>z)]; exact q,fun b u xs q=>by rw [upd_ne (hm b _ q fun z=>z)]; exact q,fun b ps q=>⟨#[],by rw [upd_ne (hm b _ q fun z=>z),q]; simp⟩⟩
 by_cases hbe:b=e
 ·subst hbe; exact heo
 ·exact ⟨u,k b u hbe q⟩
end
noncomputable def trk (h:Heap) (H:Hp):List Addr:=(List.range h.objs.size).filter fun a=>(H a).isSome
noncomputable def hidT (h:Heap) (H:Hp):Heap:=PySem.W.hideAll h (trk h H)
theorem hidT_size (h:Heap) (H:Hp):(hidT h H).objs.size=h.objs.size:=PySem.W.hideAll_size _ _
theorem hidT_get {h:Heap} {H:Hp} {b:Addr} {o:Obj} (e:h.get? b=some o) (n:H b=none):(hidT h H).get? b=some o:=
 PySem.W.hideAll_get _ e fun hm=>by
  have q:(H b).isSome=true:=(List.mem_filter.mp hm).2
  rw [n] at q; simp at q
theorem of_hidT {h:Heap} {H:Hp} {b:Addr} {o:Obj} (e:(hidT h H).get? b=some o):h.get? b=some o/\H b=none:=by
 have e':h.get? b=some o:=PySem.W.of_hideAll (trk h H) e
 refine ⟨e',?_⟩
 cases q:H b with
 | none=>rfl
 | some x=>
  have hm:b∈trk h H:=List.mem_filter.mpr ⟨List.mem_range.mpr (Heap.lt_size e'),by simp [q]⟩
  have z:(hidT h H).get? b=none:=PySem.W.hideAll_none (trk h H) hm
  rw [z] at e; cases e
noncomputable def allNews (g h:Heap) (L:Addr):List (Addr×Obj):=(List.range h.objs.size).filterMap fun a=>if a=L\/(g.get? a).isSome=true then none else (h.get? a).map fun o=>(a,o)
noncomputable def rest (g h:Heap) (L d:Addr):List (Addr×Obj):=(allNews g h L).filter fun p=>decide (p.1≠d)
structure Mod (K:Frag) (mg:Str->Option Value) (base:Heap):Prop where
 kin:K.In base
 glob:base.Ns mainGlobals mg
 blt:∃ mb,base.Ns builtinsNs mb/\∀ x:Str,x ≠ "__name__"->mb x=bootBuiltins x
 nolimit:base.NoLimit
structure Cx where
 prog:Program
 w:World
 K:Frag
 mg:Str->Option Value
 base:Heap
 A:Around
 N:List Str
 s₀:Shared
 H₀:Hp
 env:Env
 outer:List Env
 stack:List Env
 ex:List Addr
 fn:Str->Bool
 calm:Bool
 pn:List (Addr×Obj)
 xe:Value->Shared->Prop
noncomputable def frs (l:List Env):List Addr:=l.filterMap (·.frame)
abbrev Cx.fs (X:Cx):List Addr:=frs X.outer
def Vis (sc:Scope) (x:Str):Prop:=sc.names.lookup x=some .local\/sc.names.lookup x=some .cell\/sc.names.lookup x=some .free
def Loc (sc:Scope) (x:Str):Prop:=sc.names.lookup x=some .local\/sc.names.lookup x=some .cell
def Look (env:Env) (h:Heap) (m:Str->Option Value) (x:Str) (u:Value):Prop:=
 (env.kindOf x=some .local/\m x=some u)\/((env.kindOf x=some .cell\/env.kindOf x=some .free)/\∃ c,env.cells.lookup x=some c/\h.IsCell c (some u))
structure Cx.Ok (X:Cx):Prop where
 mod:Mod X.K X.mg X.base
 kind:X.env.scope.kind=.function
 glob:X.env.globals=mainGlobals
 blt:X.env.builtins=builtinsNs
 above:X.s₀.heap.objs.size<=X.env.locals
 inj:∀ x y c,X.env.cells.lookup x=some c->X.env.cells.lookup y=some c->x=y
 has:∀ x,(X.env.kindOf x=some .cell\/X.env.kindOf x=some .free)->∃ c,X.env.cells.lookup x=some c
 cab:∀ x c,X.fn x=true->X.env.cells.lookup x=some c->X.s₀.heap.objs.size<=c
 hd:X.calm=true->X.A.handled=none
 frames:X.A.frames=some X.stack
 stk:X.stack=X.outer\/(X.stack=X.env::X.outer/\X.env.frame=some X.env.locals)
 exf:∀ b∈X.ex,b≠X.env.locals/\∀ x c,X.env.cells.lookup x=some c->c≠b
 bs:∀ b o,X.base.get? b=some o->X.s₀.heap.get? b=some o/\X.H₀ b=none
 bsz:X.base.objs.size<=X.s₀.heap.objs.size
 noex:∀ b o,X.base.get? b=some o->b∉X.ex
 exfs:∀ b∈X.ex,b∉X.fs
 funs:X.s₀.heap.FunFrames X.base X.outer
 frf:∀ b∈X.fs,X.H₀ b=none
structure Inv (X:Cx) (pins:List (Addr×Obj)) (σ:List (Option V)) (H:Hp) (s:Shared):Prop where
 ok:X.Ok
 os:s.os=X.s₀.os
 bare:AllBare s.gens
 base:Un X.fs X.ex X.H₀ H X.s₀.heap s.heap
 loc:∃ m,s.heap.Ns X.env.locals m/\∀ (i:Nat) (x:Str) (v:V),X.N[i]?=some x->σ[i]?=some (some v)->Vis X.env.scope x->∃ u,RelV v u/\Look X.env s.heap m x u
 cell:∀ x c,X.env.cells.lookup x=some c->∃ v,s.heap.IsCell c v
 free:H X.env.locals=none
 freeC:∀ x c,X.env.cells.lookup x=some c->H c=none
 pin:∀ p∈X.pn++pins,s.heap.get? p.1=some p.2/\H p.1=none/\p.1≠X.env.locals/\p.1∉X.fs/\∀ v,p.2.data≠.cell v
 hok:HOk X.prog X.w H s.heap
 len:σ.length=X.N.length
section
variable {X:Cx} {pins:List (Addr×Obj)} {σ:List (Option V)} {H H':Hp} {s:Shared} {h':Heap}
theorem Cx.Ok.nofr (ok:X.Ok) {b:Addr} {o:Obj} (e:X.base.get? b=some o):b∉X.fs:=fun hb=>by
 have:=(ok.funs.mem hb).1
 rw [e] at this; cases this
theorem Inv.bs (I:Inv X pins σ H s):∀ b o,X.base.get? b=some o->s.heap.get? b=some o/\H b=none:=fun b o e=>
 ⟨I.base.keep b o (I.ok.bs b o e).1 (I.ok.bs b o e).2 (I.ok.nofr e) (I.ok.noex b o e),I.base.free b o (I.ok.bs b o e).1 (I.ok.bs b o e).2 (I.ok.noex b o e)⟩
theorem Inv.bk (I:Inv X pins σ H s):∀ b o,X.base.get? b=some o->s.heap.get? b=some o:=fun b o e=>(I.bs b o e).1
theorem Inv.mod (I:Inv X pins σ H s):Mod X.K X.mg X.base:=I.ok.mod
theorem Inv.kIn (I:Inv X pins σ H s):X.K.In s.heap:=I.ok.mod.kin.keeps I.bk
theorem Inv.nolimit (I:Inv X pins σ H s):s.heap.NoLimit:=I.ok.mod.nolimit.keeps I.bk
theorem Inv.fr (I:Inv X pins σ H s):∃ m,Fr X.base X.env.locals s.heap m:=
 let ⟨m,hn,_⟩:=I.loc
 ⟨m,hn,I.bk,Nat.le_trans I.ok.bsz I.ok.above⟩
theorem Inv.lt (I:Inv X pins σ H s):X.env.locals < s.heap.objs.size:=let ⟨_,hn,_⟩:=I.loc; hn.lt
theorem Inv.sz (I:Inv X pins σ H s):X.s₀.heap.objs.size<=s.heap.objs.size:=Nat.le_trans I.ok.above (Nat.le_of_lt I.lt)
theorem Inv.nofs (I:Inv X pins σ H s) {a:Addr} (h:s.heap.objs.size<=a):a∉X.fs:=fun hb=>by
 obtain ⟨_,o,ho,_⟩:=I.ok.funs.mem hb
 exact absurd (Nat.lt_of_lt_of_le (Heap.lt_size ho) (Nat.le_trans I.sz h)) (Nat.lt_irrefl _)
theorem Inv.cne (I:Inv X pins σ H s):∀ x c,X.env.cells.lookup x=some c->c≠X.env.locals:=fun x c e z=>by
 obtain ⟨v,o,ho,hd⟩:=I.cell x c e
 obtain ⟨m,⟨o',es,ep,ho',hd',_⟩,_⟩:=I.loc
 rw [z,ho'] at ho; cases ho; rw [hd'] at hd; cases hd
theorem Inv.funs (I:Inv X pins σ H s):s.heap.FunFrames X.base X.outer:=by
 have all:∀ (l:List Env),(∀ b∈frs l,b∈X.fs)->X.s₀.heap.FunFrames X.base l->s.heap.FunFrames X.base l:=by
  intro l
  induction l with
  | nil=>intro _ _; trivial
  | cons env r ih=>
   intro hs hl
   obtain ⟨hk,⟨L,o,hf,hn,ho,hd⟩,hr⟩:=hl
   have hL:L∈X.fs:=hs L (by unfold frs; rw [List.filterMap_cons,hf]; exact List.mem_cons_self)
   obtain ⟨sl,e⟩:=I.base.slot L o ho (I.ok.frf L hL) hL fun z=>I.ok.exfs L z hL
   exact ⟨hk,⟨L,_,hf,hn,e,hd⟩,ih (fun b hb=>hs b (by unfold frs; rw [List.filterMap_cons,hf]; exact List.mem_cons_of_mem _ hb)) hr⟩
 exact all X.outer (fun _ hb=>hb) I.ok.funs
theorem Inv.stack (I:Inv X pins σ H s):s.heap.FunFrames X.base X.stack:=by
 rcases I.ok.stk with e | ⟨e,hf⟩
 ·rw [e]; exact I.funs
 ·rw [e]
  obtain ⟨m,hn,_⟩:=I.loc
  refine .cons (by rw [I.ok.kind]; decide) hf hn ?_ I.funs
  exact Heap.get?_none_of_le (Nat.le_trans I.ok.bsz I.ok.above)
theorem Inv.stkSub (I:Inv X pins σ H s):∀ b∈frs X.stack,b∈X.env.locals::X.fs:=fun b hb=>by
 rcases I.ok.stk with e | ⟨e,hf⟩
 ·rw [e] at hb; exact List.mem_cons_of_mem _ hb
 ·rw [e] at hb
  unfold frs at hb
  rw [List.filterMap_cons,hf] at hb
  exact hb
theorem Inv.stkFree (I:Inv X pins σ H s):∀ b∈frs X.stack,H b=none:=fun b hb=>by
 rcases List.mem_cons.mp (I.stkSub b hb) with e | hb
 ·rw [e]; exact I.free
 ·obtain ⟨_,o,ho,_⟩:=I.ok.funs.mem hb
  exact I.base.free b o ho (I.ok.frf b hb) fun z=>I.ok.exfs b z hb
theorem Inv.step {g':Array GenState} {t':Nat} {d':Drawn} {ch:List Addr} (I:Inv X pins σ H s)
  (hch:∀ b∈ch,(b∈X.ex\/X.s₀.heap.objs.size<=b)/\b≠X.env.locals/\(∀ x c,X.env.cells.lookup x=some c->c≠b)/\∀ p∈X.pn++pins,p.1≠b)
  (keep:∀ b o,b≠X.env.locals->b∉X.fs->b∉ch->s.heap.get? b=some o->H b=none->h'.get? b=some o)
  (slot:∀ b o,b≠X.env.locals->b∈X.fs->b∉ch->s.heap.get? b=some o->H b=none->∃ sl,h'.get? b=some { o with slots:=sl }) (free:∀ b o,b∉ch->s.heap.get? b=some o->H b=none->H' b=none)
  (there:∀ b o,b∉ch->s.heap.get? b=some o->∃ o',h'.get? b=some o')
  (tups:∀ b xs,H b=some (.tup xs)->H' b=some (.tup xs)) (frzs:∀ b o u,H b=some (.frz o u)->H' b=some (.frz o u)) (tbls:∀ b ps,H b=some (.tbl ps)->∃ more,H' b=some (.tbl (ps++more)))
  (ns:∀ m,s.heap.Ns X.env.locals m->h'.Ns X.env.locals m) (hok:HOk X.prog X.w H' h') (hg:AllBare g') :
  Inv X pins σ H' { s with heap:=h',gens:=g',drawn:=d',toks:=t' }:=by
 have neL:∀ b o,X.s₀.heap.get? b=some o->b≠X.env.locals:=fun b o e=>Nat.ne_of_lt (Nat.lt_of_lt_of_le (Heap.lt_size e) I.ok.above)
 have neC:∀ b o,X.s₀.heap.get? b=some o->b∉X.ex->b∉ch:=fun b o e hx hb=>by
  rcases (hch b hb).1 with z | z
  ·exact hx z
  ·exact absurd (Nat.lt_of_lt_of_le (Heap.lt_size e) z) (Nat.lt_irrefl _)
 have cellK:∀ x c,X.env.cells.lookup x=some c->∀ v,s.heap.IsCell c v->h'.IsCell c v:=fun x c e v ⟨o,ho,hd⟩=>by
  have nch:c∉ch:=fun z=>(hch c z).2.2.1 x c e rfl
  by_cases hc:c∈X.fs
  ·obtain ⟨sl,q⟩:=slot c o (I.cne x c e) hc nch ho (I.freeC x c e)
   exact ⟨_,q,hd⟩
  ·exact ⟨o,keep c o (I.cne x c e) hc nch ho (I.freeC x c e),hd⟩
 refine ⟨I.ok,I.os,hg,⟨fun b o e n hb hx=>?_,fun b o e n hb hx=>?_,fun b o e n hx=>?_,fun b o e hx=>?_,fun b xs e=>tups b xs (I.base.tups b xs e),fun b o xs e=>frzs b o xs (I.base.frzs b o xs e),fun b ps e=>?_⟩,?_,fun x c e=>?_,?_,fun x c e=>?_,fun p hp=>?_,hok,I.len⟩
 ·exact keep b o (neL b o e) hb (neC b o e hx) (I.base.keep b o e n hb hx) (I.base.free b o e n hx)
 ·obtain ⟨sl,e1⟩:=I.base.slot b o e n hb hx
  obtain ⟨sl',e2⟩:=slot b _ (neL b o e) hb (neC b o e hx) e1 (I.base.free b o e n hx)
  exact ⟨sl',e2⟩
 ·obtain ⟨o',e1⟩:=I.base.there b o e hx
  exact free b o' (neC b o e hx) e1 (I.base.free b o e n hx)
 ·obtain ⟨o',e1⟩:=I.base.there b o e hx
  exact there b o' (neC b o e hx) e1
 ·obtain ⟨m1,e1⟩:=I.base.tbls b ps e
  obtain ⟨m2,e2⟩:=tbls b _ e1
  exact ⟨m1++m2,by rw [e2,Array.append_assoc]⟩
 ·obtain ⟨m,hn,hl⟩:=I.loc
  refine ⟨m,ns m hn,fun i x v e1 e2 e3=>?_⟩
  obtain ⟨u,r,l⟩:=hl i x v e1 e2 e3
  refine ⟨u,r,?_⟩
  rcases l with l | ⟨k,c,e,z⟩
  ·exact .inl l
  ·exact .inr ⟨k,c,e,cellK x c e _ z⟩
 ·obtain ⟨v,z⟩:=I.cell x c e
  exact ⟨v,cellK x c e v z⟩
 ·obtain ⟨m,⟨o,_,_,ho,_⟩,_⟩:=I.loc
  exact free _ o (fun z=>(hch _ z).2.1 rfl) ho I.free
 ·obtain ⟨v,o,ho,hd⟩:=I.cell x c e
  exact free c o (fun z=>(hch c z).2.2.1 x c e rfl) ho (I.freeC x c e)
 ·obtain ⟨e,n,ne,nf,d⟩:=I.pin p hp
  have nch:p.1∉ch:=fun z=>(hch p.1 z).2.2.2 p hp rfl
  exact ⟨keep p.1 p.2 ne nf nch e n,free p.1 p.2 nch e n,ne,nf,d⟩
theorem Inv.un {t':Nat} (I:Inv X pins σ H s) (u:Un X.fs [] H H' s.heap h') (hok:HOk X.prog X.w H' h'):Inv X pins σ H' { s with heap:=h',toks:=t' }:=by
 obtain ⟨m,⟨o,es,ep,ho,r⟩,_⟩:=id I.loc
 obtain ⟨sl,hL⟩:=u.any ho I.free (by simp)
 exact I.step (g':=s.gens) (d':=s.drawn) (ch:=[]) (fun _ z=>nomatch z) (fun b o _ hb _ e n=>u.keep b o e n hb (by simp)) (fun b o _ hb _ e n=>u.slot b o e n hb (by simp)) (fun b o _ e n=>u.free b o e n (by simp)) (fun b o _ e=>u.there b o e (by simp)) u.tups u.frzs u.tbls (fun m' hm=>by
  obtain ⟨o',es',ep',ho',r'⟩:=hm
  rw [ho] at ho'; cases ho'
  exact ⟨_,es',ep',hL,r'⟩) hok I.bare
theorem Inv.call {g':Array GenState} {t':Nat} {d':Drawn} {ch:List Addr} (I:Inv X pins σ H s) (u:Un (frs X.stack) ch H H' s.heap h') (hok:HOk X.prog X.w H' h') (hg:AllBare g')
  (hch:∀ b∈ch,(b∈X.ex\/X.s₀.heap.objs.size<=b)/\b≠X.env.locals/\(∀ x c,X.env.cells.lookup x=some c->c≠b)/\∀ p∈X.pn++pins,p.1≠b) :
  Inv X pins σ H' { s with heap:=h',gens:=g',drawn:=d',toks:=t' }:=by
 obtain ⟨m,⟨o,es,ep,ho,r⟩,_⟩:=id I.loc
 obtain ⟨sl,hL⟩:=u.any ho I.free fun z=>(hch _ z).2.1 rfl
 exact I.step (ch:=ch) hch (fun b o hL hb hc e n=>u.keep b o e n (fun z=>(List.mem_cons.mp (I.stkSub b z)).elim hL hb) hc) (fun b o _ _ hc e n=>u.any e n hc) (fun b o hc e n=>u.free b o e n hc) (fun b o hc e=>u.there b o e hc) u.tups u.frzs u.tbls (fun m' hm=>by
  obtain ⟨o',es',ep',ho',r'⟩:=hm
  rw [ho] at ho'; cases ho'
  exact ⟨_,es',ep',hL,r'⟩) hok hg
theorem Inv.turned {t':Nat} {it:Addr} (I:Inv X pins σ H s) (k:∀ b o,b≠it->s.heap.get? b=some o->h'.get? b=some o) (hn:H it=none) (hL:it≠X.env.locals)
  (h1:it∈X.ex\/X.s₀.heap.objs.size<=it) (h2:∀ x c,X.env.cells.lookup x=some c->c≠it) (h3:∀ p∈X.pn++pins,p.1≠it):Inv X pins σ H { s with heap:=h',toks:=t' }:=by
 have nit:∀ b u,H b=some u->b≠it:=fun b u e z=>by rw [z,hn] at e; cases e
 refine I.step (g':=s.gens) (d':=s.drawn) (ch:=[it]) (fun b hb=>?_) (fun b o _ _ hc e _=>k b o (fun z=>hc (by simp [z])) e) (fun b o _ _ hc e _=>⟨o.slots,k b o (fun z=>hc (by simp [z])) e⟩) (fun _ _ _ _ n=>n)
  (fun b o hc e=>⟨o,k b o (fun z=>hc (by simp [z])) e⟩) (fun _ _ e=>e) (fun _ _ _ e=>e) (fun b ps e=>⟨#[],by rw [e]; simp⟩) (fun m hm=>?_) (fun b u e=>?_) I.bare
 ·have e:b=it:=by simpa using hb
  subst e
  exact ⟨h1,hL,h2,h3⟩
 ·obtain ⟨o,es,ep,ho,r⟩:=hm
  exact ⟨o,es,ep,k _ o (Ne.symm hL) ho,r⟩
 ·refine (I.hok b u e).stay (fun c v hc q=>k c v ?_ q) (fun _ q=>q) fun _ _ q=>q
  rcases hc with z | z
  ·rw [z]; exact nit b u e
  ·exact nit c _ z
theorem Inv.tok (I:Inv X pins σ H s) (t:Nat):Inv X pins σ H { s with toks:=t }:=I.un (h':=s.heap) (t':=t) Un.refl I.hok
theorem Inv.kept {t':Nat} (I:Inv X pins σ H s) (k:∀ b u,s.heap.get? b=some u->h'.get? b=some u):Inv X pins σ H { s with heap:=h',toks:=t' }:=I.un (Un.kept k) (I.hok.kept k)
theorem Inv.laid {a:Addr} {o:HO} {t':Nat} (I:Inv X pins σ H s) (k:∀ b u,s.heap.get? b=some u->h'.get? b=some u) (hp:s.heap.objs.size<=a) (new:ObjOk X.prog X.w (upd H a o) h' a o) :
  Inv X pins σ (upd H a o) { s with heap:=h',toks:=t' }:=I.un (Un.laid k hp (I.hok.fresh hp)) (I.hok.laid k hp new)
theorem Inv.write {x e:Addr} {o:HO} {t':Nat} (I:Inv X pins σ H s) (mu:Mut (H x)) (he:e=x\/H e=some (.own x)) (k:∀ b u,b≠e->s.heap.get? b=some u->h'.get? b=some u) (heo:∃ u,h'.get? e=some u)
  (new:ObjOk X.prog X.w (upd H x o) h' x o):Inv X pins σ (upd H x o) { s with heap:=h',toks:=t' }:=I.un (Un.write mu he k heo) (I.hok.write mu he k heo new)
theorem Inv.weak {σ':List (Option V)} (I:Inv X pins σ H s) (hl:σ'.length=σ.length) (w:∀ (i:Nat) v,σ'[i]?=some (some v)->σ[i]?=some (some v)):Inv X pins σ' H s:=
 ⟨I.ok,I.os,I.bare,I.base,let ⟨m,hn,hl'⟩:=I.loc; ⟨m,hn,fun i x v e1 e2 e3=>hl' i x v e1 (w i v e2) e3⟩,I.cell,I.free,I.freeC,I.pin,I.hok,hl.trans I.len⟩
theorem Inv.pins_of {pins':List (Addr×Obj)} (I:Inv X pins σ H s) (h:∀ p∈pins',s.heap.get? p.1=some p.2/\H p.1=none/\p.1≠X.env.locals/\p.1∉X.fs/\∀ v,p.2.data≠.cell v):Inv X pins' σ H s:=
 ⟨I.ok,I.os,I.bare,I.base,I.loc,I.cell,I.free,I.freeC,fun p hp=>(List.mem_append.mp hp).elim (fun z=>I.pin p (List.mem_append_left _ z)) (h p),I.hok,I.len⟩
theorem nodup_ix {N:List Str} (hN:N.Nodup) {i j:Nat} {x:Str} (a:N[i]?=some x) (b:N[j]?=some x):i=j:=by
 obtain ⟨h1,e1⟩:=List.getElem?_eq_some_iff.mp a
 obtain ⟨h2,e2⟩:=List.getElem?_eq_some_iff.mp b
 exact (List.getElem_inj hN).mp (e1.trans e2.symm)
theorem store_ok2 {M:Model} {A:Around} {E:Value->Shared->Prop} {i:Nat} {x:Str} {v:V} {u:Value} {Q:Unit->Shared->Prop} (I:Inv X pins σ H s) (hN:X.N.Nodup) (hi:X.N[i]?=some x) (hx:Loc X.env.scope x) (r:RelV v u)
  (h:∀ s',Inv X pins (σ.set i (some v)) H s'->(∃ a,Heap.SameBut a s.heap s'.heap/\(a=X.env.locals\/X.env.cells.lookup x=some a))->Q () s') (hf:X.fn x=true\/X.env.scope.names.lookup x=some .local:=by first | exact .inl rfl | exact .inr rfl | assumption):wpAny M A (storeName X.env x u) Q E s:=by
 obtain ⟨m,hn,hl⟩:=id I.loc
 have hcls:(X.env.scope.kind == .class||(X.env.scope.kind == .module&&X.env.locals != X.env.globals))=false:=by rw [I.ok.kind]; rfl
 have hiσ:i < σ.length:=by rw [I.len]; exact (List.getElem?_eq_some_iff.mp hi).1
 have cne:=I.cne
 have tracked:∀ {a:Addr} {h':Heap},(∃ o,s.heap.get? a=some o/\H a=none)->Heap.SameBut a s.heap h'->HOk X.prog X.w H h':=fun {a h'} ha hs b ob e=>by
  obtain ⟨_,_,hfree⟩:=ha
  refine (I.hok b ob e).stay (fun c w' hc q=>(hs.2 c ?_).trans q) (fun _ q=>q) fun _ _ q=>q
  rintro rfl
  rcases hc with rfl | hc
  ·rw [hfree] at e; cases e
  ·rw [hfree] at hc; cases hc
 rcases hx with hk | hk
 ·refine wpAny_storeName_local hk hn (fun h' hn' hs=>?_) hcls
  obtain ⟨oL,_,_,hoL,_⟩:=id hn
  refine h _ ⟨I.ok,I.os,I.bare,⟨fun b o e n hb hx=>?_,fun b o e n hb hx=>?_,I.base.free,fun b o e hx=>?_,I.base.tups,I.base.frzs,I.base.tbls⟩,⟨_,hn',fun j y v' e1 e2 e3=>?_⟩,fun y c e=>?_,I.free,I.freeC,fun p hp=>?_,tracked ⟨oL,hoL,I.free⟩ hs,by simpa using I.len⟩ ⟨_,hs,.inl rfl⟩
  ·exact (hs.2 b (Nat.ne_of_lt (Nat.lt_of_lt_of_le (Heap.lt_size e) I.ok.above))).trans (I.base.keep b o e n hb hx)
  ·obtain ⟨sl,e1⟩:=I.base.slot b o e n hb hx
   exact ⟨sl,(hs.2 b (Nat.ne_of_lt (Nat.lt_of_lt_of_le (Heap.lt_size e) I.ok.above))).trans e1⟩
  ·obtain ⟨o',e1⟩:=I.base.there b o e hx
   exact ⟨o',(hs.2 b (Nat.ne_of_lt (Nat.lt_of_lt_of_le (Heap.lt_size e) I.ok.above))).trans e1⟩
  ·by_cases hj:j=i
   ·subst hj
    rw [hi] at e1; cases e1
    rw [List.getElem?_set_self hiσ] at e2
    cases e2
    exact ⟨u,r,.inl ⟨hk,by simp⟩⟩
   ·rw [List.getElem?_set_ne (Ne.symm hj)] at e2
    obtain ⟨u',r',q⟩:=hl j y v' e1 e2 e3
    refine ⟨u',r',?_⟩
    rcases q with ⟨k,e⟩ | ⟨k,c,e,z⟩
    ·refine .inl ⟨k,?_⟩
     have:y≠x:=fun e=>hj (nodup_ix hN e1 (e ▸ hi))
     simp [this,e]
    ·exact .inr ⟨k,c,e,z.sameBut hs (cne y c e)⟩
  ·obtain ⟨w',z⟩:=I.cell y c e
   exact ⟨w',z.sameBut hs (cne y c e)⟩
  ·obtain ⟨e,n,ne,nf,d⟩:=I.pin p hp
   exact ⟨(hs.2 p.1 ne).trans e,n,ne,nf,d⟩
 ·have hfn:X.fn x=true:=by
   rcases hf with z | z
   ·exact z
   ·rw [z] at hk; cases hk
  obtain ⟨c,hc⟩:=I.ok.has x (.inl hk)
  obtain ⟨w',z⟩:=I.cell x c hc
  refine wpAny_storeName_cell I.ok.kind hk hc z (fun h' hc' hs=>?_)
  obtain ⟨oc,hoc,hocd⟩:=id z
  refine h { s with heap:=h' } ⟨I.ok,I.os,I.bare,⟨fun b o e n hb hx=>?_,fun b o e n hb hx=>?_,I.base.free,fun b o e hx=>?_,I.base.tups,I.base.frzs,I.base.tbls⟩,⟨m,hn.sameBut hs (Ne.symm (cne x c hc)),fun j y v' e1 e2 e3=>?_⟩,fun y c' e=>?_,I.free,I.freeC,fun p hp=>?_,tracked ⟨oc,hoc,I.freeC x c hc⟩ hs,by simpa using I.len⟩ ⟨c,hs,.inr hc⟩
  ·exact (hs.2 b (Nat.ne_of_lt (Nat.lt_of_lt_of_le (Heap.lt_size e) (I.ok.cab x c hfn hc)))).trans (I.base.keep b o e n hb hx)
  ·obtain ⟨sl,e1⟩:=I.base.slot b o e n hb hx
   exact ⟨sl,(hs.2 b (Nat.ne_of_lt (Nat.lt_of_lt_of_le (Heap.lt_size e) (I.ok.cab x c hfn hc)))).trans e1⟩
  ·obtain ⟨o',e1⟩:=I.base.there b o e hx
   exact ⟨o',(hs.2 b (Nat.ne_of_lt (Nat.lt_of_lt_of_le (Heap.lt_size e) (I.ok.cab x c hfn hc)))).trans e1⟩
  ·by_cases hj:j=i
   ·subst hj
    rw [hi] at e1; cases e1
    rw [List.getElem?_set_self hiσ] at e2
    cases e2
    exact ⟨u,r,.inr ⟨.inl hk,c,hc,hc'⟩⟩
   ·rw [List.getElem?_set_ne (Ne.symm hj)] at e2
    obtain ⟨u',r',q⟩:=hl j y v' e1 e2 e3
    refine ⟨u',r',?_⟩
    rcases q with q | ⟨k,c',e,z'⟩
    ·exact .inl q
    ·refine .inr ⟨k,c',e,z'.sameBut hs ?_⟩
     rintro rfl
     exact hj (nodup_ix hN e1 (I.ok.inj _ _ _ e hc ▸ hi))
  ·by_cases hcc:c'=c
   ·subst hcc; exact ⟨_,hc'⟩
   ·obtain ⟨w2,z2⟩:=I.cell y c' e
    exact ⟨w2,z2.sameBut hs hcc⟩
  ·obtain ⟨e,n,ne,nf,d⟩:=I.pin p hp
   refine ⟨(hs.2 p.1 ?_).trans e,n,ne,nf,d⟩
   intro q
   rw [q,hoc] at e
   have q':oc=p.2:=Option.some.inj e
   exact d w' (by rw [<-q']; exact hocd)
theorem store_ok {M:Model} {A:Around} {E:Value->Shared->Prop} {i:Nat} {x:Str} {v:V} {u:Value} {Q:Unit->Shared->Prop} (I:Inv X pins σ H s) (hN:X.N.Nodup) (hi:X.N[i]?=some x) (hx:Loc X.env.scope x) (r:RelV v u)
  (h:∀ s',Inv X pins (σ.set i (some v)) H s'->Q () s') (hf:X.fn x=true\/X.env.scope.names.lookup x=some .local:=by first | exact .inl rfl | exact .inr rfl | assumption):wpAny M A (storeName X.env x u) Q E s:=
 store_ok2 I hN hi hx r (fun s' I' _=>h s' I') hf
theorem Inv.call' {s':Shared} {ch:List Addr} (I:Inv X pins σ H s) (ho:s'.os=s.os) (u:Un (frs X.stack) ch H H' s.heap s'.heap) (hok:HOk X.prog X.w H' s'.heap) (hg:AllBare s'.gens)
  (hch:∀ b∈ch,(b∈X.ex\/X.s₀.heap.objs.size<=b)/\b≠X.env.locals/\(∀ x c,X.env.cells.lookup x=some c->c≠b)/\∀ p∈X.pn++pins,p.1≠b):Inv X pins σ H' s':=by
 obtain ⟨h',g',d',t',o'⟩:=s'
 have e:o'=s.os:=ho
 subst e
 exact I.call (g':=g') (t':=t') (d':=d') u hok hg hch
end
abbrev XK:=Value->Option Addr->Hp->Prop
abbrev St:=List (Option V)
abbrev VK:=V->Hp->Prop
abbrev TE:=St->Hp->VK->Prop
abbrev TT:=St->Hp->(Bool->Hp->Prop)->Prop
abbrev TA:=St->Hp->(List V->Hp->Prop)->Prop
structure Ends where
 nx:St->Hp->Prop
 rt:VK
 bk:St->Hp->Prop:=fun _ _=>False
 ct:St->Hp->Prop:=fun _ _=>False
abbrev TS:=Ends->St->Hp->Prop
def EP (X:Cx) (pins:List (Addr×Obj)) (σ:St) (Q:VK) (u:Value) (s':Shared):Prop:=∃ v H',Inv X pins σ H' s'/\RelV v u/\Q v H'
def TP (X:Cx) (pins:List (Addr×Obj)) (σ:St) (Q:Bool->Hp->Prop) (b:Bool) (s':Shared):Prop:=∃ H',Inv X pins σ H' s'/\Q b H'
def AP (X:Cx) (pins:List (Addr×Obj)) (σ:St) (Q:List V->Hp->Prop) (us:List Value) (s':Shared):Prop:=∃ vs H',Inv X pins σ H' s'/\Vals vs us/\Q vs H'
def SP (X:Cx) (pins:List (Addr×Obj)) (D:Ends) (f:Flow) (s':Shared):Prop:=
 match f with
 | .next=>∃ σ' H',Inv X pins σ' H' s'/\D.nx σ' H'
 | .brk=>∃ σ' H',Inv X pins σ' H' s'/\D.bk σ' H'
 | .cont=>∃ σ' H',Inv X pins σ' H' s'/\D.ct σ' H'
 | .ret u=>∃ v σ' H',Inv X pins σ' H' s'/\RelV v u/\D.rt v H'
structure PE (X:Cx) (e:Expr) (t:TE):Prop where
 run:∀ (pins:List (Addr×Obj)) (s:Shared) (σ:St) (H:Hp) (Q:VK),Inv X pins σ H s->t σ H Q->wpAny (model X.prog X.w) X.A (eval e X.env) (EP X pins σ Q) X.xe s
instance {X:Cx} {e:Expr} {t:TE}:CoeFun (PE X e t) (fun _=>∀ (pins:List (Addr×Obj)) (s:Shared) (σ:St) (H:Hp) (Q:VK),Inv X pins σ H s->t σ H Q->wpAny (model X.prog X.w) X.A (eval e X.env) (EP X pins σ Q) X.xe s):=⟨fun h=>h.run⟩
structure PT (X:Cx) (e:Expr) (t:TT):Prop where
 run:∀ (pins:List (Addr×Obj)) (s:Shared) (σ:St) (H:Hp) (Q:Bool->Hp->Prop),Inv X pins σ H s->t σ H Q->wpAny (model X.prog X.w) X.A (isTrue e X.env (eval e X.env)) (TP X pins σ Q) X.xe s
instance {X:Cx} {e:Expr} {t:TT}:CoeFun (PT X e t) (fun _=>∀ (pins:List (Addr×Obj)) (s:Shared) (σ:St) (H:Hp) (Q:Bool->Hp->Prop),Inv X pins σ H s->t σ H Q->wpAny (model X.prog X.w) X.A (isTrue e X.env (eval e X.env)) (TP X pins σ Q) X.xe s):=⟨fun h=>h.run⟩
structure PW (X:Cx) (e:Expr) (t:TT):Prop where
 run:∀ (whole:Sem Value) (pins:List (Addr×Obj)) (s:Shared) (σ:St) (H:Hp) (Q:Bool->Hp->Prop),Inv X pins σ H s->t σ H Q->wpAny (model X.prog X.w) X.A (isTrue e X.env whole) (TP X pins σ Q) X.xe s
instance {X:Cx} {e:Expr} {t:TT}:CoeFun (PW X e t) (fun _=>∀ (whole:Sem Value) (pins:List (Addr×Obj)) (s:Shared) (σ:St) (H:Hp) (Q:Bool->Hp->Prop),Inv X pins σ H s->t σ H Q->wpAny (model X.prog X.w) X.A (isTrue e X.env whole) (TP X pins σ Q) X.xe s):=⟨fun h=>h.run⟩
theorem PW.pt {X:Cx} {e:Expr} {t:TT} (h:PW X e t):PT X e t:=⟨h.run _⟩
structure PA (X:Cx) (es:List Expr) (t:TA):Prop where
 run:∀ (pos:Pos) (pins:List (Addr×Obj)) (s:Shared) (σ:St) (H:Hp) (Q:List V->Hp->Prop),Inv X pins σ H s->t σ H Q->wpAny (model X.prog X.w) X.A (spliced (backTo pos (starEach es X.env))) (AP X pins σ Q) X.xe s
instance {X:Cx} {es:List Expr} {t:TA}:CoeFun (PA X es t) (fun _=>∀ (pos:Pos) (pins:List (Addr×Obj)) (s:Shared) (σ:St) (H:Hp) (Q:List V->Hp->Prop),Inv X pins σ H s->t σ H Q->wpAny (model X.prog X.w) X.A (spliced (backTo pos (starEach es X.env))) (AP X pins σ Q) X.xe s):=⟨fun h=>h.run⟩
structure PS (X:Cx) (st:Stmt) (t:TS):Prop where
 run:∀ (pins:List (Addr×Obj)) (s:Shared) (σ:St) (H:Hp) (D:Ends),Inv X pins σ H s->t D σ H->wpAny (model X.prog X.w) X.A (exec st X.env) (SP X pins D) X.xe s
instance {X:Cx} {st:Stmt} {t:TS}:CoeFun (PS X st t) (fun _=>∀ (pins:List (Addr×Obj)) (s:Shared) (σ:St) (H:Hp) (D:Ends),Inv X pins σ H s->t D σ H->wpAny (model X.prog X.w) X.A (exec st X.env) (SP X pins D) X.xe s):=⟨fun h=>h.run⟩
structure PSs (X:Cx) (st:List Stmt) (t:TS):Prop where
 run:∀ (pins:List (Addr×Obj)) (s:Shared) (σ:St) (H:Hp) (D:Ends),Inv X pins σ H s->t D σ H->wpAny (model X.prog X.w) X.A (execs st X.env) (SP X pins D) X.xe s
instance {X:Cx} {st:List Stmt} {t:TS}:CoeFun (PSs X st t) (fun _=>∀ (pins:List (Addr×Obj)) (s:Shared) (σ:St) (H:Hp) (D:Ends),Inv X pins σ H s->t D σ H->wpAny (model X.prog X.w) X.A (execs st X.env) (SP X pins D) X.xe s):=⟨fun h=>h.run⟩
theorem thn {α:Type} {t:Sem α} {Q Q':α->Shared->Prop} {M:Model} {A:Around} {E:Value->Shared->Prop} {s:Shared} (h:wpAny M A t Q E s) (hQ:∀ a s,Q a s->Q' a s):wpAny M A t Q' E s:=wpAny_mono h hQ fun _ _ x=>x
section
variable {X:Cx}
def tVar (i:Nat):TE:=fun σ H Q=>∃ v,σ[i]?=some (some v)/\Q v H
def tC (v:V):TE:=fun _ H Q=>Q v H
theorem pe_var {i:Nat} {x:Str} {pos:Pos} (hN:X.N[i]?=some x) (hv:Vis X.env.scope x) (hd:(x == ("__debug__":Str))=false:=by decide) (hcd:(x == ("__classdict__":Str))=false:=by decide):PE X (.Name x pos) (tVar i):=by
 refine ⟨?_⟩
 intro pins s σ H Q I h
 obtain ⟨v,e,h⟩:=h
 obtain ⟨m,hn,hl⟩:=I.loc
 obtain ⟨u,r,l⟩:=hl i x v hN e hv
 have fin:EP X pins σ Q u s:=⟨v,H,I,r,h⟩
 rcases l with ⟨hk,hm⟩ | ⟨hk,c,hc,hcell⟩
 ·exact wpAny_Name (wpAny_loadName_local I.ok.kind hk hn hm fin) hd
 ·rcases hk with hk | hk
  ·exact wpAny_Name (wpAny_loadName_cell I.ok.kind hk hc hcell fin) hd
  ·exact wpAny_Name (wpAny_loadName_free I.ok.kind hk hc hcell fin hcd) hd
theorem pe_int {i j pos}:PE X (.Constant (.int i) j pos) (tC (.int i)):=⟨fun _ _ _ H _ I h=>wpAny_Constant_int ⟨.int i,H,I.tok _,⟨_,rfl⟩,h⟩⟩
theorem pe_bl {b j pos}:PE X (.Constant (.bool b) j pos) (tC (.bl b)):=⟨fun _ _ _ H _ I h=>Constant_bool ⟨.bl b,H,I,rfl,h⟩⟩
theorem pe_non {j pos}:PE X (.Constant .none j pos) (tC .non):=⟨fun _ _ _ H _ I h=>Constant_none ⟨.non,H,I,rfl,h⟩⟩
theorem pe_str {x j pos}:PE X (.Constant (.str x) j pos) (tC (.str x)):=⟨fun _ _ _ H _ I h=>Calls.Constant_str ⟨.str x,H,I.tok _,⟨_,rfl⟩,h⟩⟩
def Gl (X:Cx) (x:Str):Prop:=X.env.kindOf x=some .globalImplicit
theorem ld_glob {E:Value->Shared->Prop} {pins:List (Addr×Obj)} {s:Shared} {σ:St} {H:Hp} {x:Str} {u:Value} {pos:Pos} {Q:Value->Shared->Prop} (I:Inv X pins σ H s) (hg:Gl X x) (hm:X.mg x=some u) (h:Q u s)
  (hd:(x == ("__debug__":Str))=false:=by decide):wpAny (model X.prog X.w) X.A (eval (.Name x pos) X.env) Q E s:=
 Calls.Name_function_global I.ok.kind hg (Calls.loadGlobal_global (by rw [I.ok.glob]; exact I.mod.glob.keeps I.bk) hm h) hd
theorem ld_blt {E:Value->Shared->Prop} {pins:List (Addr×Obj)} {s:Shared} {σ:St} {H:Hp} {x:Str} {u:Value} {pos:Pos} {Q:Value->Shared->Prop} (I:Inv X pins σ H s) (hg:Gl X x) (hm:X.mg x=none) (hv:bootBuiltins x=some u) (h:Q u s)
  (hn:x ≠ "__name__":=by decide) (hd:(x == ("__debug__":Str))=false:=by decide):wpAny (model X.prog X.w) X.A (eval (.Name x pos) X.env) Q E s:=by
 obtain ⟨mb,h1,h2⟩:=I.mod.blt
 exact Calls.Name_function_global I.ok.kind hg (Calls.loadGlobal_builtin (by rw [I.ok.glob]; exact I.mod.glob.keeps I.bk) hm (by rw [I.ok.blt]; exact h1.keeps I.bk) ((h2 x hn).trans hv) h) hd
theorem pe_glob {x:Str} {v:V} {u:Value} {pos:Pos} (hg:Gl X x) (hm:X.mg x=some u) (r:RelV v u) (hd:(x == ("__debug__":Str))=false:=by decide):PE X (.Name x pos) (tC v):=⟨fun _ _ _ H _ I h=>ld_glob I hg hm ⟨v,H,I,r,h⟩ hd⟩
theorem pe_bltn {x:Str} {v:V} {u:Value} {pos:Pos} (hg:Gl X x) (hm:X.mg x=none) (hv:bootBuiltins x=some u) (r:RelV v u) (hn:x ≠ "__name__":=by decide) (hd:(x == ("__debug__":Str))=false:=by decide):PE X (.Name x pos) (tC v):=⟨fun _ _ _ H _ I h=>ld_blt I hg hm hv ⟨v,H,I,r,h⟩ hn hd⟩
variable {a b:Expr} {ta tb:TE} {pos:Pos}
variable {tA tB':TT} {rest:List Expr}
def tOr (t u:TT):TT:=fun σ H Q=>t σ H fun c H1=>if c=true then Q true H1 else u σ H1 Q
def tNot (t:TT):TT:=fun σ H Q=>t σ H fun c H1=>Q (!c) H1
theorem pw_and1 (ha:PT X a tA):PW X (.BoolOp .And [a] pos) tA:=by
 refine ⟨?_⟩
 intro wh pins s σ H Q I h
 refine isTrue_and (thn (ha pins s σ H Q I h) fun c s1 e=>?_)
 cases c with
 | true=>exact isTrue_and_nil e
 | false=>exact e
theorem pw_or1 (ha:PT X a tA):PW X (.BoolOp .Or [a] pos) tA:=by
 refine ⟨?_⟩
 intro wh pins s σ H Q I h
 refine isTrue_or (thn (ha pins s σ H Q I h) fun c s1 e=>?_)
 cases c with
 | false=>exact isTrue_or_nil e
 | true=>exact e
theorem pw_or (ha:PT X a tA) (hb:PW X (.BoolOp .Or (b::rest) pos) tB'):PW X (.BoolOp .Or (a::b::rest) pos) (tOr tA tB'):=by
 refine ⟨?_⟩
 intro wh pins s σ H Q I h
 refine isTrue_or (thn (ha pins s σ H _ I h) fun c s1 ⟨H1,I1,q1⟩=>?_)
 cases c with
 | true=>exact ⟨H1,I1,q1⟩
 | false=>exact hb wh pins s1 σ H1 Q I1 q1
theorem pt_not (ha:PT X a tA):PT X (.UnaryOp .Not a pos) (tNot tA):=by
 refine ⟨?_⟩
 intro pins s σ H Q I h
 exact isTrue_not (ha pins s σ H (fun c H1=>Q (!c) H1) I h)
def tAndV (ta tb:TE):TE:=fun σ H Q=>ta σ H fun x H1=>∃ c,x=.bl c/\if c=true then tb σ H1 Q else Q (.bl false) H1
theorem pe_one {op} {t:TE} (h:PE X a t):PE X (.BoolOp op [a] pos) t:=⟨fun pins s σ H Q I hw=>BoolOp_one (h pins s σ H Q I hw)⟩
theorem pe_and (ha:PE X a ta) (hb:PE X (.BoolOp .And (b::rest) pos) tb):PE X (.BoolOp .And (a::b::rest) pos) (tAndV ta tb):=by
 refine ⟨?_⟩
 intro pins s σ H Q I h
 refine BoolOp_and (thn (ha pins s σ H _ I h) fun v s1 ⟨x,H1,I1,r1,q1⟩=>?_)
 obtain ⟨c,rfl,q1⟩:=q1
 cases r1
 refine wpAny_truthy_bool ?_
 cases c with
 | true=>exact hb pins s1 σ H1 Q I1 q1
 | false=>exact ⟨.bl false,H1,I1,rfl,q1⟩
def tIf (t:TT) (ta tb:TE):TE:=fun σ H Q=>t σ H fun c H1=>if c=true then ta σ H1 Q else tb σ H1 Q
theorem pe_ifExp {c:Expr} (hc:PT X c tA) (ha:PE X a ta) (hb:PE X b tb):PE X (.IfExp c a b pos) (tIf tA ta tb):=by
 refine ⟨?_⟩
 intro pins s σ H Q I h
 refine wpAny_IfExp (thn (hc pins s σ H _ I h) fun d s1 ⟨H1,I1,q1⟩=>?_)
 cases d with
 | true=>exact ha pins s1 σ H1 Q I1 q1
 | false=>exact hb pins s1 σ H1 Q I1 q1
end
def SqL (K:Frag) (H:Hp) (a:Addr) (xs:List V):Prop:=
 Rd H a (.lst xs) \/
  ∃ (o:Obj) (its:Array Value) (n:Nat),K.lookup a=some o/\o.cls=.type "list"/\o.dict=none/\o.data=.seq its n/\its.size<=sizeLine/\Vals xs its.toList
def SqT (K:Frag) (H:Hp) (a:Addr) (xs:List V):Prop:=
 Rd H a (.tup xs) \/
  ∃ (o:Obj) (its:Array Value) (n:Nat),K.lookup a=some o/\(o.cls=.type "tuple"/\o.dict=none)/\o.data=.seq its n/\its.size<=sizeLine/\Vals xs its.toList
noncomputable def absV:Value->Option V
 | .none=>some .non
 | .bool b=>some (.bl b)
 | .int i _=>some (.int i)
 | .str x _=>some (.str x)
 | .bytes b _=>some (.byt b)
 | .float b _=>some (.flt b)
 | .ref a=>some (.ref a)
 | .type n=>some (.ty n)
 | _=>none
theorem RelV.abs {x:V} {u:Value} (r:RelV x u):absV u=some x:=by
 cases x with
 | non=>cases r; rfl
 | bl _=>cases r; rfl
 | int _=>obtain ⟨t,rfl⟩:=r; rfl
 | str _=>obtain ⟨t,rfl⟩:=r; rfl
 | byt _=>obtain ⟨t,rfl⟩:=r; rfl
 | flt _=>obtain ⟨t,rfl⟩:=r; rfl
 | ref _=>cases r; rfl
 | ty _=>cases r; rfl
theorem RelV.inj {x y:V} {u:Value} (r:RelV x u) (q:RelV y u):x=y:=Option.some.inj (r.abs.symm.trans q.abs)
theorem Vals.inj:∀ {xs ys:List V} {us:List Value},Vals xs us->Vals ys us->xs=ys
 | _,_,_,.nil,.nil=>rfl
 | _,_,_,.cons r t,.cons r' t'=>by rw [r.inj r',Vals.inj t t']
section
variable {X:Cx} {pins:List (Addr×Obj)} {σ:St} {H:Hp} {s:Shared} {a:Addr} {xs ys:List V}
theorem Inv.list (I:Inv X pins σ H s) (h:SqL X.K H a xs):∃ its:List Value,Vals xs its/\PlainL s.heap a its.toArray/\xs.length<=sizeLine:=by
 rcases h with h | ⟨o,its,n,hk,hc,hd,hs,hz,r⟩
 ·obtain ⟨z,its,n,r,e⟩:=h.ok I.hok
  exact ⟨its,r,⟨_,n,e,rfl,rfl,rfl⟩,z⟩
 ·refine ⟨its.toList,r,⟨o,n,I.kIn a o hk,hc,hd,by simpa using hs⟩,?_⟩
  have e:=r.length
  simp only [Array.length_toList] at e
  omega
theorem Inv.tuple (I:Inv X pins σ H s) (h:SqT X.K H a xs):∃ its:List Value,Vals xs its/\IsTup s.heap a its.toArray/\xs.length<=sizeLine:=by
 rcases h with h | ⟨o,its,n,hk,hc,hs,hz,r⟩
 ·obtain ⟨⟨z,_⟩,its,r,p⟩:=h.ok I.hok
  exact ⟨its,r,p,z⟩
 ·refine ⟨its.toList,r,⟨o,I.kIn a o hk,hc.1,n,by simpa using hs⟩,?_⟩
  have e:=r.length
  simp only [Array.length_toList] at e
  omega
theorem Inv.list_inj (I:Inv X pins σ H s) (h:SqL X.K H a xs) (h':SqL X.K H a ys):xs=ys:=by
 obtain ⟨its,r,⟨o,n,e,_,_,d⟩,_⟩:=I.list h
 obtain ⟨its',r',⟨o',n',e',_,_,d'⟩,_⟩:=I.list h'
 rw [e] at e'; cases e'
 rw [d] at d'
 injection d' with d1 _
 have:its=its':=by simpa using congrArg Array.toList d1
 subst this
 exact r.inj r'
theorem Inv.tuple_inj (I:Inv X pins σ H s) (h:SqT X.K H a xs) (h':SqT X.K H a ys):xs=ys:=by
 obtain ⟨its,r,⟨o,e,_,n,d⟩,_⟩:=I.tuple h
 obtain ⟨its',r',⟨o',e',_,n',d'⟩,_⟩:=I.tuple h'
 rw [e] at e'; cases e'
 rw [d] at d'
 injection d' with d1 _
 have:its=its':=by simpa using congrArg Array.toList d1
 subst this
 exact r.inj r'
end
section
variable {X:Cx} {st:Stmt} {rest:List Stmt} {t u:TS} {e:Expr} {te:TE} {pos:Pos}
def tNext:TS:=fun D σ H=>D.nx σ H
def tSeq (t u:TS):TS:=fun D σ H=>t { D with nx:=u D } σ H
theorem pss_nil:PSs X [] tNext:=⟨fun _ _ σ H _ I h=>wpAny_execs_nil ⟨σ,H,I,h⟩⟩
theorem pss_cons (h1:PS X st t) (h2:PSs X rest u):PSs X (st::rest) (tSeq t u):=by
 refine ⟨?_⟩
 intro pins s σ H D I h
 refine wpAny_execs_cons (thn (h1 pins s σ H { D with nx:=u D } I h) fun f s1 q=>?_)
 cases f with
 | next=>
  obtain ⟨σ',H',I',q⟩:=q
  exact h2 pins s1 σ' H' D I' q
 | ret v=>exact q
 | brk=>exact q
 | cont=>exact q
theorem pss_one (h1:PS X st t):PSs X [st] t:=by
 refine ⟨?_⟩
 intro pins s σ H D I h
 refine wpAny_execs_cons (thn (h1 pins s σ H D I h) fun f s1 q=>?_)
 cases f with
 | next=>exact wpAny_execs_nil q
 | ret v=>exact q
 | brk=>exact q
 | cont=>exact q
theorem Inv.quiet {pins:List (Addr×Obj)} {σ:St} {H:Hp} {s:Shared} (I:Inv X pins σ H s):interactive X.env=false:=by simp [interactive,I.ok.kind]
def tDrop (te:TE):TS:=fun D σ H=>te σ H fun _ H1=>D.nx σ H1
theorem ps_expr (he:PE X e te) (hs:swapsWith e none pos.line X.env=pure false:=by rfl):PS X (.Expr e pos) (tDrop te):=by
 refine ⟨?_⟩
 intro pins s σ H D I h
 exact wpAny_Expr_any (thn (he pins s σ H _ I h) fun v s1 ⟨x,H1,I1,r1,q1⟩=>⟨σ,H1,I1,q1⟩) I.quiet hs
def tRet (te:TE):TS:=fun D σ H=>te σ H D.rt
theorem ps_ret (he:PE X e te):PS X (.Return (some e) pos) (tRet te):=by
 refine ⟨?_⟩
 intro pins s σ H D I h
 exact wpAny_Return_some (thn (he pins s σ H _ I h) fun v s1 ⟨x,H1,I1,r1,q1⟩=>⟨x,σ,H1,I1,r1,q1⟩)
def tIfS (c:TT) (t u:TS):TS:=fun D σ H=>c σ H fun b H1=>if b=true then t D σ H1 else u D σ H1
theorem ps_if {c:Expr} {a b:List Stmt} {tc:TT} (hc:PT X c tc) (ha:PSs X a t) (hb:PSs X b u):PS X (.If c a b pos) (tIfS tc t u):=by
 refine ⟨?_⟩
 intro pins s σ H D I h
 refine wpAny_If (thn (hc pins s σ H _ I h) fun d s1 ⟨H1,I1,q1⟩=>?_)
 cases d with
 | true=>exact ha pins s1 σ H1 D I1 q1
 | false=>exact hb pins s1 σ H1 D I1 q1
end
abbrev TG:=V->St->Hp->(St->Hp->Prop)->Prop
abbrev TGs:=List V->St->Hp->(St->Hp->Prop)->Prop
structure PG (X:Cx) (target:Expr) (t:TG):Prop where
 run:∀ (pins:List (Addr×Obj)) (s:Shared) (σ:St) (H:Hp) (v:V) (u:Value) (Q:St->Hp->Prop),Inv X pins σ H s->RelV v u->t v σ H Q ->
  wpAny (model X.prog X.w) X.A (assign target X.env u) (fun _ s'=>∃ σ' H',Inv X pins σ' H' s'/\Q σ' H') X.xe s
instance {X:Cx} {target:Expr} {t:TG}:CoeFun (PG X target t) (fun _=>∀ (pins:List (Addr×Obj)) (s:Shared) (σ:St) (H:Hp) (v:V) (u:Value) (Q:St->Hp->Prop),Inv X pins σ H s->RelV v u->t v σ H Q ->
  wpAny (model X.prog X.w) X.A (assign target X.env u) (fun _ s'=>∃ σ' H',Inv X pins σ' H' s'/\Q σ' H') X.xe s):=⟨fun h=>h.run⟩
structure PGs (X:Cx) (ts:List Expr) (t:TGs):Prop where
 run:∀ (pins:List (Addr×Obj)) (s:Shared) (σ:St) (H:Hp) (vs:List V) (us:List Value) (Q:St->Hp->Prop),Inv X pins σ H s->Vals vs us->t vs σ H Q ->
  wpAny (model X.prog X.w) X.A (assignInOrder ((assignEach ts X.env).map (·.2)) us) (fun _ s'=>∃ σ' H',Inv X pins σ' H' s'/\Q σ' H') X.xe s
instance {X:Cx} {ts:List Expr} {t:TGs}:CoeFun (PGs X ts t) (fun _=>∀ (pins:List (Addr×Obj)) (s:Shared) (σ:St) (H:Hp) (vs:List V) (us:List Value) (Q:St->Hp->Prop),Inv X pins σ H s->Vals vs us->t vs σ H Q ->
  wpAny (model X.prog X.w) X.A (assignInOrder ((assignEach ts X.env).map (·.2)) us) (fun _ s'=>∃ σ' H',Inv X pins σ' H' s'/\Q σ' H') X.xe s):=⟨fun h=>h.run⟩
section
variable {X:Cx} {pos:Pos}
def gName (i:Nat):TG:=fun v σ H Q=>Q (σ.set i (some v)) H
theorem pg_name {i:Nat} {x:Str} (hN:X.N.Nodup) (hi:X.N[i]?=some x) (hx:Loc X.env.scope x) (hf:X.fn x=true\/X.env.scope.names.lookup x=some .local:=by first | exact .inl rfl | exact .inr rfl | assumption):PG X (.Name x pos) (gName i):=by
 refine ⟨?_⟩
 intro pins s σ H v u Q I r h
 exact wpAny_assign_Name (store_ok I hN hi hx r (fun s' I'=>⟨_,H,I',h⟩) hf)
def gNil:TGs:=fun vs σ H Q=>vs=[]/\Q σ H
def gCons (t:TG) (u:TGs):TGs:=fun vs σ H Q=>∃ v r,vs=v::r/\t v σ H fun σ' H'=>u r σ' H' Q
theorem pgs_nil:PGs X [] gNil:=by
 refine ⟨?_⟩
 intro pins s σ H vs us Q I r h
 obtain ⟨e,h⟩:=h
 subst e
 cases r
 exact assignInOrder_nil ⟨σ,H,I,h⟩
theorem pgs_cons {e:Expr} {es:List Expr} {t:TG} {u:TGs} (h1:PG X e t) (h2:PGs X es u)
  (hs:(assignEach (e::es) X.env).map (·.2)=assign e X.env::(assignEach es X.env).map (·.2):=by rfl):PGs X (e::es) (gCons t u):=by
 refine ⟨?_⟩
 intro pins s σ H vs us Q I r h
 obtain ⟨v,vr,e1,h⟩:=h
 subst e1
 cases r with
 | cons r rr=>
  rw [hs]
  refine assignInOrder_cons (thn (h1 pins s σ H _ _ _ I r h) fun _ s1 ⟨σ1,H1,I1,q1⟩=>?_)
  exact h2 pins s1 σ1 H1 _ _ Q I1 rr q1
def gTup (K:Frag) (n:Nat) (t:TGs):TG:=fun v σ H Q=>∃ a xs,v=.ref a/\SqT K H a xs/\xs.length=n/\t xs σ H Q
theorem pg_tup {es:List Expr} {k:Nat} {t:TGs} {n:Nat} (hc:X.calm=true) (h:PGs X es t)
  (hn:(assignEach es X.env).length=n:=by rfl) (hst:(assignEach es X.env).findIdx? (·.1)=none:=by rfl):PG X (.Tuple es k pos) (gTup X.K n t):=by
 refine ⟨?_⟩
 intro pins s σ H v u Q I r hw
 obtain ⟨a,xs,e1,hq,hl,hw⟩:=hw
 subst e1
 cases r
 obtain ⟨its,rv,ht,hz⟩:=I.tuple hq
 refine assign_Tuple_tuple (I.ok.hd hc) ht (by simp [hn,<-hl,rv.length]) hst fun h' hx=>?_
 have I1:Inv X pins σ H { s with heap:=h' }:=I.kept (t':=s.toks) fun b o e=>hx b o (Nat.ne_of_lt (Heap.lt_size e)) e
 exact h pins _ σ H xs _ Q I1 (by simpa using rv) hw
def tAsg (te:TE) (g:TG):TS:=fun D σ H=>te σ H fun x H1=>g x σ H1 D.nx
theorem ps_set {i:Nat} {x:Str} {e:Expr} {te:TE} {pos':Pos} (hN:X.N.Nodup) (hi:X.N[i]?=some x) (hx:Loc X.env.scope x) (he:PE X e te) (hs:swapsWith e (some (.Name x pos')) pos.line X.env=pure false:=by rfl) (hf:X.fn x=true\/X.env.scope.names.lookup x=some .local:=by first | exact .inl rfl | exact .inr rfl | assumption) :
  PS X (.Assign [.Name x pos'] e pos) (tAsg te (gName i)):=by
 refine ⟨?_⟩
 intro pins s σ H D I h
 refine wpAny_Assign_Name (thn (he pins s σ H _ I h) fun v s1 ⟨y,H1,I1,r1,q1⟩=>?_) hs
 exact store_ok I1 hN hi hx r1 (fun s2 I2=>⟨_,H1,I2,q1⟩) hf
end
structure It where
 go:Nat->Hp->Prop
 yld:Nat->Hp->V->Hp->Prop
 stop:Nat->Hp->Prop
def FpOk (X:Cx) (pins:List (Addr×Obj)) (H:Hp) (b:Addr):Prop:=
 H b=none/\b≠X.env.locals/\b∉X.fs/\(b∈X.ex\/X.s₀.heap.objs.size<=b)/\(∀ x c,X.env.cells.lookup x=some c->c≠b)/\∀ p∈X.pn++pins,p.1≠b
theorem Inv.fpOk {X:Cx} {pins:List (Addr×Obj)} {σ:St} {H H':Hp} {s:Shared} {b:Addr} (I:Inv X pins σ H s) (hb:s.heap.objs.size<=b) (hn:H' b=none):FpOk X pins H' b:=by
 refine ⟨hn,Nat.ne_of_gt (Nat.lt_of_lt_of_le I.lt hb),I.nofs hb,.inr (Nat.le_trans I.sz hb),fun x c e z=>?_,fun p hp z=>?_⟩
 ·obtain ⟨v,q⟩:=I.cell x c e
  exact absurd (Nat.lt_of_lt_of_le q.lt (by rw [z]; exact hb)) (Nat.lt_irrefl _)
 ·exact absurd (Nat.lt_of_lt_of_le (Heap.lt_size (I.pin p hp).1) (by rw [z]; exact hb)) (Nat.lt_irrefl _)
structure Turn (P:Program) (w:World) (K:Frag) (tg:Expr) (J:It) (fp:List Addr) (it:Addr) (tn:Nat->Heap->Prop):Prop where
 mem:it∈fp
 obj:∀ i h,tn i h->∀ b∈fp,∃ o,h.get? b=some o/\∀ v,o.data≠.cell v
 keep:∀ i h h',tn i h->(∀ b∈fp,∀ o,h.get? b=some o->h'.get? b=some o)->tn i h'
 item:∀ (X:Cx),X.prog=P->X.w=w->X.K=K->X.calm=true->∀ (i:Nat) (pins:List (Addr×Obj)) (s:Shared) (σ:St) (H:Hp) (E:Value->Shared->Prop),Inv X pins σ H s->(∀ b∈fp,FpOk X pins H b)->tn i s.heap->J.go i H ->
  wpAny (model P w) X.A (pyNext (.ref it)) (fun r s1=>∃ u,r=some u /\
   wpAny (model P w) X.A (letOwnedTupleGo tg (.ref it) u) (fun _ s2=>∃ x H',Inv X pins σ H' s2/\RelV x u/\J.yld i H x H'/\tn (i+1) s2.heap/\∀ b∈fp,H' b=none) E s1) E s
 done:∀ (X:Cx),X.prog=P->X.w=w->X.K=K->X.calm=true->∀ (i:Nat) (pins:List (Addr×Obj)) (s:Shared) (σ:St) (H:Hp) (E:Value->Shared->Prop),Inv X pins σ H s->(∀ b∈fp,FpOk X pins H b)->tn i s.heap->J.stop i H ->
  wpAny (model P w) X.A (pyNext (.ref it)) (fun r s1=>r=none/\Inv X pins σ H s1) E s
 self:∀ (A:Around) (i:Nat) (s:Shared) (Q:Value->Shared->Prop) (E:Value->Shared->Prop),tn i s.heap->Q (.ref it) s->wpAny (model P w) A (pyIter (.ref it)) Q E s
abbrev TI:=St->Hp->(It->Hp->Prop)->Prop
def PIE (X:Cx) (pins:List (Addr×Obj)) (σ:St) (tg:Expr) (R:It->Hp->Prop) (itv:Value) (s2:Shared):Prop:=
 ∃ (it:Addr) (fp:List Addr) (tn:Nat->Heap->Prop) (J:It) (H':Hp),itv=.ref it/\Inv X pins σ H' s2/\Turn X.prog X.w X.K tg J fp it tn/\tn 0 s2.heap/\(∀ b∈fp,FpOk X pins H' b)/\R J H'
structure PI (X:Cx) (tg iter:Expr) (wi:TI):Prop where
 run:∀ (pins:List (Addr×Obj)) (s:Shared) (σ:St) (H:Hp) (R:It->Hp->Prop),Inv X pins σ H s->wi σ H R ->
  wpAny (model X.prog X.w) X.A (eval iter X.env) (fun v s1=>wpAny (model X.prog X.w) X.A (pyIter v) (PIE X pins σ tg R) X.xe s1) X.xe s
instance {X:Cx} {tg iter:Expr} {wi:TI}:CoeFun (PI X tg iter wi) (fun _=>∀ (pins:List (Addr×Obj)) (s:Shared) (σ:St) (H:Hp) (R:It->Hp->Prop),Inv X pins σ H s->wi σ H R ->
  wpAny (model X.prog X.w) X.A (eval iter X.env) (fun v s1=>wpAny (model X.prog X.w) X.A (pyIter v) (PIE X pins σ tg R) X.xe s1) X.xe s):=⟨fun h=>h.run⟩
theorem go_of {M:Model} {A:Around} {E:Value->Shared->Prop} {s:Shared} {tg:Expr} {it:Addr} {u:Value} {o:Obj} {n:String} {vs:Array Value} {Q:Unit->Shared->Prop} (ho:s.heap.get? it=some o) (hc:o.cls=.type n) (hd:o.data=.fields vs)
    (hn:["enumerate", "zip", "dict_itemiterator", "dict_reverseitemiterator", "odict_iterator", "itertools.zip_longest", "itertools.pairwise"].contains n=false) (hQ:Q () s):wpAny M A (letOwnedTupleGo tg (.ref it) u) Q E s:=by
  unfold letOwnedTupleGo
  cases tg <;> first
    | exact wpAny_pure hQ
    | (cases u <;> first
        | exact wpAny_pure hQ
        | (refine wpAny_bind (wpAny_load ho ?_)
           rw [hc,hd]
           show wpAny M A (if (["enumerate", "zip", "dict_itemiterator", "dict_reverseitemiterator", "odict_iterator", "itertools.zip_longest", "itertools.pairwise"].contains n&&vs[0]? == some (rawInt _))=true then _ else _) Q E s
           rw [if_neg (by intro h; rw [hn,Bool.false_and] at h; cases h)]
           exact wpAny_pure hQ))
noncomputable def Itl (K:Frag) (a:Addr):It:=
 ⟨fun i H=>∃ xs x,SqL K H a xs/\xs[i]?=some x,fun i H x H'=>H'=H/\∀ xs,SqL K H a xs->xs[i]?=some x,fun i H=>∃ xs,SqL K H a xs/\xs.length<=i⟩
noncomputable def Itt (K:Frag) (a:Addr):It:=
 ⟨fun i H=>∃ xs x,SqT K H a xs/\xs[i]?=some x,fun i H x H'=>H'=H/\∀ xs,SqT K H a xs->xs[i]?=some x,fun i H=>∃ xs,SqT K H a xs/\xs.length<=i⟩
noncomputable def Itr (lo:Int) (n:Nat):It:=⟨fun i _=>i < n,fun i H x H'=>H'=H/\x=.int (lo+i),fun i _=>n<=i⟩
theorem turn_list {P:Program} {w:World} {K:Frag} {tg:Expr} (a it:Addr):Turn P w K tg (Itl K a) [it] it (fun i h=>h.IsListIter it a i) where
 mem:=by simp
 obj:=fun i h st b hb=>by
  have e:b=it:=by simpa using hb
  subst e
  obtain ⟨o,e,c,d⟩:=st
  exact ⟨o,e,fun v z=>by rw [d] at z; cases z⟩
 keep:=fun i h h' st k=>st.at fun o e=>k it (by simp) o e
 item:=by
  intro X hP hw hK hc i pins s σ H E I hf st hg
  subst hP hw hK
  obtain ⟨xs,x,hq,hx⟩:=hg
  obtain ⟨its,rv,p,hz⟩:=I.list hq
  obtain ⟨u,hu,ru⟩:=rv.get hx
  obtain ⟨f0,f1,f2,f3,f4,f5⟩:=hf it (by simp)
  refine wpAny_pyNext_list_item st p.isList (x:=u) (by simpa using hu) fun h' st' sb=>?_
  have I1:Inv X pins σ H { s with heap:=h' }:=I.turned (t':=s.toks) (fun b o hb e=>(sb.2 b hb).trans e) f0 f1 f3 f4 f5
  obtain ⟨o,e,c,d⟩:=id st'
  exact ⟨u,rfl,go_of (s:={ s with heap:=h' }) e c d (by decide) ⟨x,H,I1,ru,⟨rfl,fun ys hy=>by rw [I.list_inj hy hq]; exact hx⟩,st',fun b hb=>(hf b hb).1⟩⟩
 done:=by
  intro X hP hw hK hc i pins s σ H E I hf st hg
  subst hP hw hK
  obtain ⟨xs,hq,hx⟩:=hg
  obtain ⟨its,rv,p,hz⟩:=I.list hq
  obtain ⟨f0,f1,f2,f3,f4,f5⟩:=hf it (by simp)
  have hl:=rv.length
  exact wpAny_pyNext_list_end (I.ok.hd hc) st p.isList (by simp; omega) fun h' eb=>⟨rfl,I.turned (t':=s.toks) (fun b o hb e=>eb b o hb e) f0 f1 f3 f4 f5⟩
 self:=fun _ _ _ _ _ st h=>wpAny_pyIter_listiter st h
theorem turn_tuple {P:Program} {w:World} {K:Frag} {tg:Expr} (a it:Addr):Turn P w K tg (Itt K a) [it] it (fun i h=>h.IsTupleIter it a i) where
 mem:=by simp
 obj:=fun i h st b hb=>by
  have e:b=it:=by simpa using hb
  subst e
  obtain ⟨o,e,c,d⟩:=st
  exact ⟨o,e,fun v z=>by rw [d] at z; cases z⟩
 keep:=fun i h h' st k=>st.at fun o e=>k it (by simp) o e
 item:=by
  intro X hP hw hK hc i pins s σ H E I hf st hg
  subst hP hw hK
  obtain ⟨xs,x,hq,hx⟩:=hg
  obtain ⟨its,rv,p,hz⟩:=I.tuple hq
  obtain ⟨u,hu,ru⟩:=rv.get hx
  obtain ⟨f0,f1,f2,f3,f4,f5⟩:=hf it (by simp)
  refine wpAny_pyNext_tuple_item st (show s.heap.IsTuple a its.toArray from p) (x:=u) (by simpa using hu) fun h' st' sb=>?_
  have I1:Inv X pins σ H { s with heap:=h' }:=I.turned (t':=s.toks) (fun b o hb e=>(sb.2 b hb).trans e) f0 f1 f3 f4 f5
  obtain ⟨o,e,c,d⟩:=id st'
  exact ⟨u,rfl,go_of (s:={ s with heap:=h' }) e c d (by decide) ⟨x,H,I1,ru,⟨rfl,fun ys hy=>by rw [I.tuple_inj hy hq]; exact hx⟩,st',fun b hb=>(hf b hb).1⟩⟩
 done:=by
  intro X hP hw hK hc i pins s σ H E I hf st hg
  subst hP hw hK
  obtain ⟨xs,hq,hx⟩:=hg
  obtain ⟨its,rv,p,hz⟩:=I.tuple hq
  obtain ⟨f0,f1,f2,f3,f4,f5⟩:=hf it (by simp)
  have hl:=rv.length
  exact wpAny_pyNext_tuple_end (I.ok.hd hc) st (show s.heap.IsTuple a its.toArray from p) (by simp; omega) fun h' eb=>⟨rfl,I.turned (t':=s.toks) (fun b o hb e=>eb b o hb e) f0 f1 f3 f4 f5⟩
 self:=fun _ _ _ _ _ st h=>wpAny_pyIter_tupleiter st h
theorem turn_range {P:Program} {w:World} {K:Frag} {tg:Expr} (it:Addr) (lo:Int) (n:Nat):Turn P w K tg (Itr lo n) [it] it (fun i h=>IsRangeIter h it (lo+(i:Nat) * 1) ((n:Int) - (i:Nat)) 1) where
 mem:=by simp
 obj:=fun i h st b hb=>by
  have e:b=it:=by simpa using hb
  subst e
  exact ⟨_,st,fun v z=>by
   have z':Data.fields _=Data.cell v:=z
   cases z'⟩
 keep:=fun i h h' st k=>k it (by simp) _ st
 item:=by
  intro X hP hw hK hc i pins s σ H E I hf st hg
  subst hP hw hK
  obtain ⟨f0,f1,f2,f3,f4,f5⟩:=hf it (by simp)
  have W:=Walks.range (prog:=X.prog) (w:=X.w) (I.ok.hd hc) it lo 1 n
  refine W.item i s _ _ hg st fun v h' tk hv st' kk=>?_
  obtain ⟨t,rfl⟩:=hv
  have I1:Inv X pins σ H { s with heap:=h',toks:=tk }:=I.turned (fun b o hb e=>kk b o (by simpa using hb) e) f0 f1 f3 f4 f5
  refine ⟨_,rfl,go_of (s:={ s with heap:=h',toks:=tk }) (n := "range_iterator") st' rfl rfl (by decide) ⟨.int (lo+i),H,I1,⟨t,?_⟩,⟨rfl,rfl⟩,st',fun b hb=>(hf b hb).1⟩⟩
  rw [Int.mul_one]
 done:=by
  intro X hP hw hK hc i pins s σ H E I hf st hg
  subst hP hw hK
  obtain ⟨f0,f1,f2,f3,f4,f5⟩:=hf it (by simp)
  exact wpAny_pyNext_range_end (I.ok.hd hc) st (by have:n<=i:=hg; omega) fun h' eb=>⟨rfl,I.turned (t':=s.toks) (fun b o hb e=>eb b o hb e) f0 f1 f3 f4 f5⟩
 self:=fun _ _ _ _ _ st h=>wpAny_pyIter_rangeiter st h
section
variable {X:Cx} {tg:Expr}
theorem range_it {pins:List (Addr×Obj)} {σ:St} {H:Hp} {s:Shared} {R:It->Hp->Prop} {E:Value->Shared->Prop} {lo hi:Int} {t u v:Tok} {tk:Nat} (I:Inv X pins σ H s) (h1:-(2 ^ 62)<=lo) (h2:lo < 2 ^ 62) (h3:-(2 ^ 62)<=hi) (h4:hi < 2 ^ 62)
  (q:R (Itr lo (hi - lo).toNat) H):wpAny (model X.prog X.w) X.A (pyIter (.ref s.heap.objs.size)) (PIE X pins σ tg R) E { s with heap:=s.heap.push { cls:=.type "range",data:=.fields #[.int lo t,.int hi u,.int 1 v] },toks:=tk }:=by
 refine wpAny_pyIter_range (IsRange.new ..) (small_one h1 h2 h3 h4) ?_
 have I1:Inv X pins σ H { s with heap:=s.heap.push { cls:=.type "range",data:=.fields #[.int lo t,.int hi u,.int 1 v] },toks:=tk }:=I.kept fun b o e=>Heap.get?_push_of_some _ e
 refine ⟨(s.heap.push { cls:=.type "range",data:=.fields #[.int lo t,.int hi u,.int 1 v] }).objs.size,[(s.heap.push { cls:=.type "range",data:=.fields #[.int lo t,.int hi u,.int 1 v] }).objs.size],_,_,H,rfl,
  I1.kept (t':=tk) fun b o e=>Heap.get?_push_of_some _ e,turn_range _ lo (hi - lo).toNat,?_,fun b hb=>?_,q⟩
 ·have e1:lo+((0:Nat):Int) * 1=lo:=by simp
  have e2:(((hi - lo).toNat:Nat):Int) - ((0:Nat):Int)=Builtin.Range.rangeSize lo hi 1:=by rw [rangeSize_one]; split <;> omega
  show IsRangeIter _ _ (lo+((0:Nat):Int) * 1) ((((hi - lo).toNat:Nat):Int) - ((0:Nat):Int)) 1
  rw [e1,e2]
  exact Heap.get?_push_size _ rfl
 ·have e:b=(s.heap.push { cls:=.type "range",data:=.fields #[.int lo t,.int hi u,.int 1 v] }).objs.size:=by simpa using hb
  subst e
  exact I1.fpOk (Nat.le_refl _) (I1.hok.fresh (Nat.le_refl _))
def iRng1 (ta:TA):TI:=fun σ H R=>ta σ H fun vs H1=>∃ j:Int,vs=[.int j]/\-(2 ^ 62)<=j/\j < 2 ^ 62/\R (Itr 0 j.toNat) H1
def iRng2 (ta:TA):TI:=fun σ H R=>ta σ H fun vs H1=>∃ i j:Int,vs=[.int i,.int j]/\(-(2 ^ 62)<=i/\i < 2 ^ 62/\-(2 ^ 62)<=j/\j < 2 ^ 62)/\R (Itr i (j - i).toNat) H1
theorem pi_range1 {a:Expr} {ta:TA} {p pos:Pos} (hg:Gl X "range") (hm:X.mg "range"=none) (ha:PA X [a] ta) (hs:starEach [a] X.env=[(false,eval a X.env)]:=by rfl):PI X tg (.Call (.Name "range" p) [a] [] pos) (iRng1 ta):=by
 refine ⟨?_⟩
 intro pins s σ H R I h
 refine Call_ (ld_blt I hg hm boot_range (PyProof.Rows.callWith_type1 (thn (ha pos pins s σ H _ I h) fun us s1 ⟨vs,H1,I1,r1,q1⟩=>?_) hs rfl))
 obtain ⟨j,e,q1,q2,q⟩:=q1
 subst e
 cases r1 with
 | cons r rr=>
  cases rr
  obtain ⟨t,rfl⟩:=r
  exact call_range_1 (range_it I1 (by omega) (by omega) q1 q2 (by simpa using q))
theorem pi_range2 {a b:Expr} {ta:TA} {p pos:Pos} (hg:Gl X "range") (hm:X.mg "range"=none) (ha:PA X [a,b] ta) (hs:starEach [a,b] X.env=[(false,eval a X.env),(false,eval b X.env)]:=by rfl) (hs2:starEach [b] X.env=[(false,eval b X.env)]:=by rfl) :
  PI X tg (.Call (.Name "range" p) [a,b] [] pos) (iRng2 ta):=by
 refine ⟨?_⟩
 intro pins s σ H R I h
 refine Call_ (ld_blt I hg hm boot_range (PyProof.Rows.callWith_type1 (thn (ha pos pins s σ H _ I h) fun us s1 ⟨vs,H1,I1,r1,q1⟩=>?_) (by rw [hs,hs2]) (by rw [hs2]; rfl)))
 obtain ⟨i,j,e,⟨q1,q2,q3,q4⟩,q⟩:=q1
 subst e
 cases r1 with
 | cons r rr=>
  cases rr with
  | cons r' rr=>
   cases rr
   obtain ⟨t,rfl⟩:=r
   obtain ⟨t',rfl⟩:=r'
   exact call_range_2 (range_it I1 q1 q2 q3 q4 q)
def tFor (wi:TI) (g:TG) (tb:TS):TS:=fun D σ H=>wi σ H fun J H1=>∃ W:Nat->Nat->St->Hp->Prop,(∃ m,W 0 m σ H1)/\∀ i m σ H,W i m σ H ->
 (J.stop i H/\D.nx σ H)\/(J.go i H/\∃ N:St->Hp->Prop,(∀ σ' H',N σ' H'->∃ m',m' < m/\W (i+1) m' σ' H')/\∀ x H',J.yld i H x H'->g x σ H' fun σ2 H2=>tb { D with nx:=N,ct:=N,bk:=D.nx } σ2 H2)
noncomputable def pinsAt (fp:List Addr) (h:Heap):List (Addr×Obj):=fp.filterMap fun b=>(h.get? b).map fun o=>(b,o)
theorem mem_pinsAt {fp:List Addr} {h:Heap} {b:Addr} {o:Obj} (hb:b∈fp) (e:h.get? b=some o):(b,o)∈pinsAt fp h:=List.mem_filterMap.mpr ⟨b,hb,by rw [e]; rfl⟩
theorem of_pinsAt {fp:List Addr} {h:Heap} {p:Addr×Obj} (hp:p∈pinsAt fp h):p.1∈fp/\h.get? p.1=some p.2:=by
 obtain ⟨b,hb,e⟩:=List.mem_filterMap.mp hp
 cases q:h.get? b with
 | none=>rw [q] at e; cases e
 | some o=>
  rw [q] at e
  have e':(b,o)=p:=Option.some.inj e
  subst e'
  exact ⟨hb,q⟩
theorem Inv.pinned {pins:List (Addr×Obj)} {σ:St} {H:Hp} {s:Shared} {fp:List Addr} (I:Inv X pins σ H s) (hf:∀ b∈fp,FpOk X pins H b) (ho:∀ b∈fp,∃ o,s.heap.get? b=some o/\∀ v,o.data≠.cell v):Inv X (pins++pinsAt fp s.heap) σ H s:=
 I.pins_of fun p hp=>(List.mem_append.mp hp).elim (fun z=>I.pin p (List.mem_append_right _ z)) fun z=>by
  obtain ⟨hb,e⟩:=of_pinsAt z
  obtain ⟨f0,f1,f2,_⟩:=hf p.1 hb
  obtain ⟨o,e',d⟩:=ho p.1 hb
  rw [e] at e'; cases e'
  exact ⟨e,f0,f1,f2,d⟩
theorem Inv.unpinned {pins pl:List (Addr×Obj)} {σ:St} {H:Hp} {s:Shared} (I:Inv X (pins++pl) σ H s):Inv X pins σ H s:=I.pins_of fun p hp=>I.pin p (List.mem_append_right _ (List.mem_append_left _ hp))
theorem ps_for {iter:Expr} {body:List Stmt} {wi:TI} {g:TG} {tb:TS} {pos:Pos} (hp:PassesOwn (model X.prog X.w) X.A X.env X.xe) (hc:X.calm=true) (hi:PI X tg iter wi) (hg:PG X tg g) (hb:PSs X body tb)
  (hs:∀ x,foldedSetIterable iter X.env x=pure x:=by intro _; rfl):PS X (.For tg iter body [] pos) (tFor wi g tb):=by
 refine ⟨?_⟩
 intro pins s σ H D I h
 refine wpAny_For (thn (hi pins s σ H _ I h) fun v s1 h1=>thn h1 fun itv s2 h2=>?_) hs
 obtain ⟨it,fp,tn,J,H2,e,I2,T,st2,f2,W,⟨m0,w0⟩,turn⟩:=h2
 subst e
 have stat:∀ {H':Hp},(∀ b∈fp,H' b=none)->∀ b∈fp,FpOk X pins H' b:=fun hn b hb=>⟨hn b hb,(f2 b hb).2⟩
 refine codeAny_forLoop_any (fun n s'=>∃ i σ' H',Inv X pins σ' H' s'/\tn i s'.heap/\(∀ b∈fp,H' b=none)/\W i n σ' H') ?_ m0 ⟨0,σ,H2,I2,st2,fun b hb=>(f2 b hb).1,w0⟩
 rintro n s3 ⟨i,σ3,H3,I3,st3,fr3,w3⟩
 rcases turn i n σ3 H3 w3 with ⟨stop,qn⟩ | ⟨go,N,hN,step⟩
 ·refine wpAny_passesOwn hp (thn (T.done X rfl rfl rfl hc i pins s3 σ3 H3 X.xe I3 (stat fr3) st3 stop) fun r s4 ⟨hr,I4⟩=>?_)
  subst hr
  exact wpAny_execs_nil ⟨σ3,H3,I4,qn⟩
 ·refine wpAny_passesOwn hp (thn (T.item X rfl rfl rfl hc i pins s3 σ3 H3 X.xe I3 (stat fr3) st3 go) fun r s4 ⟨u,hr,h4⟩=>?_)
  subst hr
  refine wpAny_passesOwn hp (thn h4 fun _ s5 ⟨x,H5,I5,r5,y5,st5,fr5⟩=>?_)
  have I5':=I5.pinned (stat fr5) (T.obj _ _ st5)
  refine wpAny_passesOwn hp (thn (hg _ s5 σ3 H5 x u _ I5' r5 (step x H5 y5)) fun _ s6 ⟨σ6,H6,I6,q6⟩=>?_)
  refine wpAny_passesOwn hp (thn (hb _ s6 σ6 H6 _ I6 q6) fun f s7 q7=>?_)
  have again:∀ {σ7:St} {H7:Hp},Inv X (pins++pinsAt fp s5.heap) σ7 H7 s7->N σ7 H7->∃ m,m < n/\∃ i σ' H',Inv X pins σ' H' s7/\tn i s7.heap/\(∀ b∈fp,H' b=none)/\W i m σ' H':=fun {σ7 H7} I7 n7=>by
   obtain ⟨m',hm,w7⟩:=hN σ7 H7 n7
   refine ⟨m',hm,i+1,σ7,H7,I7.unpinned,T.keep _ _ _ st5 fun b hb o e=>(I7.pin (b,o) (List.mem_append_right _ (List.mem_append_right _ (mem_pinsAt hb e)))).1,fun b hb=>?_,w7⟩
   obtain ⟨o,e,d⟩:=T.obj _ _ st5 b hb
   exact (I7.pin (b,o) (List.mem_append_right _ (List.mem_append_right _ (mem_pinsAt hb e)))).2.1
  cases f with
  | next=>obtain ⟨σ7,H7,I7,n7⟩:=q7; exact again I7 n7
  | cont=>obtain ⟨σ7,H7,I7,n7⟩:=q7; exact again I7 n7
  | brk=>obtain ⟨σ7,H7,I7,q7⟩:=q7; exact ⟨σ7,H7,I7.unpinned,q7⟩
  | ret v=>obtain ⟨x7,σ7,H7,I7,r7,q7⟩:=q7; exact ⟨x7,σ7,H7,I7.unpinned,r7,q7⟩
end
abbrev R2:=V->V->Hp->VK->Prop
def OpR (X:Cx) (f:Value->Value->Sem Value) (r:R2):Prop:=
 ∀ (pins:List (Addr×Obj)) (s:Shared) (σ:St) (H:Hp) (x y:V) (v u:Value) (Q:VK),Inv X pins σ H s->RelV x v->RelV y u->r x y H Q ->
  wpAny (model X.prog X.w) X.A (f v u) (EP X pins σ Q) X.xe s
def UnR (X:Cx) (f:Value->Sem Value) (r:V->Hp->VK->Prop):Prop:=
 ∀ (pins:List (Addr×Obj)) (s:Shared) (σ:St) (H:Hp) (x:V) (v:Value) (Q:VK),Inv X pins σ H s->RelV x v->r x H Q ->
  wpAny (model X.prog X.w) X.A (f v) (EP X pins σ Q) X.xe s
def CallR (X:Cx) (f:Value) (r:List V->Hp->VK->Prop):Prop:=
 ∀ (pins:List (Addr×Obj)) (s:Shared) (σ:St) (H:Hp) (xs:List V) (us:List Value) (Q:VK),Inv X pins σ H s->Vals xs us->r xs H Q ->
  wpAny (model X.prog X.w) X.A (call f us) (EP X pins σ Q) X.xe s
def TruR (X:Cx) (r:V->Hp->(Bool->Hp->Prop)->Prop):Prop:=
 ∀ (pins:List (Addr×Obj)) (s:Shared) (σ:St) (H:Hp) (x:V) (v:Value) (Q:Bool->Hp->Prop),Inv X pins σ H s->RelV x v->r x H Q ->
  wpAny (model X.prog X.w) X.A (truthy v) (TP X pins σ Q) X.xe s
def tOp (r:R2) (ta tb:TE):TE:=fun σ H Q=>ta σ H fun x H1=>tb σ H1 fun y H2=>r x y H2 Q
def tUn (r:V->Hp->VK->Prop) (ta:TE):TE:=fun σ H Q=>ta σ H fun x H1=>r x H1 Q
def rI (C:Int->Int->Prop) (g:Int->Int->V):R2:=fun x y H Q=>∃ i j,x=.int i/\y=.int j/\C i j/\Q (g i j) H
def rI0 (g:Int->Int->V):R2:=fun x y H Q=>∃ i j,x=.int i/\y=.int j/\Q (g i j) H
def rU (g:Int->V):V->Hp->VK->Prop:=fun x H Q=>∃ i,x=.int i/\Q (g i) H
section
variable {X:Cx} {a b c:Expr} {ta tb tc:TE} {pos:Pos}
theorem binT (ha:PE X a ta) (hb:PE X b tb) {pins:List (Addr×Obj)} {s:Shared} {σ:St} {H:Hp} {R:V->V->Hp->Prop} (I:Inv X pins σ H s)
  (h:ta σ H fun x H1=>tb σ H1 fun y H2=>R x y H2) {Q:Value->Shared->Prop} {f:Value->Value->Sem Value}
  (hf:∀ v u s2 x y H2,Inv X pins σ H2 s2->RelV x v->RelV y u->R x y H2->wpAny (model X.prog X.w) X.A (f v u) Q X.xe s2) :
  wpAny (model X.prog X.w) X.A (eval a X.env) (fun v s₁=>wpAny (model X.prog X.w) X.A (eval b X.env) (fun u s₂=>wpAny (model X.prog X.w) X.A (f v u) Q X.xe s₂) X.xe s₁) X.xe s:=by
 refine thn (ha pins s σ H _ I h) fun v s1 ⟨x,H1,I1,r1,q1⟩=>?_
 refine thn (hb pins s1 σ H1 _ I1 q1) fun u s2 ⟨y,H2,I2,r2,q2⟩=>?_
 exact hf v u s2 x y H2 I2 r1 r2 q2
theorem pe_op {op:Operator} {r:R2} (ho:OpR X (binaryOp op) r) (ha:PE X a ta) (hb:PE X b tb):PE X (.BinOp a op b pos) (tOp r ta tb):=by
 refine ⟨?_⟩
 intro pins s σ H Q I h
 exact wpAny_BinOp (binT ha hb I h fun v u s2 x y H2 I2 rx ry q=>ho pins s2 σ H2 x y v u Q I2 rx ry q)
theorem pe_un {op:UnaryOp} {r:V->Hp->VK->Prop} (ho:UnR X (unaryOp op) r) (ha:PE X a ta):PE X (.UnaryOp op a pos) (tUn r ta):=by
 refine ⟨?_⟩
 intro pins s σ H Q I h
 exact UnaryOp_ (thn (ha pins s σ H _ I h) fun v s1 ⟨x,H1,I1,r1,q1⟩=>ho pins s1 σ H1 x v Q I1 r1 q1)
theorem opI {f:Value->Value->Sem Value} {C:Int->Int->Prop} {g:Int->Int->Int}
  (rule:∀ (i j:Int) (t u:Tok) (s:Shared) (Q:Value->Shared->Prop) (E:Value->Shared->Prop),C i j->Q (.int (g i j) s.toks) { s with toks:=s.toks+1 }->wpAny (model X.prog X.w) X.A (f (.int i t) (.int j u)) Q E s) :
  OpR X f (rI C fun i j=>.int (g i j)):=by
 intro pins s σ H x y v u Q I rx ry h
 obtain ⟨i,j,rfl,rfl,hc,q⟩:=h
 obtain ⟨t,rfl⟩:=rx
 obtain ⟨t',rfl⟩:=ry
 exact rule i j t t' s _ _ hc ⟨.int (g i j),H,I.tok _,⟨_,rfl⟩,q⟩
theorem opI0 {f:Value->Value->Sem Value} {g:Int->Int->Int}
  (rule:∀ (i j:Int) (t u:Tok) (s:Shared) (Q:Value->Shared->Prop) (E:Value->Shared->Prop),Q (.int (g i j) s.toks) { s with toks:=s.toks+1 }->wpAny (model X.prog X.w) X.A (f (.int i t) (.int j u)) Q E s) :
  OpR X f (rI0 fun i j=>.int (g i j)):=by
 intro pins s σ H x y v u Q I rx ry h
 obtain ⟨i,j,rfl,rfl,q⟩:=h
 obtain ⟨t,rfl⟩:=rx
 obtain ⟨t',rfl⟩:=ry
 exact rule i j t t' s _ _ ⟨.int (g i j),H,I.tok _,⟨_,rfl⟩,q⟩
theorem opB0 {f:Value->Value->Sem Value} {g:Int->Int->Bool}
  (rule:∀ (i j:Int) (t u:Tok) (s:Shared) (Q:Value->Shared->Prop) (E:Value->Shared->Prop),Q (.bool (g i j)) s->wpAny (model X.prog X.w) X.A (f (.int i t) (.int j u)) Q E s) :
  OpR X f (rI0 fun i j=>.bl (g i j)):=by
 intro pins s σ H x y v u Q I rx ry h
 obtain ⟨i,j,rfl,rfl,q⟩:=h
 obtain ⟨t,rfl⟩:=rx
 obtain ⟨t',rfl⟩:=ry
 exact rule i j t t' s _ _ ⟨.bl (g i j),H,I,rfl,q⟩
def CDiv (i j:Int):Prop:=0 < j/\j < 1073741824
def CPow (i j:Int):Prop:=0<=j/\j<=1000000/\i.natAbs < 2 ^ 64
def CMul (i j:Int):Prop:=(-(2 ^ 64) < i/\i < 2 ^ 64)\/(-(2 ^ 64) < j/\j < 2 ^ 64)
theorem CMul.ok {i j:Int} (h:CMul i j):IntMulOk i j:=by
 rcases h with ⟨h1,h2⟩ | ⟨h1,h2⟩
 ·exact .of_left (intBits_le_64 h1 h2)
 ·exact .of_right (intBits_le_64 h1 h2)
theorem op_add:OpR X (binaryOp .Add) (rI0 fun i j=>.int (i+j)):=opI0 fun _ _ _ _ _ _ _ q=>add_int q
theorem op_sub:OpR X (binaryOp .Sub) (rI0 fun i j=>.int (i - j)):=opI0 fun _ _ _ _ _ _ _ q=>sub_int q
theorem op_mul:OpR X (binaryOp .Mult) (rI CMul fun i j=>.int (i * j)):=opI fun _ _ _ _ _ _ _ hc q=>mul_int q hc.ok
theorem op_mod:OpR X (binaryOp .Mod) (rI (fun _ j=>0 < j) fun i j=>.int (i % j)):=opI fun i j _ _ _ _ _ hc q=>by
 have h1:(0:Int) < j:=hc
 exact mod_int' (by omega) (by rw [Int.fmod_eq_emod_of_nonneg i (by omega)]; exact q)
theorem op_pow:OpR X (binaryOp .Pow) (rI CPow fun i j=>.int (i ^ j.toNat)):=opI fun _ _ _ _ _ _ _ hc q=>pow_int_small hc.1 hc.2.1 hc.2.2 q
theorem unI {f:Value->Sem Value} {g:Int->Int}
  (rule:∀ (i:Int) (t:Tok) (s:Shared) (Q:Value->Shared->Prop) (E:Value->Shared->Prop),Q (.int (g i) s.toks) { s with toks:=s.toks+1 }->wpAny (model X.prog X.w) X.A (f (.int i t)) Q E s) :
  UnR X f (rU fun i=>.int (g i)):=by
 intro pins s σ H x v Q I rx h
 obtain ⟨i,rfl,q⟩:=h
 obtain ⟨t,rfl⟩:=rx
 exact rule i t s _ _ ⟨.int (g i),H,I.tok _,⟨_,rfl⟩,q⟩
theorem un_neg:UnR X (unaryOp .USub) (rU fun i=>.int (-i)):=unI fun _ _ _ _ _ q=>neg_int q
end
section
variable {X:Cx} {a b c:Expr} {ta tb tc:TE} {pos:Pos}
theorem fin_bl {pins:List (Addr×Obj)} {σ:St} {H:Hp} {s:Shared} {Q:VK} {k k':Bool} (I:Inv X pins σ H s) (q:Q (.bl k) H) (e:k=k'):EP X pins σ Q (.bool k') s:=by
 subst e
 exact ⟨.bl k,H,I,rfl,q⟩
theorem op_lt:OpR X (compareOp .Lt) (rI0 fun i j=>.bl (decide (i < j))):=opB0 fun _ _ _ _ _ _ _ q=>lt_int q
theorem op_le:OpR X (compareOp .LtE) (rI0 fun i j=>.bl (decide (i<=j))):=opB0 fun _ _ _ _ _ _ _ q=>le_int q
theorem op_lt_str:OpR X (compareOp .Lt) (fun x y H Q=>∃ i j,x=.str i/\y=.str j/\Q (.bl (decide (i.cps.toList < j.cps.toList))) H):=by
 intro pins s σ H x y v u Q I rx ry h
 obtain ⟨i,j,rfl,rfl,q⟩:=h
 obtain ⟨t,rfl⟩:=rx
 obtain ⟨t',rfl⟩:=ry
 exact lt_str (fin_bl I q rfl)
theorem nomark (b:Expr) {op:CmpOp} (h:op≠.In:=by decide) (h2:op≠.NotIn:=by decide):behindInMarks op b=false:=by
 have e1:(op == CmpOp.In)=false:=by cases op <;> first | rfl | exact absurd rfl h
 have e2:(op == CmpOp.NotIn)=false:=by cases op <;> first | rfl | exact absurd rfl h2
 cases b <;> simp [behindInMarks,e1,e2]
theorem pe_cmpR {op:CmpOp} {r:R2} (ho:OpR X (compareOp op) r) (ha:PE X a ta) (hb:PE X b tb) (hm:behindInMarks op b=false):PE X (.Compare a [op] [b] pos) (tOp r ta tb):=by
 refine ⟨?_⟩
 intro pins s σ H Q I h
 exact wpAny_Compare1 (binT ha hb I h fun v u s2 x y H2 I2 rx ry q=>ho pins s2 σ H2 x y v u Q I2 rx ry q) hm
def tTest (t:TE):TT:=fun σ H Q=>t σ H fun x H'=>∃ k,x=.bl k/\Q k H'
theorem pt_cmpR {op:CmpOp} {r:R2} (ho:OpR X (compareOp op) r) (ha:PE X a ta) (hb:PE X b tb) (hm:behindInMarks op b=false):PT X (.Compare a [op] [b] pos) (tTest (tOp r ta tb)):=by
 refine ⟨?_⟩
 intro pins s σ H Q I h
 refine wpAny_isTrue_Compare1 (thn (ha pins s σ H _ I h) fun v s1 ⟨x,H1,I1,r1,q1⟩=>thn (hb pins s1 σ H1 _ I1 q1) fun u s2 ⟨y,H2,I2,r2,q2⟩=>
  thn (ho pins s2 σ H2 x y v u _ I2 r1 r2 q2) fun c s3 ⟨z,H3,I3,r3,k,e,q3⟩=>?_) hm
 subst e
 cases r3
 exact wpAny_truthy_bool ⟨H3,I3,q3⟩
def tChain (r r':R2) (ta tb tc:TE):TE:=fun σ H Q=>ta σ H fun x H1=>tb σ H1 fun y H2=>r x y H2 fun z H3=>∃ k,z=.bl k /\
 (if k=true then tc σ H3 fun w' H4=>r' y w' H4 Q else Q (.bl false) H3)
theorem pe_chain {op op':CmpOp} {r r':R2} (ho:OpR X (compareOp op) r) (ho':OpR X (compareOp op') r') (ha:PE X a ta) (hb:PE X b tb) (hc:PE X c tc)
  (hm:lastMarks [op,op'] [b,c]=false:=by with_unfolding_all rfl):PE X (.Compare a [op,op'] [b,c] pos) (tChain r r' ta tb tc):=by
 refine ⟨?_⟩
 intro pins s σ H Q I h
 refine Compare_chain (thn (ha pins s σ H _ I h) fun v s1 ⟨x,H1,I1,r1,q1⟩=>chain_link (thn (hb pins s1 σ H1 _ I1 q1) fun u s2 ⟨y,H2,I2,r2,q2⟩=>
  thn (ho pins s2 σ H2 x y v u _ I2 r1 r2 q2) fun d s3 ⟨z,H3,I3,r3,k,e,q3⟩=>?_)) hm
 subst e
 cases r3
 refine wpAny_truthy_bool ?_
 cases k with
 | false=>exact ite_ff ⟨.bl false,H3,I3,rfl,q3⟩
 | true=>exact ite_tt (chain_last (thn (hc pins s3 σ H3 _ I3 q3) fun w' s4 ⟨z',H4,I4,r4,q4⟩=>ho' pins s4 σ H4 y z' u w' Q I4 r2 r4 q4))
def TruV (K:Frag) (x:V) (H:Hp) (k:Bool):Prop:=
 match x with
 | .non=>k=false
 | .bl b=>k=b
 | .int i=>k=(i != 0)
 | .str y=>y.length<=sizeLine/\k=((y.length:Int) != 0)
 | .byt y=>y.size<=sizeLine/\k=((y.size:Int) != 0)
 | .ref p=>(∃ xs,SqL K H p xs/\k=!xs.isEmpty)\/(∃ xs,SqT K H p xs/\k=!xs.isEmpty)\/∃ kvs,H p=some (.dK kvs)/\k=!kvs.isEmpty
 | _=>False
theorem isEmpty_kv {κ:Type} {kvs:List (κ×V)} {vs:List (κ×Value)} (r:KV kvs vs):(!vs.isEmpty)=!kvs.isEmpty:=by
 cases r <;> rfl
theorem isEmpty_of {xs:List V} {its:List Value} (r:Vals xs its):(!its.toArray.isEmpty)=!xs.isEmpty:=by
 cases r <;> simp
theorem line63:(sizeLine:Nat) < 2 ^ 63:=by rw [sizeLine_eq]; decide
theorem tru_ok:TruR X (fun x H Q=>∃ k,TruV X.K x H k/\Q k H):=by
 intro pins s σ H x v Q I rx h
 obtain ⟨k,e,q⟩:=h
 have hl:=line63
 have hs:sizeLine=16777216:=sizeLine_eq
 cases x with
 | non=>
  cases rx
  have e':k=false:=e
  subst e'
  exact truthy_none ⟨H,I,q⟩
 | bl b=>
  cases rx
  have e':k=b:=e
  subst e'
  exact wpAny_truthy_bool ⟨H,I,q⟩
 | int i=>
  obtain ⟨t,rfl⟩:=rx
  have e':k=(i != 0):=e
  subst e'
  exact PySem.P.truthy_int ⟨H,I,q⟩
 | str y=>
  obtain ⟨t,rfl⟩:=rx
  obtain ⟨hy,e'⟩:y.length<=sizeLine/\k=((y.length:Int) != 0):=e
  subst e'
  exact PySem.P.truthy_str (by omega) ⟨H,I.tok _,q⟩
 | byt y=>
  obtain ⟨t,rfl⟩:=rx
  obtain ⟨hy,e'⟩:y.size<=sizeLine/\k=((y.size:Int) != 0):=e
  subst e'
  exact PySem.W.truthy_bytes (by omega) ⟨H,I.tok _,q⟩
 | ref p=>
  cases rx
  have e':(∃ xs,SqL X.K H p xs/\k=!xs.isEmpty)\/(∃ xs,SqT X.K H p xs/\k=!xs.isEmpty)\/∃ kvs,H p=some (.dK kvs)/\k=!kvs.isEmpty:=e
  rcases e' with ⟨xs,hx,e'⟩ | ⟨xs,hx,e'⟩ | ⟨kvs,hx,e'⟩
  ·subst e'
   obtain ⟨its,r,pl,hz⟩:=I.list hx
   have hlen:=r.length
   exact wpAny_truthy_list pl.isList (by simp only [List.size_toArray]; omega) ⟨H,I.tok _,by rw [isEmpty_of r]; exact q⟩
  ·subst e'
   obtain ⟨its,r,pl,hz⟩:=I.tuple hx
   have hlen:=r.length
   exact truthy_tuple pl (by simp only [List.size_toArray]; omega) ⟨H,I.tok _,by rw [isEmpty_of r]; exact q⟩
  ·subst e'
   obtain ⟨hz,hS,vs,r,m⟩:kvs.length<=sizeLine/\(p == sysModules)=false/\∃ vs,KV kvs vs/\s.heap.DictOf (mixKind X.prog X.w) p vs:=I.hok p _ hx
   have hlen:kvs.length=vs.length:=Paired.length r
   exact wpAny_truthy_dict hS m (by omega) ⟨H,I.tok _,by rw [isEmpty_kv r]; exact q⟩
 | _=>exact (show False from e).elim
theorem pt_truth (ha:PE X a ta) (he:∀ whole,isTrue a X.env whole=(do let v <-whole; standAt a.pos; holding [v] (truthy v))) :
  PT X a (fun σ H Q=>ta σ H fun x H'=>∃ k,TruV X.K x H' k/\Q k H'):=by
 refine ⟨?_⟩
 intro pins s σ H Q I h
 exact isTrue_plain (thn (ha pins s σ H _ I h) fun v s1 ⟨x,H1,I1,r1,q1⟩=>tru_ok pins s1 σ H1 x v Q I1 r1 q1) (he _)
theorem op_add_str:OpR X (binaryOp .Add) (fun x y H Q=>∃ i j,x=.str i/\y=.str j/\i.length+j.length<=sizeLine/\Q (.str (i++j)) H):=by
 intro pins s σ H x y v u Q I rx ry h
 obtain ⟨i,j,rfl,rfl,hz,q⟩:=h
 obtain ⟨t,rfl⟩:=rx
 obtain ⟨t',rfl⟩:=ry
 exact add_str (fun t' tk=>⟨.str (i++j),H,I.tok _,⟨_,rfl⟩,q⟩) hz
theorem vals1 {x:V} {us:List Value} (r:Vals [x] us):∃ u,us=[u]/\RelV x u:=by
 cases r with
 | cons r1 r2=>cases r2; exact ⟨_,rfl,r1⟩
theorem vals2 {x y:V} {us:List Value} (r:Vals [x,y] us):∃ u w',us=[u,w']/\RelV x u/\RelV y w':=by
 cases r with
 | cons r1 r2=>
  cases r2 with
  | cons r3 r4=>cases r4; exact ⟨_,_,rfl,r1,r3⟩
theorem call_str_int:CallR X (.type "str") (fun xs H Q=>∃ i,xs=[.int i]/\i.natAbs.log2 < 1920/\Q (.str (toString i)) H):=by
 intro pins s σ H xs us Q I r h
 obtain ⟨i,rfl,hz,q⟩:=h
 obtain ⟨u,rfl,t,rfl⟩:=vals1 r
 exact PySem.P.str_of_int hz ⟨.str _,H,I.tok _,⟨_,rfl⟩,q⟩
def LenV (K:Frag) (x:V) (H:Hp) (n:Nat):Prop:=
 match x with
 | .str y=>y.length<=sizeLine/\n=y.length
 | .byt y=>y.size<=sizeLine/\n=y.size
 | .ref p=>(∃ xs,SqL K H p xs/\n=xs.length)\/∃ xs,SqT K H p xs/\n=xs.length
 | _=>False
theorem call_len:CallR X (.builtin "len") (fun xs H Q=>∃ x n,xs=[x]/\LenV X.K x H n/\Q (.int n) H):=by
 intro pins s σ H xs us Q I r h
 obtain ⟨x,n,rfl,e,q⟩:=h
 obtain ⟨u,rfl,rx⟩:=vals1 r
 have hl:=line63
 have hs:sizeLine=16777216:=sizeLine_eq
 cases x with
 | str y=>
  obtain ⟨t,rfl⟩:=rx
  obtain ⟨hy,e'⟩:y.length<=sizeLine/\n=y.length:=e
  subst e'
  exact len_str (by omega) ⟨.int _,H,I.tok _,⟨_,rfl⟩,q⟩
 | byt y=>
  obtain ⟨t,rfl⟩:=rx
  obtain ⟨hy,e'⟩:y.size<=sizeLine/\n=y.size:=e
  subst e'
  exact PySem.W.len_bytes (by omega) ⟨.int _,H,I.tok _,⟨_,rfl⟩,q⟩
 | ref p=>
  cases rx
  have e':(∃ xs,SqL X.K H p xs/\n=xs.length)\/∃ xs,SqT X.K H p xs/\n=xs.length:=e
  rcases e' with ⟨xs,hx,e'⟩ | ⟨xs,hx,e'⟩
  ·subst e'
   obtain ⟨its,r',pl,hz⟩:=I.list hx
   have hlen:=r'.length
   exact Calls.call_len_list pl.isList (by simp only [List.size_toArray]; omega) ⟨.int xs.length,H,I.tok _,⟨_,by simp only [List.size_toArray]; rw [hlen]⟩,q⟩
  ·subst e'
   obtain ⟨its,r',pl,hz⟩:=I.tuple hx
   have hlen:=r'.length
   exact len_tuple pl (by simp only [List.size_toArray]; omega) ⟨.int xs.length,H,I.tok _,⟨_,by simp only [List.size_toArray]; rw [hlen]⟩,q⟩
 | _=>exact (show False from e).elim
end
structure ObjM (h:Heap) (x dx C:Addr) (mA:Str->Option Value):Prop where
 obj:h.get? x=some (PySem.W.instObj C dx)
 ns:h.Ns1 dx mA
 ne:dx≠x
theorem lookIn_ns {h:Heap} {dx:Addr} {mA:Str->Option Value} (n:h.Ns1 dx mA):∃ od,h.get? dx=some od/\∀ name,PySem.W.lookIn name od=some (mA name):=by
 obtain ⟨o,es,ep,ho,hd,hk,_,hm⟩:=n
 refine ⟨o,ho,fun name=>?_⟩
 have e:=hm name
 unfold nsFind findBy at e
 rw [<-Array.find?_toList] at e
 unfold PySem.W.lookIn
 rw [hd]
 dsimp only
 split
 ·rename_i y q
  rw [q] at e
  exact congrArg some e
 ·rename_i q
  rw [q] at e
  have a:es.toList.any (·.refKey)=false:=by
   rw [List.any_eq_false]
   intro y hy
   obtain ⟨z,t,hkey⟩:=hk y (Array.mem_toList_iff.mp hy)
   simp [DictEntry.refKey,hkey]
  have a':¬es.toList.any (·.refKey)=true:=by rw [a]; exact Bool.false_ne_true
  rw [if_neg a']
  exact congrArg some e
theorem ObjM.look {h:Heap} {x dx C:Addr} {mA:Str->Option Value} (I:ObjM h x dx C mA):∃ od,PySem.W.InstAt h x (PySem.W.instObj C dx) C (some od)/\∀ name,PySem.W.lookIn name od=some (mA name):=
 let ⟨od,ho,hl⟩:=lookIn_ns I.ns
 ⟨od,⟨I.obj,rfl,rfl,ho⟩,hl⟩
theorem RelO.some_of {v:V} {o:Option Value} (r:RelO (some v) o):∃ u,o=some u/\RelV v u:=by
 cases o with
 | none=>exact (show False from r).elim
 | some u=>exact ⟨u,rfl,r⟩
section
variable {X:Cx} {pins:List (Addr×Obj)} {σ:St} {H:Hp} {s:Shared} {a C dx:Addr} {fs:List (Str×V)} {f:Str} {v:V} {A:Around} {E:Value->Shared->Prop}
theorem Inv.made (I:Inv X pins σ H s):Inv X pins σ (upd (upd H s.heap.objs.size (.own (s.heap.objs.size+1))) (s.heap.objs.size+1) (.ins C s.heap.objs.size []))
  { s with heap:=(s.heap.push PySem.W.emptyDict).push (PySem.W.instObj C s.heap.objs.size) }:=by
 have e1:(s.heap.push PySem.W.emptyDict).get? s.heap.objs.size=some PySem.W.emptyDict:=Heap.get?_push_size s.heap rfl
 have e2:((s.heap.push PySem.W.emptyDict).push (PySem.W.instObj C s.heap.objs.size)).get? (s.heap.objs.size+1)=some (PySem.W.instObj C s.heap.objs.size):=by
  have:=Heap.get?_push_size (s.heap.push PySem.W.emptyDict) (o:=PySem.W.instObj C s.heap.objs.size) rfl
  rwa [Heap.size_push] at this
 have e3:(s.heap.push PySem.W.emptyDict).Ns s.heap.objs.size (fun _=>none):=⟨PySem.W.emptyDict,#[],_,e1,rfl,(fun e he=>absurd he (by simp)),fun _=>rfl⟩
 have I1:=I.laid (a:=s.heap.objs.size) (o:=.own (s.heap.objs.size+1)) (h':=s.heap.push PySem.W.emptyDict) (t':=s.toks) (fun b u q=>Heap.get?_push_of_some _ q) (Nat.le_refl _) ⟨_,e1⟩
 refine I1.laid (a:=s.heap.objs.size+1) (o:=.ins C s.heap.objs.size []) (t':=s.toks) (fun b u q=>Heap.get?_push_of_some _ q) (Nat.le_of_eq (Heap.size_push _ _)) ?_
 have ne:s.heap.objs.size≠s.heap.objs.size+1:=Nat.ne_of_lt (Nat.lt_succ_self _)
 refine ⟨by rw [upd_ne ne,upd_same],Nat.zero_le _,ne,e2,fun _=>none,(Heap.Ns1.of_empty e3).at fun o q=>Heap.get?_push_of_some _ q,fun _=>True.intro,fun y hy=>absurd rfl hy⟩
end
structure Room (k:Nat) (A:Around):Prop where
 hd:A.handled=none
 dp:A.depth+3 * k+5 < recursionLimit
 un:A.units+16 * k+200 < cLine
theorem Room.mono {j k:Nat} {A:Around} (r:Room k A) (h:j<=k):Room j A:=⟨r.hd,by have:=r.dp; omega,by have:=r.un; omega⟩
theorem Room.deeper {k:Nat} {A:Around} (r:Room (k+1) A) (env:Env):Room k (A.deeper env):=
 ⟨r.hd,by have:=r.dp; show A.depth+1+3 * k+5 < _; omega,by have:=r.un; show A.units+3+16 * k+200 < _; omega⟩
theorem Room.in1 {k:Nat} {A:Around} (r:Room (k+1) A):Room k A.in1:=
 ⟨r.hd,by have:=r.dp; show A.depth+3 * k+5 < _; omega,by have:=r.un; show A.units+1+16 * k+200 < _; omega⟩
theorem Room.depth {k:Nat} {A:Around} (r:Room k A):A.depth < recursionLimit:=by have:=r.dp; omega
theorem Room.units {k:Nat} {A:Around} (r:Room k A):A.units+64 < cLine:=by have:=r.un; omega
def tNil:TA:=fun _ H Q=>Q [] H
def tCons (ta:TE) (tr:TA):TA:=fun σ H Q=>ta σ H fun x H1=>tr σ H1 fun xs H2=>Q (x::xs) H2
section
variable {X:Cx} {e:Expr} {es:List Expr} {te:TE} {t:TA} {pos:Pos}
theorem pa_nil:PA X [] tNil:=⟨fun _ _ _ _ H Q I h=>Calls.spliced_nil ⟨[],H,I,.nil,h⟩⟩
theorem pa_cons (ha:PE X e te) (hr:PA X es t) (hs:starEach (e::es) X.env=(false,eval e X.env)::starEach es X.env:=by rfl):PA X (e::es) (tCons te t):=by
 refine ⟨?_⟩
 intro pos pins s σ H Q I h
 rw [hs]
 show wpAny _ _ (spliced ((false,eval e X.env)::backTo pos (starEach es X.env))) _ _ s
 refine Calls.spliced_cons (thn (ha pins s σ H _ I h) fun u s1 ⟨x,H1,I1,r1,q1⟩=>?_)
 exact thn (hr pos pins s1 σ H1 _ I1 q1) fun us s2 ⟨xs,H2,I2,r2,q2⟩=>⟨x::xs,H2,I2,.cons r1 r2,q2⟩
def tTup (t:TA):TE:=fun σ H Q=>t σ H fun xs H1=>xs.length<=sizeLine/\∀ p,H1 p=none->Q (.ref p) (upd H1 p (.tup xs))
def tLst (t:TA):TE:=fun σ H Q=>t σ H fun xs H1=>xs.length<=sizeLine/\∀ p,H1 p=none->Q (.ref p) (upd H1 p (.lst xs))
theorem pe_tup {x1} (h:PA X es t):PE X (.Tuple es x1 pos) (tTup t):=by
 refine ⟨?_⟩
 intro pins s σ H Q I hq
 refine wpAny_Tuple_spliced (thn (h pos pins s σ H _ I hq) fun us s1 ⟨xs,H1,I1,r,z,q⟩=>⟨by rw [<-r.length]; exact z,?_⟩)
 have hf:H1 s1.heap.objs.size=none:=I1.hok.fresh (Nat.le_refl _)
 refine ⟨.ref s1.heap.objs.size,upd H1 s1.heap.objs.size (.tup xs),I1.laid (t':=s1.toks) (fun b u e=>Heap.get?_push_of_some _ e) (Nat.le_refl _) ?_,rfl,q _ hf⟩
 exact ⟨⟨z,_,Heap.get?_push_size _ rfl,rfl⟩,us,r,⟨_,Heap.get?_push_size _ rfl,rfl,_,rfl⟩⟩
theorem pe_lst (h:PA X es t):PE X (.List es pos) (tLst t):=by
 refine ⟨?_⟩
 intro pins s σ H Q I hq
 refine wpAny_List_spliced (thn (h pos pins s σ H _ I hq) fun us s1 ⟨xs,H1,I1,r,z,q⟩=>⟨by rw [<-r.length]; exact z,?_⟩)
 have hf:H1 s1.heap.objs.size=none:=I1.hok.fresh (Nat.le_refl _)
 refine ⟨.ref s1.heap.objs.size,upd H1 s1.heap.objs.size (.lst xs),I1.laid (t':=s1.toks) (fun b u e=>Heap.get?_push_of_some _ e) (Nat.le_refl _) ?_,rfl,q _ hf⟩
 exact ⟨z,us,0,r,Heap.get?_push_size _ rfl⟩
end
abbrev Sp:=List V->Hp->VK->XK->Prop
abbrev CXT:=List Env->Hp->Shared->XK->Value->Shared->Prop
structure Env0 (P:Program) (w:World) (K:Frag) (mg:Str->Option Value) (base:Heap) (A:Around) (outer:List Env) (s:Shared) (H:Hp):Prop where
 frames:A.frames=some outer
 mod:Mod K mg base
 bs:∀ b o,base.get? b=some o->s.heap.get? b=some o/\H b=none
 bsz:base.objs.size<=s.heap.objs.size
 funs:s.heap.FunFrames base outer
 frf:∀ b∈frs outer,H b=none
 hok:HOk P w H s.heap
 bare:AllBare s.gens
def CE (outer:List Env) (P:Program) (w:World) (H:Hp) (s:Shared) (Q:VK) (u:Value) (s':Shared):Prop:=
 ∃ v H',s'.os=s.os/\AllBare s'.gens/\Un (frs outer) [] H H' s.heap s'.heap/\HOk P w H' s'.heap/\RelV v u/\Q v H'
def CR (CX:CXT) (outer:List Env) (P:Program) (w:World) (H:Hp) (s:Shared) (Q:VK) (E:XK) (r:Result) (s':Shared):Prop:=
 match r with
 | .ok (.ret u)=>CE outer P w H s Q u s'
 | .ok _=>False
 | .error e=>CX outer H s E e s'
structure FnOk (P:Program) (w:World) (K:Frag) (mg:Str->Option Value) (base:Heap) (CX:CXT) (k:Nat) (f:Addr) (fd:FuncData) (ps:List Str) (sp:Sp):Prop where
 len:∀ vs H Q E,sp vs H Q E->vs.length=ps.length
 run:∀ (A:Around) (outer:List Env) (s:Shared) (H:Hp) (args:Args) (us:List Value) (vs:List V) (Q:VK) (E:XK),Room k A->Env0 P w K mg base A outer s H->BindsTo s fd args (ps.zip us)->Vals vs us->sp vs H Q E ->
  codeAny (model P w) A (.call (.ref f) args) (CR CX outer P w H s Q E) s
theorem FnOk.mono {P:Program} {w:World} {K:Frag} {mg:Str->Option Value} {base:Heap} {CX:CXT} {j k:Nat} {f:Addr} {fd:FuncData} {ps:List Str} {sp:Sp} (F:FnOk P w K mg base CX j f fd ps sp) (h:j<=k) :
  FnOk P w K mg base CX k f fd ps sp:=⟨F.len,fun A outer s H args us vs Q E hr=>F.run A outer s H args us vs Q E (hr.mono h)⟩
theorem FnOk.imp {P:Program} {w:World} {K:Frag} {mg:Str->Option Value} {base:Heap} {CX:CXT} {k:Nat} {f:Addr} {fd:FuncData} {ps:List Str} {sp sp':Sp} (F:FnOk P w K mg base CX k f fd ps sp)
  (h:∀ vs H Q E,sp' vs H Q E->sp vs H Q E):FnOk P w K mg base CX k f fd ps sp':=
 ⟨fun vs H Q E q=>F.len vs H Q E (h _ _ _ _ q),fun A outer s H args us vs Q E hr he hb hv hs=>F.run A outer s H args us vs Q E hr he hb hv (h _ _ _ _ hs)⟩
theorem Env0.in1 {P:Program} {w:World} {K:Frag} {mg:Str->Option Value} {base:Heap} {A:Around} {outer:List Env} {s:Shared} {H:Hp} (e:Env0 P w K mg base A outer s H) :
  Env0 P w K mg base A.in1 outer s H:=⟨e.frames,e.mod,e.bs,e.bsz,e.funs,e.frf,e.hok,e.bare⟩
section
variable {X:Cx} {pins:List (Addr×Obj)} {σ:St} {H:Hp} {s s':Shared}
theorem Inv.env0 (I:Inv X pins σ H s):Env0 X.prog X.w X.K X.mg X.base X.A X.stack s H:=
 ⟨I.ok.frames,I.ok.mod,I.bs,Nat.le_trans I.ok.bsz I.sz,I.stack,I.stkFree,I.hok,I.bare⟩
theorem Inv.after {Q:VK} {u:Value} (I:Inv X pins σ H s) (h:CE X.stack X.prog X.w H s Q u s'):EP X pins σ Q u s':=by
 obtain ⟨v,H',os,bare,un,hok,r,q⟩:=h
 obtain ⟨hh,g,d,t,os'⟩:=s'
 obtain rfl:os'=s.os:=os
 exact ⟨v,H',I.call (h':=hh) (g':=g) (d':=d) (t':=t) (ch:=[]) un hok bare (fun b z=>absurd z (by simp)),r,q⟩
end
def tCall (sp:Sp) (dvs:List V) (E:XK) (t:TA):TE:=fun σ H Q=>t σ H fun vs H1=>sp (vs++dvs) H1 Q E
def Binds (K:Frag) (fd:FuncData) (ps:List Str) (ds:List Value):Prop:=
 ∀ (s:Shared) (us:List Value),K.In s.heap->(us++ds).length=ps.length->BindsTo s fd ⟨us,[]⟩ (ps.zip (us++ds))
theorem Binds.all {K:Frag} {fd:FuncData} {ps:List Str} (h:∀ us:List Value,us.length=ps.length->bindArgs fd ⟨us,[]⟩=pure (ps.zip us)):Binds K fd ps []:=fun s us _ hl=>by
 rw [List.append_nil] at hl ⊢
 exact .of_eq (h us hl)
def Passes (CX:CXT) (X:Cx) (E:XK):Prop:=∀ (pins:List (Addr×Obj)) (σ:St) (H:Hp) (s:Shared) (e:Value) (s':Shared),Inv X pins σ H s->CX X.stack H s E e s'->X.xe e s'
section
variable {X:Cx} {CX:CXT} {k:Nat} {f C:Addr} {fd:FuncData} {ps:List Str} {sp:Sp} {dvs:List V} {ds:List Value} {E:XK} {x m:Str} {p pos apos:Pos} {e o:Expr} {es:List Expr} {ta:TE} {t:TA}
theorem run_fn {pins:List (Addr×Obj)} {σ:St} {H:Hp} {s:Shared} {Q:VK} {us:List Value} {vs:List V} (F:FnOk X.prog X.w X.K X.mg X.base CX k f fd ps sp) (hr:Room k X.A) (hb:Binds X.K fd ps ds) (hd:Vals dvs ds) (hx:Passes CX X E)
  (I:Inv X pins σ H s) (r:Vals vs us) (h:sp (vs++dvs) H Q E):wpAny (model X.prog X.w) X.A (call (.ref f) us) (EP X pins σ Q) X.xe s:=by
 have r2:Vals (vs++dvs) (us++ds):=r.append hd
 have hl:(us++ds).length=ps.length:=by rw [<-r2.length]; exact F.len _ _ _ _ h
 refine wpAny_call (codeAny_mono (F.run X.A X.stack s H ⟨us,[]⟩ (us++ds) (vs++dvs) Q E hr I.env0 (hb s us I.kIn hl) r2 h) fun r s' hq=>?_)
 cases r with
 | error e=>exact hx pins σ H s e s' I hq
 | ok fl=>
  cases fl with
  | ret u=>exact I.after hq
  | next=>exact False.elim hq
  | brk=>exact False.elim hq
  | cont=>exact False.elim hq
theorem pe_call (F:FnOk X.prog X.w X.K X.mg X.base CX k f fd ps sp) (hr:Room k X.A) (hg:Gl X x) (hm:X.mg x=some (.ref f)) (hk:keepIn X.K (.ref f)=true) (hb:Binds X.K fd ps ds) (hd:Vals dvs ds) (hx:Passes CX X E)
  (ha:PA X (e::es) t) (hdb:(x == ("__debug__":Str))=false:=by decide) (he:starEach (e::es) X.env=(false,eval e X.env)::starEach es X.env:=by rfl) (hpl:(backTo pos (starEach es X.env)).any (·.1)=false:=by rfl) :
  PE X (.Call (.Name x p) (e::es) [] pos) (tCall sp dvs E t):=by
 refine ⟨?_⟩
 intro pins s σ H Q I h
 refine wpAny_Call_Name_kw (ld_glob I hg hm ?_ hdb)
 refine PySem.W.callWith_K (h₀:=X.base) I.ok.mod.kin hk (thn (ha pos pins s σ H _ I h) fun us s1 ⟨vs,H1,I1,r,q⟩=>⟨I1.kIn,?_⟩) he hpl
 exact run_fn F hr hb hd hx I1 r q
end
section
variable {X:Cx} {CX:CXT} {k:Nat} {f C:Addr} {fd:FuncData} {ps ks:List Str} {sp:Sp} {E:XK} {x m:Str} {p pos apos kpos:Pos} {e o:Expr} {es:List Expr} {kws:List Keyword} {te ta:TE} {t tk:TA} {nm:Option Str}
variable {g:List Value->List Value->List Value} {gV:List V->List V->List V}
end
structure FnScope (N P:List Str) (sc:Scope):Prop where
 kind:sc.kind=.function
 co:sc.isCoroutine=false
 gen:sc.isGenerator=false
 nd:N.Nodup
 pre:N.take P.length=P
 par:∀ x∈P,sc.names.lookup x=some .local\/sc.names.lookup x=some .cell
 nofree:∀ y∈sc.names,y.2≠.free
theorem bindL_out {kindOf:Str->Option NameKind} {x:Str}:∀ {binds:List (Str×Value)} {m:Str->Option Value},(∀ v,(x,v)∉binds)->bindL kindOf binds m x=m x
 | [],_,_=>rfl
 | (n,v)::r,m,h=>by
  unfold bindL
  rw [bindL_out fun w hw=>h w (List.mem_cons_of_mem _ hw)]
  split
  ·have:x≠n:=by rintro rfl; exact h v List.mem_cons_self
   simp [this]
  ·rfl
theorem bindC_out {kindOf:Str->Option NameKind} {x:Str}:∀ {binds:List (Str×Value)} {m:Str->Option Value},(∀ v,(x,v)∉binds)->bindC kindOf binds m x=m x
 | [],_,_=>rfl
 | (n,v)::r,m,h=>by
  unfold bindC
  rw [bindC_out fun w hw=>h w (List.mem_cons_of_mem _ hw)]
  split
  ·rfl
  ·have:x≠n:=by rintro rfl; exact h v List.mem_cons_self
   simp [this]
theorem bindL_get {kindOf:Str->Option NameKind} {x:Str} {v:Value}:∀ {P:List Str} {vs:List Value} {i:Nat} {m:Str->Option Value},P.Nodup->P[i]?=some x->vs[i]?=some v->kindOf x=some .local ->
  bindL kindOf (P.zip vs) m x=some v
 | [],_,_,_,_,h,_,_=>by simp at h
 | _::_,[],_,_,_,_,h,_=>by simp at h
 | p::P,w::vs,0,m,nd,h1,h2,hk=>by
  simp at h1 h2; subst h1; subst h2
  show bindL kindOf ((p,w)::P.zip vs) m p=_
  unfold bindL
  rw [bindL_out fun v hv=>(List.nodup_cons.mp nd).1 (List.of_mem_zip hv).1,if_pos hk]
  simp
 | p::P,w::vs,i+1,m,nd,h1,h2,hk=>by
  show bindL kindOf ((p,w)::P.zip vs) m x=_
  unfold bindL
  exact bindL_get (i:=i) (List.nodup_cons.mp nd).2 (by simpa using h1) (by simpa using h2) hk
theorem bindC_get {kindOf:Str->Option NameKind} {x:Str} {v:Value}:∀ {P:List Str} {vs:List Value} {i:Nat} {m:Str->Option Value},P.Nodup->P[i]?=some x->vs[i]?=some v->kindOf x≠some .local ->
  bindC kindOf (P.zip vs) m x=some v
 | [],_,_,_,_,h,_,_=>by simp at h
 | _::_,[],_,_,_,_,h,_=>by simp at h
 | p::P,w::vs,0,m,nd,h1,h2,hk=>by
  simp at h1 h2; subst h1; subst h2
  show bindC kindOf ((p,w)::P.zip vs) m p=_
  unfold bindC
  rw [bindC_out fun v hv=>(List.nodup_cons.mp nd).1 (List.of_mem_zip hv).1,if_neg hk]
  simp
 | p::P,w::vs,i+1,m,nd,h1,h2,hk=>by
  show bindC kindOf ((p,w)::P.zip vs) m x=_
  unfold bindC
  exact bindC_get (i:=i) (List.nodup_cons.mp nd).2 (by simpa using h1) (by simpa using h2) hk
noncomputable def start (N:List Str) (vs:List V):St:=vs.map some++List.replicate (N.length - vs.length) none
def cxOf (CX:CXT) (P:Program) (w:World) (K:Frag) (mg:Str->Option Value) (base:Heap) (N:List Str) (qual:Str) (scope:Scope) (f:Addr) (cd:Value) (A:Around) (outer:List Env) (s:Shared) (H:Hp) (E:XK):Cx where
 prog:=P
 w:=w
 K:=K
 mg:=mg
 base:=base
 A:=A.deeper (envOfC qual scope s.heap.objs.size f cd)
 N:=N
 s₀:=s
 H₀:=H
 env:=envOfC qual scope s.heap.objs.size f cd
 outer:=outer
 stack:=envOfC qual scope s.heap.objs.size f cd::outer
 ex:=[]
 calm:=true
 fn:=fun _=>true
 pn:=[]
 xe:=fun e s'=>wpAny (model P w) (A.deeper (envOfC qual scope s.heap.objs.size f cd)) (leaving (envOfC qual scope s.heap.objs.size f cd) e) (fun _ s''=>CX outer H s E e s'') (fun e' s''=>CX outer H s E e' s'') s'
theorem cell_has {sc:Scope} {n:Nat} {x:Str} (h:sc.names.lookup x=some .cell):∃ c,(cellsFrom n sc.names []).lookup x=some c:=by
 have q:=PySem.W.cellsFrom_some sc.names n [] (.inl h)
 exact Option.isSome_iff_exists.mp q
theorem inv_start {CX:CXT} {P:Program} {w:World} {K:Frag} {mg:Str->Option Value} {base:Heap} {N ps:List Str} {qual:Str} {scope:Scope} {f:Addr} {cd:Value} {A:Around} {outer:List Env} {s s1:Shared} {H:Hp} {E:XK} {us:List Value} {vs:List V}
  (S:FnScope N ps scope) (hd:A.handled=none) (e0:Env0 P w K mg base A outer s H) (hl:vs.length=ps.length) (r:Vals vs us)
  (x:InCallC s s.heap.objs.size (bindL (envOfC qual scope s.heap.objs.size f cd).kindOf (ps.zip us) fun _=>none) (cellsFrom (s.heap.objs.size+1) scope.names []) (bindC (envOfC qual scope s.heap.objs.size f cd).kindOf (ps.zip us) fun _=>none) s1) :
  Inv (cxOf CX P w K mg base N qual scope f cd A outer s H E) [] (start N vs) H s1:=by
 have hpl:ps.length<=N.length:=by have:=congrArg List.length S.pre; rw [List.length_take] at this; omega
 obtain ⟨h1,tk,rfl,hk⟩:=x.done
 have noA:∀ b:Addr,b∉(cxOf CX P w K mg base N qual scope f cd A outer s H E).ex:=fun b z=>absurd (show b∈([]:List Addr) from z) (by simp)
 refine ⟨⟨e0.mod,S.kind,rfl,rfl,Nat.le_refl _,fun y z c h1 h2=>?_,fun y hy=>?_,fun y c _ h=>?_,fun _=>hd,Around.frames_deeper e0.frames,.inr ⟨rfl,rfl⟩,fun b z=>absurd z (noA b),e0.bs,e0.bsz,fun b _ _=>noA b,fun b z=>absurd z (noA b),e0.funs,e0.frf⟩,
  rfl,e0.bare,Un.kept hk,⟨_,x.toInCall.ns,fun i y v h1 h2 h3=>?_⟩,fun y c h=>⟨_,x.cell y c h⟩,e0.hok.fresh (Nat.le_refl _),fun y c h=>?_,fun p hp=>absurd (show p∈([]:List (Addr×Obj)) from hp) (by simp),e0.hok.kept hk,?_⟩
 ·exact name_of_addr x.apart (PySem.mem_of_lookup h1) (PySem.mem_of_lookup h2)
 ·have hy:scope.names.lookup y=some .cell\/scope.names.lookup y=some .free:=hy
  rcases hy with hy | hy
  ·exact cell_has hy
  ·exact absurd rfl (S.nofree _ (PySem.mem_of_lookup hy))
 ·exact Nat.le_of_lt (x.above y c (PySem.mem_of_lookup h))
 ·have hi:i < vs.length:=by
   unfold start at h2
   by_cases hi:i < vs.length
   ·exact hi
   ·rw [List.getElem?_append_right (by simpa using hi)] at h2
    rw [List.getElem?_replicate] at h2
    split at h2 <;> cases h2
  have ha:vs[i]?=some v:=by
   unfold start at h2
   rw [List.getElem?_append_left (by simpa using hi),List.getElem?_map] at h2
   cases e:vs[i]? with
   | none=>rw [e] at h2; cases h2
   | some a=>rw [e] at h2; cases h2; rfl
  obtain ⟨u,hu,rv⟩:=r.get ha
  have hp:ps[i]?=some y:=by
   rw [<-S.pre,List.getElem?_take_of_lt (by omega)]; exact h1
  have ndP:ps.Nodup:=by rw [<-S.pre]; exact S.nd.sublist (List.take_sublist _ _)
  refine ⟨u,rv,?_⟩
  rcases S.par y (List.mem_of_getElem? hp) with k | k
  ·exact .inl ⟨k,bindL_get ndP hp hu k⟩
  ·obtain ⟨c,e⟩:=cell_has (n:=s.heap.objs.size+1) k
   refine .inr ⟨.inl k,c,e,?_⟩
   have q:=x.cell y c e
   rw [bindC_get ndP hp hu (by show scope.names.lookup y≠_; rw [k]; decide)] at q
   exact q
 ·exact e0.hok.fresh (Nat.le_of_lt (x.above y c (PySem.mem_of_lookup h)))
 ·unfold start
  show _=N.length
  rw [List.length_append,List.length_map,List.length_replicate]
  omega
theorem fn_of {CX:CXT} {P:Program} {w:World} {K:Frag} {mg:Str->Option Value} {base:Heap} {k:Nat} {f:Addr} {name qual:Str} {params:Arguments} {body:List Stmt} {scope:Scope} {dV kV doc pm cdv ct oc:Value} {an od:Option Addr}
  {osl:Array (Option Value)} {N ps:List Str} {sp:Sp} (lk:K.lookup f=some ⟨oc,od,.func (PySem.W.fnOf name qual params body scope dV kV doc pm an cdv ct),osl⟩) (hcd:codeIn K cdv qual=true) (S:FnScope N ps scope)
  (len:∀ vs H Q E,sp vs H Q E->vs.length=ps.length)
  (hbody:∀ (A:Around) (outer:List Env) (s:Shared) (H:Hp) (vs:List V) (Q:VK) (E:XK),Room k (A.deeper (envOfC qual scope s.heap.objs.size f cdv))->sp vs H Q E ->
   ∃ t,PSs (cxOf CX P w K mg base N qual scope f cdv A outer s H E) body t/\t { nx:=fun _ H'=>Q .non H',rt:=Q } (start N vs) H) :
  FnOk P w K mg base CX (k+1) f (PySem.W.fnOf name qual params body scope dV kV doc pm an cdv ct) ps sp:=by
 refine ⟨len,fun A outer s H args us vs Q E hr e0 hb r hsp=>?_⟩
 have hl:=len _ _ _ _ hsp
 have KX:K.In s.heap:=e0.mod.kin.keeps fun b o e=>(e0.bs b o e).1
 have lim:s.heap.NoLimit:=e0.mod.nolimit.keeps fun b o e=>(e0.bs b o e).1
 have hkind:∀ y∈ps.zip us,scope.names.lookup y.1=some .local\/(scope.names.lookup y.1=some .cell/\((cellsFrom (s.heap.objs.size+1) scope.names []).lookup y.1).isSome=true):=fun ⟨n,v⟩ hy=>by
  rcases S.par n (List.of_mem_zip hy).1 with q | q
  ·exact .inl q
  ·exact .inr ⟨q,PySem.W.cellsFrom_some _ _ _ (.inl q)⟩
 refine codeAny_call_function hr.depth (KX _ _ lk) rfl S.co S.gen rfl (PySem.W.codeRec_of KX hcd) (hb _ _ _ _ ?_)
 refine wpAny_newFunctionEnv_cells S.kind hkind fun env he s1 x=>?_
 subst he
 refine ⟨lim.keeps x.toInCall.keep,codeAny_func ?_⟩
 obtain ⟨t,ht,hq⟩:=hbody A outer s H vs Q E (hr.deeper _) hsp
 have I:Inv (cxOf CX P w K mg base N qual scope f cdv A outer s H E) [] (start N vs) H s1:=inv_start S hr.hd e0 hl r x
 refine wpAny_mono (ht [] s1 (start N vs) H _ I hq) (fun fl s' hs=>?_) fun e s' hs=>hs
 have fin:∀ {σ':St} {H':Hp} {v:V} {u:Value},Inv (cxOf CX P w K mg base N qual scope f cdv A outer s H E) [] σ' H' s'->RelV v u->Q v H'->CE outer P w H s Q u s':=
  fun {σ' H' v u} J rv q=>⟨v,H',J.os,J.bare,J.base,J.hok,rv,q⟩
 cases fl with
 | ret u=>
  obtain ⟨v,σ',H',J,rv,q⟩:=hs
  exact fin J rv q
 | next=>
  obtain ⟨σ',H',J,q⟩:=hs
  exact fin (v:=V.non) (u:=Value.none) J rfl q
 | brk=>
  obtain ⟨_,_,_,q⟩:=hs
  exact False.elim q
 | cont=>
  obtain ⟨_,_,_,q⟩:=hs
  exact False.elim q
section
variable {X:Cx} {x:Str} {p pos:Pos} {e:Expr} {es:List Expr} {t:TA} {id T:String} {r:List V->Hp->VK->Prop}
def tCB (r:List V->Hp->VK->Prop) (t:TA):TE:=fun σ H Q=>t σ H fun vs H1=>r vs H1 Q
theorem pe_callB (hc:CallR X (.builtin id) r) (hg:Gl X x) (hm:X.mg x=none) (hv:bootBuiltins x=some (.builtin id)) (ha:PA X (e::es) t) (hn:x ≠ "__name__":=by decide) (hdb:(x == ("__debug__":Str))=false:=by decide)
  (he:starEach (e::es) X.env=(false,eval e X.env)::starEach es X.env:=by rfl) (hpl:(backTo pos (starEach es X.env)).any (·.1)=false:=by rfl):PE X (.Call (.Name x p) (e::es) [] pos) (tCB r t):=by
 refine ⟨?_⟩
 intro pins s σ H Q I h
 refine wpAny_Call_Name_kw (ld_blt I hg hm hv ?_ hn hdb)
 exact PyProof.Rows.callWith_builtin1 (thn (ha pos pins s σ H _ I h) fun us s1 ⟨vs,H1,I1,r1,q1⟩=>hc pins s1 σ H1 vs us Q I1 r1 q1) he hpl
theorem pe_callTy (hc:CallR X (.type T) r) (hg:Gl X x) (hm:X.mg x=none) (hv:bootBuiltins x=some (.type T)) (ha:PA X (e::es) t) (hn:x ≠ "__name__":=by decide) (hdb:(x == ("__debug__":Str))=false:=by decide)
  (he:starEach (e::es) X.env=(false,eval e X.env)::starEach es X.env:=by rfl) (hpl:(backTo pos (starEach es X.env)).any (·.1)=false:=by rfl):PE X (.Call (.Name x p) (e::es) [] pos) (tCB r t):=by
 refine ⟨?_⟩
 intro pins s σ H Q I h
 refine wpAny_Call_Name_kw (ld_blt I hg hm hv ?_ hn hdb)
 exact PyProof.Rows.callWith_type1 (thn (ha pos pins s σ H _ I h) fun us s1 ⟨vs,H1,I1,r1,q1⟩=>hc pins s1 σ H1 vs us Q I1 r1 q1) he hpl
end
end L2
namespace HT
open PySem PyProof.Rows
section
open PySem.SeqAt
open PySem.AutoSeq1 (wpAny_loadPart')
open PySem.MeetsSeq PySem.MeetsSeq2 PySem.MeetsSeq3
end
section
variable {prog:Program} {w:World} {A:Around} {E:Value->Shared->Prop} {s:Shared}
theorem cat_tup {t b:Addr} {vs ws:List Value} {Q:Value->Shared->Prop} (ht:IsTup s.heap t vs.toArray) (hb:IsTup s.heap b ws.toArray) (hv:vs≠[])
  (h1:ws=[]->Q (.ref t) s) (h2:ws≠[]->Q (.ref s.heap.objs.size) { s with heap:=s.heap.push { cls:=.type "tuple",data:=.seq (vs++ws).toArray } })
  (hsz:vs.length+ws.length<=sizeLine):wpAny (model prog w) A (binaryOp .Add (.ref t) (.ref b)) Q E s:=by
 obtain ⟨⟨cls,dd,data,sl⟩,ho,hc,n,hd⟩:=id ht
 obtain ⟨⟨cls2,dd2,data2,sl2⟩,ho2,hc2,n2,hd2⟩:=id hb
 simp only at hc hd hc2 hd2
 subst hc hd hc2 hd2
 have e:vs.toArray++ws.toArray=(vs++ws).toArray:=by simp
 by_cases hw:ws=[]
 ·exact concat_meets ⟨_,ho,rfl⟩ ⟨_,ho2,rfl⟩ noFill_tuple_add seq_tuple_add PySem.F.slot_tuple_add PySem.F.entry_tuple_add (PySem.F.args_tuple_add_2 _ _)
   (tuple_addW1 t b vs.toArray ws.toArray n n2 dd dd2 sl sl2 (by simpa using hv) (by simp [hw])) ⟨ho,ho2,h1 hw⟩
 ·refine concat_meets ⟨_,ho,rfl⟩ ⟨_,ho2,rfl⟩ noFill_tuple_add seq_tuple_add PySem.F.slot_tuple_add PySem.F.entry_tuple_add (PySem.F.args_tuple_add_2 _ _)
   (tuple_addW2 t b vs.toArray ws.toArray n n2 dd dd2 sl sl2 (by simpa using hv) (by simpa using hw) (by rw [List.size_toArray,List.size_toArray]; exact hsz)) ⟨ho,ho2,?_⟩
  rw [e]
  exact h2 hw
theorem slicePart_ {v:Value} {o:Option Int} {Q:Option Int->Shared->Prop} (p:IsPart v o) (h:Q o s):wpAny (model prog w) A (Builtin.Slice.slicePartIndex v) Q E s:=by
 cases p with
 | none=>exact slicePart_none h
 | int i t=>exact slicePart_int h
end
end HT
namespace L2
open PySem PySem.Spec PyProof.Rows
abbrev TO:=St->Hp->(Option Int->Hp->Prop)->Prop
def PO (X:Cx) (e:Option Expr) (t:TO):Prop:=
 ∀ (pins:List (Addr×Obj)) (s:Shared) (σ:St) (H:Hp) (Q:Option Int->Hp->Prop),Inv X pins σ H s->t σ H Q ->
  wpAny (model X.prog X.w) X.A (evalPart e X.env) (fun u s'=>∃ o H',Inv X pins σ H' s'/\IsPart u o/\Q o H') X.xe s
def tNoPart:TO:=fun _ H Q=>Q none H
def tPart (t:TE):TO:=fun σ H Q=>t σ H fun x H1=>∃ i,x=.int i/\Q (some i) H1
section
variable {X:Cx} {e:Expr} {te:TE} {lo hi:Option Expr} {tl th:TO} {pos p2:Pos}
theorem po_none:PO X none tNoPart:=by
 intro pins s σ H Q I h
 rw [evalPart_none]
 exact wpAny_pure ⟨none,H,I,.none,h⟩
theorem po_some (h:PE X e te):PO X (some e) (tPart te):=by
 intro pins s σ H Q I hw
 rw [evalPart_some]
 refine thn (h pins s σ H _ I hw) fun u s1 ⟨x,H1,I1,r1,q1⟩=>?_
 obtain ⟨i,rfl,q⟩:=q1
 obtain ⟨t,rfl⟩:=r1
 exact ⟨some i,H1,I1,.int i t,q⟩
def rCatT (K:Frag):R2:=fun x y H Q=>∃ a b xs ys,x=.ref a/\y=.ref b/\SqT K H a xs/\SqT K H b ys/\xs≠[]/\xs.length+ys.length<=sizeLine /\
 (ys=[]->Q (.ref a) H)/\(ys≠[]->∀ p,H p=none->Q (.ref p) (upd H p (.tup (xs++ys))))
theorem Vals.nil_iff {xs:List V} {us:List Value} (r:Vals xs us):us=[]↔xs=[]:=by
 cases r with
 | nil=>simp
 | cons _ _=>simp
theorem op_catT:OpR X (binaryOp .Add) (rCatT X.K):=by
 intro pins s σ H x y v u Q I rx ry h
 obtain ⟨a,b,xs,ys,rfl,rfl,ha,hb,hx,hz,q1,q2⟩:=h
 cases rx
 cases ry
 obtain ⟨its,r1,p1,_⟩:=I.tuple ha
 obtain ⟨its2,r2,p2,_⟩:=I.tuple hb
 refine HT.cat_tup p1 p2 (fun z=>hx (r1.nil_iff.mp z)) (fun z=>⟨.ref a,H,I,rfl,q1 (r2.nil_iff.mp z)⟩) (fun z=>?_) (by rw [<-r1.length,<-r2.length]; exact hz)
 refine ⟨.ref s.heap.objs.size,_,I.laid (t':=s.toks) (o:=.tup (xs++ys)) (fun b ob q=>Heap.get?_push_of_some _ q) (Nat.le_refl _) ?_,rfl,q2 (fun w=>z (r2.nil_iff.mpr w)) _ (I.hok.fresh (Nat.le_refl _))⟩
 exact ⟨⟨by rw [List.length_append]; exact hz,_,Heap.get?_push_size _ rfl,rfl⟩,_,r1.append r2,IsTup.new _ _⟩
end
noncomputable def ixN (n:Nat) (i:Int):Option Nat:=if 0<=i then (if i < n then some i.toNat else none) else if -(n:Int)<=i then some (i+n).toNat else none
noncomputable def atI {α:Type} (xs:List α) (i:Int):Option α:=(ixN xs.length i).bind fun j=>xs[j]?
theorem ixN_seq {n:Nat} {i:Int} {j:Nat} (h:ixN n i=some j):seqIndex? i n=some j/\j < n/\-(n:Int)<=i/\i < n:=by
 unfold ixN at h
 by_cases h0:0<=i
 ·rw [if_pos h0] at h
  by_cases h1:i < n
  ·rw [if_pos h1] at h
   have e:i.toNat=j:=Option.some.inj h
   exact ⟨by rw [seqIndex_of h0 h1,e],by omega,by omega,h1⟩
  ·rw [if_neg h1] at h; cases h
 ·rw [if_neg h0] at h
  by_cases h1:-(n:Int)<=i
  ·rw [if_pos h1] at h
   have e:(i+n).toNat=j:=Option.some.inj h
   exact ⟨by rw [seqIndex_neg (by omega) h1,e],by omega,h1,by omega⟩
  ·rw [if_neg h1] at h; cases h
theorem atI_get {α:Type} {xs:List α} {i:Int} {v:α} (h:atI xs i=some v):∃ j,seqIndex? i xs.length=some j/\xs[j]?=some v/\j < xs.length/\-(xs.length:Int)<=i/\i < xs.length:=by
 unfold atI at h
 cases e:ixN xs.length i with
 | none=>rw [e] at h; cases h
 | some j=>
  rw [e] at h
  obtain ⟨h1,h2,h3,h4⟩:=ixN_seq e
  exact ⟨j,h1,h,h2,h3,h4⟩
theorem atI_nat {α:Type} {xs:List α} {j:Nat} {v:α} (h:xs[j]?=some v):atI xs (j:Int)=some v:=by
 have hj:j < xs.length:=(List.getElem?_eq_some_iff.mp h).1
 have e:ixN xs.length (j:Int)=some j:=by
  unfold ixN
  rw [if_pos (by omega),if_pos (by omega)]; simp
 unfold atI; rw [e]; exact h
def PlainIx (b:Expr):Prop:=∀ o i,subscripted b false o i=operate [o,i] (getItem o i)
def IxR (X:Cx) (r:R2):Prop:=
 ∀ (value slice:Expr) (pins:List (Addr×Obj)) (s:Shared) (σ:St) (H:Hp) (x y:V) (v u:Value) (Q:VK),Inv X pins σ H s->RelV x v->RelV y u->r x y H Q ->
  subscripted slice false v u=operate [v,u] (getItem v u)->wpAny (model X.prog X.w) X.A (subscriptTail value slice v u) (EP X pins σ Q) X.xe s
def MtR (X:Cx) (id:String) (r:V->List V->Hp->VK->Prop):Prop:=
 ∀ (pins:List (Addr×Obj)) (s:Shared) (σ:St) (H:Hp) (x:V) (xs:List V) (v:Value) (us:List Value) (Q:VK),Inv X pins σ H s->RelV x v->Vals xs us->r x xs H Q ->
  wpAny (model X.prog X.w) X.A (call (.builtin id) (v::us)) (EP X pins σ Q) X.xe s
section
variable {X:Cx} {a b:Expr} {ta tb:TE} {pos:Pos}
theorem IxR.or {r r':R2} (h:IxR X r) (h':IxR X r'):IxR X (fun x y H Q=>r x y H Q\/r' x y H Q):=by
 intro value slice pins s σ H x y v u Q I rx ry q hs
 rcases q with q | q
 ·exact h value slice pins s σ H x y v u Q I rx ry q hs
 ·exact h' value slice pins s σ H x y v u Q I rx ry q hs
theorem pe_ix {r:R2} (hr:IxR X r) (ha:PE X a ta) (hb:PE X b tb) (hs:PlainIx b):PE X (.Subscript a b pos) (tOp r ta tb):=by
 refine ⟨?_⟩
 intro pins s σ H Q I h
 exact Subscript_ (binT ha hb I h fun v u s2 x y H2 I2 rx ry q=>hr a b pins s2 σ H2 x y v u Q I2 rx ry q (hs _ _))
def rIxL (K:Frag):R2:=fun x y H Q=>∃ p xs i v,x=.ref p/\y=.int i/\SqL K H p xs/\atI xs i=some v/\Q v H
def rIxT (K:Frag):R2:=fun x y H Q=>∃ p xs i v,x=.ref p/\y=.int i/\SqT K H p xs/\atI xs i=some v/\Q v H
def rIxS:R2:=fun x y H Q=>∃ z i c,x=.str z/\y=.int i/\z.length<=sizeLine/\atI z.cps.toList i=some c/\Q (.str ⟨#[c]⟩) H
theorem ix_list:IxR X (rIxL X.K):=by
 intro value slice pins s σ H x y v u Q I rx ry h hs
 obtain ⟨p,xs,i,z,rfl,rfl,hq,he,q⟩:=h
 cases rx
 obtain ⟨t,rfl⟩:=ry
 obtain ⟨its,r,pl,hz⟩:=I.list hq
 obtain ⟨j,h1,h2,h3,h4,h5⟩:=atI_get he
 obtain ⟨w,ew,rw'⟩:=r.get h2
 have hl:=r.length
 have hn:=line63
 have fin:EP X pins σ Q w s:=⟨z,H,I,rw',q⟩
 by_cases h0:0<=i
 ·have hj:i.toNat=j:=by
   rw [seqIndex_of h0 h5] at h1
   exact Option.some.inj h1
  exact item_listR pl.isList h0 (by omega) (by rw [hj]; simpa using ew) fin hs
 ·have hj:(i+(its.toArray.size:Int)).toNat=j:=by
   rw [seqIndex_neg (by omega) h4] at h1
   rw [List.size_toArray,<-hl]
   exact Option.some.inj h1
  exact subscriptTail_builtinR (x:=w) pl.isList.typeIs slot_list_getitem.lookup
   (wpAny_getItem_list_neg (Q:=fun r s'=>r=w/\EP X pins σ Q r s') pl.isList (by omega) (by rw [List.size_toArray] <;> omega) (by omega) (by rw [hj]; simpa using ew) ⟨rfl,fin⟩) hs
theorem ix_tup:IxR X (rIxT X.K):=by
 intro value slice pins s σ H x y v u Q I rx ry h hs
 obtain ⟨p,xs,i,z,rfl,rfl,hq,he,q⟩:=h
 cases rx
 obtain ⟨t,rfl⟩:=ry
 obtain ⟨its,r,pl,hz⟩:=I.tuple hq
 obtain ⟨j,h1,h2,h3,h4,h5⟩:=atI_get he
 obtain ⟨w,ew,rw'⟩:=r.get h2
 have hl:=r.length
 have hn:=line63
 have fin:EP X pins σ Q w s:=⟨z,H,I,rw',q⟩
 exact subscriptTail_builtinR (x:=w) pl.typeIs slot_tuple_getitem.lookup
  (getItem_tuple (j:=j) (Q:=fun r s'=>r=w/\EP X pins σ Q r s') pl (by omega) (by omega) (by rw [List.size_toArray,<-hl]; exact h1) (by simpa using ew) ⟨rfl,fin⟩) hs
theorem ix_str:IxR X rIxS:=by
 intro value slice pins s σ H x y v u Q I rx ry h hs
 obtain ⟨z,i,c,rfl,rfl,hz,he,q⟩:=h
 obtain ⟨t,rfl⟩:=rx
 obtain ⟨t',rfl⟩:=ry
 obtain ⟨j,h1,h2,h3,h4,h5⟩:=atI_get he
 have hl:z.cps.toList.length=z.length:=by simp [Str.length]
 rw [hl] at h1 h4 h5
 have hn:=line63
 exact tail_any (typeIs_str s z t) slot_str_getitem.lookup (getItem_str (c:=c) (by
  have e1:decide (i < -(2 ^ 63:Int))=false:=decide_eq_false (by omega)
  have e2:decide (i ≥ 2 ^ 63)=false:=decide_eq_false (by omega)
  rw [e1,e2,Bool.or_false]) (by rw [h1]; simpa using h2) ⟨.str ⟨#[c]⟩,H,I.tok _,⟨_,rfl⟩,q⟩) hs
def rIx (K:Frag):R2:=fun x y H Q=>rIxL K x y H Q\/rIxT K x y H Q\/rIxS x y H Q
theorem ix_seq:IxR X (rIx X.K):=ix_list.or (ix_tup.or ix_str)
theorem call_list_of:CallR X (.type "list") (fun xs H Q=>∃ p ys,xs=[.ref p]/\(SqL X.K H p ys\/SqT X.K H p ys)/\∀ l,H l=none->Q (.ref l) (upd H l (.lst ys))):=by
 intro pins s σ H xs us Q I r h
 obtain ⟨p,ys,rfl,hq,q⟩:=h
 obtain ⟨u,rfl,rx⟩:=vals1 r
 cases rx
 have fin:∀ (its:List Value),Vals ys its->ys.length<=sizeLine->∀ (h':Heap) (c':Nat),(∀ b o',s.heap.get? b=some o'->h'.get? b=some o') ->
   h'.get? s.heap.objs.size=some { cls:=.type "list",dict:=none,data:=.seq its.toArray c',slots:=#[] }->EP X pins σ Q (.ref s.heap.objs.size) { s with heap:=h' }:=fun its r' hz h' c' kp e=>
  ⟨.ref s.heap.objs.size,_,I.laid (t':=s.toks) kp (Nat.le_refl _) (show ObjOk X.prog X.w _ h' _ (.lst ys) from ⟨hz,its,c',r',e⟩),rfl,q _ (I.hok.fresh (Nat.le_refl _))⟩
 rcases hq with hq | hq
 ·obtain ⟨its,r',pl,hz⟩:=I.list hq
  have hlen:=r'.length
  obtain ⟨o,ho,hc,n,hd⟩:=pl.isList
  exact call_list_seq p (.inl rfl) ho hc hd (fun h' c' kp e=>fin its r' hz h' c' kp e) (by simp only [List.size_toArray] <;> omega)
 ·obtain ⟨its,r',pl,hz⟩:=I.tuple hq
  have hlen:=r'.length
  obtain ⟨o,ho,hc,n,hd⟩:=pl
  exact call_list_seq p (.inr rfl) ho hc hd (fun h' c' kp e=>fin its r' hz h' c' kp e) (by simp only [List.size_toArray] <;> omega)
theorem call_tuple_of:CallR X (.type "tuple") (fun xs H Q=>∃ p ys,xs=[.ref p]/\((SqL X.K H p ys/\∀ l,H l=none->Q (.ref l) (upd H l (.tup ys)))\/(SqT X.K H p ys/\Q (.ref p) H))):=by
 intro pins s σ H xs us Q I r h
 obtain ⟨p,ys,rfl,h⟩:=h
 obtain ⟨u,rfl,rx⟩:=vals1 r
 cases rx
 rcases h with ⟨hq,q⟩ | ⟨hq,q⟩
 ·obtain ⟨its,r',pl,hz⟩:=I.list hq
  have hlen:=r'.length
  refine call_tuple_list pl.isList (fun h' kp=>?_) (by simp only [List.size_toArray] <;> omega)
  have I1:Inv X pins σ H { s with heap:=h' }:=I.kept (t':=s.toks) kp
  have I2:Inv X pins σ (upd H h'.objs.size (.tup ys)) { s with heap:=h'.push { cls:=.type "tuple",data:=.seq its.toArray } }:=
   I1.laid (t':=s.toks) (fun b o e=>Heap.get?_push_of_some _ e) (Nat.le_refl _) (show ObjOk X.prog X.w _ _ _ (.tup ys) from ⟨⟨hz,_,Heap.get?_push_size _ rfl,rfl⟩,its,r',IsTup.new _ _⟩)
  exact ⟨.ref h'.objs.size,_,I2,rfl,q _ (I1.hok.fresh (Nat.le_refl _))⟩
 ·obtain ⟨its,r',pl,hz⟩:=I.tuple hq
  exact call_tuple_same pl ⟨.ref p,H,I,rfl,q⟩
def tyV (K:Frag) (T:String) (x:V) (H:Hp):Prop:=match x with
 | .str _=>T = "str"
 | .int _=>T = "int"
 | .ref p=>(T = "list"/\∃ xs,SqL K H p xs)\/(T = "tuple"/\∃ o,K.lookup p=some o/\o.cls=.type "tuple"/\o.dict=none) \/
   (T = "dict"/\((∃ kvs,H p=some (.dK kvs))\/∃ kvs,H p=some (.dT kvs)))\/(T = "set"/\∃ S n,H p=some (.set S n))
 | _=>False
theorem tyV_is {pins:List (Addr×Obj)} {σ:St} {H:Hp} {s:Shared} {T:String} {x:V} {v:Value} (I:Inv X pins σ H s) (r:RelV x v) (ty:tyV X.K T x H) :
  s.TypeIs v T/\∀ a,v=.ref a->∃ ob,s.heap.get? a=some ob/\ob.dict=none:=by
 cases x with
 | str z=>
  obtain ⟨t,rfl⟩:=r
  cases (show T = "str" from ty)
  exact ⟨typeIs_str s z t,fun _ e=>nomatch e⟩
 | int i=>
  obtain ⟨t,rfl⟩:=r
  cases (show T = "int" from ty)
  exact ⟨typeIs_int s i t,fun _ e=>nomatch e⟩
 | ref p=>
  cases r
  rcases ty with ⟨rfl,xs,hq⟩ | ⟨rfl,o,hk,hc,hd⟩ | ⟨rfl,hk⟩ | ⟨rfl,S,n,hk⟩
  ·obtain ⟨its,_,pl,_⟩:=I.list hq
   refine ⟨pl.isList.typeIs,fun a e=>?_⟩
   cases e
   obtain ⟨o,n,e,c,hd,_⟩:=pl
   exact ⟨o,e,hd⟩
  ·refine ⟨⟨o,I.kIn p o hk,hc⟩,fun a e=>?_⟩
   cases e
   exact ⟨o,I.kIn _ o hk,hd⟩
  ·have z:∃ o,s.heap.get? p=some o/\o.ExactDict:=by
    rcases hk with ⟨kvs,hk⟩ | ⟨kvs,hk⟩
    ·obtain ⟨_,_,_,_,o,_,_,e,ex,_⟩:=I.hok p _ hk
     exact ⟨o,e,ex⟩
    ·obtain ⟨_,_,_,_,o,_,_,e,ex,_⟩:=I.hok p _ hk
     exact ⟨o,e,ex⟩
   obtain ⟨o,e,ex⟩:=z
   refine ⟨⟨o,e,ex.1⟩,fun a e2=>?_⟩
   cases e2
   exact ⟨o,e,ex.2.1⟩
  ·obtain ⟨o,_,_,_,e,ex,_⟩:=I.hok p _ hk
   refine ⟨⟨o,e,ex.1⟩,fun a e2=>?_⟩
   cases e2
   exact ⟨o,e,ex.2.1⟩
 | _=>exact False.elim ty
def tBM (K:Frag) (T:String) (r:V->List V->Hp->VK->Prop) (to:TE) (t:TA):TE:=fun σ H Q=>to σ H fun x H1=>tyV K T x H1/\t σ H1 fun xs H2=>r x xs H2 Q
variable {o e:Expr} {es:List Expr} {to:TE} {t:TA} {name:Str} {apos cpos:Pos} {T id:String} {r:V->List V->Hp->VK->Prop}
theorem pe_bm (pa:PlainAttrs T) (slot:Slot T name id) (hty:typeOf (.builtin id)=pure (.type "method_descriptor")) (hm:MtR X id r) (ho:PE X o to) (ha:PA X (e::es) t)
  (hbase:attributeBase o name X.env (eval o X.env)=eval o X.env:=by rfl)
  (hfew:((backTo cpos (starEach (e::es) X.env)).all (fun x=>!x.1)&&(backToKw cpos (keywordEach [] X.env)).all (fun x=>x.1.isSome)
   && decide ((e::es).length+([]:List Keyword).length+(if ([]:List Keyword).isEmpty then 0 else 1) < 30))=true:=by rfl)
  (hline:(apos.endLine == cpos.line)=true:=by rfl) (hs:starEach (e::es) X.env=(false,eval e X.env)::starEach es X.env:=by rfl) (hplain:(backTo cpos (starEach es X.env)).any (·.1)=false:=by rfl) :
  PE X (.Call (.Attribute o name apos) (e::es) [] cpos) (tBM X.K T r to t):=by
 refine ⟨?_⟩
 intro pins s σ H Q I h
 refine wpAny_Call_method_late hbase hfew hline rfl (thn (ho pins s σ H _ I h) fun v s1 ⟨x,H1,I1,r1,ty,q1⟩=>?_)
 obtain ⟨h1,h2⟩:=tyV_is I1 r1 ty
 refine ⟨T,id,pa,slot,hty,h1,h2,?_⟩
 have hA:=ha cpos pins s1 σ H1 _ I1 q1
 rw [hs] at hA ⊢
 refine Calls.callWith_builtin (by show (false||(backTo cpos (starEach es X.env)).any (·.1))=false; rw [hplain] <;> rfl) (Calls.evalArgs_plain ?_)
 exact thn hA fun us s2 ⟨vs,H2,I2,r2,q2⟩=>hm pins s2 σ H2 x vs v us Q I2 r1 r2 q2
end
def MtM (X:Cx) (id:String) (r:V->List V->Hp->VK->Prop):Prop:=
 ∀ (pins:List (Addr×Obj)) (s:Shared) (σ:St) (H:Hp) (x:V) (xs:List V) (v:Value) (us:List Value) (Q:VK),Inv X pins σ H s->RelV x v->Vals xs us->r x xs H Q ->
  wpAny (model X.prog X.w) X.A (call (.builtin id) (v::us)) (EP X pins σ Q) X.xe s
theorem Vals.one:∀ {x:V} {us:List Value},Vals [x] us->∃ u,us=[u]/\RelV x u
 | _,_,.cons r .nil=>⟨_,rfl,r⟩
theorem Vals.zero:∀ {us:List Value},Vals [] us->us=[]
 | _,.nil=>rfl
theorem Vals.eraseIdx:∀ {xs:List V} {us:List Value} (i:Nat),Vals xs us->Vals (xs.eraseIdx i) (us.eraseIdx i)
 | _,_,_,.nil=>.nil
 | _,_,0,.cons _ t=>t
 | _,_,i+1,.cons r t=>.cons r (Vals.eraseIdx i t)
theorem Vals.rep {xs:List V} {us:List Value} (h:Vals xs us):∀ k:Nat,Vals (List.replicate k xs).flatten (List.replicate k us).flatten
 | 0=>.nil
 | k+1=>by
  rw [List.replicate_succ,List.replicate_succ,List.flatten_cons,List.flatten_cons]
  exact Vals.append h (Vals.rep h k)
section
variable {X:Cx} {pins:List (Addr×Obj)} {σ:St} {H:Hp} {s:Shared} {l b:Addr} {xs ys zs:List V}
theorem Inv.lset {its its':List Value} {n:Nat} {f:Array Value->Array Value} {t':Nat} (I:Inv X pins σ H s) (hH:H l=some (.lst xs))
  (e:s.heap.get? l=some { cls:=.type "list",data:=.seq its.toArray n }) (hf:f its.toArray=its'.toArray) (hv:Vals ys its') (hz:ys.length<=sizeLine) :
  Inv X pins σ (upd H l (.lst ys)) { s with heap:=s.heap.update l (Obj.mapSeq f),toks:=t' }:=by
 have q:=PySem.IsL.update e f
 rw [hf] at q
 refine I.write (x:=l) (e:=l) (by rw [hH]; exact trivial) (.inl rfl) (fun b' u hb hu=>(Heap.get?_update_other s.heap (Obj.mapSeq f) (Ne.symm hb)).trans hu) ⟨_,q⟩ ?_
 exact ⟨hz,its',_,hv,q⟩
theorem Inv.lnew {its:List Value} {t':Nat} (I:Inv X pins σ H s) (hv:Vals ys its) (hz:ys.length<=sizeLine) :
  Inv X pins σ (upd H s.heap.objs.size (.lst ys)) { s with heap:=s.heap.push { cls:=.type "list",data:=.seq its.toArray },toks:=t' }:=
 I.laid (fun _ _ q=>Heap.get?_push_of_some _ q) (Nat.le_refl _) ⟨hz,its,0,hv,Heap.get?_push_size _ rfl⟩
theorem Inv.fresh (I:Inv X pins σ H s):H s.heap.objs.size=none:=I.hok.fresh (Nat.le_refl _)
theorem Inv.lstM (I:Inv X pins σ H s) (hH:H l=some (.lst xs)):xs.length<=sizeLine/\∃ (its:List Value) (n:Nat),Vals xs its/\xs.length=its.length/\s.heap.get? l=some { cls:=.type "list",data:=.seq its.toArray n }:=by
 obtain ⟨z,its,n,r,e⟩:=I.hok l _ hH
 exact ⟨z,its,n,r,r.length,e⟩
theorem notLongL {n:Nat} (h:n<=sizeLine):Builtin.List.listTooLong n=false:=by
 unfold Builtin.List.listTooLong
 exact decide_eq_false (by omega)
end
section
variable {X:Cx}
def rAppend:V->List V->Hp->VK->Prop:=fun x vs H Q=>∃ l xs y,x=.ref l/\vs=[y]/\H l=some (.lst xs)/\xs.length < sizeLine/\Q .non (upd H l (.lst (xs++[y])))
theorem mt_append:MtM X "list.append" rAppend:=by
 intro pins s σ H x vs v us Q I rx rv h
 obtain ⟨l,xs,y,rfl,rfl,hH,hz,q⟩:=h
 cases rx
 obtain ⟨u,rfl,ru⟩:=rv.one
 obtain ⟨z,its,n,r,hl,e⟩:=I.lstM hH
 refine call_meets F.slot_list_append ⟨_,e,rfl⟩ F.entry_list_append (F.args_list_append_2 _ _) (PySem.list_append l its.toArray n u (by rw [List.size_toArray]; omega)) ⟨e,?_⟩
 refine ⟨.non,_,I.lset (its':=its++[u]) hH e (by simp) (r.append (.cons ru .nil)) ?_,rfl,q⟩
 rw [List.length_append,List.length_singleton]
 omega
def rExtend:V->List V->Hp->VK->Prop:=fun x vs H Q=>∃ l b xs zs,x=.ref l/\vs=[.ref b]/\H l=some (.lst xs)/\H b=some (.lst zs)/\xs.length+zs.length<=sizeLine/\Q .non (upd H l (.lst (xs++zs)))
theorem mt_extend:MtM X "list.extend" rExtend:=by
 intro pins s σ H x vs v us Q I rx rv h
 obtain ⟨l,b,xs,zs,rfl,rfl,hH,hB,hz,q⟩:=h
 cases rx
 obtain ⟨u,rfl,ru⟩:=rv.one
 cases ru
 obtain ⟨z,its,n,r,hl,e⟩:=I.lstM hH
 obtain ⟨z2,its2,n2,r2,hl2,e2⟩:=I.lstM hB
 have hsz:its.toArray.size+its2.toArray.size<=sizeLine:=by rw [List.size_toArray,List.size_toArray]; omega
 have hlong:¬(!its.toArray.isEmpty&&Builtin.List.listTooLong (its.toArray.size+its2.toArray.size))=true:=by
  rw [notLongL hsz,Bool.and_false]
  exact Bool.false_ne_true
 refine call_meets F.slot_list_extend ⟨_,e,rfl⟩ F.entry_list_extend (F.args_list_extend_2 _ _)
  (AutoSeq1.list_extend_list_list_0 l its.toArray n b its2.toArray n2 hlong (by rw [List.size_toArray]; omega) (by omega)) ⟨e,e2,?_⟩
 refine ⟨.non,_,I.lset (its':=its++its2) hH e (by simp) (r.append r2) ?_,rfl,q⟩
 rw [List.length_append]
 omega
end
end L2
namespace Att
open PySem PySem.W PySem.Calls PyProof.Rows
theorem ints_of_wellAll {P:Params} {h:Heap}:∀ (ns:List Int) (vs:List Value),WellAll P h vs (ns.map WData.int)->IntsAre vs ns:=by
 intro ns
 induction ns with
 | nil=>
  intro vs w
  rw [List.map_nil] at w
  cases w
  exact .nil
 | cons n ns ih=>
  intro vs w
  rw [List.map_cons] at w
  cases w with
  | cons a b=>
   cases a
   exact .cons _ _ (ih _ b)
theorem script_of {l:OpenLaw} {n:Nat} (hn:l.most=some n) {P:Params} {h:Heap} {args:List WData} {vals:List Value}
  (hpre:l.row.toRowW.claim.pre args=true) (hwl:WellAll P h vals args) :
  ∃ a vs ns,vals=[Value.ref a]/\args=[WData.list (ns.map WData.int)]/\h.get? a=some { cls:=.type "list",data:=.seq vs.toArray }/\IntsAre vs ns/\ns.length<=n:=by
 have hsh:WShape.hasAll [] args [.list .int]=true:=(pre_splitW hpre).1
 have hc:l.pre.holds [] { args:=args }=true:=(pre_splitW hpre).2
 obtain ⟨d,r,rfl,h1,h2⟩:=hasAllW_cons hsh
 obtain rfl:=hasAllW_nil h2
 obtain ⟨xs,rfl,h3⟩:=hasW_list h1
 obtain ⟨ns,rfl⟩:=items_int h3
 have hlen:ns.length<=n:=by
  unfold OpenLaw.pre at hc
  have h4:(WTm.not (.lt (.lit (.int (n:Int))) (.len (.arg 0)))).holds [] { args:=[.list (ns.map .int)] }=true:=by
   have h4:=(holds_andW hc).1
   rw [hn] at h4
   exact h4
  have h5:=condW_of h4 (w_not (w_lt w_lit (w_len_list (w_arg rfl))))
  rw [List.length_map] at h5
  refine Nat.le_of_not_lt fun q=>?_
  have q':(n:Int) < ((ns.length:Nat):Int):=by omega
  first
   | (rw [decide_eq_true q'] at h5; exact absurd h5 (by decide))
   | (simp at h5; omega)
 cases hwl with
 | cons w1 w2=>
  cases w2
  cases w1 with
  | list ho hall=>exact ⟨_,_,ns,rfl,rfl,ho,ints_of_wellAll ns _ hall,hlen⟩
theorem post_true (l:OpenLaw) (args:List WData):l.row.toRowW.claim.post args (.bool true) args=true:=
 postW_of (r:=l.row.toRowW) (X:=(true == true))
  (show WShape.has [] (.bool true) .bool=true by first | rfl | decide | simp [WShape.has,WShape.arms,WShape.armsAll])
  (show (WTm.eq .res (.lit (.bool true))).value [] { args:=args,res:=some (.bool true),after:=args }=some (.bool (true == true)) from w_eq_bool (w_res rfl) w_lit) rfl
theorem attach_call {l:OpenLaw} {n:Nat} {q:Program} {loose:List Str} {XP:(Str->Option Value)->Heap->Prop} {YP:World->Heap->Prop} {d:DefRec}
  (hn:l.most=some n) (hdf:d.params.defaults=[])
  (call:∀ (w:World) (s₀ s₁:Shared) (mg mb:Str->Option Value) (fa:Addr) (o:Obj) (pm cd doc:Value) (a:Addr) (vs:List Value) (ns:List Int),
   Ground q loose [] XP w s₀ mg mb s₁.heap->YP w s₁.heap ->
   s₁.heap.get? fa=some o->o.data=.func (docDef d.name d.params d.body d.scope pm cd doc)->s₁.heap.CodeRec cd d.name->mg d.name=some (.ref fa) ->
   s₁.heap.get? a=some { cls:=.type "list",data:=.seq vs.toArray }->IntsAre vs ns->ns.length<=n->s₁.gens=#[] ->
   codeAny (model l.prog w) callerA (.call (.ref fa) ⟨[.ref a],[]⟩) (fun r s'=>r=.ok (.ret (.bool true))/\OldK s₁.heap s'.heap/\s'.os=s₁.os/\AllBare s'.gens) s₁) :
  WalkO q loose XP YP l.row.toRowW d [] (fun f vs=>PySem.call f vs):=by
 intro w s₀ s₁ mg mb G Y fa o pm cd doc dV kV ho hd hcd hD hmg hg args vals as hpre hlay hrd hwl hlo
 obtain rfl:dV=.none:=Dflts.none hD hdf
 obtain rfl:kV=.none:=Dflts.noKw hD
 obtain ⟨a,vs,ns,rfl,rfl,hobj,hints,hlen⟩:=script_of hn hpre hwl
 refine enter_call (codeAny_mono (call w s₀ s₁ mg mb fa o pm cd doc a vs ns G Y ho (fd_plain hd) hcd hmg hobj hints hlen hg) fun r s' hq=>?_)
 obtain ⟨rfl,h2,h3,h4⟩:=hq
 exact ⟨.inl ⟨.bool true,.bool true,[],rfl,fun _=>rfl,.bool true,post_true l _,fun _=>⟨List.Pairwise.nil,fun _ hm=>(nomatch hm)⟩⟩,h2,h3,h4⟩
end Att
namespace L2
open PySem PySem.Spec PyProof.Rows
theorem vals_ints:∀ {vs:List Value} {ns:List Int},IntsAre vs ns->Vals (ns.map V.int) vs
 | _,_,.nil=>.nil
 | _,_,.cons n t h=>.cons ⟨t,rfl⟩ (vals_ints h)
def Only (H:Hp):Prop:=∀ b,H b=none\/∃ o xs,H b=some (.frz o (.lst xs))
theorem law_call {P:Program} {w:World} {K:Frag} {mg mb:Str->Option Value} {CX:CXT} {k:Nat} {fa a:Addr} {fd:FuncData} {x:Str} {sp:Sp} {s₁:Shared} {vs:List Value} {ns:List Int}
  (KX:K.In s₁.heap) (hns:s₁.heap.Ns mainGlobals mg) (hb:s₁.heap.Ns builtinsNs mb) (hbb:∀ x:Str,x ≠ "__name__"->mb x=bootBuiltins x) (hlim:s₁.heap.NoLimit) (hg:s₁.gens=#[])
  (ha:s₁.heap.get? a=some { cls:=.type "list",data:=.seq vs.toArray }) (hi:IntsAre vs ns) (hl:ns.length<=sizeLine) (hr:Room k callerA)
  (F:∀ base:Heap,K.In base->base.Ns mainGlobals mg->FnOk P w K mg base CX k fa fd [x] sp) (hbind:∀ (s:Shared) (u:Value),BindsTo s fd ⟨[u],[]⟩ [(x,u)])
  (hsp:∀ H:Hp,Only H->SqL K H a (ns.map V.int)->sp [.ref a] H (fun v _=>v=.bl true) fun _ _ _=>False)
  (hCX:∀ H e s',CX [] H s₁ (fun _ _ _=>False) e s'->False) :
  codeAny (model P w) callerA (.call (.ref fa) ⟨[.ref a],[]⟩) (fun r s'=>r=.ok (.ret (.bool true))/\OldK s₁.heap s'.heap/\s'.os=s₁.os/\AllBare s'.gens) s₁:=by
 have rv:=vals_ints hi
 have lenV:=hi.length
 have core:∀ H:Hp,Only H->SqL K H a (ns.map V.int)->HOk P w H s₁.heap->(∀ b,H b≠none->b=a)->(H a≠none->K.lookup a=none) ->
   codeAny (model P w) callerA (.call (.ref fa) ⟨[.ref a],[]⟩) (fun r s'=>r=.ok (.ret (.bool true))/\OldK s₁.heap s'.heap/\s'.os=s₁.os/\AllBare s'.gens) s₁:=by
  intro H hO hS hok hA hK
  have base_of:∀ {b:Addr} {o:Obj},s₁.heap.get? b=some o->H b=none->(hidT s₁.heap H).get? b=some o:=fun e n=>hidT_get e n
  have noA:∀ {b:Addr} {o:Obj} {es:Array DictEntry} {ep:Nat},s₁.heap.get? b=some o->o.data=.dict es ep->H b=none:=fun {b o es ep} e d=>by
   cases q:H b with
   | none=>rfl
   | some u=>
    have e':b=a:=hA b (by rw [q]; simp)
    subst e'
    rw [ha] at e; cases e
    have d':Data.seq vs.toArray _=Data.dict es ep:=d
    cases d'
  have nsK:∀ {b:Addr} {m:Str->Option Value},s₁.heap.Ns b m->(hidT s₁.heap H).Ns b m:=fun {b m} ⟨o,es,ep,e,d,r⟩=>⟨o,es,ep,base_of e (noA e d),d,r⟩
  have hKb:K.In (hidT s₁.heap H):=fun b o e=>base_of (KX b o e) (by
   cases q:H b with
   | none=>rfl
   | some u=>
    have e':b=a:=hA b (by rw [q]; simp)
    subst e'
    rw [hK (by rw [q]; simp)] at e; cases e)
  have hM:Mod K mg (hidT s₁.heap H):=⟨hKb,nsK hns,⟨mb,nsK hb,hbb⟩,let ⟨mc,h1,h2⟩:=hlim; ⟨mc,nsK h1,h2⟩⟩
  have e0:Env0 P w K mg (hidT s₁.heap H) callerA [] s₁ H:=⟨rfl,hM,fun b o e=>of_hidT e,Nat.le_of_eq (hidT_size _ _),trivial,fun b hb=>absurd (show b∈([]:List Addr) from hb) (by simp),hok,.of_eq hg⟩
  refine codeAny_mono ((F _ hKb (nsK hns)).run callerA [] s₁ H ⟨[.ref a],[]⟩ [.ref a] [.ref a] _ _ hr e0 (hbind s₁ (.ref a)) (.cons rfl .nil) (hsp H hO hS)) fun r s' h=>?_
  cases r with
  | error e=>exact (hCX H e s' h).elim
  | ok fl=>
   cases fl with
   | next=>exact False.elim h
   | brk=>exact False.elim h
   | cont=>exact False.elim h
   | ret u=>
    obtain ⟨v,H',os,bare,un,hok',r',q⟩:=h
    have q':v=.bl true:=q
    subst q'
    obtain rfl:u=Value.bool true:=r'
    refine ⟨rfl,OldK.of_keep fun b o e=>?_,os,bare⟩
    cases q:H b with
    | none=>exact un.keep b o e q (by intro z; exact absurd (show b∈([]:List Addr) from z) (by simp)) (by simp)
    | some u=>
     rcases hO b with z | ⟨ob,xs,z⟩
     ·rw [q] at z; cases z
     ·have z2:=un.frzs b ob _ z
      obtain ⟨e1,_⟩:=hok b _ z
      obtain ⟨e2,_⟩:=hok' b _ z2
      rw [e] at e1; cases e1
      exact e2
 cases hk:K.lookup a with
 | some o=>
  have e:=KX a o hk
  rw [ha] at e
  cases e
  refine core (fun _=>none) (fun _=>.inl rfl) (.inr ⟨_,vs.toArray,_,hk,rfl,rfl,rfl,by rw [List.size_toArray,lenV]; exact hl,by simpa using rv⟩) (fun b u z=>by have z':(none:Option HO)=some u:=z; cases z') (fun b z=>absurd rfl z) fun z=>absurd rfl z
 | none=>
  refine core (fun b=>if b=a then some (.frz { cls:=.type "list",data:=.seq vs.toArray } (.lst (ns.map V.int))) else none) (fun b=>?_) (.inl (.inr ⟨{ cls:=.type "list",data:=.seq vs.toArray },if_pos rfl⟩)) (fun b u z=>?_) (fun b z=>?_) fun _=>hk
  ·by_cases hb:b=a
   ·exact .inr ⟨_,_,if_pos hb⟩
   ·exact .inl (if_neg hb)
  ·by_cases hb:b=a
   ·have z':=(if_pos hb).symm.trans z
    cases z'
    subst hb
    exact ⟨ha,by rw [List.length_map]; exact hl,vs,_,rv,ha⟩
   ·have z':=(if_neg hb).symm.trans z
    cases z'
  ·by_cases hb:b=a
   ·exact hb
   ·exact absurd (if_neg hb) z
theorem walk_of {l:PySem.W.OpenLaw} {n k:Nat} {q:Program} {loose:List Str} {XP:(Str->Option Value)->Heap->Prop} {YP:World->Heap->Prop} {d:DefRec} {K:Params->Frag} {CX:World->CXT} {sp:World->Sp} {x:Str}
  (hn:l.most=some n) (hn2:n<=sizeLine) (hdf:d.params.defaults=[]) (hr:Room k callerA)
  (hY:∀ (w:World) (h:Heap),YP w h->(K w.params).In h)
  (F:∀ (w:World) (mg:Str->Option Value) (fa:Addr) (h:Heap),(K w.params).In h->h.Ns mainGlobals mg->mg d.name=some (.ref fa) ->
   ∃ fd:FuncData,(∀ (s:Shared) (u:Value),BindsTo s fd ⟨[u],[]⟩ [(x,u)]) /\
    ∀ base:Heap,(K w.params).In base->base.Ns mainGlobals mg->FnOk l.prog w (K w.params) mg base (CX w) k fa fd [x] (sp w))
  (hsp:∀ (w:World) (H:Hp) (a:Addr) (ns:List Int),ns.length<=n->Only H->SqL (K w.params) H a (ns.map V.int)->sp w [.ref a] H (fun v _=>v=.bl true) fun _ _ _=>False)
  (hCX:∀ (w:World) (H:Hp) (s:Shared) (e:Value) (s':Shared),CX w [] H s (fun _ _ _=>False) e s'->False) :
  PySem.W.WalkO q loose XP YP l.row.toRowW d [] (fun f vs=>PySem.call f vs):=by
 refine Att.attach_call hn hdf fun w s₀ s₁ mg mb fa o pm cd doc a vs ns G Y ho hd hcd hmg hobj hints hlen hg=>?_
 have KX:=hY w _ Y
 obtain ⟨fd,hb,hF⟩:=F w mg fa _ KX G.T.g hmg
 exact law_call KX G.T.g G.T.b G.T.builtins G.T.nolimit hg hobj hints (Nat.le_trans hlen hn2) hr hF hb (fun H hO hS=>hsp w H a ns hlen hO hS) fun H e s'=>hCX w H s₁ e s'
noncomputable def defArgs (s:Stmt):Arguments:=match s with
 | .FunctionDef _ a _ _ _ _ _ _ _ _=>a
 | _=>{ posonlyargs:=[],args:=[],vararg:=none,kwonlyargs:=[],kw_defaults:=[],kwarg:=none,defaults:=[] }
noncomputable def defBody (s:Stmt):List Stmt:=match s with
 | .FunctionDef _ _ b _ _ _ _ _ _ _=>b
 | _=>[]
noncomputable def defScope (s:Stmt):Scope:=match s with
 | .FunctionDef _ _ _ _ _ _ sc _ _ _=>sc
 | _=>{ kind:=.function,names:=[],isGenerator:=false,isCoroutine:=false }
structure Fun (K:Frag) (x qual:Str) (st:Stmt) (f:Addr) (fd:FuncData):Prop where
 ex:∃ (oc:Value) (od:Option Addr) (kV doc pm:Value) (an:Option Addr) (cdv ct:Value) (osl:Array (Option Value)),
  fd=PySem.W.fnOf x qual (defArgs st) (defBody st) (defScope st) .none kV doc pm an cdv ct/\K.lookup f=some ⟨oc,od,.func fd,osl⟩/\codeIn K cdv qual=true
 kp:keepIn K (.ref f)=true
section
variable {P:Program} {w:World} {K:Frag} {mg:Str->Option Value} {base:Heap}
theorem Fun.binds {x qual:Str} {st:Stmt} {f:Addr} {fd:FuncData} {ps:List Str} (F:Fun K x qual st f fd)
  (h:∀ (kV doc pm:Value) (an:Option Addr) (cdv ct:Value) (us:List Value),us.length=ps.length->bindArgs (PySem.W.fnOf x qual (defArgs st) (defBody st) (defScope st) .none kV doc pm an cdv ct) ⟨us,[]⟩=pure (ps.zip us)):Binds K fd ps []:=by
 obtain ⟨oc,od,kV,doc,pm,an,cdv,ct,osl,rfl,lk,hcd⟩:=F.ex
 exact .all (h kV doc pm an cdv ct)
theorem fun_mk {x qual:Str} {st:Stmt} {f:Addr} {oc:Value} {od an:Option Addr} {osl:Array (Option Value)} {kV doc pm cdv ct:Value} (l:K.lookup f=some ⟨oc,od,.func (PySem.W.fnOf x qual (defArgs st) (defBody st) (defScope st) .none kV doc pm an cdv ct),osl⟩)
  (c:codeIn K cdv qual=true) (k:keepIn K (.ref f)=true):Fun K x qual st f (PySem.W.fnOf x qual (defArgs st) (defBody st) (defScope st) .none kV doc pm an cdv ct):=⟨⟨oc,od,kV,doc,pm,an,cdv,ct,osl,rfl,l,c⟩,k⟩
end
def Same (H H':Hp):Prop:=∀ b o,H b=some o->H' b=some o
theorem Same.refl (H:Hp):Same H H:=fun _ _ h=>h
theorem Same.trans {H H1 H2:Hp} (a:Same H H1) (b:Same H1 H2):Same H H2:=fun c o h=>b c o (a c o h)
theorem Same.free {H H':Hp} (e:Same H H') {l:Addr} (h:H' l=Option.none):H l=Option.none:=by
 cases q:H l with
 | none=>rfl
 | some o=>
  rw [e l o q] at h
  cases h
theorem Same.seq {K:Frag} {H H':Hp} {a:Addr} {xs:List V} (e:Same H H') (h:SqL K H a xs):SqL K H' a xs:=by
 rcases h with (h | ⟨o,h⟩) | h
 ·exact .inl (.inl (e _ _ h))
 ·exact .inl (.inr ⟨o,e _ _ h⟩)
 ·exact .inr h
section
variable {κ:Type} [DecidableEq κ]
noncomputable def valV (kvs:List (κ×V)) (k:κ):Option V:=(kvs.find? fun kv=>decide (kv.1=k)).map (·.2)
noncomputable def putK (kvs:List (κ×V)) (k:κ) (v:V):List (κ×V):=
 if (kvs.any fun kv=>decide (kv.1=k))=true then kvs.map (fun kv=>if kv.1=k then (kv.1,v) else kv) else kvs++[(k,v)]
theorem valV_pos {p:κ×V} {r:List (κ×V)} {k:κ} (e:p.1=k):valV (p::r) k=some p.2:=by simp [valV,List.find?_cons,e]
theorem valV_neg {p:κ×V} {r:List (κ×V)} {k:κ} (e:¬p.1=k):valV (p::r) k=valV r k:=by simp [valV,List.find?_cons,e]
theorem KV.val {kvs:List (κ×V)} {vs:List (κ×Value)} (r:KV kvs vs) (k:κ):RelO (valV kvs k) (valueAt vs k):=by
 unfold KV at r
 induction r with
 | nil=>exact True.intro
 | @cons p q ps qs h t ih=>
  obtain ⟨h1,h2⟩:=h
  by_cases e:p.1=k
  ·have e':q.1=k:=h1.symm.trans e
   have b:valueAt (q::qs) k=some q.2:=by simp [valueAt,List.find?_cons,e']
   rw [valV_pos e,b]; exact h2
  ·have e':¬q.1=k:=fun z=>e (h1.trans z)
   have b:valueAt (q::qs) k=valueAt qs k:=by simp [valueAt,List.find?_cons,e']
   rw [valV_neg e,b]; exact ih
theorem KV.keys {kvs:List (κ×V)} {vs:List (κ×Value)} (r:KV kvs vs):kvs.map (·.1)=vs.map (·.1):=by
 unfold KV at r
 induction r with
 | nil=>rfl
 | cons h t ih=>rw [List.map_cons,List.map_cons,ih,h.1]
theorem KV.length {kvs:List (κ×V)} {vs:List (κ×Value)} (r:KV kvs vs):kvs.length=vs.length:=Paired.length r
end
theorem kV_is {P:Program} {w:World} {k:Key} {u:Value} (r:RelV (kV k) u):(mixKind P w).is k u=true:=by
 cases k with
 | inl i=>obtain ⟨t,e⟩:=(show ∃ t,u=Value.int i t from r); subst e; exact mixKind_int P w i t
 | inr x=>obtain ⟨t,e⟩:=(show ∃ t,u=Value.str x t from r); subst e; exact mixKind_str P w x t
theorem items_are {P:Program} {w:World}:∀ {ks:List Key} {us:List Value},Vals (ks.map kV) us->ItemsAre (mixKind P w) ks us
 | [],_,r=>by rw [List.map_nil] at r; cases r; exact .nil
 | k::ks,_,r=>by
  rw [List.map_cons] at r
  cases r with
  | cons h t=>exact .cons (kV_is h) (items_are t)
abbrev KT (H:Hp):List (List Key×V)->List (List Key×Addr×Value)->Prop:=Paired fun p q=>p.1=q.1/\H q.2.1=some (.tup (p.1.map kV))/\RelV p.2 q.2.2
theorem KT.val {H:Hp} {kvs:List (List Key×V)} {xs:List (List Key×Addr×Value)} (r:KT H kvs xs) (k:List Key):RelO (valV kvs k) ((atKey xs k).map (·.2)):=by
 induction r with
 | nil=>exact True.intro
 | @cons p q ps qs h t ih=>
  obtain ⟨h1,_,h2⟩:=h
  by_cases e:p.1=k
  ·have e':q.1=k:=h1.symm.trans e
   have b:atKey (q::qs) k=some q.2:=by simp [atKey,List.find?_cons,e']
   rw [valV_pos e,b]; exact h2
  ·have e':¬q.1=k:=fun z=>e (h1.trans z)
   have b:atKey (q::qs) k=atKey qs k:=by simp [atKey,List.find?_cons,e']
   rw [valV_neg e,b]; exact ih
theorem KT.keeps {H H':Hp} {kvs:List (List Key×V)} {xs:List (List Key×Addr×Value)} (r:KT H kvs xs) (ht:∀ b ys,H b=some (.tup ys)->H' b=some (.tup ys)):KT H' kvs xs:=
 Paired.mapP r fun _ _ z=>⟨z.1,ht _ _ z.2.1,z.2.2⟩
section
variable {P:Program} {w:World} {H:Hp} {h:Heap} {a:Addr}
theorem rd_of {u:HO} (ok:HOk P w H h) (e:Rd H a u):ObjOk P w H h a u:=e.ok ok
theorem dk_rd {kvs:List (Key×V)} (ok:HOk P w H h) (e:Rd H a (.dK kvs)):kvs.length<=sizeLine/\(a == sysModules)=false/\∃ vs,KV kvs vs/\h.DictOf (mixKind P w) a vs:=
 show ObjOk P w H h a (.dK kvs) from rd_of ok e
theorem key_of {ks:List Key} (ok:HOk P w H h) (e:H a=some (.tup (ks.map kV))):(tupleKind (mixKind P w)).is h ks a:=by
 obtain ⟨_,its,r,o,h1,h2,n,h3⟩:=(show ObjOk P w H h a (.tup (ks.map kV)) from ok a _ e)
 exact ⟨o,its.toArray,n,h1,h2,h3,by simpa using items_are r⟩
theorem dt_rd {kvs:List (List Key×V)} (ok:HOk P w H h) (e:Rd H a (.dT kvs)):kvs.length<=sizeLine/\(a == sysModules)=false /\
  ∃ xs,KT H kvs xs/\h.DictOfH (tupleKind (mixKind P w)) a xs:=by
 obtain ⟨z,y,xs,r,o,es,ep,h1,h2,h3,h4,h5⟩:=(show ObjOk P w H h a (.dT kvs) from rd_of ok e)
 refine ⟨z,y,xs,r,o,es,ep,h1,h2,h3,h4,fun x hx=>?_,h5⟩
 have all:∀ {l:List (List Key×V)} {m:List (List Key×Addr×Value)},KT H l m->∀ x∈m,(tupleKind (mixKind P w)).is h x.1 x.2.1:=by
  intro l m q
  induction q with
  | nil=>intro x hx; exact nomatch hx
  | @cons p q ps qs hq t ih=>
   intro x hx
   rcases List.mem_cons.mp hx with e | hx
   ·subst e
    exact key_of ok (by rw [<-hq.1]; exact hq.2.1)
   ·exact ih x hx
 exact all r x hx
end
def DGet (H:Hp) (a:Addr) (y:V) (r:Option V):Prop:=
 (∃ kvs k,Rd H a (.dK kvs)/\y=kV k/\r=valV kvs k)\/∃ kvs k b,Rd H a (.dT kvs)/\y=.ref b/\H b=some (.tup (k.map kV))/\r=valV kvs k
def DPut (H:Hp) (a:Addr) (y v:V) (H':Hp):Prop:=
 (∃ kvs k,H a=some (.dK kvs)/\y=kV k/\kvs.length < sizeLine/\H'=upd H a (.dK (putK kvs k v))) \/
 ∃ kvs k b,H a=some (.dT kvs)/\y=.ref b/\H b=some (.tup (k.map kV))/\kvs.length < sizeLine/\H'=upd H a (.dT (putK kvs k v))
theorem DGet.k {H:Hp} {a:Addr} {kvs:List (Key×V)} {k:Key} (e:H a=some (.dK kvs)):DGet H a (kV k) (valV kvs k):=.inl ⟨kvs,k,.inl e,rfl,rfl⟩
theorem DGet.t {H:Hp} {a b:Addr} {kvs:List (List Key×V)} {k:List Key} (e:H a=some (.dT kvs)) (eb:H b=some (.tup (k.map kV))):DGet H a (.ref b) (valV kvs k):=.inr ⟨kvs,k,b,.inl e,rfl,eb,rfl⟩
theorem DPut.t {H:Hp} {a b:Addr} {kvs:List (List Key×V)} {k:List Key} {v:V} (e:H a=some (.dT kvs)) (eb:H b=some (.tup (k.map kV))) (hl:kvs.length < sizeLine) :
  DPut H a (.ref b) v (upd H a (.dT (putK kvs k v))):=.inr ⟨kvs,k,b,e,rfl,eb,hl,rfl⟩
section
variable {X:Cx} {pins:List (Addr×Obj)} {σ:St} {H:Hp} {s:Shared} {a:Addr} {y v:V} {u r:Value} {o:Option V} {A:Around} {E:Value->Shared->Prop}
theorem d_getItem {Q:Value->Shared->Prop} (hu:A.units+1 < cLine) (I:Inv X pins σ H s) (g:DGet H a y (some v)) (ry:RelV y u) (h:∀ w' s',Inv X pins σ H s'->RelV v w'->Q w' s') :
  wpAny (model X.prog X.w) A (getItem (.ref a) u) Q E s:=by
 rcases g with ⟨kvs,k,e,ey,l⟩ | ⟨kvs,k,b,e,ey,eb,l⟩
 ·subst ey
  obtain ⟨z,hd,vs,rel,dd⟩:=dk_rd I.hok e
  obtain ⟨w',hw,rw'⟩:=RelO.some_of (v:=v) (o:=valueAt vs k) (by rw [l]; exact rel.val k)
  exact wpAny_getItem_of (kV_is ry) dd.mapOf hw (h w' _ (I.tok _) rw')
 ·subst ey
  cases (show u=Value.ref b from ry)
  obtain ⟨z,hd,xs,rel,dd⟩:=dt_rd I.hok e
  obtain ⟨w',hw,rw'⟩:=RelO.some_of (v:=v) (o:=(atKey xs k).map (·.2)) (by rw [l]; exact rel.val k)
  obtain ⟨p,hp,hp2⟩:=Option.map_eq_some_iff.mp hw
  refine wpAny_getItem_heap (tupleKind_room_in1 hu) (key_of I.hok eb) dd hp ?_
  rw [hp2]
  exact h w' _ (I.tok _) rw'
end
section
variable {X:Cx} {pins:List (Addr×Obj)} {σ:St} {H:Hp} {s:Shared} {a:Addr} {kvs:List (Key×V)} {k:Key} {u:Value} {A:Around} {E:Value->Shared->Prop}
theorem d_len {Q:Value->Shared->Prop} (I:Inv X pins σ H s) (e:Rd H a (.dK kvs)) (h:∀ t s',Inv X pins σ H s'->Q (.int kvs.length t) s'):wpAny (model X.prog X.w) A (call (.builtin "len") [.ref a]) Q E s:=by
 obtain ⟨z,hd,vs,rel,dd⟩:=dk_rd I.hok e
 refine call_len_dict hd dd (by rw [<-rel.length]; rw [sizeLine_eq] at z; omega) ?_
 rw [<-rel.length]
 exact h _ _ (I.tok _)
end
theorem dict_typeIs {X:Cx} {pins:List (Addr×Obj)} {σ:St} {H:Hp} {s:Shared} {a:Addr} {y:V} {o:Option V} (I:Inv X pins σ H s) (g:DGet H a y o):s.TypeIs (.ref a) "dict":=by
 rcases g with ⟨kvs,k,e,_,_⟩ | ⟨kvs,k,b,e,_,_,_⟩
 ·obtain ⟨_,_,vs,_,dd⟩:=dk_rd I.hok e
  exact dd.typeIs
 ·obtain ⟨_,_,xs,_,dd⟩:=dt_rd I.hok e
  exact dd.typeIs
section
variable {X:Cx}
theorem call_lenD:CallR X (.builtin "len") (fun xs H Q=>∃ a kvs,xs=[V.ref a]/\H a=some (.dK kvs)/\Q (.int kvs.length) H):=by
 intro pins s σ H xs us Q I r h
 obtain ⟨a,kvs,rfl,ha,q⟩:=h
 obtain ⟨u,rfl,ru⟩:=vals1 r
 cases ru
 exact d_len I (.inl ha) fun t s' I'=>⟨.int kvs.length,H,I',⟨t,rfl⟩,q⟩
end
end L2
namespace L2.D2
open PySem PySem.Spec PyProof.Rows
theorem sub_of {a b:List Nat} (h:(a.all fun i=>decide (i∈b))=true):∀ i∈a,i∈b:=fun i hi=>of_decide_eq_true (List.all_eq_true.mp h i hi)
theorem nin_of {i:Nat} {b:List Nat} (h:decide (i∈b)=false):i∉b:=of_decide_eq_false h
noncomputable def nStar:Expr->Bool
 | .Starred ..=>false
 | _=>true
theorem star_cons {e:Expr} {es:List Expr} {env:Env} (h:nStar e=true):starEach (e::es) env=(false,eval e env)::starEach es env:=by cases e <;> first | rfl | cases h
theorem star_one {e:Expr} {env:Env} (h:nStar e=true):starEach [e] env=[(false,eval e env)]:=star_cons h
theorem star_two {a b:Expr} {env:Env} (h:nStar a=true) (k:nStar b=true):starEach [a,b] env=[(false,eval a env),(false,eval b env)]:=by rw [star_cons h,star_one k]
theorem star_any {pos:Pos} {env:Env}:∀ {es:List Expr},es.all nStar=true->(backTo pos (starEach es env)).any (·.1)=false
 | [],_=>rfl
 | e::es,h=>by
  rw [List.all_cons,Bool.and_eq_true] at h
  rw [star_cons h.1]
  exact star_any h.2
theorem star_few {pos:Pos} {env:Env} {e:Expr} (h:nStar e=true):((backTo pos (starEach [e] env)).all (fun x=>!x.1)&&(backToKw pos (keywordEach [] env)).all (fun x=>x.1.isSome)
   && decide ([e].length+([]:List Keyword).length+(if ([]:List Keyword).isEmpty then 0 else 1) < 30))=true:=by rw [star_one h]; rfl
inductive D where
 | non | bl (b:Bool) | int (i:Int) | str (x:Str)
 | tup (xs:List D) | lst (xs:List D) | dct (kvs:List (Key×D)) | raw (v:V)
 | xcp (C:Addr) | ins (C:Addr) (fs:List (Str×D))
 deriving Inhabited
abbrev Sl:=List (Option D)
inductive Out (α:Type) where
 | ok (a:α) | exc (c:Str) (o:Sl) | bad
noncomputable def Out.bind {α β:Type} (o:Out α) (k:α->Out β):Out β:=match o with
 | .ok a=>k a
 | .exc c o=>.exc c o
 | .bad=>.bad
@[simp] theorem Out.ok_bind {α β:Type} (a:α) (k:α->Out β):(Out.ok a).bind k=k a:=rfl
@[simp] theorem Out.exc_bind {α β:Type} (c:Str) (o:Sl) (k:α->Out β):(Out.exc c o:Out α).bind k=.exc c o:=rfl
@[simp] theorem Out.bad_bind {α β:Type} (k:α->Out β):(Out.bad:Out α).bind k=.bad:=rfl
noncomputable def excO (a C:Addr):HO:=.ext fun h=>∃ oe vs,h.get? a=some oe/\oe.cls=.ref C/\oe.data=.fields vs
mutual
/-- the value v is the data d,all its objects in F -/
inductive Is (K:Frag) (F:Hp):V->D->Prop
 | non:Is K F .non .non
 | bl (b:Bool):Is K F (.bl b) (.bl b)
 | int (i:Int):Is K F (.int i) (.int i)
 | str {x:Str} (h:x.length<=sizeLine):Is K F (.str x) (.str x)
 | tup {a:Addr} {xs:List V} {ds:List D} (h:SqT K F a xs) (t:IsL K F xs ds):Is K F (.ref a) (.tup ds)
 | lst {a:Addr} {xs:List V} {ds:List D} (h:SqL K F a xs) (t:IsL K F xs ds):Is K F (.ref a) (.lst ds)
 | dct {a:Addr} {kv:List (Key×V)} {kvs:List (Key×D)} (h:F a=some (.dK kv)) (t:IsK K F kv kvs):Is K F (.ref a) (.dct kvs)
 | raw (v:V):Is K F v (.raw v)
 | xcp {a C:Addr} (h:F a=some (excO a C)):Is K F (.ref a) (.xcp C)
 | ins {a C dx:Addr} {fv:List (Str×V)} {fs:List (Str×D)} (h:F a=some (.ins C dx fv)) (t:IsF K F fv fs):Is K F (.ref a) (.ins C fs)
inductive IsL (K:Frag) (F:Hp):List V->List D->Prop
 | nil:IsL K F [] []
 | cons {v:V} {d:D} {vs:List V} {ds:List D} (h:Is K F v d) (t:IsL K F vs ds):IsL K F (v::vs) (d::ds)
inductive IsK (K:Frag) (F:Hp):List (Key×V)->List (Key×D)->Prop
 | nil:IsK K F [] []
 | cons {k:Key} {v:V} {d:D} {vs:List (Key×V)} {ds:List (Key×D)} (h:Is K F v d) (t:IsK K F vs ds):IsK K F ((k,v)::vs) ((k,d)::ds)
inductive IsF (K:Frag) (F:Hp):List (Str×V)->List (Str×D)->Prop
 | nil:IsF K F [] []
 | cons {k:Str} {v:V} {d:D} {vs:List (Str×V)} {ds:List (Str×D)} (h:Is K F v d) (t:IsF K F vs ds):IsF K F ((k,v)::vs) ((k,d)::ds)
end
theorem sqT_mono {K:Frag} {H H':Hp} {a:Addr} {xs:List V} (e:Same H H') (h:SqT K H a xs):SqT K H' a xs:=by
 rcases h with (h | ⟨o,h⟩) | h
 ·exact .inl (.inl (e _ _ h))
 ·exact .inl (.inr ⟨o,e _ _ h⟩)
 ·exact .inr h
mutual
theorem Is.mono {K:Frag} {F F':Hp} (e:Same F F'):∀ {v:V} {d:D},Is K F v d->Is K F' v d
 | _,_,.non=>.non
 | _,_,.bl b=>.bl b
 | _,_,.int i=>.int i
 | _,_,.str h=>.str h
 | _,_,.tup h t=>.tup (sqT_mono e h) (IsL.mono e t)
 | _,_,.lst h t=>.lst (e.seq h) (IsL.mono e t)
 | _,_,.dct h t=>.dct (e _ _ h) (IsK.mono e t)
 | _,_,.raw v=>.raw v
 | _,_,.xcp h=>.xcp (e _ _ h)
 | _,_,.ins h t=>.ins (e _ _ h) (IsF.mono e t)
theorem IsL.mono {K:Frag} {F F':Hp} (e:Same F F'):∀ {vs:List V} {ds:List D},IsL K F vs ds->IsL K F' vs ds
 | _,_,.nil=>.nil
 | _,_,.cons h t=>.cons (Is.mono e h) (IsL.mono e t)
theorem IsK.mono {K:Frag} {F F':Hp} (e:Same F F'):∀ {vs:List (Key×V)} {ds:List (Key×D)},IsK K F vs ds->IsK K F' vs ds
 | _,_,.nil=>.nil
 | _,_,.cons h t=>.cons (Is.mono e h) (IsK.mono e t)
theorem IsF.mono {K:Frag} {F F':Hp} (e:Same F F'):∀ {vs:List (Str×V)} {ds:List (Str×D)},IsF K F vs ds->IsF K F' vs ds
 | _,_,.nil=>.nil
 | _,_,.cons h t=>.cons (Is.mono e h) (IsF.mono e t)
end
theorem IsL.length {K:Frag} {F:Hp}:∀ {vs:List V} {ds:List D},IsL K F vs ds->vs.length=ds.length
 | _,_,.nil=>rfl
 | _,_,.cons _ t=>congrArg (·+1) (IsL.length t)
theorem IsL.get {K:Frag} {F:Hp}:∀ {vs:List V} {ds:List D} {i:Nat} {v:V},IsL K F vs ds->vs[i]?=some v->∃ d,ds[i]?=some d/\Is K F v d
 | _,_,_,_,.nil,e=>by simp at e
 | _,_,0,_,.cons h _,e=>by simp at e; subst e; exact ⟨_,rfl,h⟩
 | _,_,i+1,v,.cons _ t,e=>by
  obtain ⟨d,h1,h2⟩:=IsL.get (i:=i) (v:=v) t (by simpa using e)
  exact ⟨d,by simpa using h1,h2⟩
theorem IsL.getD {K:Frag} {F:Hp}:∀ {vs:List V} {ds:List D} {i:Nat} {d:D},IsL K F vs ds->ds[i]?=some d->∃ v,vs[i]?=some v/\Is K F v d
 | _,_,_,_,.nil,e=>by simp at e
 | _,_,0,_,.cons h _,e=>by simp at e; subst e; exact ⟨_,rfl,h⟩
 | _,_,i+1,v,.cons _ t,e=>by
  obtain ⟨d,h1,h2⟩:=IsL.getD (i:=i) (d:=v) t (by simpa using e)
  exact ⟨d,by simpa using h1,h2⟩
theorem IsL.append {K:Frag} {F:Hp}:∀ {vs ws:List V} {ds es:List D},IsL K F vs ds->IsL K F ws es->IsL K F (vs++ws) (ds++es)
 | _,_,_,_,.nil,s=>s
 | _,_,_,_,.cons h t,s=>.cons h (IsL.append t s)
theorem IsL.take {K:Frag} {F:Hp}:∀ {vs:List V} {ds:List D} (n:Nat),IsL K F vs ds->IsL K F (vs.take n) (ds.take n)
 | _,_,0,_=>.nil
 | _,_,_+1,.nil=>.nil
 | _,_,n+1,.cons h t=>.cons h (IsL.take n t)
theorem IsL.set {K:Frag} {F:Hp} {v:V} {d:D} (h:Is K F v d):∀ {vs:List V} {ds:List D} (i:Nat),IsL K F vs ds->IsL K F (vs.set i v) (ds.set i d)
 | _,_,_,.nil=>.nil
 | _,_,0,.cons _ t=>.cons h t
 | _,_,i+1,.cons q t=>.cons q (IsL.set h i t)
def OwnIs (K:Frag) (F H:Hp) (a:Addr):D->Prop
 | .lst ds=>∃ xs,H a=some (.lst xs)/\IsL K F xs ds
 | .dct kvs=>∃ kv,H a=some (.dK kv)/\IsK K F kv kvs
 | .ins C fs=>∃ dx fv,H a=some (.ins C dx fv)/\IsF K F fv fs
 | _=>False
def TopIs (K:Frag) (F H:Hp) (v:V) (d:D):Prop:=Is K F v d\/∃ a,v=.ref a/\OwnIs K F H a d
inductive Mo where
 | sh | fr | any
def MoIs (K:Frag) (m:Mo) (H0 F H:Hp) (v:V) (d:D):Prop:=match m with
 | .sh=>Is K F v d
 | .fr=>∃ a,v=.ref a/\H0 a=none/\F a=none/\OwnIs K F H a d
 | .any=>TopIs K F H v d
theorem MoIs.top {K:Frag} {m:Mo} {H0 F H:Hp} {v:V} {d:D} (h:MoIs K m H0 F H v d):TopIs K F H v d:=by
 cases m with
 | sh=>exact .inl h
 | fr=>obtain ⟨a,e,_,_,o⟩:=h; exact .inr ⟨a,e,o⟩
 | any=>exact h
structure Chg (A:Addr->Prop) (F H F' H':Hp):Prop where
 keep:∀ b o,H b=some o->¬A b->H' b=some o
 stay:∀ b,H b≠none->H' b≠none
 grow:Same F F'
 new:∀ b,F' b≠none->F b≠none\/H b=none\/A b
theorem Chg.refl {A:Addr->Prop} {F H:Hp}:Chg A F H F H:=⟨fun _ _ e _=>e,fun _ h=>h,Same.refl _,fun _ h=>.inl h⟩
theorem Chg.trans {A A1:Addr->Prop} {F H F1 H1 F2 H2:Hp} (a:Chg A F H F1 H1) (b:Chg A1 F1 H1 F2 H2) (hA:∀ x,A1 x->A x\/H x=none):Chg A F H F2 H2 where
 keep:=fun x o e n=>b.keep x o (a.keep x o e n) fun z=>(hA x z).elim n fun q=>by rw [e] at q; cases q
 stay:=fun x h=>b.stay x (a.stay x h)
 grow:=a.grow.trans b.grow
 new:=fun x h=>by
  rcases b.new x h with q | q | q
  ·exact a.new x q
  ·refine .inr (.inl ?_)
   cases e:H x with
   | none=>rfl
   | some o=>exact absurd q (a.stay x (by rw [e]; simp))
  ·rcases hA x q with z | z
   ·exact .inr (.inr z)
   ·exact .inr (.inl z)
theorem Chg.trans' {A:Addr->Prop} {F H F1 H1 F2 H2:Hp} (a:Chg A F H F1 H1) (b:Chg A F1 H1 F2 H2):Chg A F H F2 H2:=a.trans b fun _ z=>.inl z
theorem Chg.mono {A A':Addr->Prop} {F H F1 H1:Hp} (a:Chg A F H F1 H1) (h:∀ x,A x->A' x):Chg A' F H F1 H1:=
 ⟨fun b o e n=>a.keep b o e fun z=>n (h b z),a.stay,a.grow,fun b z=>(a.new b z).imp id (Or.imp id (h b))⟩
abbrev No:Addr->Prop:=fun _=>False
theorem Chg.ofNo {A:Addr->Prop} {F H F1 H1:Hp} (a:Chg No F H F1 H1):Chg A F H F1 H1:=a.mono fun _ z=>z.elim
structure Rep (K:Frag) (own:List Nat) (F H:Hp) (σ:St) (ρ:Sl):Prop where
 sub:Same F H
 len:σ.length=ρ.length
 val:∀ i d,i∉own->ρ[i]?=some (some d)->∃ v,σ[i]?=some (some v)/\Is K F v d
 ow:∀ i d,i∈own->ρ[i]?=some (some d)->∃ a,σ[i]?=some (some (.ref a))/\F a=none/\OwnIs K F H a d
 opn:∀ i,i∈own->∃ d,ρ[i]?=some (some d)
 dis:∀ i j a,i∈own->j∈own->σ[i]?=some (some (V.ref a))->σ[j]?=some (some (V.ref a))->i=j
def OA (own:List Nat) (σ:St):Addr->Prop:=fun b=>∃ i∈own,σ[i]?=some (some (V.ref b))
theorem OwnIs.there {K:Frag} {F H:Hp} {a:Addr} {d:D} (h:OwnIs K F H a d):H a≠none:=by
 cases d with
 | lst ds=>obtain ⟨xs,e,_⟩:=h; rw [e]; simp
 | dct ds=>obtain ⟨xs,e,_⟩:=h; rw [e]; simp
 | ins C fs=>obtain ⟨dx,xs,e,_⟩:=h; rw [e]; simp
 | _=>exact h.elim
theorem OwnIs.grow {K:Frag} {F H F' H':Hp} {a:Addr} {d:D} (h:OwnIs K F H a d) (g:Same F F') (k:∀ o,H a=some o->H' a=some o):OwnIs K F' H' a d:=by
 cases d with
 | lst ds=>obtain ⟨xs,e,t⟩:=h; exact ⟨xs,k _ e,t.mono g⟩
 | dct ds=>obtain ⟨xs,e,t⟩:=h; exact ⟨xs,k _ e,t.mono g⟩
 | ins C fs=>obtain ⟨dx,xs,e,t⟩:=h; exact ⟨dx,xs,k _ e,t.mono g⟩
 | _=>exact h.elim
theorem Rep.OA_there {K:Frag} {own:List Nat} {F H:Hp} {σ:St} {ρ:Sl} (r:Rep K own F H σ ρ) {b:Addr} (h:OA own σ b):H b≠none/\F b=none:=by
 obtain ⟨i,hi,e⟩:=h
 obtain ⟨d,hd⟩:=r.opn i hi
 obtain ⟨a,e1,e2,o⟩:=r.ow i d hi hd
 rw [e] at e1
 cases e1
 exact ⟨o.there,e2⟩
theorem Rep.grow {K:Frag} {own:List Nat} {F H F' H':Hp} {σ:St} {ρ:Sl} (r:Rep K own F H σ ρ) (c:Chg No F H F' H') (s:Same F' H'):Rep K own F' H' σ ρ where
 sub:=s
 len:=r.len
 val:=fun i d hi e=>let ⟨v,h1,h2⟩:=r.val i d hi e; ⟨v,h1,h2.mono c.grow⟩
 ow:=fun i d hi e=>by
  obtain ⟨a,h1,h2,h3⟩:=r.ow i d hi e
  refine ⟨a,h1,?_,h3.grow c.grow fun o q=>c.keep a o q fun z=>z⟩
  cases q:F' a with
  | none=>rfl
  | some o=>
   rcases c.new a (by rw [q]; simp) with z | z | z
   ·exact absurd h2 z
   ·exact absurd z h3.there
   ·exact z.elim
 opn:=r.opn
 dis:=r.dis
theorem MoIs.grow {K:Frag} {A:Addr->Prop} {m:Mo} {H0 F H F' H':Hp} {v:V} {d:D} (h:MoIs K m H0 F H v d) (hm:m≠.any) (c:Chg A F H F' H') (hA:∀ x,A x->H0 x≠none):MoIs K m H0 F' H' v d:=by
 cases m with
 | sh=>exact Is.mono c.grow h
 | fr=>
  obtain ⟨a,e,h0,hF,o⟩:=h
  have nA:¬A a:=fun z=>hA a z h0
  refine ⟨a,e,h0,?_,o.grow c.grow fun o q=>c.keep a o q nA⟩
  cases q:F' a with
  | none=>rfl
  | some u=>
   rcases c.new a (by rw [q]; simp) with z | z | z
   ·exact absurd hF z
   ·exact absurd z o.there
   ·exact absurd z nA
 | any=>exact absurd rfl hm
def IoIs (K:Frag) (io:List Nat) (F H:Hp) (σ:St) (ρ:Sl):Prop:=∀ i∈io,∃ d a,ρ[i]?=some (some d)/\σ[i]?=some (some (V.ref a))/\F a=none/\OwnIs K F H a d
theorem Rep.ioIs {K:Frag} {own io:List Nat} {F H:Hp} {σ:St} {ρ:Sl} (r:Rep K own F H σ ρ) (h:∀ i∈io,i∈own):IoIs K io F H σ ρ:=fun i hi=>by
 obtain ⟨d,hd⟩:=r.opn i (h i hi)
 obtain ⟨a,h1,h2,h3⟩:=r.ow i d (h i hi) hd
 exact ⟨d,a,hd,h1,h2,h3⟩
structure Ct where
 K:Frag
 cv:Str->Value
 E:XK
 io:List Nat
 mr:Mo
 ol:List Nat
 ox:List Nat
 oxs:∀ i∈ox,i∈io
def Po (C:Ct) (own:List Nat) (m:Mo) (σ:St) (F H:Hp) (r:Out (D×Sl)) (Q:VK):Prop:=match r with
 | .ok (d,ρ')=>∀ v F' H',Rep C.K own F' H' σ ρ'->Chg (OA own σ) F H F' H'->MoIs C.K m H F' H' v d->Q v H'
 | .exc c ρ'=>∀ F' H',Same F' H'->IoIs C.K C.ox F' H' σ ρ'->Chg (OA own σ) F H F' H'->C.E (C.cv c) none H'
 | .bad=>False
def tE (C:Ct) (own:List Nat) (m:Mo) (f:Sl->Out (D×Sl)):TE:=fun σ H Q=>∃ F ρ,Rep C.K own F H σ ρ/\Po C own m σ F H (f ρ) Q
theorem MoIs.back {K:Frag} {m:Mo} {A:Addr->Prop} {H0 F H F1 H1:Hp} {Fa Ha:Hp} {v:V} {d:D} (c:Chg A Fa H0 F1 H1) (h:MoIs K m H1 F H v d):MoIs K m H0 F H v d:=by
 cases m with
 | sh=>exact h
 | fr=>
  obtain ⟨a,e,h0,r⟩:=h
  refine ⟨a,e,?_,r⟩
  cases q:H0 a with
  | none=>rfl
  | some o=>exact absurd h0 (c.stay a (by rw [q]; simp))
 | any=>exact h
theorem Po.shift {C:Ct} {own:List Nat} {m:Mo} {σ:St} {F H F1 H1:Hp} {r:Out (D×Sl)} {Q:VK} (h:Po C own m σ F H r Q) (c:Chg (OA own σ) F H F1 H1):Po C own m σ F1 H1 r Q:=by
 cases r with
 | ok p=>exact fun v F' H' rp c' mo=>h v F' H' rp (c.trans' c') (MoIs.back (Ha:=H1) c mo)
 | exc x=>exact fun F' H' s io c'=>h F' H' s io (c.trans' c')
 | bad=>exact h.elim
theorem Po.bind {C:Ct} {own:List Nat} {m ma:Mo} {σ:St} {F H:Hp} {o:Out (D×Sl)} {k:D×Sl->Out (D×Sl)} {Q R:VK} (hp:Po C own m σ F H (o.bind k) Q)
  (h:∀ v F1 H1 d ρ1,Rep C.K own F1 H1 σ ρ1->Chg (OA own σ) F H F1 H1->MoIs C.K ma H F1 H1 v d->Po C own m σ F1 H1 (k (d,ρ1)) Q->R v H1):Po C own ma σ F H o R:=by
 cases o with
 | ok p=>
  obtain ⟨d,ρ1⟩:=p
  exact fun v F1 H1 rp c mo=>h v F1 H1 d ρ1 rp c mo (Po.shift (show Po C own m σ F H (k (d,ρ1)) Q from hp) c)
 | exc x=>exact hp
 | bad=>exact hp.elim
def PoV (C:Ct) (m:Mo) (F H:Hp) (r:Out D) (Q:VK):Prop:=match r with
 | .ok d=>∀ v F' H',Same F' H'->Chg No F H F' H'->MoIs C.K m H F' H' v d->Q v H'
 | _=>False
def OpD (X:Cx) (C:Ct) (m:Mo) (f:Value->Value->Sem Value) (g:D->D->Out D):Prop:=
 OpR X f (fun x y H Q=>∃ F dx dy,Same F H/\TopIs C.K F H x dx/\TopIs C.K F H y dy/\PoV C m F H (g dx dy) Q)
def UnD (X:Cx) (C:Ct) (m:Mo) (f:Value->Sem Value) (g:D->Out D):Prop:=
 UnR X f (fun x H Q=>∃ F dx,Same F H/\TopIs C.K F H x dx/\PoV C m F H (g dx) Q)
noncomputable def Out.plain {α:Type}:Out α->Out α
 | .ok a=>.ok a
 | _=>.bad
theorem PoV.of {C:Ct} {own:List Nat} {m:Mo} {σ:St} {F H:Hp} {o:Out D} {ρ:Sl} {Q:VK} (rp:Rep C.K own F H σ ρ) (h:Po C own m σ F H (o.plain.bind fun d=>.ok (d,ρ)) Q):PoV C m F H o Q:=by
 cases o with
 | ok d=>exact fun v F' H' s c mo=>h v F' H' (rp.grow c s) c.ofNo mo
 | exc c=>exact h.elim
 | bad=>exact h.elim
noncomputable def d2 (g:D->D->Out D) (fa fb:Sl->Out (D×Sl)):Sl->Out (D×Sl):=fun ρ=>(fa ρ).bind fun p=>(fb p.2).bind fun q=>(g p.1 q.1).plain.bind fun d=>.ok (d,q.2)
noncomputable def d1 (g:D->Out D) (fa:Sl->Out (D×Sl)):Sl->Out (D×Sl):=fun ρ=>(fa ρ).bind fun p=>(g p.1).plain.bind fun d=>.ok (d,p.2)
section
variable {X:Cx} {C:Ct} {own:List Nat} {a b:Expr} {fa fb:Sl->Out (D×Sl)} {m ma mb:Mo} {pos:Pos}
theorem tE_bin {g:D->D->Out D} {σ:St} {H:Hp} {Q:VK} (hma:ma≠.any) (h:tE C own m (d2 g fa fb) σ H Q) :
  tE C own ma fa σ H fun x H1=>tE C own mb fb σ H1 fun y H2=>∃ F dx dy,Same F H2/\TopIs C.K F H2 x dx/\TopIs C.K F H2 y dy/\PoV C m F H2 (g dx dy) Q:=by
 obtain ⟨F,ρ,rp,h⟩:=h
 refine ⟨F,ρ,rp,Po.bind h fun v F1 H1 d ρ1 rp1 c1 mo1 h1=>⟨F1,ρ1,rp1,Po.bind h1 fun w F2 H2 e ρ2 rp2 c2 mo2 h2=>?_⟩⟩
 exact ⟨F2,d,e,rp2.sub,(mo1.grow hma c2 fun x z=>(rp.OA_there z).1).top,mo2.top,PoV.of rp2 h2⟩
theorem tE_un {g:D->Out D} {σ:St} {H:Hp} {Q:VK} (h:tE C own m (d1 g fa) σ H Q) :
  tE C own ma fa σ H fun x H1=>∃ F dx,Same F H1/\TopIs C.K F H1 x dx/\PoV C m F H1 (g dx) Q:=by
 obtain ⟨F,ρ,rp,h⟩:=h
 refine ⟨F,ρ,rp,Po.bind h fun v F1 H1 d ρ1 rp1 c1 mo1 h1=>?_⟩
 exact ⟨F1,d,rp1.sub,mo1.top,PoV.of rp1 h1⟩
theorem pe_to {e:Expr} {t t':TE} (h:PE X e t) (i:∀ σ H Q,t' σ H Q->t σ H Q):PE X e t':=⟨fun pins s σ H Q I hw=>h pins s σ H Q I (i σ H Q hw)⟩
theorem pt_to {e:Expr} {t t':TT} (h:PT X e t) (i:∀ σ H Q,t' σ H Q->t σ H Q):PT X e t':=⟨fun pins s σ H Q I hw=>h pins s σ H Q I (i σ H Q hw)⟩
theorem pd_op {op:Operator} {g:D->D->Out D} (ho:OpD X C m (binaryOp op) g) (ha:PE X a (tE C own ma fa)) (hb:PE X b (tE C own mb fb)) (hma:ma≠.any:=by decide):PE X (.BinOp a op b pos) (tE C own m (d2 g fa fb)):=
 pe_to (pe_op ho ha hb) fun _ _ _ h=>tE_bin hma h
theorem pd_cmp {op:CmpOp} {g:D->D->Out D} (ho:OpD X C m (compareOp op) g) (ha:PE X a (tE C own ma fa)) (hb:PE X b (tE C own mb fb)) (hma:ma≠.any:=by decide)
  (hk:behindInMarks op b=false:=by first | exact nomark _ | with_unfolding_all rfl):PE X (.Compare a [op] [b] pos) (tE C own m (d2 g fa fb)):=
 pe_to (pe_cmpR ho ha hb hk) fun _ _ _ h=>tE_bin hma h
theorem pd_un {op:UnaryOp} {g:D->Out D} (ho:UnD X C m (unaryOp op) g) (ha:PE X a (tE C own ma fa)):PE X (.UnaryOp op a pos) (tE C own m (d1 g fa)):=
 pe_to (pe_un ho ha) fun _ _ _ h=>tE_un h
end
instance:DecidableEq Mo:=fun a b=>by cases a <;> cases b <;> first | exact isTrue rfl | exact isFalse (by intro h; cases h)
theorem sh_of_fr {K:Frag} {own:List Nat} {H0 F H:Hp} {σ:St} {ρ:Sl} {v:V} {d:D} (rp:Rep K own F H σ ρ) (hA:∀ b,OA own σ b->H0 b≠none) (h:MoIs K .fr H0 F H v d) :
  ∃ F',Rep K own F' H σ ρ/\Same F F'/\Is K F' v d/\∀ b,F' b≠none->F b≠none\/H0 b=none:=by
 obtain ⟨a,rfl,h0,hF,o⟩:=h
 obtain ⟨u,hu⟩:∃ u,H a=some u:=by
  cases q:H a with
  | none=>exact absurd q o.there
  | some u=>exact ⟨u,rfl⟩
 have gr:Same F (upd F a u):=fun b w e=>by rw [upd_ne (ne_of_none e hF)]; exact e
 have sb:Same (upd F a u) H:=fun b w e=>by
  by_cases q:b=a
  ·subst q; rw [upd_same] at e; cases e; exact hu
  ·rw [upd_ne q] at e; exact rp.sub b w e
 refine ⟨upd F a u,⟨sb,rp.len,fun i d hi e=>?_,fun i d hi e=>?_,rp.opn,rp.dis⟩,gr,?_,fun b hb=>?_⟩
 ·obtain ⟨v,h1,h2⟩:=rp.val i d hi e
  exact ⟨v,h1,h2.mono gr⟩
 ·obtain ⟨c,h1,h2,h3⟩:=rp.ow i d hi e
  refine ⟨c,h1,?_,h3.grow gr fun _ q=>q⟩
  have nc:c≠a:=fun q=>by subst q; exact hA c ⟨i,hi,h1⟩ h0
  rw [upd_ne nc]; exact h2
 ·cases d with
  | lst ds=>obtain ⟨xs,e,t⟩:=o; rw [hu] at e; cases e; exact .lst (.inl (.inl upd_same)) (t.mono gr)
  | dct ds=>obtain ⟨xs,e,t⟩:=o; rw [hu] at e; cases e; exact .dct upd_same (t.mono gr)
  | ins C fs=>obtain ⟨dx,xs,e,t⟩:=o; rw [hu] at e; cases e; exact .ins upd_same (t.mono gr)
  | _=>exact o.elim
 ·by_cases q:b=a
  ·exact .inr (by rw [q]; exact h0)
  ·rw [upd_ne q] at hb; exact .inl hb
theorem Po.toSh {C:Ct} {own:List Nat} {m:Mo} {σ:St} {F H:Hp} {ρ0:Sl} {r:Out (D×Sl)} {Q:VK} (rp:Rep C.K own F H σ ρ0) (hm:m≠.any) (h:Po C own .sh σ F H r Q):Po C own m σ F H r Q:=by
 cases r with
 | ok p=>
  intro v F' H' rp' c mo
  cases m with
  | sh=>exact h v F' H' rp' c mo
  | fr=>
   obtain ⟨F2,rp2,gr,is,nw⟩:=sh_of_fr rp' (fun b z=>(rp.OA_there z).1) mo
   refine h v F2 H' rp2 ⟨c.keep,c.stay,c.grow.trans gr,fun b hb=>?_⟩ is
   rcases nw b hb with z | z
   ·exact c.new b z
   ·exact .inr (.inl z)
  | any=>exact absurd rfl hm
 | exc x=>exact h
 | bad=>exact h.elim
section
variable {X:Cx} {C:Ct} {own:List Nat} {a b e:Expr} {f fa fb:Sl->Out (D×Sl)} {m ma mb:Mo} {pos:Pos}
theorem pd_sh (h:PE X e (tE C own m f)) (hm:m≠.any):PE X e (tE C own .sh f):=pe_to h fun _ _ _ ⟨F,ρ,rp,p⟩=>⟨F,ρ,rp,p.toSh rp hm⟩
noncomputable def dVar (i:Nat):Sl->Out (D×Sl):=fun ρ=>match ρ[i]? with
 | some (some d)=>.ok (d,ρ)
 | _=>.bad
noncomputable def dC (d:D):Sl->Out (D×Sl):=fun ρ=>.ok (d,ρ)
theorem pd_var {i:Nat} {x:Str} (hN:X.N[i]?=some x) (hv:Vis X.env.scope x) (ho:i∉own) (hd:(x == ("__debug__":Str))=false:=by decide) (hcd:(x == ("__classdict__":Str))=false:=by decide):PE X (.Name x pos) (tE C own .sh (dVar i)):=by
 refine pe_to (pe_var hN hv hd hcd) fun σ H Q ⟨F,ρ,rp,h⟩=>?_
 unfold dVar at h
 cases e:ρ[i]? with
 | none=>rw [e] at h; exact h.elim
 | some o=>
  cases o with
  | none=>rw [e] at h; exact h.elim
  | some d=>
   rw [e] at h
   obtain ⟨v,h1,h2⟩:=rp.val i d ho e
   exact ⟨v,h1,h v F H rp .refl h2⟩
theorem pd_varO {i:Nat} {x:Str} (hN:X.N[i]?=some x) (hv:Vis X.env.scope x) (ho:i∈own) (hd:(x == ("__debug__":Str))=false:=by decide) (hcd:(x == ("__classdict__":Str))=false:=by decide):PE X (.Name x pos) (tE C own .any (dVar i)):=by
 refine pe_to (pe_var hN hv hd hcd) fun σ H Q ⟨F,ρ,rp,h⟩=>?_
 unfold dVar at h
 cases e:ρ[i]? with
 | none=>rw [e] at h; exact h.elim
 | some o=>
  cases o with
  | none=>rw [e] at h; exact h.elim
  | some d=>
   rw [e] at h
   obtain ⟨a,h1,h2,h3⟩:=rp.ow i d ho e
   exact ⟨_,h1,h _ F H rp .refl (.inr ⟨a,rfl,h3⟩)⟩
theorem pd_c {v:V} {d:D} (h:PE X e (tC v)) (i:∀ F,Is C.K F v d):PE X e (tE C own .sh (dC d)):=pe_to h fun σ H Q ⟨F,ρ,rp,h⟩=>h v F H rp .refl (i F)
theorem pd_int {i j pos}:PE X (.Constant (.int i) j pos) (tE C own .sh (dC (.int i))):=pd_c pe_int fun _=>.int i
theorem pd_bl {i j pos}:PE X (.Constant (.bool i) j pos) (tE C own .sh (dC (.bl i))):=pd_c pe_bl fun _=>.bl i
theorem pd_non {j pos}:PE X (.Constant .none j pos) (tE C own .sh (dC .non)):=pd_c pe_non fun _=>.non
theorem pd_str {x j pos} (h:Str.length x<=sizeLine:=by decide):PE X (.Constant (.str x) j pos) (tE C own .sh (dC (.str x))):=pd_c pe_str fun _=>.str h
theorem pd_glob {x:Str} {v:V} {d:D} {u:Value} (hg:Gl X x) (hm:X.mg x=some u) (r:RelV v u) (i:∀ F,Is C.K F v d) (hd:(x == ("__debug__":Str))=false:=by decide):PE X (.Name x pos) (tE C own .sh (dC d)):=pd_c (pe_glob hg hm r hd) i
noncomputable def intD (g:Int->Int->Out D):D->D->Out D
 | .int i,.int j=>g i j
 | _,_=>.bad
theorem TopIs.int {K:Frag} {F H:Hp} {v:V} {i:Int} (h:TopIs K F H v (.int i)):v=.int i:=by
 rcases h with h | ⟨a,_,h⟩
 ·cases h; rfl
 ·exact h.elim
theorem TopIs.str {K:Frag} {F H:Hp} {v:V} {x:Str} (h:TopIs K F H v (.str x)):v=.str x/\x.length<=sizeLine:=by
 rcases h with h | ⟨a,_,h⟩
 ·cases h; exact ⟨rfl,by assumption⟩
 ·exact h.elim
theorem TopIs.bl {K:Frag} {F H:Hp} {v:V} {x:Bool} (h:TopIs K F H v (.bl x)):v=.bl x:=by
 rcases h with h | ⟨a,_,h⟩
 ·cases h; rfl
 ·exact h.elim
theorem TopIs.non {K:Frag} {F H:Hp} {v:V} (h:TopIs K F H v .non):v=.non:=by
 rcases h with h | ⟨a,_,h⟩
 ·cases h; rfl
 ·exact h.elim
theorem TopIs.raw {K:Frag} {F H:Hp} {v u:V} (h:TopIs K F H v (.raw u)):v=u:=by
 rcases h with h | ⟨a,_,h⟩
 ·cases h; rfl
 ·exact h.elim
theorem TopIs.lst {K:Frag} {F H:Hp} {v:V} {ds:List D} (s:Same F H) (h:TopIs K F H v (.lst ds)):∃ a xs,v=.ref a/\SqL K H a xs/\IsL K F xs ds:=by
 rcases h with h | ⟨a,e,h⟩
 ·cases h with
  | lst h t=>exact ⟨_,_,rfl,s.seq h,t⟩
 ·obtain ⟨xs,e2,t⟩:=h
  exact ⟨a,xs,e,.inl (.inl e2),t⟩
theorem TopIs.tup {K:Frag} {F H:Hp} {v:V} {ds:List D} (s:Same F H) (h:TopIs K F H v (.tup ds)):∃ a xs,v=.ref a/\SqT K H a xs/\IsL K F xs ds:=by
 rcases h with h | ⟨a,e,h⟩
 ·cases h with
  | tup h t=>exact ⟨_,_,rfl,sqT_mono s h,t⟩
 ·exact h.elim
theorem TopIs.dct {K:Frag} {F H:Hp} {v:V} {ds:List (Key×D)} (s:Same F H) (h:TopIs K F H v (.dct ds)):∃ a kv,v=.ref a/\H a=some (.dK kv)/\IsK K F kv ds:=by
 rcases h with h | ⟨a,e,h⟩
 ·cases h with
  | dct h t=>exact ⟨_,_,rfl,s _ _ h,t⟩
 ·obtain ⟨xs,e2,t⟩:=h
  exact ⟨a,xs,e,e2,t⟩
theorem op_int {fn:Value->Value->Sem Value} {P:Int->Int->Prop} [∀ i j,Decidable (P i j)] {g:Int->Int->V} {gd:Int->Int->D} (ho:OpR X fn (rI P g)) (hg:∀ F i j,Is C.K F (g i j) (gd i j)) :
  OpD X C .sh fn (intD fun i j=>if P i j then .ok (gd i j) else .bad):=by
 intro pins s σ H x y v u Q I rx ry h
 obtain ⟨F,dx,dy,sb,tx,ty,po⟩:=h
 cases dx <;> try exact po.elim
 cases dy <;> try exact po.elim
 rename_i i j
 have po:PoV C .sh F H (if P i j then .ok (gd i j) else .bad) Q:=po
 obtain rfl:=tx.int
 obtain rfl:=ty.int
 by_cases q:P i j
 ·rw [if_pos q] at po
  exact ho pins s σ H _ _ v u Q I rx ry ⟨i,j,rfl,rfl,q,po (g i j) F H sb .refl (hg F i j)⟩
 ·rw [if_neg q] at po; exact po.elim
theorem op_int0 {fn:Value->Value->Sem Value} {g:Int->Int->V} {gd:Int->Int->D} (ho:OpR X fn (rI0 g)) (hg:∀ F i j,Is C.K F (g i j) (gd i j)):OpD X C .sh fn (intD fun i j=>.ok (gd i j)):=by
 intro pins s σ H x y v u Q I rx ry h
 obtain ⟨F,dx,dy,sb,tx,ty,po⟩:=h
 cases dx <;> try exact po.elim
 cases dy <;> try exact po.elim
 rename_i i j
 obtain rfl:=tx.int
 obtain rfl:=ty.int
 exact ho pins s σ H _ _ v u Q I rx ry ⟨i,j,rfl,rfl,po (g i j) F H sb .refl (hg F i j)⟩
noncomputable def subD:D->D->Out D:=intD fun i j=>.ok (.int (i - j))
theorem od_sub:OpD X C .sh (binaryOp .Sub) subD:=op_int0 op_sub fun _ _ _=>.int _
instance:∀ i j,Decidable (CMul i j):=fun i j=>inferInstanceAs (Decidable (_\/_))
instance:∀ i j,Decidable (CDiv i j):=fun i j=>inferInstanceAs (Decidable (_/\_))
noncomputable def mulD:D->D->Out D:=intD fun i j=>if CMul i j then .ok (.int (i * j)) else .bad
theorem od_mul:OpD X C .sh (binaryOp .Mult) mulD:=op_int op_mul fun _ _ _=>.int _
noncomputable def modD:D->D->Out D:=intD fun i j=>if 0 < j then .ok (.int (i % j)) else .bad
theorem od_mod:OpD X C .sh (binaryOp .Mod) modD:=op_int op_mod fun _ _ _=>.int _
noncomputable def strLt (x y:Str):Bool:=decide (x.cps.toList < y.cps.toList)
noncomputable def ltD:D->D->Out D
 | .int i,.int j=>.ok (.bl (decide (i < j)))
 | .str x,.str y=>.ok (.bl (strLt x y))
 | _,_=>.bad
theorem od_lt:OpD X C .sh (compareOp .Lt) ltD:=by
 intro pins s σ H x y v u Q I rx ry h
 obtain ⟨F,dx,dy,sb,tx,ty,po⟩:=h
 cases dx <;> try exact po.elim
 ·cases dy <;> try exact po.elim
  obtain rfl:=tx.int
  obtain rfl:=ty.int
  exact op_lt pins s σ H _ _ v u Q I rx ry ⟨_,_,rfl,rfl,po _ F H sb .refl (.bl _)⟩
 ·cases dy <;> try exact po.elim
  obtain ⟨rfl,_⟩:=tx.str
  obtain ⟨rfl,_⟩:=ty.str
  exact op_lt_str pins s σ H _ _ v u Q I rx ry ⟨_,_,rfl,rfl,po _ F H sb .refl (.bl _)⟩
end
noncomputable def eqS:D->D->Option Bool
 | .non,.non=>some true
 | .non,.bl _=>some false
 | .non,.int _=>some false
 | .non,.str _=>some false
 | .non,.tup _=>some false
 | .non,.lst _=>some false
 | .bl _,.non=>some false
 | .bl a,.bl b=>some (a == b)
 | .bl a,.int b=>some ((if a then 1 else 0) == b)
 | .bl _,.str _=>some false
 | .bl _,.tup _=>some false
 | .bl _,.lst _=>some false
 | .int _,.non=>some false
 | .int a,.bl b=>some (a == (if b then 1 else 0))
 | .int a,.int b=>some (a == b)
 | .int _,.str _=>some false
 | .int _,.tup _=>some false
 | .int _,.lst _=>some false
 | .str _,.non=>some false
 | .str _,.bl _=>some false
 | .str _,.int _=>some false
 | .str a,.str b=>some (a == b)
 | .str _,.tup _=>some false
 | .str _,.lst _=>some false
 | .tup _,.non=>some false
 | .tup _,.bl _=>some false
 | .tup _,.int _=>some false
 | .tup _,.str _=>some false
 | .tup _,.lst _=>some false
 | .lst _,.non=>some false
 | .lst _,.bl _=>some false
 | .lst _,.int _=>some false
 | .lst _,.str _=>some false
 | .lst _,.tup _=>some false
 | _,_=>none
noncomputable def eqLs (f:D->D->Option Bool):List D->List D->Option Bool
 | x::xs,y::ys=>(f x y).bind fun a=>(eqLs f xs ys).bind fun b=>some (a&&b)
 | _,_=>some true
noncomputable def eqN:Nat->D->D->Option Bool
 | n+1,.tup xs,.tup ys=>(eqLs (eqN n) xs ys).map fun b=>b&&xs.length == ys.length
 | n+1,.lst xs,.lst ys=>if xs.length=ys.length then eqLs (eqN n) xs ys else some false
 | _,a,b=>eqS a b
theorem eqN_scal {n:Nat} {a b:D} (h1:∀ xs ys,a=.tup xs->b≠.tup ys) (h2:∀ xs ys,a=.lst xs->b≠.lst ys):eqN n a b=eqS a b:=by
 cases n with
 | zero=>rfl
 | succ n=>
  cases a with
  | tup xs=>cases b with
   | tup ys=>exact absurd rfl (h1 xs ys rfl)
   | _=>rfl
  | lst xs=>cases b with
   | lst ys=>exact absurd rfl (h2 xs ys rfl)
   | _=>rfl
  | _=>rfl
noncomputable def itE (f:D->D->Option Bool) (xs ys:List D) (j:Nat):Bool:=((xs[j]?).bind fun x=>(ys[j]?).bind fun y=>f x y).getD false
theorem eqLs_range {f:D->D->Option Bool}:∀ {xs ys:List D} {b:Bool},eqLs f xs ys=some b->b=(List.range (min xs.length ys.length)).all (itE f xs ys)
 | [],ys,b,h=>by simp [eqLs] at h ⊢; exact h
 | x::xs,[],b,h=>by simp [eqLs] at h ⊢; exact h
 | x::xs,y::ys,b,h=>by
  unfold eqLs at h
  cases e:f x y with
  | none=>rw [e] at h; simp at h
  | some a=>
   cases e2:eqLs f xs ys with
   | none=>rw [e,e2] at h; simp at h
   | some c=>
    rw [e,e2] at h
    have h:(a&&c)=b:=by simpa using h
    have ih:=eqLs_range e2
    have hm:min (x::xs).length (y::ys).length=min xs.length ys.length+1:=by simp only [List.length_cons]; omega
    rw [hm,List.range_succ_eq_map,List.all_cons,List.all_map]
    have e0:itE f (x::xs) (y::ys) 0=a:=by simp [itE,e]
    have e1:(itE f (x::xs) (y::ys)) ∘ Nat.succ=itE f xs ys:=by
     funext j
     simp [itE]
    rw [e0,e1,<-ih]
    exact h.symm
theorem eqLs_at {f:D->D->Option Bool}:∀ {xs ys:List D} {b:Bool},eqLs f xs ys=some b->∀ (j:Nat) (x y:D),xs[j]?=some x->ys[j]?=some y->f x y=some (itE f xs ys j)
 | [],ys,b,_,j,x,y,hx,_=>by simp at hx
 | x::xs,[],b,_,j,_,y,_,hy=>by simp at hy
 | x::xs,y::ys,b,h,0,x',y',hx,hy=>by
  simp at hx hy
  subst hx hy
  unfold eqLs at h
  cases e:f x y with
  | none=>rw [e] at h; simp at h
  | some a=>simp [itE,e]
 | x::xs,y::ys,b,h,j+1,x',y',hx,hy=>by
  unfold eqLs at h
  cases e:f x y with
  | none=>rw [e] at h; simp at h
  | some a=>
   cases e2:eqLs f xs ys with
   | none=>rw [e,e2] at h; simp at h
   | some c=>
    have q:=eqLs_at e2 j x' y' (by simpa using hx) (by simpa using hy)
    rw [q]
    simp [itE]
section
variable {X:Cx} {pins:List (Addr×Obj)} {σ:St} {F H:Hp} {s:Shared}
theorem eq_self (I:Inv X pins σ H s) (sb:Same F H):∀ (n:Nat) {v:V} {d e:D} {b:Bool},Is X.K F v d->Is X.K F v e->eqN n d e=some b->b=true:=by
 intro n
 induction n with
 | zero=>
  intro v d e b h1 h2 h
  cases h1 <;> cases h2 <;> simp [eqN,eqS] at h <;> try exact h.symm
  all_goals first
   | exact h
   | (rename_i p1 _ _ _ p2 _; obtain ⟨_,_,q1,_⟩:=I.list (sb.seq (by assumption)); obtain ⟨_,_,q2,_⟩:=I.tuple (sqT_mono sb (by assumption)); exact absurd rfl (PySem.SeqAt.ne_of_list_tuple q1.isList q2))
   | (rename_i p1 _ _ _ p2 _; obtain ⟨_,_,q1,_⟩:=I.list (sb.seq (by assumption)); obtain ⟨_,_,q2,_⟩:=I.tuple (sqT_mono sb (by assumption)); exact absurd rfl (PySem.SeqAt.ne_of_list_tuple q1.isList q2).symm)
   | skip
 | succ n ih=>
  have lists:∀ {xs:List V} {ds es:List D} {b:Bool},IsL X.K F xs ds->IsL X.K F xs es->eqLs (eqN n) ds es=some b->b=true:=by
   intro xs
   induction xs with
   | nil=>intro ds es b h1 h2 h; cases h1; cases h2; simp [eqLs] at h; exact h
   | cons x xs ihx=>
    intro ds es b h1 h2 h
    cases h1 with
    | cons a1 t1=>
     cases h2 with
     | cons a2 t2=>
      rename_i d ds e es
      unfold eqLs at h
      cases q:eqN n d e with
      | none=>rw [q] at h; simp at h
      | some a=>
       cases q2:eqLs (eqN n) ds es with
       | none=>rw [q,q2] at h; simp at h
       | some c=>
        rw [q,q2] at h
        rw [ih a1 a2 q,ihx t1 t2 q2] at h
        simpa using h.symm
  intro v d e b h1 h2 h
  cases h1 with
  | tup p1 t1=>
   cases h2 with
   | tup p2 t2=>
    have e:=I.tuple_inj (sqT_mono sb p1) (sqT_mono sb p2)
    subst e
    simp only [eqN] at h
    rename_i xs ds es
    cases q:eqLs (eqN n) ds es with
    | none=>rw [q] at h; simp at h
    | some c=>
     rw [q] at h
     have hl:ds.length=es.length:=by rw [<-t1.length,<-t2.length]
     have hb:(ds.length == es.length)=true:=by simp [hl]
     rw [lists t1 t2 q] at h
     simpa [hb] using h.symm
   | lst p2 t2=>
    obtain ⟨_,_,q1,_⟩:=I.list (sb.seq p2)
    obtain ⟨_,_,q2,_⟩:=I.tuple (sqT_mono sb p1)
    exact absurd rfl (PySem.SeqAt.ne_of_list_tuple q1.isList q2)
   | _=>simp [eqN,eqS] at h
  | lst p1 t1=>
   cases h2 with
   | lst p2 t2=>
    have e:=I.list_inj (sb.seq p1) (sb.seq p2)
    subst e
    simp only [eqN] at h
    have hl:=t1.length.symm.trans t2.length
    rw [if_pos hl] at h
    exact lists t1 t2 h
   | tup p2 t2=>
    obtain ⟨_,_,q1,_⟩:=I.list (sb.seq p1)
    obtain ⟨_,_,q2,_⟩:=I.tuple (sqT_mono sb p2)
    exact absurd rfl (PySem.SeqAt.ne_of_list_tuple q1.isList q2)
   | _=>simp [eqN,eqS] at h
  | _=>cases h2 <;> simp [eqN,eqS] at h <;> first | exact h.symm | exact h | skip
end
open PySem.SeqAt
section
variable {X:Cx} {pins:List (Addr×Obj)} {σ:St} {F H:Hp} {s:Shared}
theorem Vals.getE {xs:List V} {us:List Value} (r:Vals xs us) {j:Nat} (h:j < us.length):∃ x,xs[j]?=some x/\RelV x us[j]:=by
 have hl:=r.length
 have hj:j < xs.length:=by omega
 obtain ⟨u,e1,e2⟩:=Vals.get (i:=j) (x:=xs[j]) r (by simp [hj])
 refine ⟨xs[j],by simp [hj],?_⟩
 rw [List.getElem?_eq_getElem h] at e1
 cases e1
 exact e2
theorem items_eqAt {A:Around} {n:Nat} {xs ys:List V} {ds es:List D} {us ws:List Value} {b:Bool} (ih:∀ {v w:V} {d e:D} {u t:Value} {b:Bool},Is X.K F v d->Is X.K F w e->RelV v u->RelV w t->eqN n d e=some b->EqAt A s u t b)
  (r1:Vals xs us) (r2:Vals ys ws) (i1:IsL X.K F xs ds) (i2:IsL X.K F ys es) (h:eqLs (eqN n) ds es=some b) :
  ∀ j (h1:j < us.toArray.size) (h2:j < ws.toArray.size),EqAt A s us.toArray[j] ws.toArray[j] (itE (eqN n) ds es j):=by
 intro j h1 h2
 have h1':j < us.length:=by simpa using h1
 have h2':j < ws.length:=by simpa using h2
 obtain ⟨x,ex,rx⟩:=Vals.getE r1 h1'
 obtain ⟨y,ey,ry⟩:=Vals.getE r2 h2'
 obtain ⟨d,ed,idd⟩:=i1.get ex
 obtain ⟨e,ee,ie⟩:=i2.get ey
 have q:=eqLs_at h j d e ed ee
 simpa using ih idd ie rx ry q
theorem rcAt_tup {A:Around} {n:Nat} {a c:Addr} {xs ys:List V} {ds es:List D} {b:Bool} (I:Inv X pins σ H s) (ih:∀ {v w:V} {d e:D} {u t:Value} {b:Bool},Is X.K F v d->Is X.K F w e->RelV v u->RelV w t->eqN n d e=some b->EqAt A.in1 s u t b)
  (p1:SqT X.K H a xs) (p2:SqT X.K H c ys) (i1:IsL X.K F xs ds) (i2:IsL X.K F ys es) (h:eqN (n+1) (.tup ds) (.tup es)=some b) (hu:A.units < cLine):RcAt A s (.ref a) (.ref c) b:=by
 obtain ⟨us,r1,t1,_⟩:=I.tuple p1
 obtain ⟨ws,r2,t2,_⟩:=I.tuple p2
 simp only [eqN] at h
 cases q:eqLs (eqN n) ds es with
 | none=>rw [q] at h; simp at h
 | some k=>
  rw [q] at h
  have l1:us.toArray.size=ds.length:=by rw [List.size_toArray,<-r1.length,i1.length]
  have l2:ws.toArray.size=es.length:=by rw [List.size_toArray,<-r2.length,i2.length]
  have z:=RcAt.tuples (A:=A) t1 t2 hu (items_eqAt (A:=A.in1) ih r1 r2 i1 i2 q)
  rw [l1,l2,<-eqLs_range q] at z
  have e:b=(k&&ds.length == es.length):=by simpa using h.symm
  rw [e]; exact z
theorem rcAt_lst {A:Around} {n:Nat} {a c:Addr} {xs ys:List V} {ds es:List D} {b:Bool} (I:Inv X pins σ H s) (ih:∀ {v w:V} {d e:D} {u t:Value} {b:Bool},Is X.K F v d->Is X.K F w e->RelV v u->RelV w t->eqN n d e=some b->EqAt A.in1 s u t b)
  (p1:SqL X.K H a xs) (p2:SqL X.K H c ys) (i1:IsL X.K F xs ds) (i2:IsL X.K F ys es) (h:eqN (n+1) (.lst ds) (.lst es)=some b) (hu:A.units < cLine):RcAt A s (.ref a) (.ref c) b:=by
 obtain ⟨us,r1,t1,_⟩:=I.list p1
 obtain ⟨ws,r2,t2,_⟩:=I.list p2
 have l1:us.toArray.size=ds.length:=by rw [List.size_toArray,<-r1.length,i1.length]
 have l2:ws.toArray.size=es.length:=by rw [List.size_toArray,<-r2.length,i2.length]
 simp only [eqN] at h
 by_cases hl:ds.length=es.length
 ·rw [if_pos hl] at h
  have z:=RcAt.lists (A:=A) t1.isList t2.isList (by omega) hu (items_eqAt (A:=A.in1) ih r1 r2 i1 i2 h)
  have e:=eqLs_range h
  rw [l1] at z
  rw [e,show min ds.length es.length=ds.length by omega]
  exact z
 ·rw [if_neg hl] at h
  cases h
  exact RcAt.lists_lengths t1.isList t2.isList (bne_iff_ne.mpr (by rw [l1,l2]; exact hl)) hu
theorem eqAt_D (I:Inv X pins σ H s) (sb:Same F H):∀ (n:Nat) {A:Around} {v w:V} {d e:D} {u t:Value} {b:Bool},A.units+n < cLine->Is X.K F v d->Is X.K F w e->RelV v u->RelV w t->eqN n d e=some b->EqAt A s u t b:=by
 intro n
 induction n with
 | zero=>
  intro A v w d e u t b hu h1 h2 rx ry h
  have hu:A.units < cLine:=by omega
  have h:eqS d e=some b:=h
  cases h1 with
  | non=>cases rx; cases h2 with
   | non=>cases ry; cases h; exact EqAt.same _
   | bl=>cases ry; cases h; exact EqAt.none_bool _
   | int=>obtain ⟨_,rfl⟩:=ry; cases h; exact EqAt.none_int _ _
   | str=>obtain ⟨_,rfl⟩:=ry; cases h; exact EqAt.none_str _ _
   | tup p _=>cases ry; cases h; obtain ⟨_,_,q,_⟩:=I.tuple (sqT_mono sb p); exact EqAt.none_tuple q hu
   | lst p _=>cases ry; cases h; obtain ⟨_,_,q,_⟩:=I.list (sb.seq p); exact EqAt.none_list q.isList hu
   | dct=>cases h
   | raw=>cases h
   | xcp=>cases h
   | ins=>cases h
  | bl=>cases rx; cases h2 with
   | non=>cases ry; cases h; exact EqAt.bool_none _
   | bl=>cases ry; cases h; exact EqAt.bool_bool _ _
   | int=>obtain ⟨_,rfl⟩:=ry; cases h; exact EqAt.bool_int _ _ _
   | str=>obtain ⟨_,rfl⟩:=ry; cases h; exact EqAt.bool_str _ _ _
   | tup p _=>cases ry; cases h; obtain ⟨_,_,q,_⟩:=I.tuple (sqT_mono sb p); exact EqAt.bool_tuple _ q hu
   | lst p _=>cases ry; cases h; obtain ⟨_,_,q,_⟩:=I.list (sb.seq p); exact EqAt.bool_list _ q.isList hu
   | dct=>cases h
   | raw=>cases h
   | xcp=>cases h
   | ins=>cases h
  | int=>obtain ⟨_,rfl⟩:=rx; cases h2 with
   | non=>cases ry; cases h; exact EqAt.int_none _ _
   | bl=>cases ry; cases h; exact EqAt.int_bool _ _ _
   | int=>obtain ⟨_,rfl⟩:=ry; cases h; exact EqAt.int_int _ _ _ _
   | str=>obtain ⟨_,rfl⟩:=ry; cases h; exact EqAt.int_str _ _ _ _
   | tup p _=>cases ry; cases h; obtain ⟨_,_,q,_⟩:=I.tuple (sqT_mono sb p); exact EqAt.int_tuple _ _ q hu
   | lst p _=>cases ry; cases h; obtain ⟨_,_,q,_⟩:=I.list (sb.seq p); exact EqAt.int_list _ _ q.isList hu
   | dct=>cases h
   | raw=>cases h
   | xcp=>cases h
   | ins=>cases h
  | str=>obtain ⟨_,rfl⟩:=rx; cases h2 with
   | non=>cases ry; cases h; exact EqAt.str_none _ _
   | bl=>cases ry; cases h; exact EqAt.str_bool _ _ _
   | int=>obtain ⟨_,rfl⟩:=ry; cases h; exact EqAt.str_int _ _ _ _
   | str=>obtain ⟨_,rfl⟩:=ry; cases h; exact EqAt.str_str _ _ _ _
   | tup p _=>cases ry; cases h; obtain ⟨_,_,q,_⟩:=I.tuple (sqT_mono sb p); exact EqAt.str_tuple _ _ q hu
   | lst p _=>cases ry; cases h; obtain ⟨_,_,q,_⟩:=I.list (sb.seq p); exact EqAt.str_list _ _ q.isList hu
   | dct=>cases h
   | raw=>cases h
   | xcp=>cases h
   | ins=>cases h
  | tup p0 _=>
   cases rx
   obtain ⟨_,_,q0,_⟩:=I.tuple (sqT_mono sb p0)
   cases h2 with
   | non=>cases ry; cases h; exact EqAt.tuple_none q0 hu
   | bl=>cases ry; cases h; exact EqAt.tuple_bool _ q0 hu
   | int=>obtain ⟨_,rfl⟩:=ry; cases h; exact EqAt.tuple_int _ _ q0 hu
   | str=>obtain ⟨_,rfl⟩:=ry; cases h; exact EqAt.tuple_str _ _ q0 hu
   | tup p _=>cases h
   | lst p _=>cases ry; cases h; obtain ⟨_,_,q,_⟩:=I.list (sb.seq p); exact EqAt.tuple_list q0 q.isList hu
   | dct=>cases h
   | raw=>cases h
   | xcp=>cases h
   | ins=>cases h
  | lst p0 _=>
   cases rx
   obtain ⟨_,_,q0,_⟩:=I.list (sb.seq p0)
   cases h2 with
   | non=>cases ry; cases h; exact EqAt.list_none q0.isList hu
   | bl=>cases ry; cases h; exact EqAt.list_bool _ q0.isList hu
   | int=>obtain ⟨_,rfl⟩:=ry; cases h; exact EqAt.list_int _ _ q0.isList hu
   | str=>obtain ⟨_,rfl⟩:=ry; cases h; exact EqAt.list_str _ _ q0.isList hu
   | tup p _=>cases ry; cases h; obtain ⟨_,_,q,_⟩:=I.tuple (sqT_mono sb p); exact EqAt.list_tuple q0.isList q hu
   | lst p _=>cases h
   | dct=>cases h
   | raw=>cases h
   | xcp=>cases h
   | ins=>cases h
  | dct=>cases h2 <;> cases h
  | raw=>cases h2 <;> cases h
  | xcp=>cases h2 <;> cases h
  | ins=>cases h2 <;> cases h
 | succ n ih=>
  intro A v w d e u t b hu h1 h2 rx ry h
  have hu1:A.in1.units+n < cLine:=by show A.units+1+n < cLine; omega
  by_cases both:(∃ xs ys,d=.tup xs/\e=.tup ys)\/(∃ xs ys,d=.lst xs/\e=.lst ys)
  ·rcases both with ⟨ds,es,rfl,rfl⟩ | ⟨ds,es,rfl,rfl⟩
   ·have h1':=h1
    have h2':=h2
    cases h1 with
    | tup p1 t1=>
     cases h2 with
     | tup p2 t2=>
      rename_i a xs c ys
      cases rx
      cases ry
      by_cases ne:a=c
      ·subst ne
       rw [eq_self I sb (n+1) h1' h2' h]
       exact EqAt.same _
      ·exact EqAt.of_refs ne (rcAt_tup I (fun a1 a2 a3 a4 a5=>ih hu1 a1 a2 a3 a4 a5) (sqT_mono sb p1) (sqT_mono sb p2) t1 t2 h (by omega))
   ·have h1':=h1
    have h2':=h2
    cases h1 with
    | lst p1 t1=>
     cases h2 with
     | lst p2 t2=>
      rename_i a xs c ys
      cases rx
      cases ry
      by_cases ne:a=c
      ·subst ne
       rw [eq_self I sb (n+1) h1' h2' h]
       exact EqAt.same _
      ·exact EqAt.of_refs ne (rcAt_lst I (fun a1 a2 a3 a4 a5=>ih hu1 a1 a2 a3 a4 a5) (sb.seq p1) (sb.seq p2) t1 t2 h (by omega))
  ·have e1:eqN (n+1) d e=eqS d e:=eqN_scal (fun xs ys a1 a2=>both (.inl ⟨xs,ys,a1,a2⟩)) (fun xs ys a1 a2=>both (.inr ⟨xs,ys,a1,a2⟩))
   have e2:eqN n d e=eqS d e:=eqN_scal (fun xs ys a1 a2=>both (.inl ⟨xs,ys,a1,a2⟩)) (fun xs ys a1 a2=>both (.inr ⟨xs,ys,a1,a2⟩))
   exact ih (by omega) h1 h2 rx ry (by rw [e2,<-e1]; exact h)
end
end L2.D2
namespace L2.D2
open PySem PySem.Spec PyProof.Rows
open PySem.SeqAt
section
variable {X:Cx} {pins:List (Addr×Obj)} {σ:St} {F H:Hp} {s:Shared}
theorem rcNe_tup {A:Around} {n:Nat} {a c:Addr} {xs ys:List V} {ds es:List D} {b:Bool} (I:Inv X pins σ H s) (ih:∀ {v w:V} {d e:D} {u t:Value} {b:Bool},Is X.K F v d->Is X.K F w e->RelV v u->RelV w t->eqN n d e=some b->EqAt A.in1 s u t b)
  (p1:SqT X.K H a xs) (p2:SqT X.K H c ys) (i1:IsL X.K F xs ds) (i2:IsL X.K F ys es) (h:eqN (n+1) (.tup ds) (.tup es)=some b) (hu:A.units < cLine):RcNeAt A s (.ref a) (.ref c) (!b):=by
 obtain ⟨us,r1,t1,_⟩:=I.tuple p1
 obtain ⟨ws,r2,t2,_⟩:=I.tuple p2
 simp only [eqN] at h
 cases q:eqLs (eqN n) ds es with
 | none=>rw [q] at h; simp at h
 | some k=>
  rw [q] at h
  have l1:us.toArray.size=ds.length:=by rw [List.size_toArray,<-r1.length,i1.length]
  have l2:ws.toArray.size=es.length:=by rw [List.size_toArray,<-r2.length,i2.length]
  have z:=RcNeAt.tuples (A:=A) t1 t2 hu (items_eqAt (A:=A.in1) ih r1 r2 i1 i2 q)
  rw [l1,l2,<-eqLs_range q] at z
  have e:b=(k&&ds.length == es.length):=by simpa using h.symm
  rw [e]; exact z
theorem rcNe_lst {A:Around} {n:Nat} {a c:Addr} {xs ys:List V} {ds es:List D} {b:Bool} (I:Inv X pins σ H s) (ih:∀ {v w:V} {d e:D} {u t:Value} {b:Bool},Is X.K F v d->Is X.K F w e->RelV v u->RelV w t->eqN n d e=some b->EqAt A.in1 s u t b)
  (p1:SqL X.K H a xs) (p2:SqL X.K H c ys) (i1:IsL X.K F xs ds) (i2:IsL X.K F ys es) (h:eqN (n+1) (.lst ds) (.lst es)=some b) (hu:A.units < cLine):RcNeAt A s (.ref a) (.ref c) (!b):=by
 obtain ⟨us,r1,t1,_⟩:=I.list p1
 obtain ⟨ws,r2,t2,_⟩:=I.list p2
 have l1:us.toArray.size=ds.length:=by rw [List.size_toArray,<-r1.length,i1.length]
 have l2:ws.toArray.size=es.length:=by rw [List.size_toArray,<-r2.length,i2.length]
 simp only [eqN] at h
 by_cases hl:ds.length=es.length
 ·rw [if_pos hl] at h
  have z:=RcNeAt.lists (A:=A) t1.isList t2.isList (by omega) hu (items_eqAt (A:=A.in1) ih r1 r2 i1 i2 h)
  have e:=eqLs_range h
  rw [l1] at z
  rw [e,show min ds.length es.length=ds.length by omega]
  exact z
 ·rw [if_neg hl] at h
  cases h
  exact RcNeAt.lists_lengths t1.isList t2.isList (bne_iff_ne.mpr (by rw [l1,l2]; exact hl)) hu
theorem rcAt_D (I:Inv X pins σ H s) (sb:Same F H) {n:Nat} {A:Around} {v w:V} {d e:D} {u t:Value} {b:Bool} (hu':A.units+n+1 < cLine) (t1:TopIs X.K F H v d) (t2:TopIs X.K F H w e) (rx:RelV v u) (ry:RelV w t) (h:eqN (n+1) d e=some b):RcAt A s u t b:=by
 have hu:A.units < cLine:=by omega
 have ih:∀ {v w:V} {d e:D} {u t:Value} {b:Bool},Is X.K F v d->Is X.K F w e->RelV v u->RelV w t->eqN n d e=some b->EqAt A.in1 s u t b:=fun a1 a2 a3 a4 a5=>eqAt_D I sb n (by show A.units+1+n < cLine; omega) a1 a2 a3 a4 a5
 cases d with
 | non  =>
  obtain rfl:=t1.non; cases rx
  cases e with
  | non  => obtain rfl:=t2.non; cases ry; cases h; exact RcAt.none_none 
  | bl y=>obtain rfl:=t2.bl; cases ry; cases h; exact RcAt.none_bool _
  | int y=>obtain rfl:=t2.int; obtain ⟨_,rfl⟩:=ry; cases h; exact RcAt.none_int _ _
  | str y=>obtain ⟨rfl,_⟩:=t2.str; obtain ⟨_,rfl⟩:=ry; cases h; exact RcAt.none_str _ _
  | tup y=>obtain ⟨c,ys,rfl,p2,i2⟩:=t2.tup sb; cases ry; obtain ⟨_,_,q2,_⟩:=I.tuple p2; cases h; exact RcAt.none_tuple  q2 hu
  | lst y=>obtain ⟨c,ys,rfl,p2,i2⟩:=t2.lst sb; cases ry; obtain ⟨_,_,q2,_⟩:=I.list p2; cases h; exact RcAt.none_list  q2.isList hu
  | dct y=>cases h
  | raw y=>cases h
  | xcp y=>cases h
  | ins y z=>cases h
 | bl x=>
  obtain rfl:=t1.bl; cases rx
  cases e with
  | non  => obtain rfl:=t2.non; cases ry; cases h; exact RcAt.bool_none _
  | bl y=>obtain rfl:=t2.bl; cases ry; cases h; exact RcAt.bool_bool _ _
  | int y=>obtain rfl:=t2.int; obtain ⟨_,rfl⟩:=ry; cases h; exact RcAt.bool_int _ _ _
  | str y=>obtain ⟨rfl,_⟩:=t2.str; obtain ⟨_,rfl⟩:=ry; cases h; exact RcAt.bool_str _ _ _
  | tup y=>obtain ⟨c,ys,rfl,p2,i2⟩:=t2.tup sb; cases ry; obtain ⟨_,_,q2,_⟩:=I.tuple p2; cases h; exact RcAt.bool_tuple _ q2 hu
  | lst y=>obtain ⟨c,ys,rfl,p2,i2⟩:=t2.lst sb; cases ry; obtain ⟨_,_,q2,_⟩:=I.list p2; cases h; exact RcAt.bool_list _ q2.isList hu
  | dct y=>cases h
  | raw y=>cases h
  | xcp y=>cases h
  | ins y z=>cases h
 | int x=>
  obtain rfl:=t1.int; obtain ⟨_,rfl⟩:=rx
  cases e with
  | non  => obtain rfl:=t2.non; cases ry; cases h; exact RcAt.int_none _ _
  | bl y=>obtain rfl:=t2.bl; cases ry; cases h; exact RcAt.int_bool _ _ _
  | int y=>obtain rfl:=t2.int; obtain ⟨_,rfl⟩:=ry; cases h; exact RcAt.int_int _ _ _ _
  | str y=>obtain ⟨rfl,_⟩:=t2.str; obtain ⟨_,rfl⟩:=ry; cases h; exact RcAt.int_str _ _ _ _
  | tup y=>obtain ⟨c,ys,rfl,p2,i2⟩:=t2.tup sb; cases ry; obtain ⟨_,_,q2,_⟩:=I.tuple p2; cases h; exact RcAt.int_tuple _ _ q2 hu
  | lst y=>obtain ⟨c,ys,rfl,p2,i2⟩:=t2.lst sb; cases ry; obtain ⟨_,_,q2,_⟩:=I.list p2; cases h; exact RcAt.int_list _ _ q2.isList hu
  | dct y=>cases h
  | raw y=>cases h
  | xcp y=>cases h
  | ins y z=>cases h
 | str x=>
  obtain ⟨rfl,_⟩:=t1.str; obtain ⟨_,rfl⟩:=rx
  cases e with
  | non  => obtain rfl:=t2.non; cases ry; cases h; exact RcAt.str_none _ _
  | bl y=>obtain rfl:=t2.bl; cases ry; cases h; exact RcAt.str_bool _ _ _
  | int y=>obtain rfl:=t2.int; obtain ⟨_,rfl⟩:=ry; cases h; exact RcAt.str_int _ _ _ _
  | str y=>obtain ⟨rfl,_⟩:=t2.str; obtain ⟨_,rfl⟩:=ry; cases h; exact RcAt.str_str _ _ _ _
  | tup y=>obtain ⟨c,ys,rfl,p2,i2⟩:=t2.tup sb; cases ry; obtain ⟨_,_,q2,_⟩:=I.tuple p2; cases h; exact RcAt.str_tuple _ _ q2 hu
  | lst y=>obtain ⟨c,ys,rfl,p2,i2⟩:=t2.lst sb; cases ry; obtain ⟨_,_,q2,_⟩:=I.list p2; cases h; exact RcAt.str_list _ _ q2.isList hu
  | dct y=>cases h
  | raw y=>cases h
  | xcp y=>cases h
  | ins y z=>cases h
 | tup x=>
  obtain ⟨a,xs,rfl,p1,i1⟩:=t1.tup sb; cases rx; obtain ⟨_,_,q1,_⟩:=I.tuple p1
  cases e with
  | non  => obtain rfl:=t2.non; cases ry; cases h; exact RcAt.tuple_none  q1 hu
  | bl y=>obtain rfl:=t2.bl; cases ry; cases h; exact RcAt.tuple_bool _ q1 hu
  | int y=>obtain rfl:=t2.int; obtain ⟨_,rfl⟩:=ry; cases h; exact RcAt.tuple_int _ _ q1 hu
  | str y=>obtain ⟨rfl,_⟩:=t2.str; obtain ⟨_,rfl⟩:=ry; cases h; exact RcAt.tuple_str _ _ q1 hu
  | tup y=>obtain ⟨c,ys,rfl,p2,i2⟩:=t2.tup sb; cases ry; obtain ⟨_,_,q2,_⟩:=I.tuple p2; exact rcAt_tup I ih p1 p2 i1 i2 h hu
  | lst y=>obtain ⟨c,ys,rfl,p2,i2⟩:=t2.lst sb; cases ry; obtain ⟨_,_,q2,_⟩:=I.list p2; cases h; exact RcAt.tuple_list q1 q2.isList hu
  | dct y=>cases h
  | raw y=>cases h
  | xcp y=>cases h
  | ins y z=>cases h
 | lst x=>
  obtain ⟨a,xs,rfl,p1,i1⟩:=t1.lst sb; cases rx; obtain ⟨_,_,q1,_⟩:=I.list p1
  cases e with
  | non  => obtain rfl:=t2.non; cases ry; cases h; exact RcAt.list_none  q1.isList hu
  | bl y=>obtain rfl:=t2.bl; cases ry; cases h; exact RcAt.list_bool _ q1.isList hu
  | int y=>obtain rfl:=t2.int; obtain ⟨_,rfl⟩:=ry; cases h; exact RcAt.list_int _ _ q1.isList hu
  | str y=>obtain ⟨rfl,_⟩:=t2.str; obtain ⟨_,rfl⟩:=ry; cases h; exact RcAt.list_str _ _ q1.isList hu
  | tup y=>obtain ⟨c,ys,rfl,p2,i2⟩:=t2.tup sb; cases ry; obtain ⟨_,_,q2,_⟩:=I.tuple p2; cases h; exact RcAt.list_tuple q1.isList q2 hu
  | lst y=>obtain ⟨c,ys,rfl,p2,i2⟩:=t2.lst sb; cases ry; obtain ⟨_,_,q2,_⟩:=I.list p2; exact rcAt_lst I ih p1 p2 i1 i2 h hu
  | dct y=>cases h
  | raw y=>cases h
  | xcp y=>cases h
  | ins y z=>cases h
 | dct x=>cases e <;> cases h
 | raw x=>cases e <;> cases h
 | xcp x=>cases e <;> cases h
 | ins x z=>cases e <;> cases h
theorem rcNe_D (I:Inv X pins σ H s) (sb:Same F H) {n:Nat} {A:Around} {v w:V} {d e:D} {u t:Value} {b:Bool} (hu':A.units+n+1 < cLine) (t1:TopIs X.K F H v d) (t2:TopIs X.K F H w e) (rx:RelV v u) (ry:RelV w t) (h:eqN (n+1) d e=some b):RcNeAt A s u t (!b):=by
 have hu:A.units < cLine:=by omega
 have ih:∀ {v w:V} {d e:D} {u t:Value} {b:Bool},Is X.K F v d->Is X.K F w e->RelV v u->RelV w t->eqN n d e=some b->EqAt A.in1 s u t b:=fun a1 a2 a3 a4 a5=>eqAt_D I sb n (by show A.units+1+n < cLine; omega) a1 a2 a3 a4 a5
 cases d with
 | non  =>
  obtain rfl:=t1.non; cases rx
  cases e with
  | non  => obtain rfl:=t2.non; cases ry; cases h; exact RcNeAt.none_none 
  | bl y=>obtain rfl:=t2.bl; cases ry; cases h; exact RcNeAt.none_bool _
  | int y=>obtain rfl:=t2.int; obtain ⟨_,rfl⟩:=ry; cases h; exact RcNeAt.none_int _ _
  | str y=>obtain ⟨rfl,_⟩:=t2.str; obtain ⟨_,rfl⟩:=ry; cases h; exact RcNeAt.none_str _ _
  | tup y=>obtain ⟨c,ys,rfl,p2,i2⟩:=t2.tup sb; cases ry; obtain ⟨_,_,q2,_⟩:=I.tuple p2; cases h; exact RcNeAt.none_tuple  q2 hu
  | lst y=>obtain ⟨c,ys,rfl,p2,i2⟩:=t2.lst sb; cases ry; obtain ⟨_,_,q2,_⟩:=I.list p2; cases h; exact RcNeAt.none_list  q2.isList hu
  | dct y=>cases h
  | raw y=>cases h
  | xcp y=>cases h
  | ins y z=>cases h
 | bl x=>
  obtain rfl:=t1.bl; cases rx
  cases e with
  | non  => obtain rfl:=t2.non; cases ry; cases h; exact RcNeAt.bool_none _
  | bl y=>obtain rfl:=t2.bl; cases ry; cases h; exact RcNeAt.bool_bool _ _
  | int y=>obtain rfl:=t2.int; obtain ⟨_,rfl⟩:=ry; cases h; exact RcNeAt.bool_int _ _ _
  | str y=>obtain ⟨rfl,_⟩:=t2.str; obtain ⟨_,rfl⟩:=ry; cases h; exact RcNeAt.bool_str _ _ _
  | tup y=>obtain ⟨c,ys,rfl,p2,i2⟩:=t2.tup sb; cases ry; obtain ⟨_,_,q2,_⟩:=I.tuple p2; cases h; exact RcNeAt.bool_tuple _ q2 hu
  | lst y=>obtain ⟨c,ys,rfl,p2,i2⟩:=t2.lst sb; cases ry; obtain ⟨_,_,q2,_⟩:=I.list p2; cases h; exact RcNeAt.bool_list _ q2.isList hu
  | dct y=>cases h
  | raw y=>cases h
  | xcp y=>cases h
  | ins y z=>cases h
 | int x=>
  obtain rfl:=t1.int; obtain ⟨_,rfl⟩:=rx
  cases e with
  | non  => obtain rfl:=t2.non; cases ry; cases h; exact RcNeAt.int_none _ _
  | bl y=>obtain rfl:=t2.bl; cases ry; cases h; exact RcNeAt.int_bool _ _ _
  | int y=>obtain rfl:=t2.int; obtain ⟨_,rfl⟩:=ry; cases h; exact RcNeAt.int_int _ _ _ _
  | str y=>obtain ⟨rfl,_⟩:=t2.str; obtain ⟨_,rfl⟩:=ry; cases h; exact RcNeAt.int_str _ _ _ _
  | tup y=>obtain ⟨c,ys,rfl,p2,i2⟩:=t2.tup sb; cases ry; obtain ⟨_,_,q2,_⟩:=I.tuple p2; cases h; exact RcNeAt.int_tuple _ _ q2 hu
  | lst y=>obtain ⟨c,ys,rfl,p2,i2⟩:=t2.lst sb; cases ry; obtain ⟨_,_,q2,_⟩:=I.list p2; cases h; exact RcNeAt.int_list _ _ q2.isList hu
  | dct y=>cases h
  | raw y=>cases h
  | xcp y=>cases h
  | ins y z=>cases h
 | str x=>
  obtain ⟨rfl,_⟩:=t1.str; obtain ⟨_,rfl⟩:=rx
  cases e with
  | non  => obtain rfl:=t2.non; cases ry; cases h; exact RcNeAt.str_none _ _
  | bl y=>obtain rfl:=t2.bl; cases ry; cases h; exact RcNeAt.str_bool _ _ _
  | int y=>obtain rfl:=t2.int; obtain ⟨_,rfl⟩:=ry; cases h; exact RcNeAt.str_int _ _ _ _
  | str y=>obtain ⟨rfl,_⟩:=t2.str; obtain ⟨_,rfl⟩:=ry; cases h; exact RcNeAt.str_str _ _ _ _
  | tup y=>obtain ⟨c,ys,rfl,p2,i2⟩:=t2.tup sb; cases ry; obtain ⟨_,_,q2,_⟩:=I.tuple p2; cases h; exact RcNeAt.str_tuple _ _ q2 hu
  | lst y=>obtain ⟨c,ys,rfl,p2,i2⟩:=t2.lst sb; cases ry; obtain ⟨_,_,q2,_⟩:=I.list p2; cases h; exact RcNeAt.str_list _ _ q2.isList hu
  | dct y=>cases h
  | raw y=>cases h
  | xcp y=>cases h
  | ins y z=>cases h
 | tup x=>
  obtain ⟨a,xs,rfl,p1,i1⟩:=t1.tup sb; cases rx; obtain ⟨_,_,q1,_⟩:=I.tuple p1
  cases e with
  | non  => obtain rfl:=t2.non; cases ry; cases h; exact RcNeAt.tuple_none  q1 hu
  | bl y=>obtain rfl:=t2.bl; cases ry; cases h; exact RcNeAt.tuple_bool _ q1 hu
  | int y=>obtain rfl:=t2.int; obtain ⟨_,rfl⟩:=ry; cases h; exact RcNeAt.tuple_int _ _ q1 hu
  | str y=>obtain ⟨rfl,_⟩:=t2.str; obtain ⟨_,rfl⟩:=ry; cases h; exact RcNeAt.tuple_str _ _ q1 hu
  | tup y=>obtain ⟨c,ys,rfl,p2,i2⟩:=t2.tup sb; cases ry; obtain ⟨_,_,q2,_⟩:=I.tuple p2; exact rcNe_tup I ih p1 p2 i1 i2 h hu
  | lst y=>obtain ⟨c,ys,rfl,p2,i2⟩:=t2.lst sb; cases ry; obtain ⟨_,_,q2,_⟩:=I.list p2; cases h; exact RcNeAt.tuple_list q1 q2.isList hu
  | dct y=>cases h
  | raw y=>cases h
  | xcp y=>cases h
  | ins y z=>cases h
 | lst x=>
  obtain ⟨a,xs,rfl,p1,i1⟩:=t1.lst sb; cases rx; obtain ⟨_,_,q1,_⟩:=I.list p1
  cases e with
  | non  => obtain rfl:=t2.non; cases ry; cases h; exact RcNeAt.list_none  q1.isList hu
  | bl y=>obtain rfl:=t2.bl; cases ry; cases h; exact RcNeAt.list_bool _ q1.isList hu
  | int y=>obtain rfl:=t2.int; obtain ⟨_,rfl⟩:=ry; cases h; exact RcNeAt.list_int _ _ q1.isList hu
  | str y=>obtain ⟨rfl,_⟩:=t2.str; obtain ⟨_,rfl⟩:=ry; cases h; exact RcNeAt.list_str _ _ q1.isList hu
  | tup y=>obtain ⟨c,ys,rfl,p2,i2⟩:=t2.tup sb; cases ry; obtain ⟨_,_,q2,_⟩:=I.tuple p2; cases h; exact RcNeAt.list_tuple q1.isList q2 hu
  | lst y=>obtain ⟨c,ys,rfl,p2,i2⟩:=t2.lst sb; cases ry; obtain ⟨_,_,q2,_⟩:=I.list p2; exact rcNe_lst I ih p1 p2 i1 i2 h hu
  | dct y=>cases h
  | raw y=>cases h
  | xcp y=>cases h
  | ins y z=>cases h
 | dct x=>cases e <;> cases h
 | raw x=>cases e <;> cases h
 | xcp x=>cases e <;> cases h
 | ins x z=>cases e <;> cases h
end
noncomputable def eqD (a b:D):Out D:=match eqN 8 a b with
 | some c=>.ok (.bl c)
 | none=>.bad
noncomputable def neD (a b:D):Out D:=match eqN 8 a b with
 | some c=>.ok (.bl (!c))
 | none=>.bad
section
variable {X:Cx} {C:Ct}
theorem od_eq (hK:C.K=X.K) (hu:X.A.units+64 < cLine):OpD X C .sh (compareOp .Eq) eqD:=by
 intro pins s σ H x y v u Q I rx ry h
 obtain ⟨F,dx,dy,sb,tx,ty,po⟩:=h
 rw [hK] at tx ty
 unfold eqD at po
 cases e:eqN 8 dx dy with
 | none=>rw [e] at po; exact po.elim
 | some c=>
  rw [e] at po
  exact rcAt_D I sb (n:=7) (by omega) tx ty rx ry e _ _ _ _ ⟨.bl c,H,I,rfl,po _ F H sb .refl (.bl _)⟩
theorem od_ne (hK:C.K=X.K) (hu:X.A.units+64 < cLine):OpD X C .sh (compareOp .NotEq) neD:=by
 intro pins s σ H x y v u Q I rx ry h
 obtain ⟨F,dx,dy,sb,tx,ty,po⟩:=h
 rw [hK] at tx ty
 unfold neD at po
 cases e:eqN 8 dx dy with
 | none=>rw [e] at po; exact po.elim
 | some c=>
  rw [e] at po
  exact rcNe_D I sb (n:=7) (by omega) tx ty rx ry e _ _ _ _ ⟨.bl _,H,I,rfl,po _ F H sb .refl (.bl _)⟩
end
end L2.D2
namespace L2.D2
open PySem PySem.Spec PyProof.Rows
open PySem.SeqAt
theorem TopIs.is {K:Frag} {F H:Hp} {v:V} {d:D} (s:Same F H) (h:TopIs K F H v d):∃ F',Same F F'/\Same F' H/\Is K F' v d:=by
 rcases h with h | ⟨a,rfl,o⟩
 ·exact ⟨F,Same.refl _,s,h⟩
 ·obtain ⟨u,hu⟩:∃ u,H a=some u:=by
   cases q:H a with
   | none=>exact absurd q o.there
   | some u=>exact ⟨u,rfl⟩
  by_cases hF:F a=none
  ·have gr:Same F (upd F a u):=fun b w e=>by rw [upd_ne (ne_of_none e hF)]; exact e
   refine ⟨upd F a u,gr,fun b w e=>?_,?_⟩
   ·by_cases q:b=a
    ·subst q; rw [upd_same] at e; cases e; exact hu
    ·rw [upd_ne q] at e; exact s b w e
   ·cases d with
    | lst ds=>obtain ⟨xs,e,t⟩:=o; rw [hu] at e; cases e; exact .lst (.inl (.inl upd_same)) (t.mono gr)
    | dct ds=>obtain ⟨xs,e,t⟩:=o; rw [hu] at e; cases e; exact .dct upd_same (t.mono gr)
    | ins C fs=>obtain ⟨dx,xs,e,t⟩:=o; rw [hu] at e; cases e; exact .ins upd_same (t.mono gr)
    | _=>exact o.elim
  ·obtain ⟨w,hw⟩:∃ w,F a=some w:=by
    cases q:F a with
    | none=>exact absurd q hF
    | some w=>exact ⟨w,rfl⟩
   have e:=s a w hw
   cases d with
   | lst ds=>obtain ⟨xs,e',t⟩:=o; rw [e'] at e; cases e; exact ⟨F,Same.refl _,s,.lst (.inl (.inl hw)) t⟩
   | dct ds=>obtain ⟨xs,e',t⟩:=o; rw [e'] at e; cases e; exact ⟨F,Same.refl _,s,.dct hw t⟩
   | ins C fs=>obtain ⟨dx,xs,e',t⟩:=o; rw [e'] at e; cases e; exact ⟨F,Same.refl _,s,.ins hw t⟩
   | _=>exact o.elim
end L2.D2
namespace L2.D2
open PySem PySem.Spec PyProof.Rows
def PoT (C:Ct) (own:List Nat) (σ:St) (F H:Hp) (r:Out (Bool×Sl)) (Q:Bool->Hp->Prop):Prop:=match r with
 | .ok (b,ρ')=>∀ F' H',Rep C.K own F' H' σ ρ'->Chg (OA own σ) F H F' H'->Q b H'
 | .exc c ρ'=>∀ F' H',Same F' H'->IoIs C.K C.ox F' H' σ ρ'->Chg (OA own σ) F H F' H'->C.E (C.cv c) none H'
 | .bad=>False
def tT (C:Ct) (own:List Nat) (f:Sl->Out (Bool×Sl)):TT:=fun σ H Q=>∃ F ρ,Rep C.K own F H σ ρ/\PoT C own σ F H (f ρ) Q
theorem PoT.shift {C:Ct} {own:List Nat} {σ:St} {F H F1 H1:Hp} {r:Out (Bool×Sl)} {Q:Bool->Hp->Prop} (h:PoT C own σ F H r Q) (c:Chg (OA own σ) F H F1 H1):PoT C own σ F1 H1 r Q:=by
 cases r with
 | ok p=>exact fun F' H' rp c'=>h F' H' rp (c.trans' c')
 | exc x=>exact fun F' H' s io c'=>h F' H' s io (c.trans' c')
 | bad=>exact h.elim
theorem PoT.bindV {C:Ct} {own:List Nat} {ma:Mo} {σ:St} {F H:Hp} {o:Out (D×Sl)} {k:D×Sl->Out (Bool×Sl)} {Q:Bool->Hp->Prop} {R:VK} (hp:PoT C own σ F H (o.bind k) Q)
  (h:∀ v F1 H1 d ρ1,Rep C.K own F1 H1 σ ρ1->Chg (OA own σ) F H F1 H1->MoIs C.K ma H F1 H1 v d->PoT C own σ F1 H1 (k (d,ρ1)) Q->R v H1):Po C own ma σ F H o R:=by
 cases o with
 | ok p=>
  obtain ⟨d,ρ1⟩:=p
  exact fun v F1 H1 rp c mo=>h v F1 H1 d ρ1 rp c mo (PoT.shift (show PoT C own σ F H (k (d,ρ1)) Q from hp) c)
 | exc x=>exact hp
 | bad=>exact hp.elim
theorem PoT.bindT {C:Ct} {own:List Nat} {σ:St} {F H:Hp} {o:Out (Bool×Sl)} {k:Bool×Sl->Out (Bool×Sl)} {Q R:Bool->Hp->Prop} (hp:PoT C own σ F H (o.bind k) Q)
  (h:∀ F1 H1 b ρ1,Rep C.K own F1 H1 σ ρ1->Chg (OA own σ) F H F1 H1->PoT C own σ F1 H1 (k (b,ρ1)) Q->R b H1):PoT C own σ F H o R:=by
 cases o with
 | ok p=>
  obtain ⟨d,ρ1⟩:=p
  exact fun F1 H1 rp c=>h F1 H1 d ρ1 rp c (PoT.shift (show PoT C own σ F H (k (d,ρ1)) Q from hp) c)
 | exc x=>exact hp
 | bad=>exact hp.elim
theorem Po.bindT {C:Ct} {own:List Nat} {m:Mo} {σ:St} {F H:Hp} {o:Out (Bool×Sl)} {k:Bool×Sl->Out (D×Sl)} {Q:VK} {R:Bool->Hp->Prop} (hp:Po C own m σ F H (o.bind k) Q)
  (h:∀ F1 H1 b ρ1,Rep C.K own F1 H1 σ ρ1->Chg (OA own σ) F H F1 H1->Po C own m σ F1 H1 (k (b,ρ1)) Q->R b H1):PoT C own σ F H o R:=by
 cases o with
 | ok p=>
  obtain ⟨d,ρ1⟩:=p
  exact fun F1 H1 rp c=>h F1 H1 d ρ1 rp c (Po.shift (show Po C own m σ F H (k (d,ρ1)) Q from hp) c)
 | exc x=>exact hp
 | bad=>exact hp.elim
noncomputable def truD:D->Out Bool
 | .non=>.ok false
 | .bl b=>.ok b
 | .int i=>.ok (i != 0)
 | .str x=>.ok ((x.length:Int) != 0)
 | .tup xs=>.ok (!xs.isEmpty)
 | .lst xs=>.ok (!xs.isEmpty)
 | .dct xs=>.ok (!xs.isEmpty)
 | .raw _=>.bad
 | .xcp _=>.bad
 | .ins _ _=>.bad
noncomputable def dTru (f:Sl->Out (D×Sl)):Sl->Out (Bool×Sl):=fun ρ=>(f ρ).bind fun p=>(truD p.1).bind fun b=>.ok (b,p.2)
theorem IsL.isEmpty {K:Frag} {F:Hp} {vs:List V} {ds:List D} (h:IsL K F vs ds):vs.isEmpty=ds.isEmpty:=by cases h <;> rfl
theorem IsK.isEmpty {K:Frag} {F:Hp} {vs:List (Key×V)} {ds:List (Key×D)} (h:IsK K F vs ds):vs.isEmpty=ds.isEmpty:=by cases h <;> rfl
theorem truV_of {K:Frag} {F H:Hp} {v:V} {d:D} {b:Bool} (s:Same F H) (h:TopIs K F H v d) (e:truD d=.ok b):TruV K v H b:=by
 cases d with
 | non=>obtain rfl:=h.non; cases e; rfl
 | bl x=>obtain rfl:=h.bl; cases e; rfl
 | int x=>obtain rfl:=h.int; cases e; rfl
 | str x=>obtain ⟨rfl,q⟩:=h.str; cases e; exact ⟨q,rfl⟩
 | tup x=>obtain ⟨a,xs,rfl,p,t⟩:=h.tup s; cases e; exact .inr (.inl ⟨xs,p,by rw [t.isEmpty]⟩)
 | lst x=>obtain ⟨a,xs,rfl,p,t⟩:=h.lst s; cases e; exact .inl ⟨xs,p,by rw [t.isEmpty]⟩
 | dct x=>obtain ⟨a,xs,rfl,p,t⟩:=h.dct s; cases e; exact .inr (.inr ⟨xs,p,by rw [t.isEmpty]⟩)
 | raw x=>cases e
 | xcp x=>cases e
 | ins x y=>cases e
noncomputable def dBool (f:Sl->Out (D×Sl)):Sl->Out (Bool×Sl):=fun ρ=>(f ρ).bind fun p=>match p.1 with
 | .bl b=>.ok (b,p.2)
 | _=>.bad
section
variable {X:Cx} {C:Ct} {own:List Nat} {a b c e:Expr} {f fa fb fc:Sl->Out (D×Sl)} {ft fu:Sl->Out (Bool×Sl)} {m ma mb mc:Mo} {pos:Pos} {rest:List Expr}
theorem pdt_val (hK:C.K=X.K) (h:PE X e (tE C own m f)) (he:∀ whole,isTrue e X.env whole=(do let v <-whole; standAt e.pos; holding [v] (truthy v))):PT X e (tT C own (dTru f)):=by
 refine pt_to (pt_truth h he) fun σ H Q ⟨F,ρ,rp,h⟩=>⟨F,ρ,rp,PoT.bindV h fun v F1 H1 d ρ1 rp1 c1 mo1 h1=>?_⟩
 cases q:truD d with
 | ok k=>
  have h1:PoT C own σ F1 H1 ((truD d).bind fun b=>.ok (b,ρ1)) Q:=h1
  rw [q] at h1
  exact ⟨k,by rw [<-hK]; exact truV_of rp1.sub mo1.top q,h1 F1 H1 rp1 .refl⟩
 | exc x=>
  have h1:PoT C own σ F1 H1 ((truD d).bind fun b=>.ok (b,ρ1)) Q:=h1
  cases d <;> cases q
 | bad=>
  have h1:PoT C own σ F1 H1 ((truD d).bind fun b=>.ok (b,ρ1)) Q:=h1
  rw [q] at h1
  exact h1.elim
theorem tE_test {σ:St} {H:Hp} {Q:Bool->Hp->Prop} (h:tT C own (dBool f) σ H Q):tE C own .sh f σ H fun x H'=>∃ k,x=.bl k/\Q k H':=by
 obtain ⟨F,ρ,rp,h⟩:=h
 refine ⟨F,ρ,rp,PoT.bindV h fun v F1 H1 d ρ1 rp1 c1 mo1 h1=>?_⟩
 cases d with
 | bl k=>
  have mo1:Is C.K F1 v (.bl k):=mo1
  cases mo1
  exact ⟨k,rfl,h1 F1 H1 rp1 .refl⟩
 | _=>exact h1.elim
theorem pdt_cmp {op:CmpOp} {g:D->D->Out D} (ho:OpD X C .sh (compareOp op) g) (ha:PE X a (tE C own ma fa)) (hb:PE X b (tE C own mb fb)) (hma:ma≠.any:=by decide)
  (hk:behindInMarks op b=false:=by first | exact nomark _ | with_unfolding_all rfl):PT X (.Compare a [op] [b] pos) (tT C own (dBool (d2 g fa fb))):=by
 refine pt_to (pt_cmpR ho ha hb hk) fun σ H Q h=>?_
 exact tE_bin hma (tE_test h)
noncomputable def dNot (ft:Sl->Out (Bool×Sl)):Sl->Out (Bool×Sl):=fun ρ=>(ft ρ).bind fun p=>.ok (!p.1,p.2)
theorem pdt_not (h:PT X a (tT C own ft)):PT X (.UnaryOp .Not a pos) (tT C own (dNot ft)):=by
 refine pt_to (pt_not h) fun σ H Q ⟨F,ρ,rp,h⟩=>⟨F,ρ,rp,PoT.bindT h fun F1 H1 b ρ1 rp1 c1 h1=>h1 F1 H1 rp1 .refl⟩
theorem pw_to {e:Expr} {t t':TT} (h:PW X e t) (i:∀ σ H Q,t' σ H Q->t σ H Q):PW X e t':=⟨fun wh pins s σ H Q I hw=>h wh pins s σ H Q I (i σ H Q hw)⟩
noncomputable def dAnd (ft fu:Sl->Out (Bool×Sl)):Sl->Out (Bool×Sl):=fun ρ=>(ft ρ).bind fun p=>if p.1=true then fu p.2 else .ok (false,p.2)
noncomputable def dOr (ft fu:Sl->Out (Bool×Sl)):Sl->Out (Bool×Sl):=fun ρ=>(ft ρ).bind fun p=>if p.1=true then .ok (true,p.2) else fu p.2
theorem pdw_one {op} (h:PT X a (tT C own ft)):PW X (.BoolOp op [a] pos) (tT C own ft):=by
 cases op
 ·exact pw_and1 h
 ·exact pw_or1 h
theorem pdw_or (ha:PT X a (tT C own ft)) (hb:PW X (.BoolOp .Or (b::rest) pos) (tT C own fu)):PW X (.BoolOp .Or (a::b::rest) pos) (tT C own (dOr ft fu)):=by
 refine pw_to (pw_or ha hb) fun σ H Q ⟨F,ρ,rp,h⟩=>⟨F,ρ,rp,PoT.bindT h fun F1 H1 k ρ1 rp1 c1 h1=>?_⟩
 cases k with
 | true=>exact h1 F1 H1 rp1 .refl
 | false=>exact ⟨F1,ρ1,rp1,h1⟩
noncomputable def dAndV (fa fb:Sl->Out (D×Sl)):Sl->Out (D×Sl):=fun ρ=>(fa ρ).bind fun p=>match p.1 with
 | .bl true=>fb p.2
 | .bl false=>.ok (.bl false,p.2)
 | _=>.bad
noncomputable def dOrV (fa fb:Sl->Out (D×Sl)):Sl->Out (D×Sl):=fun ρ=>(fa ρ).bind fun p=>match p.1 with
 | .bl true=>.ok (.bl true,p.2)
 | .bl false=>fb p.2
 | _=>.bad
theorem pd_one {op} (h:PE X a (tE C own m f)):PE X (.BoolOp op [a] pos) (tE C own m f):=pe_one h
theorem pd_and (ha:PE X a (tE C own .sh fa)) (hb:PE X (.BoolOp .And (b::rest) pos) (tE C own .sh fb)):PE X (.BoolOp .And (a::b::rest) pos) (tE C own .sh (dAndV fa fb)):=by
 refine pe_to (pe_and ha hb) fun σ H Q ⟨F,ρ,rp,h⟩=>⟨F,ρ,rp,Po.bind h fun v F1 H1 d ρ1 rp1 c1 mo1 h1=>?_⟩
 cases d with
 | bl k=>
  have mo1:Is C.K F1 v (.bl k):=mo1
  cases mo1
  refine ⟨k,rfl,?_⟩
  cases k with
  | true=>exact ⟨F1,ρ1,rp1,h1⟩
  | false=>exact h1 _ F1 H1 rp1 .refl (.bl _)
 | _=>exact h1.elim
noncomputable def dIf (ft:Sl->Out (Bool×Sl)) (fa fb:Sl->Out (D×Sl)):Sl->Out (D×Sl):=fun ρ=>(ft ρ).bind fun p=>if p.1=true then fa p.2 else fb p.2
theorem pd_if {t:Expr} (ht:PT X t (tT C own ft)) (ha:PE X a (tE C own ma fa)) (hb:PE X b (tE C own mb fb)) (h1:ma≠.any:=by decide) (h2:mb≠.any:=by decide):PE X (.IfExp t a b pos) (tE C own .sh (dIf ft fa fb)):=by
 refine pe_to (pe_ifExp ht (pd_sh ha h1) (pd_sh hb h2)) fun σ H Q ⟨F,ρ,rp,h⟩=>⟨F,ρ,rp,Po.bindT h fun F1 H1 k ρ1 rp1 c1 h1=>?_⟩
 cases k with
 | true=>exact ⟨F1,ρ1,rp1,h1⟩
 | false=>exact ⟨F1,ρ1,rp1,h1⟩
noncomputable def dChain (g g':D->D->Out D) (fa fb fc:Sl->Out (D×Sl)):Sl->Out (D×Sl):=fun ρ=>(fa ρ).bind fun p=>(fb p.2).bind fun q=>(g p.1 q.1).plain.bind fun z=>match z with
 | .bl true=>(fc q.2).bind fun r=>(g' q.1 r.1).plain.bind fun d=>.ok (d,r.2)
 | .bl false=>.ok (.bl false,q.2)
 | _=>.bad
theorem PoV.bind {σ:St} {F H:Hp} {o:Out D} {k:D->Out (D×Sl)} {Q R:VK} {ρ:Sl} (rp:Rep C.K own F H σ ρ) (h:Po C own m σ F H (o.plain.bind k) Q)
  (hk:∀ v F1 H1 d,Rep C.K own F1 H1 σ ρ->Chg No F H F1 H1->MoIs C.K ma H F1 H1 v d->Po C own m σ F1 H1 (k d) Q->R v H1):PoV C ma F H o R:=by
 cases o with
 | ok d=>exact fun v F1 H1 s c mo=>hk v F1 H1 d (rp.grow c s) c mo (Po.shift (show Po C own m σ F H (k d) Q from h) c.ofNo)
 | exc c=>exact h.elim
 | bad=>exact h.elim
theorem tE_chain {g g':D->D->Out D} {σ:St} {H:Hp} {Q:VK} (hma:ma≠.any) (hmb:mb≠.any) (h:tE C own .sh (dChain g g' fa fb fc) σ H Q) :
  tChain (fun x y H Q=>∃ F dx dy,Same F H/\TopIs C.K F H x dx/\TopIs C.K F H y dy/\PoV C .sh F H (g dx dy) Q) (fun x y H Q=>∃ F dx dy,Same F H/\TopIs C.K F H x dx/\TopIs C.K F H y dy/\PoV C .sh F H (g' dx dy) Q)
   (tE C own ma fa) (tE C own mb fb) (tE C own mc fc) σ H Q:=by
 obtain ⟨F,ρ,rp,h⟩:=h
 refine ⟨F,ρ,rp,Po.bind h fun v F1 H1 d ρ1 rp1 c1 mo1 h1=>⟨F1,ρ1,rp1,Po.bind h1 fun w F2 H2 e ρ2 rp2 c2 mo2 h2=>?_⟩⟩
 have oa:∀ x,OA own σ x->H x≠none:=fun x z=>(rp.OA_there z).1
 have oa1:∀ x,OA own σ x->H1 x≠none:=fun x z=>(rp1.OA_there z).1
 refine ⟨F2,d,e,rp2.sub,(mo1.grow hma c2 oa).top,mo2.top,PoV.bind (m:=.sh) rp2 h2 fun z F3 H3 dz rp3 c3 mo3 h3=>?_⟩
 cases dz with
 | bl k=>
  have mo3:Is C.K F3 z (.bl k):=mo3
  cases mo3
  refine ⟨k,rfl,?_⟩
  cases k with
  | true=>
   refine ⟨F3,ρ2,rp3,Po.bind h3 fun w' F4 H4 r ρ4 rp4 c4 mo4 h4=>?_⟩
   exact ⟨F4,e,r,rp4.sub,((mo2.grow hmb (c3.ofNo) oa1).grow hmb c4 oa1).top,mo4.top,PoV.of rp4 h4⟩
  | false=>exact h3 _ F3 H3 rp3 .refl (.bl _)
 | _=>exact h3.elim
theorem pd_chain {op op':CmpOp} {g g':D->D->Out D} (ho:OpD X C .sh (compareOp op) g) (ho':OpD X C .sh (compareOp op') g') (ha:PE X a (tE C own ma fa)) (hb:PE X b (tE C own mb fb)) (hc:PE X c (tE C own mc fc)) (hma:ma≠.any:=by decide) (hmb:mb≠.any:=by decide)
  (hm:lastMarks [op,op'] [b,c]=false:=by with_unfolding_all rfl):PE X (.Compare a [op,op'] [b,c] pos) (tE C own .sh (dChain g g' fa fb fc)):=pe_to (pe_chain ho ho' ha hb hc hm) fun _ _ _ h=>tE_chain hma hmb h
theorem op_le_str:OpR X (compareOp .LtE) (fun x y H Q=>∃ i j,x=.str i/\y=.str j/\Q (.bl (!strLt j i)) H):=by
 intro pins s σ H x y v u Q I rx ry h
 obtain ⟨i,j,rfl,rfl,q⟩:=h
 obtain ⟨t,rfl⟩:=rx
 obtain ⟨t',rfl⟩:=ry
 exact PySem.P.le_str (fin_bl I q (by simp [strLt]))
noncomputable def leD:D->D->Out D
 | .int i,.int j=>.ok (.bl (decide (i<=j)))
 | .str x,.str y=>.ok (.bl (!strLt y x))
 | _,_=>.bad
theorem od_le:OpD X C .sh (compareOp .LtE) leD:=by
 intro pins s σ H x y v u Q I rx ry h
 obtain ⟨F,dx,dy,sb,tx,ty,po⟩:=h
 cases dx <;> try exact po.elim
 ·cases dy <;> try exact po.elim
  obtain rfl:=tx.int
  obtain rfl:=ty.int
  exact op_le pins s σ H _ _ v u Q I rx ry ⟨_,_,rfl,rfl,po _ F H sb .refl (.bl _)⟩
 ·cases dy <;> try exact po.elim
  obtain ⟨rfl,_⟩:=tx.str
  obtain ⟨rfl,_⟩:=ty.str
  exact op_le_str pins s σ H _ _ v u Q I rx ry ⟨_,_,rfl,rfl,po _ F H sb .refl (.bl _)⟩
end
inductive Fl where
 | nx | rt (d:D) | bk | ct
structure Nx (C:Ct) (own own':List Nat) (σ:St) (F H:Hp) (ρ':Sl) (σ':St) (F' H':Hp):Prop where
 rep:Rep C.K own' F' H' σ' ρ'
 chg:Chg (OA own σ) F H F' H'
 oa:∀ b,OA own' σ' b->OA own σ b\/H b=none
 io:∀ i∈C.io,σ'[i]?=σ[i]?
def PoS (C:Ct) (own own':List Nat) (σ:St) (F H:Hp) (r:Out (Fl×Sl)) (D:Ends):Prop:=match r with
 | .ok (.nx,ρ')=>∀ σ' F' H',Nx C own own' σ F H ρ' σ' F' H'->D.nx σ' H'
 | .ok (.rt d,ρ')=>∀ v σ' F' H',Same F' H'->IoIs C.K C.io F' H' σ' ρ'->Chg (OA own σ) F H F' H'->(∀ i∈C.io,σ'[i]?=σ[i]?)->MoIs C.K C.mr H F' H' v d->D.rt v H'
 | .ok (.bk,ρ')=>∀ σ' F' H',Nx C own C.ol σ F H ρ' σ' F' H'->D.bk σ' H'
 | .ok (.ct,ρ')=>∀ σ' F' H',Nx C own C.ol σ F H ρ' σ' F' H'->D.ct σ' H'
 | .exc c ρ'=>∀ F' H',Same F' H'->IoIs C.K C.ox F' H' σ ρ'->Chg (OA own σ) F H F' H'->C.E (C.cv c) none H'
 | .bad=>False
def tSt (C:Ct) (own own':List Nat) (f:Sl->Out (Fl×Sl)):TS:=fun D σ H=>∃ F ρ,Rep C.K own F H σ ρ/\PoS C own own' σ F H (f ρ) D
theorem Nx.then {C:Ct} {o1 o2 o3:List Nat} {σ σ1 σ2:St} {F H F1 H1 F2 H2:Hp} {ρ1 ρ2:Sl} (a:Nx C o1 o2 σ F H ρ1 σ1 F1 H1) (b:Nx C o2 o3 σ1 F1 H1 ρ2 σ2 F2 H2):Nx C o1 o3 σ F H ρ2 σ2 F2 H2 where
 rep:=b.rep
 chg:=a.chg.trans b.chg a.oa
 oa:=fun x h=>by
  rcases b.oa x h with z | z
  ·exact a.oa x z
  ·refine .inr ?_
   cases q:H x with
   | none=>rfl
   | some o=>exact absurd z (a.chg.stay x (by rw [q]; simp))
 io:=fun i hi=>(b.io i hi).trans (a.io i hi)
theorem PoS.shift {C:Ct} {o1 o2 o3:List Nat} {σ σ1:St} {F H F1 H1:Hp} {ρ1:Sl} {r:Out (Fl×Sl)} {D:Ends} (h:PoS C o1 o3 σ F H r D) (a:Nx C o1 o2 σ F H ρ1 σ1 F1 H1):PoS C o2 o3 σ1 F1 H1 r D:=by
 cases r with
 | ok p=>
  obtain ⟨fl,ρ'⟩:=p
  cases fl with
  | nx=>exact fun σ' F' H' n=>h σ' F' H' (a.then n)
  | rt d=>exact fun v σ' F' H' s io c e mo=>h v σ' F' H' s io (a.chg.trans c a.oa) (fun i hi=>(e i hi).trans (a.io i hi)) (MoIs.back (Ha:=H1) a.chg mo)
  | bk=>exact fun σ' F' H' n=>h σ' F' H' (a.then n)
  | ct=>exact fun σ' F' H' n=>h σ' F' H' (a.then n)
 | exc c=>exact fun F' H' s io c'=>h F' H' s (fun i hi=>by
   obtain ⟨d,b,e1,e2,e3⟩:=io i hi
   exact ⟨d,b,e1,by rw [<-a.io i (C.oxs i hi)]; exact e2,e3⟩) (a.chg.trans c' a.oa)
 | bad=>exact h.elim
theorem Nx.ofE {C:Ct} {own:List Nat} {σ:St} {F H F1 H1:Hp} {ρ1:Sl} (r:Rep C.K own F1 H1 σ ρ1) (c:Chg (OA own σ) F H F1 H1):Nx C own own σ F H ρ1 σ F1 H1:=⟨r,c,fun _ h=>.inl h,fun _ _=>rfl⟩
theorem PoS.bindE {C:Ct} {own own':List Nat} {m:Mo} {σ:St} {F H:Hp} {o:Out (D×Sl)} {k:D×Sl->Out (Fl×Sl)} {D:Ends} {R:VK} (hp:PoS C own own' σ F H (o.bind k) D)
  (h:∀ v F1 H1 d ρ1,Rep C.K own F1 H1 σ ρ1->Chg (OA own σ) F H F1 H1->MoIs C.K m H F1 H1 v d->PoS C own own' σ F1 H1 (k (d,ρ1)) D->R v H1):Po C own m σ F H o R:=by
 cases o with
 | ok p=>
  obtain ⟨d,ρ1⟩:=p
  exact fun v F1 H1 rp c mo=>h v F1 H1 d ρ1 rp c mo (PoS.shift (show PoS C own own' σ F H (k (d,ρ1)) D from hp) (.ofE rp c))
 | exc x=>exact hp
 | bad=>exact hp.elim
theorem PoS.bindT {C:Ct} {own own':List Nat} {σ:St} {F H:Hp} {o:Out (Bool×Sl)} {k:Bool×Sl->Out (Fl×Sl)} {D:Ends} {R:Bool->Hp->Prop} (hp:PoS C own own' σ F H (o.bind k) D)
  (h:∀ F1 H1 b ρ1,Rep C.K own F1 H1 σ ρ1->Chg (OA own σ) F H F1 H1->PoS C own own' σ F1 H1 (k (b,ρ1)) D->R b H1):PoT C own σ F H o R:=by
 cases o with
 | ok p=>
  obtain ⟨d,ρ1⟩:=p
  exact fun F1 H1 rp c=>h F1 H1 d ρ1 rp c (PoS.shift (show PoS C own own' σ F H (k (d,ρ1)) D from hp) (.ofE rp c))
 | exc x=>exact hp
 | bad=>exact hp.elim
section
variable {X:Cx} {C:Ct} {own own' o1 o2 o3:List Nat} {e:Expr} {st:Stmt} {sts rest:List Stmt} {f g:Sl->Out (Fl×Sl)} {fe:Sl->Out (D×Sl)} {ft:Sl->Out (Bool×Sl)} {m:Mo} {pos:Pos}
theorem ps_to {t t':TS} (h:PS X st t) (i:∀ D σ H,t' D σ H->t D σ H):PS X st t':=⟨fun pins s σ H D I hw=>h pins s σ H D I (i D σ H hw)⟩
theorem pss_to {t t':TS} (h:PSs X sts t) (i:∀ D σ H,t' D σ H->t D σ H):PSs X sts t':=⟨fun pins s σ H D I hw=>h pins s σ H D I (i D σ H hw)⟩
noncomputable def sNext:Sl->Out (Fl×Sl):=fun ρ=>.ok (.nx,ρ)
noncomputable def sSeq (f g:Sl->Out (Fl×Sl)):Sl->Out (Fl×Sl):=fun ρ=>(f ρ).bind fun p=>match p.1 with
 | .nx=>g p.2
 | fl=>.ok (fl,p.2)
theorem Nx.refl {σ:St} {F H:Hp} {ρ:Sl} (r:Rep C.K own F H σ ρ):Nx C own own σ F H ρ σ F H:=.ofE r .refl
theorem pds_nil:PSs X [] (tSt C own own sNext):=pss_to pss_nil fun D σ H ⟨F,ρ,rp,h⟩=>h σ F H (.refl rp)
theorem seq_of {D:Ends} {σ:St} {H:Hp} (h:tSt C o1 o3 (sSeq f g) D σ H):tSt C o1 o2 f { D with nx:=tSt C o2 o3 g D } σ H:=by
 obtain ⟨F,ρ,rp,h⟩:=h
 refine ⟨F,ρ,rp,?_⟩
 unfold sSeq at h
 cases q:f ρ with
 | ok p=>
  rw [q] at h
  obtain ⟨fl,ρ1⟩:=p
  cases fl with
  | nx=>exact fun σ' F' H' n=>⟨F',ρ1,n.rep,PoS.shift (show PoS C o1 o3 σ F H (g ρ1) D from h) n⟩
  | rt d=>exact h
  | bk=>exact h
  | ct=>exact h
 | exc c=>rw [q] at h; exact h
 | bad=>rw [q] at h; exact h.elim
theorem pds_cons (h1:PS X st (tSt C o1 o2 f)) (h2:PSs X rest (tSt C o2 o3 g)):PSs X (st::rest) (tSt C o1 o3 (sSeq f g)):=pss_to (pss_cons h1 h2) fun D σ H h=>seq_of h
theorem pds_one (h1:PS X st (tSt C o1 o2 f)):PSs X [st] (tSt C o1 o2 f):=pss_one h1
theorem Rep.weak {K:Frag} {F H:Hp} {σ:St} {ρ:Sl}:∀ (drop:List Nat) {own own':List Nat},(∀ i,i∈own'↔i∈own/\i∉drop)->Rep K own F H σ ρ->∃ F',Rep K own' F' H σ ρ/\Chg (OA own σ) F H F' H
 | [],own,own',hs,rp=>⟨F,⟨rp.sub,rp.len,fun i d hi=>rp.val i d fun z=>hi ((hs i).mpr ⟨z,by simp⟩),fun i d hi=>rp.ow i d ((hs i).mp hi).1,fun i hi=>rp.opn i ((hs i).mp hi).1,fun i j a hi hj=>rp.dis i j a ((hs i).mp hi).1 ((hs j).mp hj).1⟩,.refl⟩
 | k::r,own,own',hs,rp=>by
  obtain ⟨F1,rp1,c1⟩:=Rep.weak r (own:=own) (own':=own.filter fun i=>decide (i∉r)) (fun i=>by simp) rp
  by_cases hk:k∈own/\k∉r
  ·obtain ⟨d,hd⟩:=rp1.opn k (by simp [hk.1,hk.2])
   obtain ⟨a,h1,h2,h3⟩:=rp1.ow k d (by simp [hk.1,hk.2]) hd
   obtain ⟨u,hu⟩:∃ u,H a=some u:=by
    cases q:H a with
    | none=>exact absurd q h3.there
    | some u=>exact ⟨u,rfl⟩
   have gr:Same F1 (upd F1 a u):=fun b w e=>by rw [upd_ne (ne_of_none e h2)]; exact e
   refine ⟨upd F1 a u,⟨fun b w e=>?_,rp1.len,fun i d' hi e=>?_,fun i d' hi e=>?_,fun i hi=>?_,fun i j b hi hj=>?_⟩,?_⟩
   ·by_cases q:b=a
    ·subst q; rw [upd_same] at e; cases e; exact hu
    ·rw [upd_ne q] at e; exact rp1.sub b w e
   ·by_cases q:i=k
    ·subst q
     rw [hd] at e; cases e
     refine ⟨_,h1,?_⟩
     cases d with
     | lst ds=>obtain ⟨xs,e,t⟩:=h3; rw [hu] at e; cases e; exact .lst (.inl (.inl upd_same)) (t.mono gr)
     | dct ds=>obtain ⟨xs,e,t⟩:=h3; rw [hu] at e; cases e; exact .dct upd_same (t.mono gr)
     | ins C fs=>obtain ⟨dx,xs,e,t⟩:=h3; rw [hu] at e; cases e; exact .ins upd_same (t.mono gr)
     | _=>exact h3.elim
    ·obtain ⟨v,q1,q2⟩:=rp1.val i d' (fun z=>by simp at z; exact hi ((hs i).mpr ⟨z.1,by simp [q,z.2]⟩)) e
     exact ⟨v,q1,q2.mono gr⟩
   ·have hi':=(hs i).mp hi
    have hik:i≠k:=fun z=>hi'.2 (by simp [z])
    have hir:i∉r:=fun z=>hi'.2 (by simp [z])
    obtain ⟨b,q1,q2,q3⟩:=rp1.ow i d' (by simp [hi'.1,hir]) e
    refine ⟨b,q1,?_,q3.grow gr fun _ z=>z⟩
    have nb:b≠a:=fun z=>by subst z; exact hik (rp1.dis i k b (by simp [hi'.1,hir]) (by simp [hk.1,hk.2]) q1 h1)
    rw [upd_ne nb]; exact q2
   ·have hi':=(hs i).mp hi
    exact rp1.opn i (by simp [hi'.1]; exact fun z=>hi'.2 (by simp [z]))
   ·have hi':=(hs i).mp hi
    have hj':=(hs j).mp hj
    exact rp1.dis i j b (by simp [hi'.1]; exact fun z=>hi'.2 (by simp [z])) (by simp [hj'.1]; exact fun z=>hj'.2 (by simp [z]))
   ·refine ⟨c1.keep,c1.stay,c1.grow.trans gr,fun b hb=>?_⟩
    by_cases q:b=a
    ·exact .inr (.inr ⟨k,hk.1,by rw [q]; exact h1⟩)
    ·rw [upd_ne q] at hb; exact c1.new b hb
  ·refine ⟨F1,⟨rp1.sub,rp1.len,fun i d hi=>rp1.val i d fun z=>?_,fun i d hi=>rp1.ow i d ?_,fun i hi=>rp1.opn i ?_,fun i j a hi hj=>rp1.dis i j a ?_ ?_⟩,c1⟩
   ·simp at z
    refine hi ((hs i).mpr ⟨z.1,?_⟩)
    simp only [List.mem_cons,not_or]
    exact ⟨fun q=>hk (by subst q; exact z),z.2⟩
   all_goals
    first
     | (have q:=(hs _).mp hi; simp only [List.mem_filter,decide_eq_true_eq]; exact ⟨q.1,fun z=>q.2 (by simp [z])⟩)
     | (have q:=(hs _).mp hj; simp only [List.mem_filter,decide_eq_true_eq]; exact ⟨q.1,fun z=>q.2 (by simp [z])⟩)
theorem OA.sub {σ:St} (h:∀ i∈own',i∈own) {b:Addr} (q:OA own' σ b):OA own σ b:=let ⟨i,hi,e⟩:=q; ⟨i,h i hi,e⟩
theorem Nx.drop {σ:St} {F H:Hp} {ρ:Sl} (drop:List Nat) (hs:∀ i,i∈own'↔i∈own/\i∉drop) (rp:Rep C.K own F H σ ρ):∃ F',Nx C own own' σ F H ρ σ F' H:=by
 obtain ⟨F',rp',c⟩:=Rep.weak drop hs rp
 exact ⟨F',rp',c,fun b q=>.inl (OA.sub (fun i hi=>((hs i).mp hi).1) q),fun _ _=>rfl⟩
noncomputable def dropL (own drop:List Nat):List Nat:=own.filter fun i=>decide (i∉drop)
theorem mem_dropL {own drop:List Nat} (i:Nat):i∈dropL own drop↔i∈own/\i∉drop:=by simp [dropL]
theorem pss_drop (drop:List Nat) (h:PSs X sts (tSt C (dropL own drop) o2 f)):PSs X sts (tSt C own o2 f):=pss_to h fun D σ H ⟨F,ρ,rp,h⟩=>by
 obtain ⟨F',n⟩:=Nx.drop (C:=C) drop (fun i=>mem_dropL (own:=own) i) rp
 exact ⟨F',ρ,n.rep,h.shift n⟩
noncomputable def sIf (ft:Sl->Out (Bool×Sl)) (f g:Sl->Out (Fl×Sl)):Sl->Out (Fl×Sl):=fun ρ=>(ft ρ).bind fun p=>if p.1=true then f p.2 else g p.2
theorem pds_if {c:Expr} {a b:List Stmt} (hc:PT X c (tT C own ft)) (ha:PSs X a (tSt C own own' f)) (hb:PSs X b (tSt C own own' g)):PS X (.If c a b pos) (tSt C own own' (sIf ft f g)):=by
 refine ps_to (ps_if hc ha hb) fun D σ H ⟨F,ρ,rp,h⟩=>⟨F,ρ,rp,PoS.bindT h fun F1 H1 k ρ1 rp1 c1 h1=>?_⟩
 cases k with
 | true=>exact ⟨F1,ρ1,rp1,h1⟩
 | false=>exact ⟨F1,ρ1,rp1,h1⟩
noncomputable def sDrop (fe:Sl->Out (D×Sl)):Sl->Out (Fl×Sl):=fun ρ=>(fe ρ).bind fun p=>.ok (.nx,p.2)
theorem pds_expr (he:PE X e (tE C own m fe)) (hs:swapsWith e none pos.line X.env=pure false:=by rfl):PS X (.Expr e pos) (tSt C own own (sDrop fe)):=by
 refine ps_to (ps_expr he hs) fun D σ H ⟨F,ρ,rp,h⟩=>⟨F,ρ,rp,PoS.bindE h fun v F1 H1 d ρ1 rp1 c1 mo1 h1=>h1 σ F1 H1 (.refl rp1)⟩
noncomputable def sRet (fe:Sl->Out (D×Sl)):Sl->Out (Fl×Sl):=fun ρ=>(fe ρ).bind fun p=>.ok (.rt p.1,p.2)
theorem pds_ret (he:PE X e (tE C own C.mr fe)) (hio:∀ i∈C.io,i∈own:=by exact sub_of rfl):PS X (.Return (some e) pos) (tSt C own own' (sRet fe)):=by
 refine ps_to (ps_ret he) fun D σ H ⟨F,ρ,rp,h⟩=>⟨F,ρ,rp,?_⟩
 unfold sRet at h
 cases q:fe ρ with
 | ok p=>
  rw [q] at h
  obtain ⟨d,ρ1⟩:=p
  exact fun v F1 H1 rp1 c1 mo1=>h v σ F1 H1 rp1.sub (rp1.ioIs hio) c1 (fun _ _=>rfl) mo1
 | exc c=>rw [q] at h; exact h
 | bad=>rw [q] at h; exact h.elim
theorem pds_retS (he:PE X e (tE C own m fe)) (hm:m≠.any:=by decide) (hr:C.mr=.sh:=by rfl) (hio:∀ i∈C.io,i∈own:=by exact sub_of rfl):PS X (.Return (some e) pos) (tSt C own own' (sRet fe)):=pds_ret (by rw [hr]; exact pd_sh he hm) hio
theorem Rep.put {K:Frag} {F H:Hp} {σ:St} {ρ:Sl} {i:Nat} {v:V} {d:D} (rp:Rep K own F H σ ρ) (hi:i < ρ.length) (is:Is K F v d):Rep K (dropL own [i]) F H (σ.set i (some v)) (ρ.set i (some d)) where
 sub:=rp.sub
 len:=by simp [rp.len]
 val:=fun j d' hj e=>by
  by_cases q:j=i
  ·subst q
   rw [List.getElem?_set_self hi] at e
   cases e
   exact ⟨v,List.getElem?_set_self (by rw [rp.len]; exact hi),is⟩
  ·rw [List.getElem?_set_ne (Ne.symm q)] at e
   obtain ⟨w,h1,h2⟩:=rp.val j d' (fun z=>hj ((mem_dropL j).mpr ⟨z,by simp [q]⟩)) e
   exact ⟨w,by rw [List.getElem?_set_ne (Ne.symm q)]; exact h1,h2⟩
 ow:=fun j d' hj e=>by
  have hj':=(mem_dropL j).mp hj
  have q:j≠i:=fun z=>hj'.2 (by simp [z])
  rw [List.getElem?_set_ne (Ne.symm q)] at e
  obtain ⟨a,h1,h2⟩:=rp.ow j d' hj'.1 e
  exact ⟨a,by rw [List.getElem?_set_ne (Ne.symm q)]; exact h1,h2⟩
 opn:=fun j hj=>by
  have hj':=(mem_dropL j).mp hj
  have q:j≠i:=fun z=>hj'.2 (by simp [z])
  obtain ⟨d',e⟩:=rp.opn j hj'.1
  exact ⟨d',by rw [List.getElem?_set_ne (Ne.symm q)]; exact e⟩
 dis:=fun j k a hj hk e1 e2=>by
  have hj':=(mem_dropL j).mp hj
  have hk':=(mem_dropL k).mp hk
  rw [List.getElem?_set_ne (fun z=>hj'.2 (by simp [z]))] at e1
  rw [List.getElem?_set_ne (fun z=>hk'.2 (by simp [z]))] at e2
  exact rp.dis j k a hj'.1 hk'.1 e1 e2
theorem OA.put {σ:St} {i:Nat} {v:V} {b:Addr} (h:OA (dropL own [i]) (σ.set i (some v)) b):OA own σ b:=by
 obtain ⟨j,hj,e⟩:=h
 have hj':=(mem_dropL j).mp hj
 rw [List.getElem?_set_ne (fun z=>hj'.2 (by simp [z]))] at e
 exact ⟨j,hj'.1,e⟩
noncomputable def sSet (i:Nat) (fe:Sl->Out (D×Sl)):Sl->Out (Fl×Sl):=fun ρ=>(fe ρ).bind fun p=>if i < p.2.length then .ok (.nx,p.2.set i (some p.1)) else .bad
theorem pds_set {i:Nat} {x:Str} {pos':Pos} (hN:X.N.Nodup) (hi:X.N[i]?=some x) (hx:Loc X.env.scope x) (he:PE X e (tE C own m fe)) (hm:m≠.any:=by decide) (hio:i∉C.io:=by exact nin_of rfl) (hs:swapsWith e (some (.Name x pos')) pos.line X.env=pure false:=by rfl)
  (hf:X.fn x=true\/X.env.scope.names.lookup x=some .local:=by first | exact .inl rfl | exact .inr rfl):PS X (.Assign [.Name x pos'] e pos) (tSt C own (dropL own [i]) (sSet i fe)):=by
 refine ps_to (ps_set hN hi hx (pd_sh he hm) hs hf) fun D σ H ⟨F,ρ,rp,h⟩=>⟨F,ρ,rp,PoS.bindE h fun v F1 H1 d ρ1 rp1 c1 mo1 h1=>?_⟩
 by_cases q:i < ρ1.length
 ·have h1:PoS C own (dropL own [i]) σ F1 H1 (if i < ρ1.length then .ok (.nx,ρ1.set i (some d)) else .bad) D:=h1
  rw [if_pos q] at h1
  exact h1 _ F1 H1 ⟨rp1.put q mo1,.refl,fun b z=>.inl (OA.put z),fun j hj=>List.getElem?_set_ne fun z=>hio (by rw [z]; exact hj)⟩
 ·have h1:PoS C own (dropL own [i]) σ F1 H1 (if i < ρ1.length then .ok (.nx,ρ1.set i (some d)) else .bad) D:=h1
  rw [if_neg q] at h1
  exact h1.elim
theorem Rep.putO {K:Frag} {F H:Hp} {σ:St} {ρ:Sl} {i:Nat} {a:Addr} {d:D} (rp:Rep K own F H σ ρ) (hi:i < ρ.length) (hF:F a=none) (nA:¬OA own σ a) (o:OwnIs K F H a d):Rep K (i::dropL own [i]) F H (σ.set i (some (.ref a))) (ρ.set i (some d)) where
 sub:=rp.sub
 len:=by simp [rp.len]
 val:=fun j d' hj e=>by
  have q:j≠i:=fun z=>hj (by simp [z])
  rw [List.getElem?_set_ne (Ne.symm q)] at e
  obtain ⟨w,h1,h2⟩:=rp.val j d' (fun z=>hj (List.mem_cons_of_mem _ ((mem_dropL j).mpr ⟨z,by simp [q]⟩))) e
  exact ⟨w,by rw [List.getElem?_set_ne (Ne.symm q)]; exact h1,h2⟩
 ow:=fun j d' hj e=>by
  by_cases q:j=i
  ·subst q
   rw [List.getElem?_set_self hi] at e
   cases e
   exact ⟨a,List.getElem?_set_self (by rw [rp.len]; exact hi),hF,o⟩
  ·have hj':=(mem_dropL j).mp ((List.mem_cons.mp hj).resolve_left q)
   rw [List.getElem?_set_ne (Ne.symm q)] at e
   obtain ⟨b,h1,h2⟩:=rp.ow j d' hj'.1 e
   exact ⟨b,by rw [List.getElem?_set_ne (Ne.symm q)]; exact h1,h2⟩
 opn:=fun j hj=>by
  by_cases q:j=i
  ·subst q; exact ⟨d,List.getElem?_set_self hi⟩
  ·have hj':=(mem_dropL j).mp ((List.mem_cons.mp hj).resolve_left q)
   obtain ⟨d',e⟩:=rp.opn j hj'.1
   exact ⟨d',by rw [List.getElem?_set_ne (Ne.symm q)]; exact e⟩
 dis:=fun j k b hj hk e1 e2=>by
  have iσ:i < σ.length:=by rw [rp.len]; exact hi
  by_cases qj:j=i
  ·by_cases qk:k=i
   ·rw [qj,qk]
   ·subst qj
    have hk':=(mem_dropL k).mp ((List.mem_cons.mp hk).resolve_left qk)
    rw [List.getElem?_set_self iσ] at e1
    cases e1
    rw [List.getElem?_set_ne (Ne.symm qk)] at e2
    exact absurd ⟨k,hk'.1,e2⟩ nA
  ·have hj':=(mem_dropL j).mp ((List.mem_cons.mp hj).resolve_left qj)
   by_cases qk:k=i
   ·subst qk
    rw [List.getElem?_set_self iσ] at e2
    cases e2
    rw [List.getElem?_set_ne (Ne.symm qj)] at e1
    exact absurd ⟨j,hj'.1,e1⟩ nA
   ·have hk':=(mem_dropL k).mp ((List.mem_cons.mp hk).resolve_left qk)
    rw [List.getElem?_set_ne (Ne.symm qj)] at e1
    rw [List.getElem?_set_ne (Ne.symm qk)] at e2
    exact rp.dis j k b hj'.1 hk'.1 e1 e2
theorem pds_setO {i:Nat} {x:Str} {pos':Pos} (hN:X.N.Nodup) (hi:X.N[i]?=some x) (hx:Loc X.env.scope x) (he:PE X e (tE C own .fr fe)) (hio:i∉C.io:=by exact nin_of rfl) (hs:swapsWith e (some (.Name x pos')) pos.line X.env=pure false:=by rfl)
  (hf:X.fn x=true\/X.env.scope.names.lookup x=some .local:=by first | exact .inl rfl | exact .inr rfl):PS X (.Assign [.Name x pos'] e pos) (tSt C own (i::dropL own [i]) (sSet i fe)):=by
 refine ps_to (ps_set hN hi hx he hs hf) fun D σ H ⟨F,ρ,rp,h⟩=>⟨F,ρ,rp,?_⟩
 unfold sSet at h
 cases q:fe ρ with
 | ok p=>
  rw [q] at h
  obtain ⟨d,ρ1⟩:=p
  intro v F1 H1 rp1 c1 mo1
  obtain ⟨a,rfl,h0,hF,o⟩:=mo1
  by_cases z:i < ρ1.length
  ·have h1:PoS C own (i::dropL own [i]) σ F H (if i < ρ1.length then .ok (.nx,ρ1.set i (some d)) else .bad) D:=h
   rw [if_pos z] at h1
   refine h1 _ F1 H1 ⟨rp1.putO z hF (fun y=>(rp.OA_there y).1 h0) o,c1,fun b y=>?_,fun j hj=>List.getElem?_set_ne fun y=>hio (by rw [y]; exact hj)⟩
   obtain ⟨j,hj,e⟩:=y
   by_cases qj:j=i
   ·subst qj
    rw [List.getElem?_set_self (by rw [rp1.len]; exact z)] at e
    cases e
    exact .inr h0
   ·have hj':=(mem_dropL j).mp ((List.mem_cons.mp hj).resolve_left qj)
    rw [List.getElem?_set_ne (Ne.symm qj)] at e
    exact .inl ⟨j,hj'.1,e⟩
  ·have h1:PoS C own (i::dropL own [i]) σ F H (if i < ρ1.length then .ok (.nx,ρ1.set i (some d)) else .bad) D:=h
   rw [if_neg z] at h1
   exact h1.elim
 | exc c=>rw [q] at h; exact h
 | bad=>rw [q] at h; exact h.elim
end
inductive AK where
 | vl | sl (i:Nat) | fr
 deriving DecidableEq
def ArgV (K:Frag) (H0 F H:Hp) (σ:St):List AK->List V->List D->Prop
 | [],[],[]=>True
 | .vl::as,v::vs,d::ds=>Is K F v d/\ArgV K H0 F H σ as vs ds
 | .sl i::as,v::vs,d::ds=>σ[i]?=some (some v)/\d=.non/\ArgV K H0 F H σ as vs ds
 | .fr::as,v::vs,d::ds=>MoIs K .fr H0 F H v d/\ArgV K H0 F H σ as vs ds
 | _,_,_=>False
theorem ArgV.grow {K:Frag} {A:Addr->Prop} {H0 F H F' H':Hp} {σ:St} (c:Chg A F H F' H') (hA:∀ x,A x->H0 x≠none):∀ {as:List AK} {vs:List V} {ds:List D},ArgV K H0 F H σ as vs ds->ArgV K H0 F' H' σ as vs ds
 | [],[],[],h=>trivial
 | .vl::as,v::vs,d::ds,h=>⟨h.1.mono c.grow,ArgV.grow c hA h.2⟩
 | .sl i::as,v::vs,d::ds,h=>⟨h.1,h.2.1,ArgV.grow c hA h.2.2⟩
 | .fr::as,v::vs,d::ds,h=>⟨h.1.grow (by decide) c hA,ArgV.grow c hA h.2⟩
 | [],_::_,_,h=>h.elim
 | [],[],_::_,h=>h.elim
 | .vl::_,[],_,h=>h.elim
 | .vl::_,_::_,[],h=>h.elim
 | .sl _::_,[],_,h=>h.elim
 | .sl _::_,_::_,[],h=>h.elim
 | .fr::_,[],_,h=>h.elim
 | .fr::_,_::_,[],h=>h.elim
theorem ArgV.back {K:Frag} {A:Addr->Prop} {H0 H1 F0 F1 F H:Hp} {σ:St} (c:Chg A F0 H0 F1 H1):∀ {as:List AK} {vs:List V} {ds:List D},ArgV K H1 F H σ as vs ds->ArgV K H0 F H σ as vs ds
 | [],[],[],h=>trivial
 | .vl::as,v::vs,d::ds,h=>⟨h.1,ArgV.back c h.2⟩
 | .sl i::as,v::vs,d::ds,h=>⟨h.1,h.2.1,ArgV.back c h.2.2⟩
 | .fr::as,v::vs,d::ds,h=>⟨MoIs.back (Ha:=H1) c h.1,ArgV.back c h.2⟩
 | [],_::_,_,h=>h.elim
 | [],[],_::_,h=>h.elim
 | .vl::_,[],_,h=>h.elim
 | .vl::_,_::_,[],h=>h.elim
 | .sl _::_,[],_,h=>h.elim
 | .sl _::_,_::_,[],h=>h.elim
 | .fr::_,[],_,h=>h.elim
 | .fr::_,_::_,[],h=>h.elim
def PoA (C:Ct) (own:List Nat) (as:List AK) (σ:St) (F H:Hp) (r:Out (List D×Sl)) (Q:List V->Hp->Prop):Prop:=match r with
 | .ok (ds,ρ')=>∀ vs F' H',Rep C.K own F' H' σ ρ'->Chg (OA own σ) F H F' H'->ArgV C.K H F' H' σ as vs ds->Q vs H'
 | .exc c ρ'=>∀ F' H',Same F' H'->IoIs C.K C.ox F' H' σ ρ'->Chg (OA own σ) F H F' H'->C.E (C.cv c) none H'
 | .bad=>False
def tAr (C:Ct) (own:List Nat) (as:List AK) (f:Sl->Out (List D×Sl)):TA:=fun σ H Q=>∃ F ρ,Rep C.K own F H σ ρ/\PoA C own as σ F H (f ρ) Q
theorem PoA.bindV {C:Ct} {own:List Nat} {as:List AK} {ma:Mo} {σ:St} {F H:Hp} {o:Out (D×Sl)} {k:D×Sl->Out (List D×Sl)} {Q:List V->Hp->Prop} {R:VK} (hp:PoA C own as σ F H (o.bind k) Q)
  (h:∀ v F1 H1 d ρ1,Rep C.K own F1 H1 σ ρ1->Chg (OA own σ) F H F1 H1->MoIs C.K ma H F1 H1 v d->PoA C own as σ F H (k (d,ρ1)) Q->R v H1):Po C own ma σ F H o R:=by
 cases o with
 | ok p=>
  obtain ⟨d,ρ1⟩:=p
  exact fun v F1 H1 rp c mo=>h v F1 H1 d ρ1 rp c mo hp
 | exc x=>exact hp
 | bad=>exact hp.elim
theorem Po.bindA {C:Ct} {own:List Nat} {as:List AK} {m:Mo} {σ:St} {F H:Hp} {o:Out (List D×Sl)} {k:List D×Sl->Out (D×Sl)} {Q:VK} {R:List V->Hp->Prop} (hp:Po C own m σ F H (o.bind k) Q)
  (h:∀ vs F1 H1 ds ρ1,Rep C.K own F1 H1 σ ρ1->Chg (OA own σ) F H F1 H1->ArgV C.K H F1 H1 σ as vs ds->Po C own m σ F1 H1 (k (ds,ρ1)) Q->R vs H1):PoA C own as σ F H o R:=by
 cases o with
 | ok p=>
  obtain ⟨d,ρ1⟩:=p
  exact fun vs F1 H1 rp c av=>h vs F1 H1 d ρ1 rp c av (Po.shift (show Po C own m σ F H (k (d,ρ1)) Q from hp) c)
 | exc x=>exact hp
 | bad=>exact hp.elim
noncomputable def aNil:Sl->Out (List D×Sl):=fun ρ=>.ok ([],ρ)
noncomputable def aCons (fe:Sl->Out (D×Sl)) (fr:Sl->Out (List D×Sl)):Sl->Out (List D×Sl):=fun ρ=>(fe ρ).bind fun p=>(fr p.2).bind fun q=>.ok (p.1::q.1,q.2)
noncomputable def aSlot (fr:Sl->Out (List D×Sl)):Sl->Out (List D×Sl):=fun ρ=>(fr ρ).bind fun q=>.ok (D.non::q.1,q.2)
section
variable {X:Cx} {C:Ct} {own:List Nat} {as:List AK} {e:Expr} {es:List Expr} {fe:Sl->Out (D×Sl)} {fr:Sl->Out (List D×Sl)} {m:Mo} {pos:Pos}
theorem pa_to {t t':TA} (h:PA X es t) (i:∀ σ H Q,t' σ H Q->t σ H Q):PA X es t':=⟨fun pos pins s σ H Q I hw=>h pos pins s σ H Q I (i σ H Q hw)⟩
theorem pda_nil:PA X [] (tAr C own [] aNil):=pa_to pa_nil fun σ H Q ⟨F,ρ,rp,h⟩=>h [] F H rp .refl trivial
theorem cons_tail {σ:St} {F H F1 H1:Hp} {d:D} {ρ1:Sl} {a:AK} {Q:List V->Hp->Prop} {v:V} (rp:∀ x,OA own σ x->H x≠none) (rp1:Rep C.K own F1 H1 σ ρ1) (c1:Chg (OA own σ) F H F1 H1) (hp:PoA C own (a::as) σ F H ((fr ρ1).bind fun q=>.ok (d::q.1,q.2)) Q)
  (ha:∀ F2 H2 vs ds,Chg (OA own σ) F1 H1 F2 H2->ArgV C.K H F2 H2 σ as vs ds->ArgV C.K H F2 H2 σ (a::as) (v::vs) (d::ds)):tAr C own as fr σ H1 fun xs H2=>Q (v::xs) H2:=by
 refine ⟨F1,ρ1,rp1,?_⟩
 cases q:fr ρ1 with
 | ok p=>
  rw [q] at hp
  obtain ⟨ds,ρ2⟩:=p
  exact fun vs F2 H2 rp2 c2 av=>hp (v::vs) F2 H2 rp2 (c1.trans' c2) (ha F2 H2 vs ds c2 (ArgV.back c1 av))
 | exc c=>rw [q] at hp; exact fun F' H' s io c'=>hp F' H' s io (c1.trans' c')
 | bad=>rw [q] at hp; exact hp.elim
theorem pda_cons (ha:PE X e (tE C own m fe)) (hr:PA X es (tAr C own as fr)) (hm:m≠.any:=by decide) (hs:starEach (e::es) X.env=(false,eval e X.env)::starEach es X.env:=by exact star_cons rfl):PA X (e::es) (tAr C own (.vl::as) (aCons fe fr)):=by
 refine pa_to (pa_cons (pd_sh ha hm) hr hs) fun σ H Q ⟨F,ρ,rp,h⟩=>⟨F,ρ,rp,PoA.bindV h fun v F1 H1 d ρ1 rp1 c1 mo1 h1=>?_⟩
 exact cons_tail (fun x z=>(rp.OA_there z).1) rp1 c1 h1 fun F2 H2 vs ds c2 av=>⟨Is.mono c2.grow mo1,av⟩
theorem pda_slot {i:Nat} {x:Str} {px:Pos} (hN:X.N[i]?=some x) (hv:Vis X.env.scope x) (ho:i∈own) (hr:PA X es (tAr C own as fr)) (hs:starEach (.Name x px::es) X.env=(false,eval (.Name x px) X.env)::starEach es X.env:=by rfl)
  (hd:(x == ("__debug__":Str))=false:=by decide) (hcd:(x == ("__classdict__":Str))=false:=by decide):PA X (.Name x px::es) (tAr C own (.sl i::as) (aSlot fr)):=by
 refine pa_to (pa_cons (pe_var hN hv hd hcd) hr hs) fun σ H Q ⟨F,ρ,rp,h⟩=>?_
 obtain ⟨d,hd⟩:=rp.opn i ho
 obtain ⟨a,h1,h2,h3⟩:=rp.ow i d ho hd
 exact ⟨_,h1,cons_tail (fun x z=>(rp.OA_there z).1) rp .refl h fun F2 H2 vs ds c2 av=>⟨h1,rfl,av⟩⟩
theorem ArgV.isL {K:Frag} {H0 F H:Hp} {σ:St}:∀ {as:List AK} {vs:List V} {ds:List D},(as.all fun a=>decide (a=.vl))=true->ArgV K H0 F H σ as vs ds->IsL K F vs ds
 | [],[],[],_,_=>.nil
 | .vl::as,v::vs,d::ds,h,a=>.cons a.1 (ArgV.isL (by simpa using h) a.2)
 | .sl i::as,_,_,h,a=>by simp at h
 | .fr::as,_,_,h,a=>by simp at h
 | [],_::_,_,_,h=>h.elim
 | [],[],_::_,_,h=>h.elim
 | .vl::_,[],_,_,h=>h.elim
 | .vl::_,_::_,[],_,h=>h.elim
noncomputable def dTup (fr:Sl->Out (List D×Sl)):Sl->Out (D×Sl):=fun ρ=>(fr ρ).bind fun p=>if p.1.length<=sizeLine then .ok (.tup p.1,p.2) else .bad
noncomputable def dLst (fr:Sl->Out (List D×Sl)):Sl->Out (D×Sl):=fun ρ=>(fr ρ).bind fun p=>if p.1.length<=sizeLine then .ok (.lst p.1,p.2) else .bad
theorem new_sh {σ:St} {F H:Hp} {ρ:Sl} {p:Addr} {u:HO} (rp:Rep C.K own F H σ ρ) (hp:H p=none):Rep C.K own (upd F p u) (upd H p u) σ ρ/\Chg No F H (upd F p u) (upd H p u):=by
 have hF:F p=none:=by
  cases q:F p with
  | none=>rfl
  | some o=>rw [rp.sub p o q] at hp; cases hp
 have c:Chg No F H (upd F p u) (upd H p u):=⟨fun b o e _=>by rw [upd_ne (ne_of_none e hp)]; exact e,fun b e=>by
  by_cases q:b=p
  ·rw [q,upd_same]; simp
  ·rw [upd_ne q]; exact e,fun b o e=>by rw [upd_ne (ne_of_none e hF)]; exact e,fun b e=>by
  by_cases q:b=p
  ·exact .inr (.inl (by rw [q]; exact hp))
  ·rw [upd_ne q] at e; exact .inl e⟩
 refine ⟨rp.grow c fun b o e=>?_,c⟩
 by_cases q:b=p
 ·subst q; rw [upd_same] at e ⊢; exact e
 ·rw [upd_ne q] at e ⊢; exact rp.sub b o e
theorem new_fr {σ:St} {F H:Hp} {ρ:Sl} {p:Addr} {u:HO} (rp:Rep C.K own F H σ ρ) (hp:H p=none):Rep C.K own F (upd H p u) σ ρ/\Chg No F H F (upd H p u)/\F p=none:=by
 have hF:F p=none:=by
  cases q:F p with
  | none=>rfl
  | some o=>rw [rp.sub p o q] at hp; cases hp
 have c:Chg No F H F (upd H p u):=⟨fun b o e _=>by rw [upd_ne (ne_of_none e hp)]; exact e,fun b e=>by
  by_cases q:b=p
  ·rw [q,upd_same]; simp
  ·rw [upd_ne q]; exact e,Same.refl _,fun b e=>.inl e⟩
 exact ⟨rp.grow c fun b o e=>by rw [upd_ne (ne_of_none e hF)]; exact rp.sub b o e,c,hF⟩
theorem pd_tup {x1} (h:PA X es (tAr C own as fr)) (ha:(as.all fun a=>decide (a=.vl))=true:=by decide):PE X (.Tuple es x1 pos) (tE C own .sh (dTup fr)):=by
 refine pe_to (pe_tup h) fun σ H Q ⟨F,ρ,rp,h⟩=>⟨F,ρ,rp,Po.bindA h fun vs F1 H1 ds ρ1 rp1 c1 av h1=>?_⟩
 have il:=av.isL ha
 have h1:Po C own .sh σ F1 H1 (if ds.length<=sizeLine then .ok (.tup ds,ρ1) else .bad) Q:=h1
 by_cases z:ds.length<=sizeLine
 ·rw [if_pos z] at h1
  refine ⟨by rw [il.length]; exact z,fun p hp=>?_⟩
  obtain ⟨rp2,c2⟩:=new_sh (u:=.tup vs) rp1 hp
  exact h1 _ _ _ rp2 c2.ofNo (.tup (.inl (.inl upd_same)) (il.mono c2.grow))
 ·rw [if_neg z] at h1; exact h1.elim
theorem pd_lst (h:PA X es (tAr C own as fr)) (ha:(as.all fun a=>decide (a=.vl))=true:=by decide):PE X (.List es pos) (tE C own .fr (dLst fr)):=by
 refine pe_to (pe_lst h) fun σ H Q ⟨F,ρ,rp,h⟩=>⟨F,ρ,rp,Po.bindA h fun vs F1 H1 ds ρ1 rp1 c1 av h1=>?_⟩
 have il:=av.isL ha
 have h1:Po C own .fr σ F1 H1 (if ds.length<=sizeLine then .ok (.lst ds,ρ1) else .bad) Q:=h1
 by_cases z:ds.length<=sizeLine
 ·rw [if_pos z] at h1
  refine ⟨by rw [il.length]; exact z,fun p hp=>?_⟩
  obtain ⟨rp2,c2,hF⟩:=new_fr (u:=.lst vs) rp1 hp
  exact h1 _ _ _ rp2 c2.ofNo ⟨p,rfl,hp,hF,vs,upd_same,il⟩
 ·rw [if_neg z] at h1; exact h1.elim
noncomputable def ixD:D->D->Out D
 | .lst xs,.int i=>match atI xs i with
  | some d=>.ok d
  | none=>.bad
 | .tup xs,.int i=>match atI xs i with
  | some d=>.ok d
  | none=>.bad
 | .str x,.int i=>match atI x.cps.toList i with
  | some c=>.ok (.str ⟨#[c]⟩)
  | none=>.bad
 | .dct kvs,.str x=>match (kvs.find? fun kv=>decide (kv.1=Sum.inr x)) with
  | some kv=>.ok kv.2
  | none=>.bad
 | .dct kvs,.int x=>match (kvs.find? fun kv=>decide (kv.1=Sum.inl x)) with
  | some kv=>.ok kv.2
  | none=>.bad
 | _,_=>.bad
theorem IsL.atI {K:Frag} {F:Hp} {vs:List V} {ds:List D} {i:Int} {d:D} (h:IsL K F vs ds) (e:L2.atI ds i=some d):∃ v,L2.atI vs i=some v/\Is K F v d:=by
 unfold L2.atI at e ⊢
 rw [h.length]
 cases q:ixN ds.length i with
 | none=>rw [q] at e; cases e
 | some j=>
  rw [q] at e
  exact h.getD e
theorem IsK.find {K:Frag} {F:Hp} {k:Key}:∀ {vs:List (Key×V)} {ds:List (Key×D)} {d:Key×D},IsK K F vs ds->(ds.find? fun kv=>decide (kv.1=k))=some d->∃ v,valV vs k=some v/\Is K F v d.2
 | _,_,_,.nil,e=>by simp at e
 | _,_,d,.cons (k:=k') (vs:=vs) h t,e=>by
  by_cases q:k'=k
  ·rw [List.find?_cons_of_pos (by simp [q])] at e
   cases e
   exact ⟨_,valV_pos q,h⟩
  ·rw [List.find?_cons_of_neg (by simp [q])] at e
   obtain ⟨v,h1,h2⟩:=IsK.find t e
   exact ⟨v,by rw [valV_neg q]; exact h1,h2⟩
theorem cp_small (c:Nat):(⟨#[c]⟩:Str).length<=sizeLine:=by
 show 1<=sizeLine
 rw [sizeLine_eq]; decide
def rIxD (K:Frag):R2:=fun x y H Q=>rIx K x y H Q\/∃ a v,x=.ref a/\DGet H a y (some v)/\Q v H
theorem ix_all (hu:X.A.units+1 < cLine):IxR X (rIxD X.K):=by
 refine IxR.or ix_seq ?_
 intro value slice pins s σ H x y v u Q I rx ry h hs
 obtain ⟨a,w,rfl,g,q⟩:=h
 cases rx
 obtain ⟨T,ht⟩:∃ T,s.TypeIs (.ref a) T/\T = "dict":=⟨_,dict_typeIs I g,rfl⟩
 obtain ⟨ht,rfl⟩:=ht
 exact tail_any ht PySem.slot_dict_getitem.lookup (d_getItem hu I g ry fun w' s' I' r=>⟨w,H,I',r,q⟩) hs
end
section
variable {X:Cx} {C:Ct} {own:List Nat} {a b e:Expr} {f fa fb:Sl->Out (D×Sl)} {m ma mb:Mo} {pos:Pos}
theorem ixD_ok {σ:St} {F H:Hp} {x y:V} {dx dy:D} {Q:VK} (hK:C.K=X.K) (sb:Same F H) (tx:TopIs C.K F H x dx) (ty:TopIs C.K F H y dy) (po:PoV C .sh F H (ixD dx dy) Q):rIxD X.K x y H Q:=by
 rw [hK] at tx ty
 cases dx with
 | lst xs=>
  cases dy <;> try exact po.elim
  rename_i i
  obtain rfl:=ty.int
  obtain ⟨a,vs,rfl,p,t⟩:=tx.lst sb
  unfold ixD at po
  cases e:L2.atI xs i with
  | none=>simp only [e] at po; exact po.elim
  | some d=>
   simp only [e] at po
   obtain ⟨v,h1,h2⟩:=t.atI e
   exact .inl (.inl ⟨a,vs,i,v,rfl,rfl,p,h1,po v F H sb .refl (by rw [hK]; exact h2)⟩)
 | tup xs=>
  cases dy <;> try exact po.elim
  rename_i i
  obtain rfl:=ty.int
  obtain ⟨a,vs,rfl,p,t⟩:=tx.tup sb
  unfold ixD at po
  cases e:L2.atI xs i with
  | none=>simp only [e] at po; exact po.elim
  | some d=>
   simp only [e] at po
   obtain ⟨v,h1,h2⟩:=t.atI e
   exact .inl (.inr (.inl ⟨a,vs,i,v,rfl,rfl,p,h1,po v F H sb .refl (by rw [hK]; exact h2)⟩))
 | str z=>
  cases dy <;> try exact po.elim
  rename_i i
  obtain rfl:=ty.int
  obtain ⟨rfl,hz⟩:=tx.str
  unfold ixD at po
  cases e:L2.atI z.cps.toList i with
  | none=>simp only [e] at po; exact po.elim
  | some c=>
   simp only [e] at po
   exact .inl (.inr (.inr ⟨z,i,c,rfl,rfl,hz,e,po _ F H sb .refl (.str (cp_small c))⟩))
 | dct kvs=>
  obtain ⟨a,kv,rfl,p,t⟩:=tx.dct sb
  cases dy with
  | int i=>
   obtain rfl:=ty.int
   unfold ixD at po
   cases e:(kvs.find? fun kv=>decide (kv.1=Sum.inl i)) with
   | none=>simp only [e] at po; exact po.elim
   | some d=>
    simp only [e] at po
    obtain ⟨v,h1,h2⟩:=t.find e
    exact .inr ⟨a,v,rfl,by rw [<-h1]; exact DGet.k (k:=Sum.inl i) p,po v F H sb .refl (by rw [hK]; exact h2)⟩
  | str z=>
   obtain ⟨rfl,_⟩:=ty.str
   unfold ixD at po
   cases e:(kvs.find? fun kv=>decide (kv.1=Sum.inr z)) with
   | none=>simp only [e] at po; exact po.elim
   | some d=>
    simp only [e] at po
    obtain ⟨v,h1,h2⟩:=t.find e
    exact .inr ⟨a,v,rfl,by rw [<-h1]; exact DGet.k (k:=Sum.inr z) p,po v F H sb .refl (by rw [hK]; exact h2)⟩
  | _=>exact po.elim
 | _=>exact po.elim
theorem pd_ix (hK:C.K=X.K) (hu:X.A.units+64 < cLine) (ha:PE X a (tE C own ma fa)) (hb:PE X b (tE C own mb fb)) (hs:PlainIx b) (hma:ma≠.any:=by decide):PE X (.Subscript a b pos) (tE C own .sh (d2 ixD fa fb)):=by
 refine pe_to (pe_ix (ix_all (by omega)) ha hb hs) fun σ H Q h=>?_
 obtain ⟨F,ρ,rp,h⟩:=tE_bin (mb:=mb) hma h
 refine ⟨F,ρ,rp,?_⟩
 cases q:fa ρ with
 | ok p=>
  rw [q] at h
  obtain ⟨d,ρ1⟩:=p
  intro v F1 H1 rp1 c1 mo1
  obtain ⟨F2,ρ2,rp2,h2⟩:=h v F1 H1 rp1 c1 mo1
  refine ⟨F2,ρ2,rp2,?_⟩
  cases q2:fb ρ2 with
  | ok p=>
   rw [q2] at h2
   obtain ⟨d',ρ3⟩:=p
   intro w F3 H3 rp3 c3 mo3
   obtain ⟨F4,dx,dy,sb,tx,ty,po⟩:=h2 w F3 H3 rp3 c3 mo3
   exact ixD_ok (σ:=σ) hK sb tx ty po
  | exc c=>rw [q2] at h2; exact h2
  | bad=>rw [q2] at h2; exact h2.elim
 | exc c=>rw [q] at h; exact h
 | bad=>rw [q] at h; exact h.elim
def CallD (X:Cx) (C:Ct) (m:Mo) (f:Value) (g:D->Out D):Prop:=CallR X f (fun xs H Q=>∃ x F dx,xs=[x]/\Same F H/\TopIs C.K F H x dx/\PoV C m F H (g dx) Q)
theorem one_arg {σ:St} {H:Hp} {Q:VK} {g:D->Out D} (h:tE C own m (d1 g fa) σ H Q):tCons (tE C own ma fa) tNil σ H fun xs H1=>∃ x F dx,xs=[x]/\Same F H1/\TopIs C.K F H1 x dx/\PoV C m F H1 (g dx) Q:=by
 obtain ⟨F,ρ,rp,h⟩:=tE_un (ma:=ma) h
 refine ⟨F,ρ,rp,?_⟩
 cases q:fa ρ with
 | ok p=>
  rw [q] at h
  obtain ⟨d,ρ1⟩:=p
  intro v F1 H1 rp1 c1 mo1
  obtain ⟨F2,dx,sb,tx,po⟩:=h v F1 H1 rp1 c1 mo1
  exact ⟨v,F2,dx,rfl,sb,tx,po⟩
 | exc c=>rw [q] at h; exact h
 | bad=>rw [q] at h; exact h.elim
theorem pd_callB {x:Str} {id:String} {p:Pos} {g:D->Out D} (hc:CallD X C m (.builtin id) g) (hg:Gl X x) (hm:X.mg x=none) (hv:bootBuiltins x=some (.builtin id)) (ha:PE X e (tE C own ma fa)) (hn:x ≠ "__name__":=by decide) (hdb:(x == ("__debug__":Str))=false:=by decide)
  (he:starEach [e] X.env=[(false,eval e X.env)]:=by exact star_one rfl):PE X (.Call (.Name x p) [e] [] pos) (tE C own m (d1 g fa)):=
 pe_to (pe_callB hc hg hm hv (pa_cons ha pa_nil he) hn hdb (by rw [he]; rfl) rfl) fun _ _ _ h=>one_arg h
theorem pd_callTy {x:Str} {T:String} {p:Pos} {g:D->Out D} (hc:CallD X C m (.type T) g) (hg:Gl X x) (hm:X.mg x=none) (hv:bootBuiltins x=some (.type T)) (ha:PE X e (tE C own ma fa)) (hn:x ≠ "__name__":=by decide) (hdb:(x == ("__debug__":Str))=false:=by decide)
  (he:starEach [e] X.env=[(false,eval e X.env)]:=by exact star_one rfl):PE X (.Call (.Name x p) [e] [] pos) (tE C own m (d1 g fa)):=
 pe_to (pe_callTy hc hg hm hv (pa_cons ha pa_nil he) hn hdb (by rw [he]; rfl) rfl) fun _ _ _ h=>one_arg h
noncomputable def lenD:D->Out D
 | .str x=>.ok (.int x.length)
 | .lst xs=>.ok (.int xs.length)
 | .tup xs=>.ok (.int xs.length)
 | .dct xs=>.ok (.int xs.length)
 | _=>.bad
theorem IsK.length {K:Frag} {F:Hp}:∀ {vs:List (Key×V)} {ds:List (Key×D)},IsK K F vs ds->vs.length=ds.length
 | _,_,.nil=>rfl
 | _,_,.cons _ t=>congrArg (·+1) (IsK.length t)
theorem cd_len (hK:C.K=X.K):CallD X C .sh (.builtin "len") lenD:=by
 intro pins s σ H xs us Q I r h
 obtain ⟨x,F,dx,rfl,sb,tx,po⟩:=h
 cases dx with
 | str z=>
  obtain ⟨rfl,hz⟩:=tx.str
  exact call_len pins s σ H _ us Q I r ⟨_,_,rfl,⟨hz,rfl⟩,po _ F H sb .refl (.int _)⟩
 | lst ds=>
  obtain ⟨a,vs,rfl,p,t⟩:=tx.lst sb
  exact call_len pins s σ H _ us Q I r ⟨_,ds.length,rfl,.inl ⟨vs,by rw [<-hK]; exact p,t.length.symm⟩,po _ F H sb .refl (.int _)⟩
 | tup ds=>
  obtain ⟨a,vs,rfl,p,t⟩:=tx.tup sb
  exact call_len pins s σ H _ us Q I r ⟨_,ds.length,rfl,.inr ⟨vs,by rw [<-hK]; exact p,t.length.symm⟩,po _ F H sb .refl (.int _)⟩
 | dct ds=>
  obtain ⟨a,vs,rfl,p,t⟩:=tx.dct sb
  refine call_lenD pins s σ H _ us Q I r ⟨a,vs,rfl,p,?_⟩
  rw [t.length]
  exact po _ F H sb .refl (.int _)
 | _=>exact po.elim
noncomputable def addD:D->D->Out D
 | .int i,.int j=>.ok (.int (i+j))
 | .str x,.str y=>if x.length+y.length<=sizeLine then .ok (.str (x++y)) else .bad
 | .lst xs,.lst ys=>if xs.length+ys.length<=sizeLine then .ok (.lst (xs++ys)) else .bad
 | .tup xs,.tup ys=>if xs.length+ys.length<=sizeLine then .ok (.tup (xs++ys)) else .bad
 | _,_=>.bad
theorem grow_sh {F H:Hp} {p:Addr} {u:HO} (sb:Same F H) (hp:H p=none):Same (upd F p u) (upd H p u)/\Chg No F H (upd F p u) (upd H p u):=by
 have hF:F p=none:=by
  cases q:F p with
  | none=>rfl
  | some o=>rw [sb p o q] at hp; cases hp
 refine ⟨fun b o e=>?_,⟨fun b o e _=>by rw [upd_ne (ne_of_none e hp)]; exact e,fun b e=>?_,fun b o e=>by rw [upd_ne (ne_of_none e hF)]; exact e,fun b e=>?_⟩⟩
 ·by_cases q:b=p
  ·subst q; rw [upd_same] at e ⊢; exact e
  ·rw [upd_ne q] at e ⊢; exact sb b o e
 ·by_cases q:b=p
  ·rw [q,upd_same]; simp
  ·rw [upd_ne q]; exact e
 ·by_cases q:b=p
  ·exact .inr (.inl (by rw [q]; exact hp))
  ·rw [upd_ne q] at e; exact .inl e
theorem grow_fr {F H:Hp} {p:Addr} {u:HO} (sb:Same F H) (hp:H p=none):Same F (upd H p u)/\Chg No F H F (upd H p u)/\F p=none:=by
 have hF:F p=none:=by
  cases q:F p with
  | none=>rfl
  | some o=>rw [sb p o q] at hp; cases hp
 refine ⟨fun b o e=>by rw [upd_ne (ne_of_none e hF)]; exact sb b o e,⟨fun b o e _=>by rw [upd_ne (ne_of_none e hp)]; exact e,fun b e=>?_,Same.refl _,fun b e=>.inl e⟩,hF⟩
 by_cases q:b=p
 ·rw [q,upd_same]; simp
 ·rw [upd_ne q]; exact e
theorem str_len_add (x y:Str):(x++y).length=x.length+y.length:=by
 show (x.cps++y.cps).size=_
 simp [Str.length]
theorem op_catL:OpR X (binaryOp .Add) (fun x y H Q=>∃ l b xs zs,x=.ref l/\y=.ref b/\SqL X.K H l xs/\SqL X.K H b zs/\xs.length+zs.length<=sizeLine/\∀ p,H p=none->Q (.ref p) (upd H p (.lst (xs++zs)))):=by
 intro pins s σ H x y v u Q I rx ry h
 obtain ⟨l,b,xs,zs,rfl,rfl,h1,h2,hz,q⟩:=h
 cases rx
 cases ry
 obtain ⟨its,r1,p1,_⟩:=I.list h1
 obtain ⟨its2,r2,p2,_⟩:=I.list h2
 obtain ⟨⟨cls,dd,data,sl⟩,ho,hc,n,hd⟩:=id p1.isList
 obtain ⟨⟨cls2,dd2,data2,sl2⟩,ho2,hc2,n2,hd2⟩:=id p2.isList
 simp only at hc hd hc2 hd2
 subst hc hd hc2 hd2
 have hl1:=r1.length
 have hl2:=r2.length
 refine concat_meets ⟨_,ho,rfl⟩ ⟨_,ho2,rfl⟩ noFill_list_add seq_list_add PySem.F.slot_list_add PySem.F.entry_list_add (PySem.F.args_list_add_2 _ _)
  (list_addW l b its.toArray its2.toArray n n2 dd dd2 sl sl2 (by simp only [List.size_toArray]; omega)) ⟨ho,ho2,?_⟩
 have ea:its.toArray++its2.toArray=(its++its2).toArray:=by simp
 rw [ea]
 exact ⟨.ref _,_,I.lnew (t':=s.toks) (r1.append r2) (by rw [List.length_append]; exact hz),rfl,q _ I.fresh⟩
theorem op_cat0:OpR X (binaryOp .Add) (fun x y H Q=>∃ a b ys,x=.ref a/\y=.ref b/\SqT X.K H a []/\SqT X.K H b ys/\Q (.ref b) H):=by
 intro pins s σ H x y v u Q I rx ry h
 obtain ⟨a,b,ys,rfl,rfl,h1,h2,q⟩:=h
 cases rx
 cases ry
 obtain ⟨its,r1,p1,_⟩:=I.tuple h1
 obtain ⟨its2,r2,p2,_⟩:=I.tuple h2
 cases r1
 obtain ⟨⟨cls,dd,data,sl⟩,ho,hc,n,hd⟩:=id p1
 obtain ⟨⟨cls2,dd2,data2,sl2⟩,ho2,hc2,n2,hd2⟩:=id p2
 simp only at hc hd hc2 hd2
 subst hc hd hc2 hd2
 exact concat_meets ⟨_,ho,rfl⟩ ⟨_,ho2,rfl⟩ noFill_tuple_add seq_tuple_add PySem.F.slot_tuple_add PySem.F.entry_tuple_add (PySem.F.args_tuple_add_2 _ _)
  (tuple_addW0 a b _ _ n n2 dd dd2 sl sl2 rfl) ⟨ho,ho2,⟨.ref b,H,I,rfl,q⟩⟩
theorem od_add (hK:C.K=X.K):OpD X C .sh (binaryOp .Add) addD:=by
 intro pins s σ H x y v u Q I rx ry h
 obtain ⟨F,dx,dy,sb,tx,ty,po⟩:=h
 cases dx with
 | int i=>
  cases dy <;> try exact po.elim
  obtain rfl:=tx.int
  obtain rfl:=ty.int
  exact op_add pins s σ H _ _ v u Q I rx ry ⟨_,_,rfl,rfl,po _ F H sb .refl (.int _)⟩
 | str a=>
  cases dy <;> try exact po.elim
  rename_i b
  obtain ⟨rfl,_⟩:=tx.str
  obtain ⟨rfl,_⟩:=ty.str
  have po:PoV C .sh F H (if a.length+b.length<=sizeLine then .ok (.str (a++b)) else .bad) Q:=po
  by_cases z:a.length+b.length<=sizeLine
  ·rw [if_pos z] at po
   exact op_add_str pins s σ H _ _ v u Q I rx ry ⟨_,_,rfl,rfl,z,po _ F H sb .refl (.str (by rw [str_len_add]; exact z))⟩
  ·rw [if_neg z] at po; exact po.elim
 | lst xs=>
  cases dy <;> try exact po.elim
  rename_i ys
  obtain ⟨a,vs,rfl,p1,t1⟩:=tx.lst sb
  obtain ⟨b,ws,rfl,p2,t2⟩:=ty.lst sb
  have po:PoV C .sh F H (if xs.length+ys.length<=sizeLine then .ok (.lst (xs++ys)) else .bad) Q:=po
  by_cases z:xs.length+ys.length<=sizeLine
  ·rw [if_pos z] at po
   refine op_catL pins s σ H _ _ v u Q I rx ry ⟨a,b,vs,ws,rfl,rfl,by rw [<-hK]; exact p1,by rw [<-hK]; exact p2,by rw [t1.length,t2.length]; exact z,fun p hp=>?_⟩
   obtain ⟨s2,c2⟩:=grow_sh (u:=.lst (vs++ws)) sb hp
   exact po _ _ _ s2 c2 (.lst (.inl (.inl upd_same)) ((t1.append t2).mono c2.grow))
  ·rw [if_neg z] at po; exact po.elim
 | tup xs=>
  cases dy <;> try exact po.elim
  rename_i ys
  obtain ⟨a,vs,rfl,p1,t1⟩:=tx.tup sb
  obtain ⟨b,ws,rfl,p2,t2⟩:=ty.tup sb
  have po:PoV C .sh F H (if xs.length+ys.length<=sizeLine then .ok (.tup (xs++ys)) else .bad) Q:=po
  by_cases z:xs.length+ys.length<=sizeLine
  ·rw [if_pos z] at po
   cases vs with
   | nil=>
    cases t1
    rcases ty with ty | ⟨_,_,ty⟩
    ·exact op_cat0 pins s σ H _ _ v u Q I rx ry ⟨a,b,ws,rfl,rfl,by rw [<-hK]; exact p1,by rw [<-hK]; exact p2,po _ F H sb .refl ty⟩
    ·exact ty.elim
   | cons v0 vs=>
    refine op_catT pins s σ H _ _ v u Q I rx ry ⟨a,b,v0::vs,ws,rfl,rfl,by rw [<-hK]; exact p1,by rw [<-hK]; exact p2,by simp,by rw [t1.length,t2.length]; exact z,fun e=>?_,fun e p hp=>?_⟩
    ·subst e
     cases t2
     rcases tx with tx | ⟨_,_,tx⟩
     ·refine po _ F H sb .refl ?_
      rw [List.append_nil]
      exact tx
     ·exact tx.elim
    ·obtain ⟨s2,c2⟩:=grow_sh (u:=.tup (v0::vs++ws)) sb hp
     exact po _ _ _ s2 c2 (.tup (.inl (.inl upd_same)) ((t1.append t2).mono c2.grow))
  ·rw [if_neg z] at po; exact po.elim
 | _=>exact po.elim
end
inductive PM where
 | val | io | tk
 deriving DecidableEq
noncomputable def lent:List PM->List V->List Addr
 | .val::ms,_::vs=>lent ms vs
 | .io::ms,.ref a::vs=>a::lent ms vs
 | .tk::ms,.ref a::vs=>a::lent ms vs
 | _::ms,_::vs=>lent ms vs
 | _,_=>[]
def ArgsIs (K:Frag) (F H:Hp):List PM->List V->List D->Prop
 | [],[],[]=>True
 | .val::ms,v::vs,d::ds=>Is K F v d/\ArgsIs K F H ms vs ds
 | .io::ms,v::vs,d::ds=>(∃ a,v=.ref a/\F a=none/\OwnIs K F H a d)/\ArgsIs K F H ms vs ds
 | .tk::ms,v::vs,d::ds=>(∃ a,v=.ref a/\F a=none/\OwnIs K F H a d)/\ArgsIs K F H ms vs ds
 | _,_,_=>False
def OutsIs (K:Frag) (F H:Hp):List PM->List V->List D->Prop
 | [],_,_=>True
 | .io::ms,v::vs,d::ds=>(∃ a,v=.ref a/\F a=none/\OwnIs K F H a d)/\OutsIs K F H ms vs ds
 | _::ms,_::vs,_::ds=>OutsIs K F H ms vs ds
 | _,_,_=>False
abbrev LA (ms:List PM) (vs:List V):Addr->Prop:=fun b=>b∈lent ms vs
def PoG (K:Frag) (cv:Str->Value) (ms:List PM) (mr:Mo) (vs:List V) (F H:Hp) (Q:VK) (E:XK) (o:Out (D×List D)):Prop:=match o with
 | .ok (d,outs)=>∀ v F' H',Same F' H'->Chg (LA ms vs) F H F' H'->OutsIs K F' H' ms vs outs->MoIs K mr H F' H' v d->Q v H'
 | .exc c o=>∀ F' H',Same F' H'->Chg (LA ms vs) F H F' H'->OutsIs K F' H' ms vs (o.map (·.getD .non))->E (cv c) none H'
 | .bad=>False
def spD (K:Frag) (cv:Str->Value) (ms:List PM) (mr:Mo) (G:List D->Out (D×List D)):Sp:=fun vs H Q E=>∃ F ds,Same F H/\ArgsIs K F H ms vs ds/\(lent ms vs).Nodup/\PoG K cv ms mr vs F H Q E (G ds)
theorem ArgsIs.length {K:Frag} {F H:Hp}:∀ {ms:List PM} {vs:List V} {ds:List D},ArgsIs K F H ms vs ds->vs.length=ms.length/\ds.length=ms.length
 | [],[],[],_=>⟨rfl,rfl⟩
 | .val::ms,v::vs,d::ds,h=>by have:=ArgsIs.length h.2; simp [this]
 | .io::ms,v::vs,d::ds,h=>by have:=ArgsIs.length h.2; simp [this]
 | .tk::ms,v::vs,d::ds,h=>by have:=ArgsIs.length h.2; simp [this]
 | [],_::_,_,h=>h.elim
 | [],[],_::_,h=>h.elim
 | .val::_,[],_,h=>h.elim
 | .val::_,_::_,[],h=>h.elim
 | .io::_,[],_,h=>h.elim
 | .io::_,_::_,[],h=>h.elim
 | .tk::_,[],_,h=>h.elim
 | .tk::_,_::_,[],h=>h.elim
noncomputable def ownAt (n:Nat):List PM->List Nat
 | []=>[]
 | .val::ms=>ownAt (n+1) ms
 | _::ms=>n::ownAt (n+1) ms
noncomputable def ioAt (n:Nat):List PM->List Nat
 | []=>[]
 | .io::ms=>n::ioAt (n+1) ms
 | _::ms=>ioAt (n+1) ms
theorem ownAt_ge {n:Nat}:∀ {ms:List PM} {i:Nat},i∈ownAt n ms->n<=i/\i < n+ms.length:=by
 intro ms
 induction ms generalizing n with
 | nil=>intro i h; simp [ownAt] at h
 | cons m ms ih=>
  intro i h
  cases m with
  | val=>have:=ih (n:=n+1) h; simp only [List.length_cons]; omega
  | io=>
   rcases List.mem_cons.mp h with e | h
   ·simp only [List.length_cons]; omega
   ·have:=ih (n:=n+1) h; simp only [List.length_cons]; omega
  | tk=>
   rcases List.mem_cons.mp h with e | h
   ·simp only [List.length_cons]; omega
   ·have:=ih (n:=n+1) h; simp only [List.length_cons]; omega
theorem ioAt_own {n:Nat}:∀ {ms:List PM} {i:Nat},i∈ioAt n ms->i∈ownAt n ms:=by
 intro ms
 induction ms generalizing n with
 | nil=>intro i h; simp [ioAt] at h
 | cons m ms ih=>
  intro i h
  cases m with
  | val=>exact ih (n:=n+1) h
  | io=>
   rcases List.mem_cons.mp h with e | h
   ·exact List.mem_cons.mpr (.inl e)
   ·exact List.mem_cons_of_mem _ (ih (n:=n+1) h)
  | tk=>exact List.mem_cons_of_mem _ (ih (n:=n+1) h)
theorem args_slots {K:Frag} {F H:Hp}:∀ {ms:List PM} {vs:List V} {ds:List D} {n:Nat},ArgsIs K F H ms vs ds ->
  (∀ j d,ds[j]?=some d->n+j∉ownAt n ms->∃ v,vs[j]?=some v/\Is K F v d) /\
  (∀ j d,ds[j]?=some d->n+j∈ownAt n ms->∃ a,vs[j]?=some (.ref a)/\F a=none/\OwnIs K F H a d):=by
 intro ms
 induction ms with
 | nil=>intro vs ds n h; cases vs <;> cases ds <;> first | exact h.elim | (refine ⟨fun j d e=>?_,fun j d e=>?_⟩ <;> simp at e)
 | cons m ms ih=>
  intro vs ds n h
  cases vs with
  | nil=>cases m <;> exact h.elim
  | cons v vs=>
   cases ds with
   | nil=>cases m <;> exact h.elim
   | cons d ds=>
    cases m with
    | val=>
     obtain ⟨h1,h2⟩:=h
     obtain ⟨i1,i2⟩:=ih (n:=n+1) h2
     refine ⟨fun j e hj hn=>?_,fun j e hj hn=>?_⟩
     ·cases j with
      | zero=>simp at hj; subst hj; exact ⟨v,rfl,h1⟩
      | succ j=>simpa using i1 j e (by simpa using hj) (by rw [show n+1+j=n+(j+1) by omega]; exact hn)
     ·cases j with
      | zero=>have:=ownAt_ge (n:=n+1) hn; omega
      | succ j=>simpa using i2 j e (by simpa using hj) (by rw [show n+1+j=n+(j+1) by omega]; exact hn)
    | io=>
     obtain ⟨⟨a,rfl,h1⟩,h2⟩:=h
     obtain ⟨i1,i2⟩:=ih (n:=n+1) h2
     refine ⟨fun j e hj hn=>?_,fun j e hj hn=>?_⟩
     ·cases j with
      | zero=>exact absurd (List.mem_cons.mpr (.inl rfl)) hn
      | succ j=>simpa using i1 j e (by simpa using hj) (fun z=>hn (List.mem_cons_of_mem _ (by rw [show n+(j+1)=n+1+j by omega]; exact z)))
     ·cases j with
      | zero=>simp at hj; subst hj; exact ⟨a,rfl,h1⟩
      | succ j=>
       have hm:n+1+j∈ownAt (n+1) ms:=by
        rcases List.mem_cons.mp hn with z | z
        ·omega
        ·rw [show n+1+j=n+(j+1) by omega]; exact z
       simpa using i2 j e (by simpa using hj) hm
    | tk=>
     obtain ⟨⟨a,rfl,h1⟩,h2⟩:=h
     obtain ⟨i1,i2⟩:=ih (n:=n+1) h2
     refine ⟨fun j e hj hn=>?_,fun j e hj hn=>?_⟩
     ·cases j with
      | zero=>exact absurd (List.mem_cons.mpr (.inl rfl)) hn
      | succ j=>simpa using i1 j e (by simpa using hj) (fun z=>hn (List.mem_cons_of_mem _ (by rw [show n+(j+1)=n+1+j by omega]; exact z)))
     ·cases j with
      | zero=>simp at hj; subst hj; exact ⟨a,rfl,h1⟩
      | succ j=>
       have hm:n+1+j∈ownAt (n+1) ms:=by
        rcases List.mem_cons.mp hn with z | z
        ·omega
        ·rw [show n+1+j=n+(j+1) by omega]; exact z
       simpa using i2 j e (by simpa using hj) hm
theorem lent_at {n:Nat}:∀ {ms:List PM} {vs:List V} {j:Nat} {a:Addr},n+j∈ownAt n ms->vs[j]?=some (.ref a)->a∈lent ms vs:=by
 intro ms
 induction ms generalizing n with
 | nil=>intro vs j a h; simp [ownAt] at h
 | cons m ms ih=>
  intro vs j a h e
  cases vs with
  | nil=>simp at e
  | cons v vs=>
   cases j with
   | zero=>
    simp at e; subst e
    cases m with
    | val=>have:=ownAt_ge (n:=n+1) h; omega
    | io=>exact List.mem_cons.mpr (.inl rfl)
    | tk=>exact List.mem_cons.mpr (.inl rfl)
   | succ j=>
    have e':vs[j]?=some (.ref a):=by simpa using e
    have sub:n+1+j∈ownAt (n+1) ms:=by
     rw [show n+1+j=n+(j+1) by omega]
     cases m with
     | val=>exact h
     | io=>exact (List.mem_cons.mp h).resolve_left (by omega)
     | tk=>exact (List.mem_cons.mp h).resolve_left (by omega)
    have q:=ih (n:=n+1) sub e'
    cases m <;> cases v <;> first | exact q | exact List.mem_cons_of_mem _ q
theorem lent_from {n:Nat}:∀ {ms:List PM} {vs:List V} {a:Addr},a∈lent ms vs->∃ j,n+j∈ownAt n ms/\vs[j]?=some (.ref a):=by
 intro ms
 induction ms generalizing n with
 | nil=>intro vs a h; cases vs <;> simp [lent] at h
 | cons m ms ih=>
  intro vs a h
  cases vs with
  | nil=>cases m <;> simp [lent] at h
  | cons v vs=>
   have up:∀ {b},b∈lent ms vs->∃ j,n+j∈ownAt n (m::ms)/\(v::vs)[j]?=some (.ref b):=fun hb=>by
    obtain ⟨j,h1,h2⟩:=ih (n:=n+1) hb
    refine ⟨j+1,?_,by simpa using h2⟩
    rw [show n+(j+1)=n+1+j by omega]
    cases m with
    | val=>exact h1
    | io=>exact List.mem_cons_of_mem _ h1
    | tk=>exact List.mem_cons_of_mem _ h1
   cases m with
   | val=>exact up (by cases v <;> exact h)
   | io=>
    cases v with
    | ref c=>
     rcases List.mem_cons.mp h with e | h
     ·subst e; exact ⟨0,List.mem_cons.mpr (.inl rfl),rfl⟩
     ·exact up h
    | _=>exact up h
   | tk=>
    cases v with
    | ref c=>
     rcases List.mem_cons.mp h with e | h
     ·subst e; exact ⟨0,List.mem_cons.mpr (.inl rfl),rfl⟩
     ·exact up h
    | _=>exact up h
theorem lent_inj {n:Nat}:∀ {ms:List PM} {vs:List V} {i j:Nat} {a:Addr},(lent ms vs).Nodup->n+i∈ownAt n ms->n+j∈ownAt n ms->vs[i]?=some (.ref a)->vs[j]?=some (.ref a)->i=j:=by
 intro ms
 induction ms generalizing n with
 | nil=>intro vs i j a _ h; simp [ownAt] at h
 | cons m ms ih=>
  intro vs i j a nd hi hj e1 e2
  cases vs with
  | nil=>simp at e1
  | cons v vs=>
   have sub:∀ {k},n+(k+1)∈ownAt n (m::ms)->n+1+k∈ownAt (n+1) ms:=fun {k} h=>by
    rw [show n+1+k=n+(k+1) by omega]
    cases m with
    | val=>exact h
    | io=>exact (List.mem_cons.mp h).resolve_left (by omega)
    | tk=>exact (List.mem_cons.mp h).resolve_left (by omega)
   have nd':(lent ms vs).Nodup:=by
    cases m <;> cases v <;> first | exact nd | exact (List.nodup_cons.mp nd).2
   have no0:∀ {k b},n+0∈ownAt n (m::ms)->v=.ref b->n+(k+1)∈ownAt n (m::ms)->vs[k]?=some (.ref b)->False:=fun {k b} h0 hv hk ek=>by
    subst hv
    have q:=lent_at (n:=n+1) (sub hk) ek
    cases m with
    | val=>have:=ownAt_ge (n:=n+1) h0; omega
    | io=>exact (List.nodup_cons.mp nd).1 q
    | tk=>exact (List.nodup_cons.mp nd).1 q
   cases i with
   | zero=>
    cases j with
    | zero=>rfl
    | succ j=>exact (no0 hi (by simpa using e1) hj (by simpa using e2)).elim
   | succ i=>
    cases j with
    | zero=>exact (no0 hj (by simpa using e2) hi (by simpa using e1)).elim
    | succ j=>exact congrArg (·+1) (ih (n:=n+1) nd' (sub hi) (sub hj) (by simpa using e1) (by simpa using e2))
noncomputable def startD (N:List Str) (ds:List D):Sl:=ds.map some++List.replicate (N.length - ds.length) none
theorem get_start {α:Type} {N:List Str} {xs:List α} {i:Nat} {x:α}:(xs.map some++List.replicate (N.length - xs.length) none)[i]?=some (some x)↔xs[i]?=some x:=by
 by_cases h:i < xs.length
 ·rw [List.getElem?_append_left (by simpa using h),List.getElem?_map]
  cases e:xs[i]? with
  | none=>simp
  | some y=>simp
 ·rw [List.getElem?_append_right (by simpa using h),List.getElem?_replicate]
  have e:xs[i]?=none:=List.getElem?_eq_none_iff.mpr (by omega)
  rw [e]
  split <;> simp
theorem rep_start {K:Frag} {F H:Hp} {N:List Str} {ms:List PM} {vs:List V} {ds:List D} (sb:Same F H) (ar:ArgsIs K F H ms vs ds) (nd:(lent ms vs).Nodup):Rep K (ownAt 0 ms) F H (start N vs) (startD N ds):=by
 obtain ⟨h1,h2⟩:=args_slots (n:=0) ar
 obtain ⟨l1,l2⟩:=ar.length
 refine ⟨sb,by simp [start,startD,l1,l2],fun i d hi e=>?_,fun i d hi e=>?_,fun i hi=>?_,fun i j a hi hj e1 e2=>?_⟩
 ·obtain ⟨v,a,b⟩:=h1 i d (get_start.mp e) (by simpa using hi)
  exact ⟨v,get_start.mpr a,b⟩
 ·obtain ⟨v,a,b⟩:=h2 i d (get_start.mp e) (by simpa using hi)
  exact ⟨v,get_start.mpr a,b⟩
 ·have q:=ownAt_ge hi
  have hl:i < ds.length:=by omega
  exact ⟨ds[i],get_start.mpr (by simp [hl])⟩
 ·exact lent_inj (n:=0) nd (by simpa using hi) (by simpa using hj) (get_start.mp e1) (get_start.mp e2)
theorem oa_start {N:List Str} {ms:List PM} {vs:List V} {b:Addr}:OA (ownAt 0 ms) (start N vs) b↔LA ms vs b:=by
 constructor
 ·rintro ⟨i,hi,e⟩
  exact lent_at (n:=0) (by simpa using hi) (get_start.mp e)
 ·intro h
  obtain ⟨j,h1,h2⟩:=lent_from (n:=0) h
  exact ⟨j,by simpa using h1,get_start.mpr h2⟩
noncomputable def outsOf (ρ:Sl):Nat->List PM->List D
 | _,[]=>[]
 | n,.io::ms=>((ρ[n]?).getD none).getD .non::outsOf ρ (n+1) ms
 | n,_::ms=>.non::outsOf ρ (n+1) ms
theorem outs_is {K:Frag} {F H:Hp} {σ:St} {ρ:Sl} {N:List Str}:∀ {ms:List PM} {vs:List V} {n:Nat},vs.length=ms.length->(∀ i∈ioAt n ms,∃ d a,ρ[i]?=some (some d)/\vs[i - n]?=some (V.ref a)/\F a=none/\OwnIs K F H a d)->OutsIs K F H ms vs (outsOf ρ n ms):=by
 intro ms
 induction ms with
 | nil=>intro vs n _ _; trivial
 | cons m ms ih=>
  intro vs n hl h
  cases vs with
  | nil=>simp at hl
  | cons v vs=>
   have rest:(∀ i∈ioAt (n+1) ms,i∈ioAt n (m::ms))->OutsIs K F H ms vs (outsOf ρ (n+1) ms):=fun hs=>by
    refine ih (by simpa using hl) fun i hi=>?_
    obtain ⟨d,a,e1,e2,e3⟩:=h i (hs i hi)
    have q:=ownAt_ge (ioAt_own hi)
    refine ⟨d,a,e1,?_,e3⟩
    rw [show i - n=(i - (n+1))+1 by omega] at e2
    simpa using e2
   cases m with
   | val=>exact rest fun i hi=>hi
   | io=>
    obtain ⟨d,a,e1,e2,e3⟩:=h n (List.mem_cons.mpr (.inl rfl))
    refine ⟨⟨a,by simpa using e2,e3.1,?_⟩,rest fun i hi=>List.mem_cons_of_mem _ hi⟩
    rw [e1]
    exact e3.2
   | tk=>exact rest fun i hi=>hi
noncomputable def Fl.val:Fl->Option D
 | .nx=>some .non
 | .rt d=>some d
 | _=>none
noncomputable def runD (N:List Str) (ms:List PM) (f:Sl->Out (Fl×Sl)) (ds:List D):Out (D×List D):=match f (startD N ds) with
 | .ok (.nx,ρ)=>.ok (.non,outsOf ρ 0 ms)
 | .ok (.rt d,ρ)=>.ok (d,outsOf ρ 0 ms)
 | .ok _=>.bad
 | .exc c ρ=>.exc c ((outsOf ρ 0 ms).map some)
 | .bad=>.bad
theorem map_back:∀ (l:List D),(l.map some).map (fun x:Option D=>x.getD .non)=l
 | []=>rfl
 | a::l=>congrArg (a::·) (map_back l)
def Out.le {α:Type} (a b:Out α):Prop:=a=.bad\/a=b
theorem ends_of {C:Ct} {N:List Str} {ms:List PM} {own':List Nat} {f:Sl->Out (Fl×Sl)} {F H:Hp} {vs:List V} {ds:List D} {Q:VK} {o:Out (D×List D)} (hio:C.io=ioAt 0 ms) (hox:C.ox=C.io) (hmr:C.mr=.sh\/∀ ρ,(f (startD N ds))≠.ok (.nx,ρ)) (hsub:∀ i∈ioAt 0 ms,i∈own') (sb:Same F H) (ar:ArgsIs C.K F H ms vs ds) (nd:(lent ms vs).Nodup)
  (hG:Out.le o (runD N ms f ds)) (h:PoG C.K C.cv ms C.mr vs F H Q C.E o):tSt C (ownAt 0 ms) own' f { nx:=fun _ H'=>Q .non H',rt:=Q } (start N vs) H:=by
 refine ⟨F,startD N ds,rep_start sb ar nd,?_⟩
 have hl:=ar.length.1
 have ch:∀ {F' H'},Chg (OA (ownAt 0 ms) (start N vs)) F H F' H'->Chg (LA ms vs) F H F' H':=fun c=>c.mono fun x z=>oa_start.mp z
 have outs:∀ {σ':St} {ρ':Sl} {F' H':Hp},IoIs C.K C.io F' H' σ' ρ'->(∀ i∈C.io,σ'[i]?=(start N vs)[i]?)->OutsIs C.K F' H' ms vs (outsOf ρ' 0 ms):=fun {σ' ρ' F' H'} io e=>by
  refine outs_is (N:=N) (σ:=σ') hl fun i hi=>?_
  have hi':i∈C.io:=by rw [hio]; exact hi
  obtain ⟨d,a,e1,e2,e3⟩:=io i hi'
  refine ⟨d,a,e1,?_,e3⟩
  rw [e i hi'] at e2
  exact get_start.mp e2
 rcases hG with e | e
 ·subst e; exact h.elim
 ·subst e
  unfold runD at h
  cases q:f (startD N ds) with
  | ok p=>
   rw [q] at h
   obtain ⟨fl,ρ'⟩:=p
   cases fl with
   | nx=>
    have hm:C.mr=.sh:=hmr.resolve_right fun z=>z ρ' q
    exact fun σ' F' H' n=>h .non F' H' n.rep.sub (ch n.chg) (outs (n.rep.ioIs (by rw [hio]; exact hsub)) n.io) (by rw [hm]; exact .non)
   | rt d=>exact fun v σ' F' H' s io c e mo=>h v F' H' s (ch c) (outs io e) mo
   | bk=>exact h.elim
   | ct=>exact h.elim
  | exc c ρ'=>
   rw [q] at h
   exact fun F' H' s io c'=>h F' H' s (ch c') (by rw [map_back]; exact outs (σ':=start N vs) (by rw [<-hox]; exact io) fun _ _=>rfl)
  | bad=>rw [q] at h; exact h.elim
def ctOf (K:Frag) (cv:Str->Value) (E:XK) (ms:List PM) (mr:Mo):Ct:=⟨K,cv,E,ioAt 0 ms,mr,[],ioAt 0 ms,fun _ h=>h⟩
theorem fn_D {P:Program} {w:World} {K:Frag} {mg:Str->Option Value} {base:Heap} {CX:CXT} {x qual:Str} {st:Stmt} {f:Addr} {fd:FuncData} {N ps:List Str} {k:Nat} {cv:Str->Value} {ms:List PM} {mr:Mo} {own':List Nat} {fb:Sl->Out (Fl×Sl)} {G:List D->Out (D×List D)}
  (F:Fun K x qual st f fd) (S:FnScope N ps (defScope st)) (hl:ms.length=ps.length) (hsub:∀ i∈ioAt 0 ms,i∈own') (hmr:mr=.sh\/∀ ds ρ,(fb (startD N ds))≠.ok (.nx,ρ))
  (hbody:∀ (cdv:Value) (A:Around) (outer:List Env) (s:Shared) (H:Hp) (E:XK),Room k (A.deeper (envOfC qual (defScope st) s.heap.objs.size f cdv)) ->
   PSs (cxOf CX P w K mg base N qual (defScope st) f cdv A outer s H E) (defBody st) (tSt (ctOf K cv E ms mr) (ownAt 0 ms) own' fb))
  (hG:∀ ds,Out.le (G ds) (runD N ms fb ds)):FnOk P w K mg base CX (k+1) f fd ps (spD K cv ms mr G):=by
 obtain ⟨oc,od,kV,doc,pm,an,cdv,ct,osl,rfl,lk,hcd⟩:=F.ex
 refine fn_of lk hcd S (fun vs H Q E h=>?_) fun A outer s H vs Q E hr hsp=>?_
 ·obtain ⟨F,ds,_,ar,_⟩:=h
  rw [ar.length.1,hl]
 ·obtain ⟨F1,ds,sb,ar,nd,h⟩:=hsp
  refine ⟨_,hbody cdv A outer s H E hr,?_⟩
  exact ends_of (C:=ctOf K cv E ms mr) rfl rfl (hmr.imp id fun z ρ=>z ds ρ) hsub sb ar nd (hG ds) h
noncomputable def msOf:AK->PM
 | .vl=>.val
 | .sl _=>.io
 | .fr=>.tk
noncomputable def fillA:List AK->List D->Sl->Option (List D)
 | [],[],_=>some []
 | .sl i::as,_::ds,ρ=>match ρ[i]? with
  | some (some d)=>(fillA as ds ρ).map (d::·)
  | _=>none
 | .vl::as,d::ds,ρ=>(fillA as ds ρ).map (d::·)
 | .fr::as,d::ds,ρ=>(fillA as ds ρ).map (d::·)
 | _,_,_=>none
noncomputable def putA:List AK->List D->Sl->Sl
 | .sl i::as,d::outs,ρ=>putA as outs (ρ.set i (some d))
 | _::as,_::outs,ρ=>putA as outs ρ
 | _,_,ρ=>ρ
noncomputable def slotsA:List AK->List Nat
 | []=>[]
 | .sl i::as=>i::slotsA as
 | _::as=>slotsA as
noncomputable def frA:List AK->Nat
 | []=>0
 | .fr::as=>frA as+1
 | _::as=>frA as
section
variable {K:Frag} {own:List Nat} {H0 F H:Hp} {σ:St} {ρ:Sl}
theorem argv_args:∀ {as:List AK} {vs:List V} {ds ds':List D},Rep K own F H σ ρ->(∀ i∈slotsA as,i∈own)->ArgV K H0 F H σ as vs ds->fillA as ds ρ=some ds'->ArgsIs K F H (as.map msOf) vs ds'
 | [],vs,ds,ds',rp,hs,av,e=>by
  cases vs <;> cases ds <;> first | exact av.elim | (simp [fillA] at e; subst e; trivial)
 | a::as,[],ds,ds',rp,hs,av,e=>by cases a <;> exact av.elim
 | a::as,v::vs,[],ds',rp,hs,av,e=>by cases a <;> exact av.elim
 | .vl::as,v::vs,d::ds,ds',rp,hs,av,e=>by
  cases q:fillA as ds ρ with
  | none=>simp [fillA,q] at e
  | some l=>
   have e:d::l=ds':=by simpa [fillA,q] using e
   subst e
   exact ⟨av.1,argv_args rp hs av.2 q⟩
 | .fr::as,v::vs,d::ds,ds',rp,hs,av,e=>by
  cases q:fillA as ds ρ with
  | none=>simp [fillA,q] at e
  | some l=>
   have e:d::l=ds':=by simpa [fillA,q] using e
   subst e
   obtain ⟨a,h1,_,h2,h3⟩:=av.1
   exact ⟨⟨a,h1,h2,h3⟩,argv_args rp hs av.2 q⟩
 | .sl i::as,v::vs,d::ds,ds',rp,hs,av,e=>by
  obtain ⟨h1,_,av2⟩:=av
  have hi:i∈own:=hs i (List.mem_cons.mpr (.inl rfl))
  obtain ⟨d',hd⟩:=rp.opn i hi
  obtain ⟨a,e1,e2,e3⟩:=rp.ow i d' hi hd
  rw [h1] at e1
  cases e1
  cases q:fillA as ds ρ with
  | none=>simp [fillA,q,hd] at e
  | some l=>
   have e:d'::l=ds':=by simpa [fillA,q,hd] using e
   subst e
   exact ⟨⟨a,rfl,e2,e3⟩,argv_args rp (fun j hj=>hs j (List.mem_cons_of_mem _ hj)) av2 q⟩
theorem argv_lent:∀ {as:List AK} {vs:List V} {ds:List D} {b:Addr},ArgV K H0 F H σ as vs ds->b∈lent (as.map msOf) vs->(∃ i∈slotsA as,σ[i]?=some (some (V.ref b)))\/(H0 b=none/\frA as≠0/\H b≠none/\F b=none)
 | [],vs,ds,b,av,h=>by cases vs <;> simp [lent] at h
 | a::as,[],ds,b,av,h=>by cases a <;> exact av.elim
 | a::as,v::vs,[],b,av,h=>by cases a <;> exact av.elim
 | .vl::as,v::vs,d::ds,b,av,h=>by
  have h:b∈lent (as.map msOf) vs:=by cases v <;> exact h
  exact argv_lent (as:=as) av.2 h
 | .fr::as,v::vs,d::ds,b,av,h=>by
  obtain ⟨⟨a,rfl,h0,hF,o⟩,av2⟩:=av
  have h:b∈a::lent (as.map msOf) vs:=h
  rcases List.mem_cons.mp h with e | h
  ·subst e; exact .inr ⟨h0,by simp [frA],o.there,hF⟩
  ·rcases argv_lent av2 h with z | ⟨z,_,z2⟩
   ·exact .inl z
   ·exact .inr ⟨z,by simp [frA],z2⟩
 | .sl i::as,v::vs,d::ds,b,av,h=>by
  obtain ⟨h1,_,av2⟩:=av
  have up:b∈lent (as.map msOf) vs->(∃ j∈slotsA (.sl i::as),σ[j]?=some (some (V.ref b)))\/(H0 b=none/\frA (.sl i::as)≠0/\H b≠none/\F b=none):=fun h=>by
   rcases argv_lent av2 h with ⟨j,hj,e⟩ | z
   ·exact .inl ⟨j,List.mem_cons_of_mem _ hj,e⟩
   ·exact .inr z
  cases v with
  | ref a=>
   have h:b∈a::lent (as.map msOf) vs:=h
   rcases List.mem_cons.mp h with e | h
   ·subst e; exact .inl ⟨i,List.mem_cons.mpr (.inl rfl),h1⟩
   ·exact up h
  | _=>exact up h
theorem argv_nodup:∀ {as:List AK} {vs:List V} {ds:List D},Rep K own F H σ ρ->(∀ x,OA own σ x->H0 x≠none)->(∀ i∈slotsA as,i∈own)->(slotsA as).Nodup->frA as<=1->ArgV K H0 F H σ as vs ds->(lent (as.map msOf) vs).Nodup
 | [],vs,ds,rp,h0,hs,nd,hf,av=>by cases vs <;> simp [lent]
 | a::as,[],ds,rp,h0,hs,nd,hf,av=>by cases a <;> exact av.elim
 | a::as,v::vs,[],rp,h0,hs,nd,hf,av=>by cases a <;> exact av.elim
 | .vl::as,v::vs,d::ds,rp,h0,hs,nd,hf,av=>by
  have q:=argv_nodup (as:=as) rp h0 hs nd hf av.2
  cases v <;> exact q
 | .fr::as,v::vs,d::ds,rp,h0,hs,nd,hf,av=>by
  have hf':frA as=0:=by simp only [frA] at hf; omega
  obtain ⟨⟨a,rfl,hz,hF,o⟩,av2⟩:=av
  show (a::lent (as.map msOf) vs).Nodup
  refine List.nodup_cons.mpr ⟨fun z=>?_,argv_nodup rp h0 hs nd (by omega) av2⟩
  rcases argv_lent av2 z with ⟨i,hi,e⟩ | ⟨_,n,_⟩
  ·exact h0 a ⟨i,hs i hi,e⟩ hz
  ·exact n hf'
 | .sl i::as,v::vs,d::ds,rp,h0,hs,nd,hf,av=>by
  obtain ⟨h1,_,av2⟩:=av
  have hs':∀ j∈slotsA as,j∈own:=fun j hj=>hs j (List.mem_cons_of_mem _ hj)
  have hi:i∈own:=hs i (List.mem_cons.mpr (.inl rfl))
  obtain ⟨ni,nd'⟩:=List.nodup_cons.mp nd
  have q:=argv_nodup rp h0 hs' nd' hf av2
  cases v with
  | ref a=>
   show (a::lent (as.map msOf) vs).Nodup
   refine List.nodup_cons.mpr ⟨fun z=>?_,q⟩
   rcases argv_lent av2 z with ⟨j,hj,e⟩ | ⟨n,_⟩
   ·exact ni (by rw [rp.dis i j a hi (hs' j hj) h1 e]; exact hj)
   ·exact h0 a ⟨i,hi,h1⟩ n
  | _=>exact q
theorem putA_out:∀ {as:List AK} {outs:List D} {ρ:Sl} {i:Nat},i∉slotsA as->(putA as outs ρ)[i]?=ρ[i]?
 | [],outs,ρ,i,h=>by cases outs <;> rfl
 | a::as,[],ρ,i,h=>by cases a <;> rfl
 | .vl::as,d::outs,ρ,i,h=>putA_out (as:=as) h
 | .fr::as,d::outs,ρ,i,h=>putA_out (as:=as) h
 | .sl j::as,d::outs,ρ,i,h=>by
  have h':i≠j/\i∉slotsA as:=by simpa [slotsA] using h
  show (putA as outs (ρ.set j (some d)))[i]?=_
  rw [putA_out h'.2,List.getElem?_set_ne (Ne.symm h'.1)]
theorem putA_len:∀ {as:List AK} {outs:List D} {ρ:Sl},(putA as outs ρ).length=ρ.length
 | [],outs,ρ=>by cases outs <;> rfl
 | a::as,[],ρ=>by cases a <;> rfl
 | .vl::as,d::outs,ρ=>putA_len (as:=as)
 | .fr::as,d::outs,ρ=>putA_len (as:=as)
 | .sl j::as,d::outs,ρ=>by
  show (putA as outs (ρ.set j (some d))).length=_
  rw [putA_len,List.length_set]
theorem putA_in {F' H':Hp}:∀ {as:List AK} {vs:List V} {ds outs:List D} {ρ:Sl},(slotsA as).Nodup->(∀ i∈slotsA as,i < ρ.length)->ArgV K H0 F H σ as vs ds->OutsIs K F' H' (as.map msOf) vs outs->∀ i∈slotsA as,∃ d a,(putA as outs ρ)[i]?=some (some d)/\σ[i]?=some (some (V.ref a))/\F' a=none/\OwnIs K F' H' a d
 | [],vs,ds,outs,ρ,nd,hl,av,o,i,hi=>by simp [slotsA] at hi
 | a::as,[],ds,outs,ρ,nd,hl,av,o,i,hi=>by cases a <;> exact av.elim
 | a::as,v::vs,[],outs,ρ,nd,hl,av,o,i,hi=>by cases a <;> exact av.elim
 | a::as,v::vs,d::ds,[],ρ,nd,hl,av,o,i,hi=>by cases a <;> exact o.elim
 | .vl::as,v::vs,d::ds,u::outs,ρ,nd,hl,av,o,i,hi=>putA_in (as:=as) nd hl av.2 o i hi
 | .fr::as,v::vs,d::ds,u::outs,ρ,nd,hl,av,o,i,hi=>putA_in (as:=as) nd hl av.2 o i hi
 | .sl j::as,v::vs,d::ds,u::outs,ρ,nd,hl,av,o,i,hi=>by
  obtain ⟨ni,nd'⟩:=List.nodup_cons.mp nd
  obtain ⟨h1,_,av2⟩:=av
  obtain ⟨⟨a,e,hF,ow⟩,o2⟩:=o
  subst e
  rcases List.mem_cons.mp hi with e | hi
  ·subst e
   refine ⟨u,a,?_,h1,hF,ow⟩
   show (putA as outs (ρ.set i (some u)))[i]?=_
   rw [putA_out ni,List.getElem?_set_self (hl i (List.mem_cons.mpr (.inl rfl)))]
  ·exact putA_in (as:=as) (ρ:=ρ.set j (some u)) nd' (fun k hk=>by rw [List.length_set]; exact hl k (List.mem_cons_of_mem _ hk)) av2 o2 i hi
end
noncomputable def dCall (as:List AK) (G:List D->Out (D×List D)) (fr:Sl->Out (List D×Sl)):Sl->Out (D×Sl):=fun ρ=>(fr ρ).bind fun p=>match fillA as p.1 p.2 with
 | some ds=>match G ds with
  | .ok q=>.ok (q.1,putA as q.2 p.2)
  | .exc c o=>.exc c (putA as (o.map (·.getD .non)) p.2)
  | .bad=>.bad
 | none=>.bad
section
variable {X:Cx} {C:Ct} {own:List Nat} {as:List AK} {G:List D->Out (D×List D)} {fr:Sl->Out (List D×Sl)} {mr:Mo} {e:Expr} {es:List Expr}
theorem call_rep {σ:St} {H0 F H F' H':Hp} {ρ:Sl} {vs:List V} {ds outs:List D} (rp:Rep C.K own F H σ ρ) (h0:∀ x,OA own σ x->H0 x≠none) (hs:∀ i∈slotsA as,i∈own) (nd:(slotsA as).Nodup) (av:ArgV C.K H0 F H σ as vs ds)
  (sb:Same F' H') (c:Chg (LA (as.map msOf) vs) F H F' H') (o:OutsIs C.K F' H' (as.map msOf) vs outs):Rep C.K own F' H' σ (putA as outs ρ):=by
 have pin:=putA_in (ρ:=ρ) nd (fun i hi=>by
  obtain ⟨d,e⟩:=rp.opn i (hs i hi)
  exact (List.getElem?_eq_some_iff.mp e).1) av o
 refine ⟨sb,by rw [putA_len]; exact rp.len,fun i d hi e=>?_,fun i d hi e=>?_,fun i hi=>?_,rp.dis⟩
 ·rw [putA_out (fun z=>hi (hs i z))] at e
  obtain ⟨v,h1,h2⟩:=rp.val i d hi e
  exact ⟨v,h1,h2.mono c.grow⟩
 ·by_cases q:i∈slotsA as
  ·obtain ⟨d',a,e1,e2,e3,e4⟩:=pin i q
   rw [e1] at e
   cases e
   exact ⟨a,e2,e3,e4⟩
  ·rw [putA_out q] at e
   obtain ⟨a,h1,h2,h3⟩:=rp.ow i d hi e
   have nl:¬LA (as.map msOf) vs a:=fun z=>by
    rcases argv_lent av z with ⟨j,hj,e'⟩ | ⟨n,_⟩
    ·exact q (by rw [rp.dis i j a hi (hs j hj) h1 e']; exact hj)
    ·exact h0 a ⟨i,hi,h1⟩ n
   refine ⟨a,h1,?_,h3.grow c.grow fun o' q'=>c.keep a o' q' nl⟩
   cases q':F' a with
   | none=>rfl
   | some u=>
    rcases c.new a (by rw [q']; simp) with z | z | z
    ·exact absurd h2 z
    ·exact absurd z h3.there
    ·exact absurd z nl
 ·by_cases q:i∈slotsA as
  ·obtain ⟨d',a,e1,_⟩:=pin i q
   exact ⟨d',e1⟩
  ·rw [putA_out q]
   exact rp.opn i hi
theorem call_of {σ:St} {H:Hp} {Q:VK} (hio:∀ i∈C.ox,i∈own) (hs:∀ i∈slotsA as,i∈own) (nd:(slotsA as).Nodup) (hf:frA as<=1) (h:tE C own mr (dCall as G fr) σ H Q) :
  tAr C own as fr σ H fun vs H1=>spD C.K C.cv (as.map msOf) mr G (vs++[]) H1 Q C.E:=by
 obtain ⟨F,ρ,rp,h⟩:=h
 have h0:∀ x,OA own σ x->H x≠none:=fun x z=>(rp.OA_there z).1
 refine ⟨F,ρ,rp,?_⟩
 unfold dCall at h
 cases q0:fr ρ with
 | ok p=>
  rw [q0] at h
  obtain ⟨ds,ρ1⟩:=p
  intro vs F1 H1 rp1 c1 av
  rw [List.append_nil]
  have h1:Po C own mr σ F H (match fillA as ds ρ1 with | some ds=>(match G ds with | .ok q=>.ok (q.1,putA as q.2 ρ1) | .exc c o=>.exc c (putA as (o.map (·.getD .non)) ρ1) | .bad=>.bad) | none=>.bad) Q:=h
  cases q:fillA as ds ρ1 with
  | none=>simp only [q] at h1; exact h1.elim
  | some ds'=>
   simp only [q] at h1
   have lo:∀ x,LA (as.map msOf) vs x->OA own σ x\/H x=none:=fun x z=>by
    rcases argv_lent av z with ⟨i,hi,e⟩ | ⟨n,_⟩
    ·exact .inl ⟨i,hs i hi,e⟩
    ·exact .inr n
   refine ⟨F1,ds',rp1.sub,argv_args rp1 hs av q,argv_nodup rp1 h0 hs nd hf av,?_⟩
   cases q2:G ds' with
   | ok p=>
    rw [q2] at h1
    obtain ⟨d,outs⟩:=p
    exact fun v F' H' sb c o mo=>h1 v F' H' (call_rep rp1 h0 hs nd av sb c o) (c1.trans c lo) (MoIs.back (Ha:=H1) c1 mo)
   | exc x o=>rw [q2] at h1; exact fun F' H' sb c outs=>h1 F' H' sb ((call_rep rp1 h0 hs nd av sb c outs).ioIs hio) (c1.trans c lo)
   | bad=>rw [q2] at h1; exact h1.elim
 | exc c=>rw [q0] at h; exact h
 | bad=>rw [q0] at h; exact h.elim
theorem pd_call {CX:CXT} {k:Nat} {f:Addr} {fd:FuncData} {ps:List Str} {x:Str} {p pos:Pos} {ms:List PM} (F:FnOk X.prog X.w X.K X.mg X.base CX k f fd ps (spD C.K C.cv ms mr G)) (hr:Room k X.A) (hg:Gl X x) (hm:X.mg x=some (.ref f)) (hk:keepIn X.K (.ref f)=true) (hb:Binds X.K fd ps []) (hx:Passes CX X C.E)
  (ha:PA X (e::es) (tAr C own as fr)) (hms:ms=as.map msOf:=by rfl) (hs:∀ i∈slotsA as,i∈own:=by decide) (nd:(slotsA as).Nodup:=by decide) (hf:frA as<=1:=by decide) (hio:∀ i∈C.ox,i∈own:=by exact sub_of rfl) (hdb:(x == ("__debug__":Str))=false:=by decide) (he:starEach (e::es) X.env=(false,eval e X.env)::starEach es X.env:=by exact star_cons rfl)
  (hpl:(backTo pos (starEach es X.env)).any (·.1)=false:=by exact star_any rfl):PE X (.Call (.Name x p) (e::es) [] pos) (tE C own mr (dCall as G fr)):=by
 subst hms
 exact pe_to (pe_call F hr hg hm hk hb .nil hx ha hdb he hpl) fun σ H Q h=>call_of hio hs nd hf h
end
structure ItIs (K:Frag) (F:Hp) (J:It) (ds:List D):Prop where
 go:∀ i H,i < ds.length->Same F H->J.go i H
 yld:∀ i Fi H x H' d,ds[i]?=some d->Same F Fi->Same Fi H->J.yld i H x H'->∃ F',Chg No Fi H F' H'/\Same F' H'/\Is K F' x d
 stop:∀ i H,ds.length<=i->Same F H->J.stop i H
def PoI (C:Ct) (own:List Nat) (σ:St) (F H:Hp) (r:Out (List D×Sl)) (R:It->Hp->Prop):Prop:=match r with
 | .ok (ds,ρ')=>∀ J F' H',Rep C.K own F' H' σ ρ'->Chg (OA own σ) F H F' H'->ItIs C.K F' J ds->R J H'
 | .exc c ρ'=>∀ F' H',Same F' H'->IoIs C.K C.ox F' H' σ ρ'->Chg (OA own σ) F H F' H'->C.E (C.cv c) none H'
 | .bad=>False
def tIt (C:Ct) (own:List Nat) (f:Sl->Out (List D×Sl)):TI:=fun σ H R=>∃ F ρ,Rep C.K own F H σ ρ/\PoI C own σ F H (f ρ) R
noncomputable def seqOf:D->Out (List D)
 | .lst xs=>.ok xs
 | .tup xs=>.ok xs
 | _=>.bad
noncomputable def iSeq (f:Sl->Out (D×Sl)):Sl->Out (List D×Sl):=fun ρ=>(f ρ).bind fun p=>(seqOf p.1).bind fun ds=>.ok (ds,p.2)
theorem PoI.bindV {C:Ct} {own:List Nat} {m:Mo} {σ:St} {F H:Hp} {o:Out (D×Sl)} {k:D×Sl->Out (List D×Sl)} {Q:It->Hp->Prop} {R:VK} (hp:PoI C own σ F H (o.bind k) Q)
  (h:∀ v F1 H1 d ρ1,Rep C.K own F1 H1 σ ρ1->Chg (OA own σ) F H F1 H1->MoIs C.K m H F1 H1 v d->PoI C own σ F H (k (d,ρ1)) Q->R v H1):Po C own m σ F H o R:=by
 cases o with
 | ok p=>exact fun v F1 H1 rp c mo=>h v F1 H1 p.1 p.2 rp c mo hp
 | exc x=>exact hp
 | bad=>exact hp.elim
section
variable {X:Cx} {C:Ct} {own:List Nat} {tg e:Expr} {f:Sl->Out (D×Sl)} {m:Mo} {pos:Pos}
theorem pi_to {t t':TI} (h:PI X tg e t) (i:∀ σ H Q,t' σ H Q->t σ H Q):PI X tg e t':=⟨fun pins s σ H R I hw=>h pins s σ H R I (i σ H R hw)⟩
theorem itl_is {K:Frag} {F:Hp} {a:Addr} {xs:List V} {ds:List D} (p:SqL K F a xs) (t:IsL K F xs ds):ItIs K F (Itl K a) ds where
 go:=fun i H hi s=>by
  have hx:i < xs.length:=by rw [t.length]; exact hi
  exact ⟨xs,xs[i],s.seq p,by simp [hx]⟩
 yld:=fun i Fi H x H' d e s1 s2 y=>by
  obtain ⟨rfl,y⟩:=y
  obtain ⟨v,h1,h2⟩:=t.getD e
  have q:=y xs ((s1.trans s2).seq p)
  rw [h1] at q
  cases q
  exact ⟨Fi,.refl,s2,h2.mono s1⟩
 stop:=fun i H hi s=>⟨xs,s.seq p,by rw [t.length]; exact hi⟩
theorem itt_is {K:Frag} {F:Hp} {a:Addr} {xs:List V} {ds:List D} (p:SqT K F a xs) (t:IsL K F xs ds):ItIs K F (Itt K a) ds where
 go:=fun i H hi s=>by
  have hx:i < xs.length:=by rw [t.length]; exact hi
  exact ⟨xs,xs[i],sqT_mono s p,by simp [hx]⟩
 yld:=fun i Fi H x H' d e s1 s2 y=>by
  obtain ⟨rfl,y⟩:=y
  obtain ⟨v,h1,h2⟩:=t.getD e
  have q:=y xs (sqT_mono (s1.trans s2) p)
  rw [h1] at q
  cases q
  exact ⟨Fi,.refl,s2,h2.mono s1⟩
 stop:=fun i H hi s=>⟨xs,sqT_mono s p,by rw [t.length]; exact hi⟩
noncomputable def rngL (lo:Int) (n:Nat):List D:=(List.range n).map fun k=>.int (lo+(k:Nat))
theorem itr_is {K:Frag} {F:Hp} {lo:Int} {n:Nat}:ItIs K F (Itr lo n) (rngL lo n) where
 go:=fun i H hi _=>by
  have:i < n:=by simpa [rngL] using hi
  exact this
 yld:=fun i Fi H x H' d e s1 s2 y=>by
  obtain ⟨rfl,rfl⟩:=y
  have e:d=.int (lo+i):=by
   unfold rngL at e
   rw [List.getElem?_map] at e
   cases q:(List.range n)[i]? with
   | none=>rw [q] at e; cases e
   | some k=>
    rw [q] at e
    have hk:k=i:=by
     have:=List.getElem?_eq_some_iff.mp q
     obtain ⟨_,z⟩:=this
     simpa using z.symm
    subst hk
    exact (Option.some.inj e).symm
  subst e
  exact ⟨Fi,.refl,s2,.int _⟩
 stop:=fun i H hi _=>by
  have:n<=i:=by simpa [rngL] using hi
  exact this
noncomputable def iRange1 (f:Sl->Out (D×Sl)):Sl->Out (List D×Sl):=fun ρ=>(f ρ).bind fun p=>match p.1 with
 | .int j=>if -(2 ^ 62)<=j/\j < 2 ^ 62 then .ok (rngL 0 j.toNat,p.2) else .bad
 | _=>.bad
theorem pdi_range1 {p:Pos} (hg:Gl X "range") (hm:X.mg "range"=none) (h:PE X e (tE C own m f)) (hs:starEach [e] X.env=[(false,eval e X.env)]:=by exact star_one rfl):PI X tg (.Call (.Name "range" p) [e] [] pos) (tIt C own (iRange1 f)):=by
 refine pi_to (pi_range1 hg hm (pa_cons h pa_nil hs) hs) fun σ H R ⟨F,ρ,rp,h⟩=>⟨F,ρ,rp,PoI.bindV h fun v F1 H1 d ρ1 rp1 c1 mo1 h1=>?_⟩
 cases d with
 | int j=>
  obtain rfl:=mo1.top.int
  have h1:PoI C own σ F H (if -(2 ^ 62)<=j/\j < 2 ^ 62 then .ok (rngL 0 j.toNat,ρ1) else .bad) R:=h1
  by_cases z:-(2 ^ 62)<=j/\j < 2 ^ 62
  ·rw [if_pos z] at h1
   exact ⟨j,rfl,z.1,z.2,h1 _ F1 H1 rp1 c1 itr_is⟩
  ·rw [if_neg z] at h1; exact h1.elim
 | _=>exact h1.elim
def tGd (C:Ct) (own:List Nat) (g:D->Sl->Out Sl):TG:=fun v σ H Q=>∃ F ρ d,Rep C.K own F H σ ρ/\Is C.K F v d/\∃ ρ',g d ρ=.ok ρ'/\∀ σ',Rep C.K own F H σ' ρ'->(∀ b,OA own σ' b->OA own σ b)->(∀ i∈C.io,σ'[i]?=σ[i]?)->Q σ' H
def tGds (C:Ct) (own:List Nat) (g:List D->Sl->Out Sl):TGs:=fun vs σ H Q=>∃ F ρ ds,Rep C.K own F H σ ρ/\IsL C.K F vs ds/\∃ ρ',g ds ρ=.ok ρ'/\∀ σ',Rep C.K own F H σ' ρ'->(∀ b,OA own σ' b->OA own σ b)->(∀ i∈C.io,σ'[i]?=σ[i]?)->Q σ' H
theorem pg_to {t t':TG} (h:PG X e t) (i:∀ v σ H Q,t' v σ H Q->t v σ H Q):PG X e t':=⟨fun pins s σ H v u Q I r hw=>h pins s σ H v u Q I r (i v σ H Q hw)⟩
theorem pgs_to {es:List Expr} {t t':TGs} (h:PGs X es t) (i:∀ v σ H Q,t' v σ H Q->t v σ H Q):PGs X es t':=⟨fun pins s σ H v u Q I r hw=>h pins s σ H v u Q I r (i v σ H Q hw)⟩
noncomputable def gNm (i:Nat):D->Sl->Out Sl:=fun d ρ=>if i < ρ.length then .ok (ρ.set i (some d)) else .bad
theorem dropL_self {own:List Nat} {i:Nat} (h:i∉own):dropL own [i]=own:=by
 unfold dropL
 rw [List.filter_eq_self]
 intro j hj
 simp only [List.mem_singleton,decide_eq_true_eq]
 exact fun z=>h (by rw [<-z]; exact hj)
theorem pdg_name {i:Nat} {x:Str} (hN:X.N.Nodup) (hi:X.N[i]?=some x) (hx:Loc X.env.scope x) (ho:i∉own:=by decide) (hio:i∉C.io:=by exact nin_of rfl) (hf:X.fn x=true\/X.env.scope.names.lookup x=some .local:=by first | exact .inl rfl | exact .inr rfl):PG X (.Name x pos) (tGd C own (gNm i)):=by
 refine pg_to (pg_name hN hi hx hf) fun v σ H Q ⟨F,ρ,d,rp,is,ρ',e,k⟩=>?_
 unfold gNm at e
 by_cases z:i < ρ.length
 ·rw [if_pos z] at e
  cases e
  have r2:=rp.put z is
  rw [dropL_self ho] at r2
  refine k _ r2 (fun b q=>?_) fun j hj=>List.getElem?_set_ne fun q=>hio (by rw [q]; exact hj)
  have q':OA (dropL own [i]) (σ.set i (some v)) b:=by rw [dropL_self ho]; exact q
  exact q'.put
 ·rw [if_neg z] at e; cases e
noncomputable def gNilD:List D->Sl->Out Sl
 | [],ρ=>.ok ρ
 | _::_,_=>.bad
noncomputable def gConsD (g:D->Sl->Out Sl) (gs:List D->Sl->Out Sl):List D->Sl->Out Sl
 | d::ds,ρ=>(g d ρ).bind fun ρ1=>gs ds ρ1
 | [],_=>.bad
theorem pdgs_nil:PGs X [] (tGds C own gNilD):=by
 refine pgs_to pgs_nil fun vs σ H Q ⟨F,ρ,ds,rp,is,ρ',e,k⟩=>?_
 cases is with
 | nil=>cases e; exact ⟨rfl,k σ rp (fun _ z=>z) fun _ _=>rfl⟩
 | cons _ _=>cases e
theorem pdgs_cons {es:List Expr} {g:D->Sl->Out Sl} {gs:List D->Sl->Out Sl} (h1:PG X e (tGd C own g)) (h2:PGs X es (tGds C own gs)) (hs:(assignEach (e::es) X.env).map (·.2)=assign e X.env::(assignEach es X.env).map (·.2):=by rfl):PGs X (e::es) (tGds C own (gConsD g gs)):=by
 refine pgs_to (pgs_cons h1 h2 hs) fun vs σ H Q ⟨F,ρ,ds,rp,is,ρ',e,k⟩=>?_
 cases is with
 | nil=>cases e
 | @cons v d vs ds a t=>
  have e:(g d ρ).bind (fun ρ1=>gs ds ρ1)=.ok ρ':=e
  cases q:g d ρ with
  | ok ρ1=>
   rw [q] at e
   exact ⟨v,vs,rfl,F,ρ,d,rp,a,ρ1,q,fun σ1 rp1 oa1 io1=>⟨F,ρ1,ds,rp1,t,ρ',e,fun σ2 rp2 oa2 io2=>k σ2 rp2 (fun b z=>oa1 b (oa2 b z)) fun i hi=>(io2 i hi).trans (io1 i hi)⟩⟩
  | exc c=>rw [q] at e; cases e
  | bad=>rw [q] at e; cases e
noncomputable def gTupD (n:Nat) (gs:List D->Sl->Out Sl):D->Sl->Out Sl
 | .tup ds,ρ=>if ds.length=n then gs ds ρ else .bad
 | _,_=>.bad
theorem pdg_tup {es:List Expr} {k n:Nat} {gs:List D->Sl->Out Sl} (hK:C.K=X.K) (hc:X.calm=true) (h:PGs X es (tGds C own gs)) (hn:(assignEach es X.env).length=n:=by rfl) (hst:(assignEach es X.env).findIdx? (·.1)=none:=by rfl):PG X (.Tuple es k pos) (tGd C own (gTupD n gs)):=by
 refine pg_to (pg_tup hc h hn hst) fun v σ H Q ⟨F,ρ,d,rp,is,ρ',e,k⟩=>?_
 cases is with
 | @tup a xs ds p t=>
  have e:(if ds.length=n then gs ds ρ else .bad)=.ok ρ':=e
  by_cases z:ds.length=n
  ·rw [if_pos z] at e
   exact ⟨a,xs,rfl,by rw [<-hK]; exact sqT_mono rp.sub p,by rw [t.length]; exact z,F,ρ,ds,rp,t,ρ',e,k⟩
  ·rw [if_neg z] at e; cases e
 | _=>cases e
noncomputable def sAsg (fe:Sl->Out (D×Sl)) (g:D->Sl->Out Sl):Sl->Out (Fl×Sl):=fun ρ=>(fe ρ).bind fun p=>match g p.1 p.2 with
 | .ok ρ'=>.ok (.nx,ρ')
 | _=>.bad
noncomputable def forD (g:D->Sl->Out Sl) (fb:Sl->Out (Fl×Sl)):List D->Sl->Out (Fl×Sl)
 | [],ρ=>.ok (.nx,ρ)
 | d::ds,ρ=>(g d ρ).plain.bind fun ρ1=>(fb ρ1).bind fun p=>match p.1 with
  | .nx=>forD g fb ds p.2
  | .ct=>forD g fb ds p.2
  | .bk=>.ok (.nx,p.2)
  | .rt v=>.ok (.rt v,p.2)
noncomputable def sFor (fi:Sl->Out (List D×Sl)) (g:D->Sl->Out Sl) (fb:Sl->Out (Fl×Sl)):Sl->Out (Fl×Sl):=fun ρ=>(fi ρ).bind fun p=>forD g fb p.1 p.2
theorem pds_for {iter:Expr} {body:List Stmt} {fi:Sl->Out (List D×Sl)} {g:D->Sl->Out Sl} {fb:Sl->Out (Fl×Sl)} (hp:PassesOwn (model X.prog X.w) X.A X.env X.xe) (hc:X.calm=true) (hi:PI X tg iter (tIt C own fi)) (hg:PG X tg (tGd C own g))
  (hb:PSs X body (tSt { C with ol:=own } own own fb)) (hs:∀ x,foldedSetIterable iter X.env x=pure x:=by intro _; rfl):PS X (.For tg iter body [] pos) (tSt C own own (sFor fi g fb)):=by
 refine ps_to (ps_for hp hc hi hg hb hs) fun D σ H ⟨F,ρ,rp,h⟩=>⟨F,ρ,rp,?_⟩
 unfold sFor at h
 cases q0:fi ρ with
 | exc c=>rw [q0] at h; exact h
 | bad=>rw [q0] at h; exact h.elim
 | ok p=>
  rw [q0] at h
  obtain ⟨ds,ρ1⟩:=p
  intro J F1 H1 rp1 c1 it
  have h:PoS C own own σ F H (forD g fb ds ρ1) D:=h
  refine ⟨fun i m σ' H'=>m=ds.length - i/\i<=ds.length/\∃ F' ρ',Nx C own own σ F H ρ' σ' F' H'/\Same F1 F'/\PoS C own own σ' F' H' (forD g fb (ds.drop i) ρ') D,⟨ds.length,by simp,Nat.zero_le _,F1,ρ1,.ofE rp1 c1,Same.refl _,h.shift (.ofE rp1 c1)⟩,?_⟩
  rintro i m σ' H' ⟨rfl,hle,F',ρ',nx,gr,po⟩
  by_cases hlt:i < ds.length
  ·have hd:ds.drop i=ds[i]::ds.drop (i+1):=List.drop_eq_getElem_cons hlt
   rw [hd] at po
   have po:PoS C own own σ' F' H' ((g ds[i] ρ').plain.bind fun ρ1=>(fb ρ1).bind fun p=>match p.1 with | .nx=>forD g fb (ds.drop (i+1)) p.2 | .ct=>forD g fb (ds.drop (i+1)) p.2 | .bk=>.ok (.nx,p.2) | .rt v=>.ok (.rt v,p.2)) D:=po
   refine .inr ⟨it.go i H' hlt (gr.trans nx.rep.sub),fun σ2 H2=>ds.length - (i+1)=ds.length - (i+1)/\i+1<=ds.length/\∃ F' ρ',Nx C own own σ F H ρ' σ2 F' H2/\Same F1 F'/\PoS C own own σ2 F' H2 (forD g fb (ds.drop (i+1)) ρ') D,fun σ2 H2 q=>⟨ds.length - (i+1),by omega,q⟩,fun x H2 y=>?_⟩
   obtain ⟨F2,c2,s2,is2⟩:=it.yld i F' H' x H2 ds[i] (by simp [hlt]) gr nx.rep.sub y
   cases q1:g ds[i] ρ' with
   | exc c=>rw [q1] at po; exact po.elim
   | bad=>rw [q1] at po; exact po.elim
   | ok ρ2=>
    rw [q1] at po
    refine ⟨F2,ρ',ds[i],nx.rep.grow c2 s2,is2,ρ2,q1,fun σ3 rp3 oa3 io3=>⟨F2,ρ2,rp3,?_⟩⟩
    have n3:Nx C own own σ' F' H' ρ2 σ3 F2 H2:=⟨rp3,c2.ofNo,fun b z=>.inl (oa3 b z),io3⟩
    have po3:=PoS.shift (show PoS C own own σ' F' H' ((fb ρ2).bind fun p=>match p.1 with | .nx=>forD g fb (ds.drop (i+1)) p.2 | .ct=>forD g fb (ds.drop (i+1)) p.2 | .bk=>.ok (.nx,p.2) | .rt v=>.ok (.rt v,p.2)) D from po) n3
    have up:∀ {ρ4 σ4 F4 H4},Nx { C with ol:=own } own own σ3 F2 H2 ρ4 σ4 F4 H4->Nx C own own σ3 F2 H2 ρ4 σ4 F4 H4:=fun z=>⟨z.rep,z.chg,z.oa,z.io⟩
    cases q2:fb ρ2 with
    | exc c=>rw [q2] at po3; exact po3
    | bad=>rw [q2] at po3; exact po3.elim
    | ok p=>
     rw [q2] at po3
     obtain ⟨fl,ρ4⟩:=p
     cases fl with
     | nx=>exact fun σ4 F4 H4 n4=>⟨rfl,hlt,F4,ρ4,(nx.then n3).then (up n4),(gr.trans c2.grow).trans n4.chg.grow,PoS.shift (show PoS C own own σ3 F2 H2 (forD g fb (ds.drop (i+1)) ρ4) D from po3) (up n4)⟩
     | ct=>exact fun σ4 F4 H4 n4=>⟨rfl,hlt,F4,ρ4,(nx.then n3).then (up n4),(gr.trans c2.grow).trans n4.chg.grow,PoS.shift (show PoS C own own σ3 F2 H2 (forD g fb (ds.drop (i+1)) ρ4) D from po3) (up n4)⟩
     | bk=>exact fun σ4 F4 H4 n4=>po3 σ4 F4 H4 (up n4)
     | rt d=>exact fun v σ4 F4 H4 s io c e mo=>po3 v σ4 F4 H4 s io c e mo
  ·have e:i=ds.length:=by omega
   subst e
   rw [List.drop_length] at po
   exact .inl ⟨it.stop _ H' (Nat.le_refl _) (gr.trans nx.rep.sub),po σ' F' H' (.refl nx.rep)⟩
end
noncomputable def clOf (cells:List (Str×Addr)):List (Str×NameKind)->List (Str×Addr)->List (Str×Addr)
 | [],acc=>acc
 | (n,k)::r,acc=>if (k == .free)=true then clOf cells r ((n,(cells.lookup n).getD 0)::acc) else clOf cells r acc
theorem closure_loop {env:Env}:∀ (names:List (Str×NameKind)) (acc:List (Str×Addr)),(∀ x∈names,x.2=.free->∃ c,env.cells.lookup x.1=some c) ->
  (forIn names acc fun (x:Str×NameKind) (cs:List (Str×Addr))=>if (x.2 == NameKind.free)=true then (do let a <-cellOf env x.1; pure (ForInStep.yield ((x.1,a)::cs))) else pure (ForInStep.yield cs):Sem (List (Str×Addr)))=pure (clOf env.cells names acc)
 | [],acc,_=>rfl
 | (n,k)::r,acc,h=>by
  rw [List.forIn_cons]
  by_cases q:(k == NameKind.free)=true
  ·obtain ⟨c,hc⟩:=h (n,k) List.mem_cons_self (by simpa using q)
   have e:cellOf env n=pure c:=by unfold cellOf; rw [hc]
   simp only [q,if_true,e]
   have ih:=closure_loop r ((n,c)::acc) (fun x hx=>h x (List.mem_cons_of_mem _ hx))
   simp only [clOf,q,if_true,hc,Option.getD_some]
   exact ih
  ·simp only [q,if_false,clOf]
   exact closure_loop r acc (fun x hx=>h x (List.mem_cons_of_mem _ hx))
theorem closure_of {scope:Scope} {env:Env} (h:∀ x∈scope.names,x.2=.free->∃ c,env.cells.lookup x.1=some c):closureFor scope env=pure (clOf env.cells scope.names []):=by
 have:=closure_loop scope.names [] h
 unfold closureFor
 simp only [bind_pure]
 exact this
theorem clOf_lookup {cells:List (Str×Addr)}:∀ {names:List (Str×NameKind)} {acc:List (Str×Addr)} {x:Str} {c:Addr},(∀ y∈names,y.2=.free->∃ c,cells.lookup y.1=some c)->(clOf cells names acc).lookup x=some c->cells.lookup x=some c\/acc.lookup x=some c
 | [],acc,x,c,_,h=>.inr h
 | (n,k)::r,acc,x,c,hf,h=>by
  unfold clOf at h
  by_cases q:(k == NameKind.free)=true
  ·rw [if_pos q] at h
   obtain ⟨c',hc⟩:=hf (n,k) List.mem_cons_self (by simpa using q)
   rcases clOf_lookup (fun y hy=>hf y (List.mem_cons_of_mem _ hy)) h with z | z
   ·exact .inl z
   ·rw [List.lookup_cons] at z
    have hc:cells.lookup n=some c':=hc
    by_cases e:(x == n)=true
    ·rw [e] at z
     simp only [hc,Option.getD_some] at z
     have:x=n:=by simpa using e
     subst this
     rw [hc]; exact .inl z
    ·have e:(x == n)=false:=by simpa using e
     rw [e] at z
     exact .inr z
  ·rw [if_neg q] at h
   exact clOf_lookup (fun y hy=>hf y (List.mem_cons_of_mem _ hy)) h
theorem clOf_acc {cells:List (Str×Addr)}:∀ {names:List (Str×NameKind)} {acc:List (Str×Addr)} {x:Str},(∃ c,acc.lookup x=some c)->∃ c,(clOf cells names acc).lookup x=some c
 | [],_,_,h=>h
 | (n,k)::r,acc,x,h=>by
  unfold clOf
  by_cases q:(k == NameKind.free)=true
  ·rw [if_pos q]
   refine clOf_acc ?_
   obtain ⟨c,hc⟩:=h
   rw [List.lookup_cons]
   by_cases e:(x == n)=true
   ·rw [e]; exact ⟨_,rfl⟩
   ·have e:(x == n)=false:=by simpa using e
    rw [e]; exact ⟨c,hc⟩
  ·rw [if_neg q]; exact clOf_acc h
theorem clOf_has {cells:List (Str×Addr)}:∀ {names:List (Str×NameKind)} {acc:List (Str×Addr)} {x:Str},(x,NameKind.free)∈names->∃ c,(clOf cells names acc).lookup x=some c
 | (n,k)::r,acc,x,h=>by
  unfold clOf
  rcases List.mem_cons.mp h with e | h
  ·cases e
   rw [if_pos (by rfl)]
   refine clOf_acc ?_
   rw [List.lookup_cons,beq_self_eq_true]
   exact ⟨_,rfl⟩
  ·by_cases q:(k == NameKind.free)=true
   ·rw [if_pos q]; exact clOf_has h
   ·rw [if_neg q]; exact clOf_has h
noncomputable def cxComp (X:Cx) (scope:Scope) (N:List Str) (fp:List Addr) (L:Addr) (s:Shared) (H:Hp):Cx:=
 { X with N:=N,s₀:=s,H₀:=H,env:=compEnvC scope (clOf X.env.cells scope.names []) L X.env,outer:=X.stack,stack:=X.stack,ex:=fp,fn:=fun _=>false,pn:=[],xe:=fun _ _=>False }
structure ScOk (X:Cx) (scope:Scope):Prop where
 kind:scope.kind=.function
 nocell:∀ y∈scope.names,y.2≠.cell
 names:∀ y∈scope.names,y.2=.local->scope.names.lookup y.1=some .local
 free:∀ y∈scope.names,y.2=.free->X.env.kindOf y.1=some .cell\/X.env.kindOf y.1=some .free
 frl:∀ y∈scope.names,y.2=.free->scope.names.lookup y.1=some .free
theorem lookup_mem {α:Type} {x:Str} {a:α}:∀ {l:List (Str×α)},l.lookup x=some a->(x,a)∈l
 | [],h=>by simp at h
 | (n,k)::r,h=>by
  rw [List.lookup_cons] at h
  by_cases e:(x == n)=true
  ·rw [e] at h
   have h:some k=some a:=h
   cases h
   have:x=n:=by simpa using e
   subst this
   exact List.mem_cons_self
  ·have e:(x == n)=false:=by simpa using e
   rw [e] at h
   exact List.mem_cons_of_mem _ (lookup_mem h)
theorem relabel_kind {scope:Scope} {env:Env} {x:Str} {k:NameKind} (h:(relabel scope env).names.lookup x=some k) (hk:k=.cell\/k=.free) (hn:∀ y∈scope.names,y.2≠.cell):(x,NameKind.free)∈scope.names:=by
 have m:=lookup_mem h
 obtain ⟨⟨n,k'⟩,hm,e⟩:=List.mem_map.mp m
 dsimp only at e
 by_cases q:(k' == NameKind.free&&env.scope.kind == .function&&env.kindOf n == some .cell)=true
 ·rw [if_pos q] at e
  cases e
  have:k'=.free:=by
   rw [Bool.and_eq_true,Bool.and_eq_true] at q
   simpa using q.1.1
  subst this
  exact hm
 ·rw [if_neg q] at e
  cases e
  rcases hk with rfl | rfl
  ·exact absurd rfl (hn _ hm)
  ·exact hm
section
variable {X:Cx} {pins:List (Addr×Obj)} {σ σc:St} {H:Hp} {s:Shared} {scope:Scope} {N:List Str} {fp:List Addr}
theorem free_cell (I:Inv X pins σ H s) (S:ScOk X scope):∀ y∈scope.names,y.2=.free->∃ c,X.env.cells.lookup y.1=some c:=fun y hy e=>I.ok.has y.1 (S.free y hy e)
theorem inv_comp {h':Heap} (I:Inv X pins σ H s) (S:ScOk X scope) (hf:∀ b∈fp,FpOk X pins H b) (ho:∀ b∈fp,b < s.heap.objs.size) (hns:h'.Ns s.heap.objs.size (fun _=>none))
  (hk:∀ b o,s.heap.get? b=some o->h'.get? b=some o) (hl:σc.length=N.length)
  (hσ:∀ (j:Nat) (x:Str) (v:V),N[j]?=some x->σc[j]?=some (some v)->∃ i:Nat,X.N[i]?=some x/\σ[i]?=some (some v)/\Vis X.env.scope x/\(x,NameKind.free)∈scope.names) {t:Nat} :
  Inv (cxComp X scope N fp s.heap.objs.size s H) [] σc H { s with heap:=h',toks:=t }:=by
 have hfc:=free_cell I S
 have cl:∀ x c,(clOf X.env.cells scope.names []).lookup x=some c->X.env.cells.lookup x=some c:=fun x c e=>(clOf_lookup hfc e).resolve_right (by simp)
 have nfs:∀ b∈fp,b∉frs X.stack:=fun b hb z=>by
  obtain ⟨f0,f1,f2,_⟩:=hf b hb
  rcases List.mem_cons.mp (I.stkSub b z) with e | e
  ·exact f1 e
  ·exact f2 e
 refine ⟨⟨I.ok.mod,?_,I.ok.glob,I.ok.blt,Nat.le_refl _,fun x y c h1 h2=>I.ok.inj x y c (cl x c h1) (cl y c h2),fun x hx=>?_,fun x c h=>absurd h (by show ¬(false=true); exact Bool.false_ne_true),I.ok.hd,I.ok.frames,.inl rfl,fun b hb=>⟨Nat.ne_of_lt (ho b hb),fun x c e z=>?_⟩,I.bs,Nat.le_trans I.ok.bsz I.sz,fun b o e hb=>?_,nfs,I.stack,I.stkFree⟩,
  rfl,I.bare,Un.kept hk,⟨_,hns,fun j x v e1 e2 e3=>?_⟩,fun x c e=>?_,I.hok.fresh (Nat.le_refl _),fun x c e=>I.freeC x c (cl x c e),fun p hp=>absurd (show p∈([]:List (Addr×Obj)) from hp) (by simp),I.hok.kept hk,hl⟩
 ·exact S.kind
 ·refine clOf_has ?_
  rcases hx with hx | hx
  ·exact relabel_kind hx (.inl rfl) S.nocell
  ·exact relabel_kind hx (.inr rfl) S.nocell
 ·exact (hf b hb).2.2.2.2.1 x c (cl x c e) z
 ·rcases (hf b hb).2.2.2.1 with z | z
  ·exact I.ok.noex b o e z
  ·have hlt:=Heap.lt_size e
   exact absurd (Nat.lt_of_lt_of_le hlt (Nat.le_trans I.ok.bsz z)) (Nat.lt_irrefl _)
 ·obtain ⟨i,g1,g2,g3,g4⟩:=hσ j x v e1 e2
  obtain ⟨m,hn,hl'⟩:=I.loc
  obtain ⟨u,r,look⟩:=hl' i x v g1 g2 g3
  refine ⟨u,r,?_⟩
  obtain ⟨c0,hc0⟩:=clOf_has (cells:=X.env.cells) (acc:=[]) g4
  have hce:=cl x c0 hc0
  have kd:(cxComp X scope N fp s.heap.objs.size s H).env.kindOf x=some .cell\/(cxComp X scope N fp s.heap.objs.size s H).env.kindOf x=some .free\/(cxComp X scope N fp s.heap.objs.size s H).env.kindOf x=some .local:=by
   rcases e3 with z | z | z
   ·exact .inr (.inr z)
   ·exact .inl z
   ·exact .inr (.inl z)
  rcases look with ⟨k,_⟩ | ⟨k,c,hc,z⟩
  ·rcases S.free _ g4 rfl with q | q
   ·have q:X.env.kindOf x=some .cell:=q
    rw [k] at q; cases q
   ·have q:X.env.kindOf x=some .free:=q
    rw [k] at q; cases q
  ·rw [hce] at hc
   cases hc
   obtain ⟨oc,ho1,ho2⟩:=z
   rcases kd with q | q | q
   ·exact .inr ⟨.inl q,c0,hc0,⟨oc,hk _ _ ho1,ho2⟩⟩
   ·exact .inr ⟨.inr q,c0,hc0,⟨oc,hk _ _ ho1,ho2⟩⟩
   ·refine absurd q ?_
    intro q
    have m2:=lookup_mem (show (relabel scope X.env).names.lookup x=some .local from q)
    obtain ⟨⟨n,k'⟩,hm,e⟩:=List.mem_map.mp m2
    dsimp only at e
    by_cases qq:(k' == NameKind.free&&X.env.scope.kind == .function&&X.env.kindOf n == some .cell)=true
    ·rw [if_pos qq] at e; cases e
    ·rw [if_neg qq] at e
     cases e
     have e1:=S.names _ hm rfl
     have e2:=S.frl _ g4 rfl
     have e1:scope.names.lookup x=some .local:=e1
     have e2:scope.names.lookup x=some .free:=e2
     rw [e1] at e2
     cases e2
 ·obtain ⟨v,oc,ho1,ho2⟩:=I.cell x c (cl x c e)
  exact ⟨v,oc,hk _ _ ho1,ho2⟩
theorem inv_left {H1 H':Hp} {s1 s':Shared} {h':Heap} {L:Addr} (I:Inv X pins σ H s) (hf:∀ b∈fp,FpOk X pins H b) (J:Inv (cxComp X scope N fp s.heap.objs.size s H) [] σc H' s') (sb:Heap.SameBut s.heap.objs.size s'.heap h'):Inv X pins σ H' { s' with heap:=h' }:=by
 have hL:H' s.heap.objs.size=none:=J.free
 have ne:∀ b o,s.heap.get? b=some o->b≠s.heap.objs.size:=fun b o e=>Nat.ne_of_lt (Heap.lt_size e)
 have U:Un (frs X.stack) fp H H' s.heap s'.heap:=J.base
 refine I.call' (s':={ s' with heap:=h' }) (ch:=fp) J.os ⟨fun b o e n h1 h2=>(sb.2 b (ne b o e)).trans (U.keep b o e n h1 h2),fun b o e n h1 h2=>?_,U.free,fun b o e h2=>?_,U.tups,U.frzs,U.tbls⟩ (fun b u e=>?_) J.bare fun b hb=>?_
 ·obtain ⟨sl,q⟩:=U.slot b o e n h1 h2
  exact ⟨sl,(sb.2 b (ne b o e)).trans q⟩
 ·obtain ⟨o',q⟩:=U.there b o e h2
  exact ⟨o',(sb.2 b (ne b o e)).trans q⟩
 ·refine (J.hok b u e).stay (fun c w hc q=>(sb.2 c ?_).trans q) (fun _ q=>q) fun _ _ q=>q
  rintro rfl
  rcases hc with z | z
  ·rw [<-z,hL] at e; cases e
  ·rw [hL] at z; cases z
 ·obtain ⟨f0,f1,f2,f3,f4,f5⟩:=hf b hb
  exact ⟨f3,f1,f4,f5⟩
end
theorem comp_loop_any {prog:Program} {w:World} {A:Around} {R:Result->Shared->Prop} {s:Shared} {elt target iter:Expr} {ifs:List Expr} {scope:Scope} {pos:Pos} {it acc:Value} {env:Env} (I:Nat->Shared->Prop)
  (turn:∀ n s,I n s->wpAny (model prog w) A (pyNext it) (fun r s₁=>match r with
   | none=>R (.ok .next) s₁
   | some v=>wpAny (model prog w) A (letOwnedTupleGo target it v) (fun _ t₁=>wpAny (model prog w) A (assign target env v) (fun _ s₂=>
     wpAny (model prog w) A (forIn ifs true fun c r=>if r=true then do let ok <-isTrue c env (eval c env); pure (ForInStep.yield ok) else pure (ForInStep.yield r)) (fun ok s₃=>
      if ok=true then wpAny (model prog w) A (eval elt env) (fun x s₄=>
       wpAny (model prog w) A (call (.builtin "list.append") [acc,x]) (fun _ s₅=>∃ m,m < n/\I m s₅) (fun _ _=>False) s₄) (fun _ _=>False) s₃
      else ∃ m,m < n/\I m s₃) (fun _ _=>False) s₂) (fun _ _=>False) t₁) (fun _ _=>False) s₁) (fun _ _=>False) s)
  (n:Nat) (h:I n s):codeAny (model prog w) A (.compLoop (.ListComp elt [⟨target,iter,ifs,0⟩] scope pos) 0 it acc env) R s:=by
 have no:∀ {α:Type} {t:Sem α} {Q Q':α->Shared->Prop} {E':Value->Shared->Prop} {s:Shared},wpAny (model prog w) A t Q (fun _ _=>False) s->(∀ a s,Q a s->Q' a s)->wpAny (model prog w) A t Q' E' s:=fun h k=>wpAny_mono h k fun _ _ z=>z.elim
 refine codeAny_loop rfl I (fun n s hI=>?_) n h
 show wpAny _ A ((compTurn (.ListComp elt [⟨target,iter,ifs,0⟩] scope pos) 0 it acc env).onRaise (fun x=>do noteFrame x env; theTreesLotGoes x)) _ _ s
 refine wpAny_noted ?_
 rw [compTurn_list]
 refine wpAny_bind (wpAny_standAt (wpAny_bind (no (turn n s hI) fun r s₁ h₁=>?_)))
 cases r with
 | none=>exact wpAny_pure h₁
 | some v=>
  refine wpAny_bind (no h₁ fun _ t₁ k₁=>wpAny_bind (no k₁ fun _ s₂ h₂=>wpAny_bind (no h₂ fun ok s₃ h₃=>?_)))
  cases ok with
  | false=>exact wpAny_pure ⟨rfl,h₃⟩
  | true=>exact wpAny_bind (wpAny_bind (no h₃ fun x s₄ h₄=>wpAny_bind (no h₄ fun _ s₅ h₅=>wpAny_pure (wpAny_pure ⟨rfl,h₅⟩))))
structure PTs (Y:Cx) (ifs:List Expr) (t:TT):Prop where
 run:∀ (pins:List (Addr×Obj)) (s:Shared) (σ:St) (H:Hp) (Q:Bool->Hp->Prop),Inv Y pins σ H s->t σ H Q ->
  wpAny (model Y.prog Y.w) Y.A (forIn ifs true fun c r=>if r=true then do let ok <-isTrue c Y.env (eval c Y.env); pure (ForInStep.yield ok) else pure (ForInStep.yield r)) (TP Y pins σ Q) Y.xe s
instance {Y:Cx} {ifs:List Expr} {t:TT}:CoeFun (PTs Y ifs t) (fun _=>∀ (pins:List (Addr×Obj)) (s:Shared) (σ:St) (H:Hp) (Q:Bool->Hp->Prop),Inv Y pins σ H s->t σ H Q ->
  wpAny (model Y.prog Y.w) Y.A (forIn ifs true fun c r=>if r=true then do let ok <-isTrue c Y.env (eval c Y.env); pure (ForInStep.yield ok) else pure (ForInStep.yield r)) (TP Y pins σ Q) Y.xe s):=⟨fun h=>h.run⟩
theorem pts_nil {Y:Cx}:PTs Y [] (fun _ H Q=>Q true H):=⟨fun _ _ _ H _ I h=>wpAny_tests_nil ⟨H,I,h⟩⟩
theorem pts_one {Y:Cx} {c:Expr} {t:TT} (h:PT Y c t):PTs Y [c] t:=⟨fun pins s σ H Q I q=>wpAny_tests_one (h pins s σ H Q I q)⟩
section
variable {X:Cx} {pins:List (Addr×Obj)} {σ σc:St} {H:Hp} {s:Shared} {scope:Scope} {N:List Str} {fp:List Addr} {it:Addr} {tn:Nat->Heap->Prop} {J:It} {tg elt iter:Expr} {ifs:List Expr} {pos:Pos} {g:TG} {tt:TT} {te:TE} {E:Value->Shared->Prop}
theorem comp_run (I:Inv X pins σ H s) (hcalm:X.calm=true) (S:ScOk X scope) (T:Turn X.prog X.w X.K tg J fp it tn) (st0:tn 0 s.heap) (hf:∀ b∈fp,FpOk X pins H b)
  (hg:∀ fp L s' H',PG (cxComp X scope N fp L s' H') tg g) (ht:∀ fp L s' H',PTs (cxComp X scope N fp L s' H') ifs tt) (he:∀ fp L s' H',PE (cxComp X scope N fp L s' H') elt te) (hl:σc.length=N.length)
  (hσ:∀ (j:Nat) (x:Str) (v:V),N[j]?=some x->σc[j]?=some (some v)->∃ i:Nat,X.N[i]?=some x/\σ[i]?=some (some v)/\Vis X.env.scope x/\(x,NameKind.free)∈scope.names)
  (W:Addr->Nat->Nat->St->Hp->Prop) (Fin:Addr->Hp->Prop) (w0:∀ p,H p=none->∃ m,W p 0 m σc (upd H p (.lst [])))
  (turn:∀ p i m σ1 H1,W p i m σ1 H1->(J.stop i H1/\Fin p H1)\/(J.go i H1/\∀ x H2,J.yld i H1 x H2->g x σ1 H2 fun σ2 H3=>tt σ2 H3 fun b H4=>if b=true then te σ2 H4 fun y H5=>∃ xs,H5 p=some (.lst xs)/\xs.length < sizeLine/\∃ m',m' < m/\W p (i+1) m' σ2 (upd H5 p (.lst (xs++[y]))) else ∃ m',m' < m/\W p (i+1) m' σ2 H4))
  (RR:Value->Addr->Result->Shared->Prop)
  (hRR:∀ p L H' s',Fin p H'->(∃ m,s'.heap.Ns L m)->FpOk X pins H' L->(∀ h',Heap.SameBut L s'.heap h'->Inv X pins σ H' { s' with heap:=h' })->RR (.ref p) L (.ok .next) s') :
  wpAny (model X.prog X.w) X.A (newList []) (fun acc s₃=>wpAny (model X.prog X.w) X.A (newFunctionEnv scope X.env.globals (clOf X.env.cells scope.names []) [] X.env.qual none .none (some X.env)) (fun cenv s₄=>
   codeAny (model X.prog X.w) X.A (.compStart (.ListComp elt [⟨tg,iter,ifs,0⟩] scope pos) 0 (.ref it) acc { cenv with scope:=relabel scope X.env }) (RR acc cenv.locals) s₄) E s₃) E s:=by
 have hfo:∀ b∈fp,b < s.heap.objs.size:=fun b hb=>let ⟨o,e,_⟩:=T.obj 0 _ st0 b hb; Heap.lt_size e
 have hfresh:=I.fresh
 have I3:Inv X pins σ (upd H s.heap.objs.size (.lst [])) { s with heap:=s.heap.push { cls:=.type "list",data:=.seq ([]:List Value).toArray } }:=I.lnew (t':=s.toks) (ys:=[]) (its:=[]) .nil (Nat.zero_le _)
 have hf3:∀ b∈fp,FpOk X pins (upd H s.heap.objs.size (.lst [])) b:=fun b hb=>⟨by rw [upd_ne (Nat.ne_of_lt (hfo b hb))]; exact (hf b hb).1,(hf b hb).2⟩
 have st3:tn 0 (s.heap.push { cls:=.type "list",data:=.seq ([]:List Value).toArray }):=T.keep 0 _ _ st0 fun b hb o e=>Heap.get?_push_of_some _ e
 refine wpAny_newObj_type (wpAny_newFunctionEnv S.nocell (fun y hy=>by simp at hy) (fun h₁ hns₁ hsb₁=>?_) S.kind)
 dsimp only at hns₁ hsb₁ ⊢
 generalize hs3:({ s with heap:=s.heap.push { cls:=.type "list",data:=.seq ([]:List Value).toArray } }:Shared)=s3 at I3
 have e3:s3.heap=s.heap.push { cls:=.type "list",data:=.seq ([]:List Value).toArray }:=by rw [<-hs3]
 rw [<-e3] at hns₁ hsb₁ st3 ⊢
 have keep:∀ b o,s3.heap.get? b=some o->h₁.get? b=some o:=fun b o e=>(hsb₁.2 b (Nat.ne_of_lt (Heap.lt_size e))).trans (Heap.get?_push_of_some _ e)
 have ho3:∀ b∈fp,b < s3.heap.objs.size:=fun b hb=>by rw [e3,Heap.size_push]; exact Nat.lt_succ_of_lt (hfo b hb)
 have J1:Inv (cxComp X scope N fp s3.heap.objs.size s3 (upd H s.heap.objs.size (.lst []))) [] σc (upd H s.heap.objs.size (.lst [])) { s3 with heap:=h₁,toks:=s.toks+0 }:=
  inv_comp I3 S hf3 ho3 (by simpa using hns₁) keep hl hσ
 have st4:tn 0 h₁:=T.keep 0 _ _ st3 fun b hb o e=>keep b o e
 have loop:∀ s4:Shared,s4={ s3 with heap:=h₁,toks:=s.toks+0 }->codeAny (model X.prog X.w) X.A (.compLoop (.ListComp elt [⟨tg,iter,ifs,0⟩] scope pos) 0 (.ref it) (.ref s.heap.objs.size) (compEnvC scope (clOf X.env.cells scope.names []) s3.heap.objs.size X.env)) (RR (.ref s.heap.objs.size) s3.heap.objs.size) s4:=by
  rintro s4 rfl
  generalize hY:cxComp X scope N fp s3.heap.objs.size s3 (upd H s.heap.objs.size (.lst []))=Y at J1
  have eP:Y.prog=X.prog:=by rw [<-hY]; rfl
  have ew:Y.w=X.w:=by rw [<-hY]; rfl
  have eA:Y.A=X.A:=by rw [<-hY]; rfl
  have ee:Y.env=compEnvC scope (clOf X.env.cells scope.names []) s3.heap.objs.size X.env:=by rw [<-hY]; rfl
  have eK:Y.K=X.K:=by rw [<-hY]; rfl
  have ec:Y.calm=true:=by rw [<-hY]; exact hcalm
  have ex:Y.xe=fun _ _=>False:=by rw [<-hY]; rfl
  have hgY:PG Y tg g:=by rw [<-hY]; exact hg fp _ _ _
  have htY:PTs Y ifs tt:=by rw [<-hY]; exact ht fp _ _ _
  have heY:PE Y elt te:=by rw [<-hY]; exact he fp _ _ _
  have stat:∀ {H1:Hp},(∀ b∈fp,H1 b=none)->∀ b∈fp,FpOk Y [] H1 b:=fun hn b hb=>by
   have q:=J1.ok.exf b (by rw [<-hY]; exact hb)
   refine ⟨hn b hb,q.1,J1.ok.exfs b (by rw [<-hY]; exact hb),.inl (by rw [<-hY]; exact hb),q.2,fun p hp=>?_⟩
   rw [<-hY] at hp
   exact absurd (show p∈([]:List (Addr×Obj)) from hp) (by simp)
  obtain ⟨m0,hm0⟩:=w0 s.heap.objs.size hfresh
  refine comp_loop_any (fun n s'=>∃ i σ1 H1,Inv Y [] σ1 H1 s'/\tn i s'.heap/\(∀ b∈fp,H1 b=none)/\W s.heap.objs.size i n σ1 H1) ?_ m0 ⟨0,σc,_,J1,st4,fun b hb=>(hf3 b hb).1,hm0⟩
  rintro n s5 ⟨i,σ1,H1,J5,st5,fr5,w5⟩
  rw [<-eP,<-ew,<-eA,<-ee]
  have TY:Turn Y.prog Y.w Y.K tg J fp it tn:=by rw [eP,ew,eK]; exact T
  rcases turn _ i n σ1 H1 w5 with ⟨stop,fin⟩ | ⟨go,step⟩
  ·refine thn (TY.done Y rfl rfl rfl ec i [] s5 σ1 H1 _ J5 (stat fr5) st5 stop) fun r s6 ⟨hr,J6⟩=>?_
   subst hr
   have J6':Inv (cxComp X scope N fp s3.heap.objs.size s3 (upd H s.heap.objs.size (.lst []))) [] σ1 H1 s6:=by rw [hY]; exact J6
   exact hRR _ _ H1 s6 fin (let ⟨m,hn,_⟩:=J6'.loc; ⟨m,hn⟩) (I3.fpOk (Nat.le_refl _) J6'.free) fun h' sb=>inv_left (s1:=s6) (H1:=H1) (L:=0) I3 hf3 J6' sb
  ·refine thn (TY.item Y rfl rfl rfl ec i [] s5 σ1 H1 _ J5 (stat fr5) st5 go) fun r s6 ⟨u,hr,h6⟩=>?_
   subst hr
   refine thn h6 fun _ s7 ⟨x,H7,J7,r7,y7,st7,fr7⟩=>?_
   have J7':=J7.pinned (stat fr7) (TY.obj _ _ st7)
   have back:∀ {σ9:St} {H9:Hp} {s9:Shared},Inv Y ([]++pinsAt fp s7.heap) σ9 H9 s9->(∃ m',m' < n/\W s.heap.objs.size (i+1) m' σ9 H9)->∃ m,m < n/\∃ i σ1 H1,Inv Y [] σ1 H1 s9/\tn i s9.heap/\(∀ b∈fp,H1 b=none)/\W s.heap.objs.size i m σ1 H1:=fun {σ9 H9 s9} J9 ⟨m',hm,w9⟩=>by
    refine ⟨m',hm,i+1,σ9,H9,J9.unpinned,TY.keep _ _ _ st7 fun b hb o e=>(J9.pin (b,o) (List.mem_append_right _ (List.mem_append_right _ (mem_pinsAt hb e)))).1,fun b hb=>?_,w9⟩
    obtain ⟨o,e,d⟩:=TY.obj _ _ st7 b hb
    exact (J9.pin (b,o) (List.mem_append_right _ (List.mem_append_right _ (mem_pinsAt hb e)))).2.1
   rw [<-ex]
   refine thn (hgY _ s7 σ1 H7 x u _ J7' r7 (step x H7 y7)) fun _ s8 ⟨σ8,H8,J8,q8⟩=>?_
   refine thn (htY _ s8 σ8 H8 _ J8 q8) fun ok s9 ⟨H9,J9,q9⟩=>?_
   cases ok with
   | false=>exact back J9 q9
   | true=>
    refine thn (heY _ s9 σ8 H9 _ J9 q9) fun v s10 ⟨y,H10,J10,r10,xs,hx,hlen,q10⟩=>?_
    exact thn (mt_append _ s10 σ8 H10 (.ref s.heap.objs.size) [y] (.ref s.heap.objs.size) [v] (fun _ H11=>∃ m',m' < n/\W s.heap.objs.size (i+1) m' σ8 H11) J10 rfl (.cons r10 .nil) ⟨_,xs,y,rfl,rfl,hx,hlen,q10⟩) fun _ s11 ⟨_,H11,J11,_,q11⟩=>back J11 q11
 have e4:({ heap:=h₁,gens:=s.gens,drawn:=s.drawn,toks:=s.toks+([]:List (Str×Value)).length,os:=s.os }:Shared)={ s3 with heap:=h₁,toks:=s.toks+0 }:=by rw [<-hs3]; rfl
 exact codeAny_compStart_list (loop _ e4) (T.self _ 0 _ _ _ st4 (loop _ e4))
end
noncomputable def capIn {α:Type} (nt:Nat) (cap:List Nat) (ρ:List (Option α)):List (Option α):=List.replicate nt none++cap.map fun k=>(ρ[k]?).getD none
noncomputable def ownC (own:List Nat):Nat->List Nat->List Nat
 | _,[]=>[]
 | n,k::cap=>if k∈own then n::ownC own (n+1) cap else ownC own (n+1) cap
noncomputable def ioC (nt len:Nat):List Nat:=(List.range len).map (nt + ·)
noncomputable def capOut (own:List Nat) (ρc:Sl):Nat->List Nat->Sl->Sl
 | _,[],ρ=>ρ
 | n,k::cap,ρ=>if k∈own then capOut own ρc (n+1) cap (ρ.set k ((ρc[n]?).getD none)) else capOut own ρc (n+1) cap ρ
theorem get_cap {α:Type} {nt:Nat} {cap:List Nat} {ρ:List (Option α)} {i:Nat} {d:α}:(capIn nt cap ρ)[i]?=some (some d)↔∃ j k,i=nt+j/\cap[j]?=some k/\ρ[k]?=some (some d):=by
 unfold capIn
 constructor
 ·intro h
  by_cases hi:i < nt
  ·rw [List.getElem?_append_left (by simpa using hi),List.getElem?_replicate] at h
   split at h <;> cases h
  ·rw [List.getElem?_append_right (by simpa using hi),List.length_replicate,List.getElem?_map] at h
   cases q:cap[i - nt]? with
   | none=>rw [q] at h; cases h
   | some k=>
    rw [q] at h
    have h:(ρ[k]?).getD none=some d:=Option.some.inj h
    refine ⟨i - nt,k,by omega,q,?_⟩
    cases q2:ρ[k]? with
    | none=>rw [q2] at h; cases h
    | some o=>rw [q2] at h; exact congrArg some h
 ·rintro ⟨j,k,rfl,h1,h2⟩
  rw [List.getElem?_append_right (by simp),List.length_replicate,List.getElem?_map,show nt+j - nt=j by omega,h1]
  simp [h2]
theorem mem_ownC {own:List Nat}:∀ {n:Nat} {cap:List Nat} {i:Nat},i∈ownC own n cap↔∃ j k,i=n+j/\cap[j]?=some k/\k∈own
 | n,[],i=>by simp [ownC]
 | n,k::cap,i=>by
  have ih:=@mem_ownC own (n+1) cap i
  unfold ownC
  by_cases hk:k∈own
  ·rw [if_pos hk,List.mem_cons,ih]
   constructor
   ·rintro (rfl | ⟨j,k',e,h1,h2⟩)
    ·exact ⟨0,k,rfl,rfl,hk⟩
    ·exact ⟨j+1,k',by omega,by simpa using h1,h2⟩
   ·rintro ⟨j,k',e,h1,h2⟩
    cases j with
    | zero=>exact .inl (by omega)
    | succ j=>exact .inr ⟨j,k',by omega,by simpa using h1,h2⟩
  ·rw [if_neg hk,ih]
   constructor
   ·rintro ⟨j,k',e,h1,h2⟩
    exact ⟨j+1,k',by omega,by simpa using h1,h2⟩
   ·rintro ⟨j,k',e,h1,h2⟩
    cases j with
    | zero=>simp at h1; subst h1; exact absurd h2 hk
    | succ j=>exact ⟨j,k',by omega,by simpa using h1,h2⟩
theorem mem_ioC {nt len i:Nat}:i∈ioC nt len↔∃ j,j < len/\i=nt+j:=by
 unfold ioC
 rw [List.mem_map]
 constructor
 ·rintro ⟨j,h1,h2⟩; exact ⟨j,List.mem_range.mp h1,h2.symm⟩
 ·rintro ⟨j,h1,h2⟩; exact ⟨j,List.mem_range.mpr h1,h2.symm⟩
theorem capOut_len {own:List Nat} {ρc:Sl}:∀ {n:Nat} {cap:List Nat} {ρ:Sl},(capOut own ρc n cap ρ).length=ρ.length
 | _,[],_=>rfl
 | n,k::cap,ρ=>by
  unfold capOut
  by_cases hk:k∈own
  ·rw [if_pos hk,capOut_len,List.length_set]
  ·rw [if_neg hk,capOut_len]
theorem capOut_out {own:List Nat} {ρc:Sl}:∀ {n:Nat} {cap:List Nat} {ρ:Sl} {i:Nat},¬(i∈cap/\i∈own)->(capOut own ρc n cap ρ)[i]?=ρ[i]?
 | _,[],_,_,_=>rfl
 | n,k::cap,ρ,i,h=>by
  unfold capOut
  have h':¬(i∈cap/\i∈own):=fun z=>h ⟨List.mem_cons_of_mem _ z.1,z.2⟩
  by_cases hk:k∈own
  ·rw [if_pos hk,capOut_out h',List.getElem?_set_ne (fun e=>h ⟨List.mem_cons.mpr (.inl e.symm),by rw [<-e]; exact hk⟩)]
  ·rw [if_neg hk,capOut_out h']
theorem capOut_in {own:List Nat} {ρc:Sl}:∀ {n:Nat} {cap:List Nat} {ρ:Sl} {j k:Nat} {d:D},cap.Nodup->cap[j]?=some k->k∈own->k < ρ.length->ρc[n+j]?=some (some d)->(capOut own ρc n cap ρ)[k]?=some (some d)
 | _,[],_,_,_,_,_,h,_,_,_=>by simp at h
 | n,k0::cap,ρ,0,k,d,nd,h,hk,hl,e=>by
  simp at h; subst h
  obtain ⟨n1,n2⟩:=List.nodup_cons.mp nd
  unfold capOut
  rw [if_pos hk,capOut_out (fun z=>n1 z.1),List.getElem?_set_self hl]
  have e:ρc[n]?=some (some d):=e
  rw [e]; rfl
 | n,k0::cap,ρ,j+1,k,d,nd,h,hk,hl,e=>by
  obtain ⟨n1,n2⟩:=List.nodup_cons.mp nd
  have h:cap[j]?=some k:=by simpa using h
  have e:ρc[n+1+j]?=some (some d):=by rw [show n+1+j=n+(j+1) by omega]; exact e
  unfold capOut
  by_cases hk0:k0∈own
  ·rw [if_pos hk0]; exact capOut_in n2 h hk (by rw [List.length_set]; exact hl) e
  ·rw [if_neg hk0]; exact capOut_in n2 h hk hl e
section
variable {K:Frag} {own cap:List Nat} {nt:Nat} {F H:Hp} {σ σ1:St} {ρ ρ1:Sl}
theorem cap_len {α:Type} {ρ:List (Option α)}:(capIn nt cap ρ).length=nt+cap.length:=by simp [capIn]
theorem nodup_get {l:List Nat} (h:l.Nodup) {i j k:Nat} (a:l[i]?=some k) (b:l[j]?=some k):i=j:=by
 obtain ⟨h1,e1⟩:=List.getElem?_eq_some_iff.mp a
 obtain ⟨h2,e2⟩:=List.getElem?_eq_some_iff.mp b
 exact (List.getElem_inj h).mp (e1.trans e2.symm)
theorem rep_cap (rp:Rep K own F H σ ρ) (nd:cap.Nodup):Rep K (ownC own nt cap) F H (capIn nt cap σ) (capIn nt cap ρ) where
 sub:=rp.sub
 len:=by rw [cap_len,cap_len]
 val:=fun i d hi e=>by
  obtain ⟨j,k,rfl,h1,h2⟩:=get_cap.mp e
  obtain ⟨v,g1,g2⟩:=rp.val k d (fun z=>hi (mem_ownC.mpr ⟨j,k,rfl,h1,z⟩)) h2
  exact ⟨v,get_cap.mpr ⟨j,k,rfl,h1,g1⟩,g2⟩
 ow:=fun i d hi e=>by
  obtain ⟨j,k,rfl,h1,h2⟩:=get_cap.mp e
  obtain ⟨j',k',e',h1',h2'⟩:=mem_ownC.mp hi
  have:j=j':=by omega
  subst this
  rw [h1] at h1'; cases h1'
  obtain ⟨a,g1,g2⟩:=rp.ow k d h2' h2
  exact ⟨a,get_cap.mpr ⟨j,k,rfl,h1,g1⟩,g2⟩
 opn:=fun i hi=>by
  obtain ⟨j,k,rfl,h1,h2⟩:=mem_ownC.mp hi
  obtain ⟨d,e⟩:=rp.opn k h2
  exact ⟨d,get_cap.mpr ⟨j,k,rfl,h1,e⟩⟩
 dis:=fun i i' a hi hi' e e'=>by
  obtain ⟨j,k,rfl,h1,h2⟩:=mem_ownC.mp hi
  obtain ⟨j',k',rfl,h1',h2'⟩:=mem_ownC.mp hi'
  obtain ⟨x,y,q1,q2,q3⟩:=get_cap.mp e
  obtain ⟨x',y',q1',q2',q3'⟩:=get_cap.mp e'
  have:x=j:=by omega
  subst this
  have:x'=j':=by omega
  subst this
  rw [h1] at q2; cases q2
  rw [h1'] at q2'; cases q2'
  have e:=rp.dis k k' a h2 h2' q3 q3'
  subst e
  rw [nodup_get nd h1 h1']
theorem oa_cap (hio:∀ i∈ioC nt cap.length,σ1[i]?=(capIn nt cap σ)[i]?) {b:Addr} (h:OA (ownC own nt cap) σ1 b):OA own σ b:=by
 obtain ⟨i,hi,e⟩:=h
 obtain ⟨j,k,rfl,h1,h2⟩:=mem_ownC.mp hi
 rw [hio _ (mem_ioC.mpr ⟨j,(List.getElem?_eq_some_iff.mp h1).1,rfl⟩)] at e
 obtain ⟨x,y,q1,q2,q3⟩:=get_cap.mp e
 have:x=j:=by omega
 subst this
 rw [h1] at q2; cases q2
 exact ⟨k,h2,q3⟩
theorem rep_uncap {F' H':Hp} (rp:Rep K own F H σ ρ) (nd:cap.Nodup) (rp1:Rep K (ownC own nt cap) F' H' σ1 ρ1) (hio:∀ i∈ioC nt cap.length,σ1[i]?=(capIn nt cap σ)[i]?) (c:Chg (OA (ownC own nt cap) σ1) F H F' H'):Rep K own F' H' σ (capOut own ρ1 nt cap ρ) where
 sub:=rp1.sub
 len:=by rw [capOut_len]; exact rp.len
 val:=fun i d hi e=>by
  rw [capOut_out (fun z=>hi z.2)] at e
  obtain ⟨v,h1,h2⟩:=rp.val i d hi e
  exact ⟨v,h1,h2.mono c.grow⟩
 ow:=fun i d hi e=>by
  by_cases q:i∈cap
  ·obtain ⟨j,hj⟩:=List.getElem?_of_mem q
   have hm:nt+j∈ownC own nt cap:=mem_ownC.mpr ⟨j,i,rfl,hj,hi⟩
   obtain ⟨d',hd'⟩:=rp1.opn _ hm
   obtain ⟨d0,hd0⟩:=rp.opn i hi
   rw [capOut_in nd hj hi (List.getElem?_eq_some_iff.mp hd0).1 hd'] at e
   cases e
   obtain ⟨a,h1,h2⟩:=rp1.ow _ _ hm hd'
   rw [hio _ (mem_ioC.mpr ⟨j,(List.getElem?_eq_some_iff.mp hj).1,rfl⟩)] at h1
   obtain ⟨x,y,q1,q2,q3⟩:=get_cap.mp h1
   have:x=j:=by omega
   subst this
   rw [hj] at q2; cases q2
   exact ⟨a,q3,h2⟩
  ·rw [capOut_out (fun z=>q z.1)] at e
   obtain ⟨a,h1,h2,h3⟩:=rp.ow i d hi e
   have na:¬OA (ownC own nt cap) σ1 a:=fun z=>by
    obtain ⟨i',hi',e'⟩:=z
    obtain ⟨j,k,rfl,g1,g2⟩:=mem_ownC.mp hi'
    rw [hio _ (mem_ioC.mpr ⟨j,(List.getElem?_eq_some_iff.mp g1).1,rfl⟩)] at e'
    obtain ⟨x,y,q1,q2,q3⟩:=get_cap.mp e'
    have:x=j:=by omega
    subst this
    rw [g1] at q2; cases q2
    have e:=rp.dis i k a hi g2 h1 q3
    subst e
    exact q (List.mem_of_getElem? g1)
   refine ⟨a,h1,?_,h3.grow c.grow fun o z=>c.keep a o z na⟩
   cases qq:F' a with
   | none=>rfl
   | some u=>
    rcases c.new a (by rw [qq]; simp) with z | z | z
    ·exact absurd h2 z
    ·exact absurd z h3.there
    ·exact absurd z na
 opn:=fun i hi=>by
  by_cases q:i∈cap
  ·obtain ⟨j,hj⟩:=List.getElem?_of_mem q
   have hm:nt+j∈ownC own nt cap:=mem_ownC.mpr ⟨j,i,rfl,hj,hi⟩
   obtain ⟨d',hd'⟩:=rp1.opn _ hm
   obtain ⟨d0,hd0⟩:=rp.opn i hi
   exact ⟨d',capOut_in nd hj hi (List.getElem?_eq_some_iff.mp hd0).1 hd'⟩
  ·rw [capOut_out (fun z=>q z.1)]
   exact rp.opn i hi
 dis:=rp.dis
end
noncomputable def turnD (g:D->Sl->Out Sl) (ft:Sl->Out (Bool×Sl)) (fe:Sl->Out (D×Sl)) (d:D) (ρ:Sl):Out (Option D×Sl):=
 (g d ρ).plain.bind fun ρ1=>(ft ρ1).plain.bind fun q=>if q.1=true then (fe q.2).plain.bind fun r=>.ok (some r.1,r.2) else .ok (none,q.2)
noncomputable def compD (g:D->Sl->Out Sl) (ft:Sl->Out (Bool×Sl)) (fe:Sl->Out (D×Sl)):List D->Sl->Out (List D×Sl)
 | [],ρ=>.ok ([],ρ)
 | d::ds,ρ=>(turnD g ft fe d ρ).bind fun p=>(compD g ft fe ds p.2).bind fun q=>.ok (p.1.toList++q.1,q.2)
noncomputable def dComp (own:List Nat) (nt:Nat) (cap:List Nat) (fi:Sl->Out (List D×Sl)) (g:D->Sl->Out Sl) (ft:Sl->Out (Bool×Sl)) (fe:Sl->Out (D×Sl)):Sl->Out (D×Sl):=fun ρ=>(fi ρ).bind fun p=>
 if p.1.length<=sizeLine then (compD g ft fe p.1 (capIn nt cap p.2)).bind fun q=>.ok (.lst q.1,capOut own q.2 nt cap p.2) else .bad
noncomputable def ctC (C:Ct) (nt len:Nat):Ct:=⟨C.K,C.cv,fun _ _ _=>False,ioC nt len,.sh,[],[],fun _ h=>absurd h (by simp)⟩
noncomputable def ftT:Sl->Out (Bool×Sl):=fun ρ=>.ok (true,ρ)
theorem pdts_nil {Y:Cx} {C:Ct} {own:List Nat}:PTs Y [] (tT C own ftT):=⟨fun pins s σ H Q I ⟨F,ρ,rp,h⟩=>pts_nil pins s σ H Q I (h F H rp .refl)⟩
structure CW (C:Ct) (own:List Nat) (nt:Nat) (cap:List Nat) (σ:St) (F H F0:Hp) (g:D->Sl->Out Sl) (ft:Sl->Out (Bool×Sl)) (fe:Sl->Out (D×Sl)) (ds ys:List D) (ρe:Sl) (p:Addr) (i:Nat) (σ1:St) (H1:Hp) (F1:Hp) (ρi:Sl) (accD:List D) (xs:List V) (rest:List D):Prop where
 rep:Rep C.K (ownC own nt cap) F1 H1 σ1 ρi
 io:∀ i∈ioC nt cap.length,σ1[i]?=(capIn nt cap σ)[i]?
 chg:Chg (OA (ownC own nt cap) σ1) F H F1 H1
 gr:Same F0 F1
 at_:H1 p=some (.lst xs)
 nF:F1 p=none
 is:IsL C.K F1 xs accD
 le:accD.length<=i
 run:compD g ft fe (ds.drop i) ρi=.ok (rest,ρe)
 all:accD++rest=ys
theorem compD_cons {g:D->Sl->Out Sl} {ft:Sl->Out (Bool×Sl)} {fe:Sl->Out (D×Sl)} {d:D} {ds rest:List D} {ρ ρe:Sl} (h:compD g ft fe (d::ds) ρ=.ok (rest,ρe)) :
  ∃ ρ1,g d ρ=.ok ρ1/\∃ b ρ2,ft ρ1=.ok (b,ρ2)/\((b=true/\∃ y ρ3 r,fe ρ2=.ok (y,ρ3)/\compD g ft fe ds ρ3=.ok (r,ρe)/\rest=y::r)\/(b=false/\compD g ft fe ds ρ2=.ok (rest,ρe))):=by
 unfold compD turnD at h
 cases q1:g d ρ with
 | exc c=>rw [q1] at h; cases h
 | bad=>rw [q1] at h; cases h
 | ok ρ1=>
  rw [q1] at h
  refine ⟨ρ1,rfl,?_⟩
  simp only [Out.plain,Out.ok_bind] at h
  cases q2:ft ρ1 with
  | exc c=>rw [q2] at h; cases h
  | bad=>rw [q2] at h; cases h
  | ok p=>
   obtain ⟨b,ρ2⟩:=p
   rw [q2] at h
   refine ⟨b,ρ2,rfl,?_⟩
   simp only [Out.plain,Out.ok_bind] at h
   cases b with
   | true=>
    refine .inl ⟨rfl,?_⟩
    simp only [if_true] at h
    cases q3:fe ρ2 with
    | exc c=>rw [q3] at h; cases h
    | bad=>rw [q3] at h; cases h
    | ok p=>
     obtain ⟨y,ρ3⟩:=p
     rw [q3] at h
     simp only [Out.plain,Out.ok_bind] at h
     cases q4:compD g ft fe ds ρ3 with
     | exc c=>rw [q4] at h; cases h
     | bad=>rw [q4] at h; cases h
     | ok p=>
      obtain ⟨r,ρ4⟩:=p
      rw [q4] at h
      simp only [Out.ok_bind] at h
      cases h
      exact ⟨y,ρ3,r,rfl,q4,rfl⟩
   | false=>
    refine .inr ⟨rfl,?_⟩
    simp only [Bool.false_eq_true,if_false,Out.ok_bind] at h
    cases q4:compD g ft fe ds ρ2 with
    | exc c=>rw [q4] at h; cases h
    | bad=>rw [q4] at h; cases h
    | ok p=>
     obtain ⟨r,ρ4⟩:=p
     rw [q4] at h
     simp only [Out.ok_bind] at h
     cases h
     rfl
section
variable {X:Cx} {C:Ct} {own cap:List Nat} {nt:Nat} {scope:Scope} {N:List Str} {tg elt iter:Expr} {ifs:List Expr} {pos:Pos} {fi:Sl->Out (List D×Sl)} {g:D->Sl->Out Sl} {ft:Sl->Out (Bool×Sl)} {fe:Sl->Out (D×Sl)} {me:Mo}
structure CapOk (X:Cx) (scope:Scope) (N:List Str) (nt:Nat) (cap:List Nat):Prop where
 nd:cap.Nodup
 len:N.length=nt+cap.length
 at_:∀ (j k:Nat),cap[j]?=some k->∃ x,N[nt+j]?=some x/\X.N[k]?=some x/\Vis X.env.scope x/\(x,NameKind.free)∈scope.names
theorem comp_core {pins:List (Addr×Obj)} {s:Shared} {σ:St} {F H:Hp} {ρ1:Sl} {it:Addr} {fp:List Addr} {tn:Nat->Heap->Prop} {J:It} {E:Value->Shared->Prop} {ds ys:List D} {ρe:Sl} (I:Inv X pins σ H s) (hcalm:X.calm=true) (S:ScOk X scope) (CO:CapOk X scope N nt cap)
  (T:Turn X.prog X.w X.K tg J fp it tn) (st0:tn 0 s.heap) (hf:∀ b∈fp,FpOk X pins H b) (rp:Rep C.K own F H σ ρ1) (itI:ItIs C.K F J ds) (hz:ds.length<=sizeLine)
  (hg:∀ fp L s' H',PG (cxComp X scope N fp L s' H') tg (tGd (ctC C nt cap.length) (ownC own nt cap) g)) (ht:∀ fp L s' H',PTs (cxComp X scope N fp L s' H') ifs (tT (ctC C nt cap.length) (ownC own nt cap) ft))
  (he:∀ fp L s' H',PE (cxComp X scope N fp L s' H') elt (tE (ctC C nt cap.length) (ownC own nt cap) me fe)) (hme:me≠.any)
  (hrun:compD g ft fe ds (capIn nt cap ρ1)=.ok (ys,ρe)) (RR:Value->Addr->Result->Shared->Prop)
  (hRR:∀ p L s' F' H',H p=none->Rep C.K own F' H' σ (capOut own ρe nt cap ρ1)->Chg (OA own σ) F H F' H'->F' p=none->OwnIs C.K F' H' p (.lst ys)->(∃ m,s'.heap.Ns L m)->FpOk X pins H' L->(∀ h',Heap.SameBut L s'.heap h'->Inv X pins σ H' { s' with heap:=h' })->RR (.ref p) L (.ok .next) s') :
  wpAny (model X.prog X.w) X.A (newList []) (fun acc s₃=>wpAny (model X.prog X.w) X.A (newFunctionEnv scope X.env.globals (clOf X.env.cells scope.names []) [] X.env.qual none .none (some X.env)) (fun cenv s₄=>
   codeAny (model X.prog X.w) X.A (.compStart (.ListComp elt [⟨tg,iter,ifs,0⟩] scope pos) 0 (.ref it) acc { cenv with scope:=relabel scope X.env }) (RR acc cenv.locals) s₄) E s₃) E s:=by
 have oaH:∀ {σ1:St} {b:Addr},(∀ i∈ioC nt cap.length,σ1[i]?=(capIn nt cap σ)[i]?)->OA (ownC own nt cap) σ1 b->H b≠none:=fun hio z=>(rp.OA_there (oa_cap hio z)).1
 refine comp_run (σc:=capIn nt cap σ) I hcalm S T st0 hf hg ht (fun fp L s' H'=>pd_sh (he fp L s' H') hme) (by rw [cap_len,CO.len]) (fun j x v e1 e2=>?_)
  (fun p i m σ1 H1=>H p=none/\m=ds.length - i/\i<=ds.length/\∃ F1 ρi accD xs rest,CW C own nt cap σ F H F g ft fe ds ys ρe p i σ1 H1 F1 ρi accD xs rest)
  (fun p H1=>H p=none/\∃ σ1 F1 xs,Rep C.K (ownC own nt cap) F1 H1 σ1 ρe/\(∀ i∈ioC nt cap.length,σ1[i]?=(capIn nt cap σ)[i]?)/\Chg (OA (ownC own nt cap) σ1) F H F1 H1/\H1 p=some (.lst xs)/\F1 p=none/\IsL C.K F1 xs ys) (fun p hp=>?_) ?_ RR ?_
 ·obtain ⟨j',k,rfl,h1,h2⟩:=get_cap.mp e2
  obtain ⟨y,g1,g2,g3,g4⟩:=CO.at_ j' k h1
  rw [g1] at e1; cases e1
  exact ⟨k,g2,h2,g3,g4⟩
 ·obtain ⟨r1,c1,hF⟩:=new_fr (C:=C) (u:=.lst []) (rep_cap (nt:=nt) rp CO.nd) hp
  exact ⟨ds.length,hp,by simp,Nat.zero_le _,F,capIn nt cap ρ1,[],[],ys,r1,fun _ _=>rfl,c1.ofNo,Same.refl _,upd_same,hF,.nil,Nat.le_refl _,by simpa using hrun,rfl⟩
 ·rintro p i m σ1 H1 ⟨hp,rfl,hle,F1,ρi,accD,xs,rest,w⟩
  by_cases hlt:i < ds.length
  ·have hd:ds.drop i=ds[i]::ds.drop (i+1):=List.drop_eq_getElem_cons hlt
   have run:=w.run
   rw [hd] at run
   obtain ⟨ρa,ea,b,ρb,eb,hrest⟩:=compD_cons run
   have sub1:Same F H1:=w.gr.trans w.rep.sub
   refine .inr ⟨itI.go i H1 hlt sub1,fun x H2 y=>?_⟩
   obtain ⟨F2,c2,s2,is2⟩:=itI.yld i F1 H1 x H2 ds[i] (by simp [hlt]) w.gr w.rep.sub y
   have rp2:=w.rep.grow c2 s2
   have nop:∀ {σ9:St},(∀ i∈ioC nt cap.length,σ9[i]?=(capIn nt cap σ)[i]?)->¬OA (ownC own nt cap) σ9 p:=fun hio z=>oaH hio z hp
   have keepP:∀ {A:Addr->Prop} {Fa Ha Fb Hb:Hp} {zs:List V},Chg A Fa Ha Fb Hb->¬A p->Ha p=some (.lst zs)->Fa p=none->Hb p=some (.lst zs)/\Fb p=none:=fun {A Fa Ha Fb Hb zs} c na e1 e2=>by
    refine ⟨c.keep p _ e1 na,?_⟩
    cases q:Fb p with
    | none=>rfl
    | some u=>
     rcases c.new p (by rw [q]; simp) with z | z | z
     ·exact absurd e2 z
     ·rw [e1] at z; cases z
     ·exact absurd z na
   obtain ⟨at2,nF2⟩:=keepP c2 (fun z=>z) w.at_ w.nF
   refine ⟨F2,ρi,ds[i],rp2,is2,ρa,ea,fun σ3 rp3 oa3 io3=>?_⟩
   have io3':∀ i∈ioC nt cap.length,σ3[i]?=(capIn nt cap σ)[i]?:=fun i hi=>(io3 i hi).trans (w.io i hi)
   refine ⟨F2,ρa,rp3,?_⟩
   rw [eb]
   intro F4 H4 rp4 c4
   obtain ⟨at4,nF4⟩:=keepP c4 (nop io3') at2 nF2
   have chg4:Chg (OA (ownC own nt cap) σ3) F H F4 H4:=by
    have q1:Chg (OA own σ) F H F1 H1:=w.chg.mono fun b z=>oa_cap w.io z
    have mv:∀ {b},OA (ownC own nt cap) σ1 b->OA (ownC own nt cap) σ3 b:=fun {b} z=>by
     obtain ⟨i',hi',e'⟩:=z
     obtain ⟨j,k,rfl,g1,g2⟩:=mem_ownC.mp hi'
     have hm:nt+j∈ioC nt cap.length:=mem_ioC.mpr ⟨j,(List.getElem?_eq_some_iff.mp g1).1,rfl⟩
     exact ⟨nt+j,hi',by rw [io3' _ hm,<-w.io _ hm]; exact e'⟩
    exact ((w.chg.mono fun b z=>mv z).trans' c2.ofNo).trans' c4
   have gr4:Same F F4:=(w.gr.trans c2.grow).trans c4.grow
   have is4:IsL C.K F4 xs accD:=(w.is.mono c2.grow).mono c4.grow
   rcases hrest with ⟨rfl,y',ρc,r,ec,er,hr⟩ | ⟨rfl,er⟩
   ·rw [if_pos rfl]
    refine ⟨F4,ρb,rp4,?_⟩
    rw [ec]
    intro v F5 H5 rp5 c5 mo5
    obtain ⟨at5,nF5⟩:=keepP c5 (nop io3') at4 nF4
    have hlen:xs.length=accD.length:=is4.length
    refine ⟨xs,at5,by have:=w.le; omega,ds.length - (i+1),by omega,hp,rfl,hlt,F5,ρc,accD++[y'],xs++[v],r,?_⟩
    have cp:Chg (fun b=>b=p) F5 H5 F5 (upd H5 p (.lst (xs++[v]))):=⟨fun b o e n=>by rw [upd_ne n]; exact e,fun b e=>by
     by_cases q:b=p
     ·rw [q,upd_same]; simp
     ·rw [upd_ne q]; exact e,Same.refl _,fun b e=>.inl e⟩
    have sb5:Same F5 (upd H5 p (.lst (xs++[v]))):=fun b o e=>by rw [upd_ne (ne_of_none e nF5)]; exact rp5.sub b o e
    have rp6:Rep C.K (ownC own nt cap) F5 (upd H5 p (.lst (xs++[v]))) σ3 ρc:=by
     refine ⟨sb5,rp5.len,rp5.val,fun i d hi e=>?_,rp5.opn,rp5.dis⟩
     obtain ⟨a,h1,h2,h3⟩:=rp5.ow i d hi e
     have na:a≠p:=fun z=>by subst z; exact nop io3' ⟨i,hi,h1⟩
     exact ⟨a,h1,h2,h3.grow (Same.refl _) fun o z=>by rw [upd_ne na]; exact z⟩
    refine ⟨rp6,io3',?_,(gr4.trans c5.grow),upd_same,nF5,(is4.mono c5.grow).append (.cons mo5 .nil),by simp only [List.length_append,List.length_cons,List.length_nil]; have:=w.le; omega,er,?_⟩
    ·exact (chg4.trans' c5).trans cp fun b z=>.inr (by rw [z]; exact hp)
    ·rw [List.append_assoc,<-w.all,hr]; rfl
   ·rw [if_neg Bool.false_ne_true]
    exact ⟨ds.length - (i+1),by omega,hp,rfl,hlt,F4,ρb,accD,xs,rest,rp4,io3',chg4,gr4,at4,nF4,is4,by have:=w.le; omega,er,w.all⟩
  ·have e:i=ds.length:=by omega
   subst e
   have run:=w.run
   rw [List.drop_length] at run
   unfold compD at run
   cases run
   have ha:=w.all
   rw [List.append_nil] at ha
   subst ha
   exact .inl ⟨itI.stop _ H1 (Nat.le_refl _) (w.gr.trans w.rep.sub),hp,σ1,F1,xs,w.rep,w.io,w.chg,w.at_,w.nF,w.is⟩
 ·rintro p L H' s' ⟨hp,σ1,F1,xs,r1,io1,c1,e1,n1,is1⟩ hns hfp hinv
  exact hRR p L s' F1 H' hp (rep_uncap rp CO.nd r1 io1 c1) (c1.mono fun b z=>oa_cap io1 z) n1 ⟨xs,e1,is1⟩ hns hfp hinv
theorem compD_noexc:∀ (ds:List D) (ρ:Sl) (c:Str) (o:Sl),compD g ft fe ds ρ≠.exc c o:=by
 intro ds
 induction ds with
 | nil=>intro ρ c o z; cases z
 | cons d ds ih=>
  intro ρ c o z
  unfold compD turnD at z
  cases q1:g d ρ with
  | exc c=>rw [q1] at z; cases z
  | bad=>rw [q1] at z; cases z
  | ok ρ1=>
   rw [q1] at z
   simp only [Out.plain,Out.ok_bind] at z
   cases q2:ft ρ1 with
   | exc c=>rw [q2] at z; cases z
   | bad=>rw [q2] at z; cases z
   | ok p=>
    rw [q2] at z
    simp only [Out.plain,Out.ok_bind] at z
    by_cases hb:p.1=true
    ·rw [if_pos hb] at z
     cases q3:fe p.2 with
     | exc c=>rw [q3] at z; cases z
     | bad=>rw [q3] at z; cases z
     | ok r=>
      rw [q3] at z
      simp only [Out.plain,Out.ok_bind] at z
      cases q4:compD g ft fe ds r.2 with
      | exc c=>exact ih _ _ _ q4
      | bad=>rw [q4] at z; cases z
      | ok t=>rw [q4] at z; cases z
    ·rw [if_neg hb] at z
     simp only [Out.ok_bind] at z
     cases q4:compD g ft fe ds p.2 with
     | exc c=>exact ih _ _ _ q4
     | bad=>rw [q4] at z; cases z
     | ok t=>rw [q4] at z; cases z
theorem comp_iter {σ:St} {F H:Hp} {ρ:Sl} {α:Type} {Z:Out (D×Sl)->Prop} (rp:Rep C.K own F H σ ρ) (hb:¬Z .bad) (hx:∀ c ρ',Z (.exc c ρ')->∀ F' H',Same F' H'->IoIs C.K C.ox F' H' σ ρ'->Chg (OA own σ) F H F' H'->C.E (C.cv c) none H') (h:Z (dComp own nt cap fi g ft fe ρ)) :
  tIt C own fi σ H fun J H1=>∃ ds ρ1 ys ρe F1,ds.length<=sizeLine/\compD g ft fe ds (capIn nt cap ρ1)=.ok (ys,ρe)/\Rep C.K own F1 H1 σ ρ1/\Chg (OA own σ) F H F1 H1/\ItIs C.K F1 J ds/\Z (.ok (.lst ys,capOut own ρe nt cap ρ1)):=by
 refine ⟨F,ρ,rp,?_⟩
 unfold dComp at h
 cases q:fi ρ with
 | exc c=>rw [q] at h; exact hx c _ h
 | bad=>rw [q] at h; exact (hb h).elim
 | ok p=>
  obtain ⟨ds,ρ1⟩:=p
  rw [q] at h
  have h:Z (if ds.length<=sizeLine then (compD g ft fe ds (capIn nt cap ρ1)).bind fun q=>.ok (.lst q.1,capOut own q.2 nt cap ρ1) else .bad):=h
  by_cases z:ds.length<=sizeLine
  ·rw [if_pos z] at h
   cases q2:compD g ft fe ds (capIn nt cap ρ1) with
   | exc c=>exact absurd q2 (compD_noexc _ _ _ _)
   | bad=>rw [q2] at h; exact (hb h).elim
   | ok p=>
    obtain ⟨ys,ρe⟩:=p
    rw [q2] at h
    exact fun J F1 H1 rp1 c1 it=>⟨ds,ρ1,ys,ρe,F1,z,q2,rp1,c1,it,h⟩
  ·rw [if_neg z] at h; exact (hb h).elim
theorem pd_comp (hcalm:X.calm=true) (S:ScOk X scope) (CO:CapOk X scope N nt cap) (hi:PI X tg iter (tIt C own fi))
  (hg:∀ fp L s' H',PG (cxComp X scope N fp L s' H') tg (tGd (ctC C nt cap.length) (ownC own nt cap) g)) (ht:∀ fp L s' H',PTs (cxComp X scope N fp L s' H') ifs (tT (ctC C nt cap.length) (ownC own nt cap) ft))
  (he:∀ fp L s' H',PE (cxComp X scope N fp L s' H') elt (tE (ctC C nt cap.length) (ownC own nt cap) me fe)) (hme:me≠.any:=by decide) (hs:∀ x,foldedSetIterable iter X.env x=pure x:=by intro _; rfl) :
  PE X (.ListComp elt [⟨tg,iter,ifs,0⟩] scope pos) (tE C own .fr (dComp own nt cap fi g ft fe)):=by
 refine ⟨?_⟩
 intro pins s σ H Q I ⟨F,ρ,rp,h⟩
 rw [eval_ListComp]
 have main:=comp_iter (α:=Unit) (Z:=fun r=>Po C own .fr σ F H r Q) rp (fun z=>z) (fun c _ z=>z) h
 refine wpAny_comprehension_free (use:=none) rfl hs (closure_of (free_cell I S)) S.kind S.names (thn (hi pins s σ H _ I main) fun xv s1 h1=>thn h1 fun itv s2 h2=>?_)
 obtain ⟨it,fp,tn,J,H2,e,I2,T,st2,f2,ds,ρ1,ys,ρe,F1,hz,hrun,rp1,c1,itI,po⟩:=h2
 subst e
 refine comp_core (RR:=fun acc C'=>compPost (model X.prog X.w) X.A X.xe none (EP X pins σ Q) acc C') I2 hcalm S CO T st2 f2 rp1 itI hz hg ht he hme hrun fun p L s' F' H' hp rp' c' nF o hns hfp hinv=>?_
 obtain ⟨m,hn⟩:=hns
 refine ⟨m,hn,fun h' sb=>⟨.ref p,H',hinv h' sb,rfl,?_⟩⟩
 refine po (.ref p) F' H' rp' (c1.trans' c') ⟨p,rfl,?_,nF,o⟩
 cases q:H p with
 | none=>rfl
 | some u=>exact absurd hp (c1.stay p (by rw [q]; simp))
theorem pds_setC {i:Nat} {x:Str} {pos' spos:Pos} (hN:X.N.Nodup) (hix:X.N[i]?=some x) (hx:Loc X.env.scope x) (hcalm:X.calm=true) (S:ScOk X scope) (CO:CapOk X scope N nt cap) (hi:PI X tg iter (tIt C own fi))
  (hg:∀ fp L s' H',PG (cxComp X scope N fp L s' H') tg (tGd (ctC C nt cap.length) (ownC own nt cap) g)) (ht:∀ fp L s' H',PTs (cxComp X scope N fp L s' H') ifs (tT (ctC C nt cap.length) (ownC own nt cap) ft))
  (he:∀ fp L s' H',PE (cxComp X scope N fp L s' H') elt (tE (ctC C nt cap.length) (ownC own nt cap) me fe)) (hme:me≠.any:=by decide) (hio:i∉C.io:=by exact nin_of rfl)
  (hsw:swapsWith (.ListComp elt [⟨tg,iter,ifs,0⟩] scope pos) (some (.Name x pos')) spos.line X.env=pure true:=by rfl) (hs:∀ x,foldedSetIterable iter X.env x=pure x:=by intro _; rfl)
  (hfx:X.fn x=true\/X.env.scope.names.lookup x=some .local:=by first | exact .inl rfl | exact .inr rfl) :
  PS X (.Assign [.Name x pos'] (.ListComp elt [⟨tg,iter,ifs,0⟩] scope pos) spos) (tSt C own (i::dropL own [i]) (sSet i (dComp own nt cap fi g ft fe))):=by
 refine ⟨?_⟩
 intro pins s σ H D I ⟨F,ρ,rp,h⟩
 rw [exec_Assign_Name_used _ _ _ _ hsw]
 refine wpAny_bind (wpAny_standAt (wpAny_bind ?_))
 show wpAny _ X.A (do let _ <-comprehension (.ListComp elt [⟨tg,iter,ifs,0⟩] scope pos) scope X.env _ (newList []) false (eval iter X.env) (some (assign (.Name x pos') X.env))) _ _ s
 have main:=comp_iter (α:=Unit) (Z:=fun r=>PoS C own (i::dropL own [i]) σ F H (r.bind fun p=>if i < p.2.length then .ok (.nx,p.2.set i (some p.1)) else .bad) D) rp (fun z=>z) (fun c _ z=>z) h
 refine wpAny_bind (wpAny_mono (wpAny_comprehension_free (use:=some (assign (.Name x pos') X.env)) (Q:=fun _ s'=>SP X pins D .next s') rfl hs (closure_of (free_cell I S)) S.kind S.names (thn (hi pins s σ H _ I main) fun xv s1 h1=>thn h1 fun itv s2 h2=>?_)) (fun _ s' hq=>wpAny_pure (wpAny_pure hq)) fun _ _ e=>e)
 obtain ⟨it,fp,tn,J,H2,e,I2,T,st2,f2,ds,ρ1,ys,ρe,F1,hz,hrun,rp1,c1,itI,po⟩:=h2
 subst e
 refine comp_core (RR:=fun acc C'=>compPost (model X.prog X.w) X.A X.xe (some (assign (.Name x pos') X.env)) (fun _ s'=>SP X pins D .next s') acc C') I2 hcalm S CO T st2 f2 rp1 itI hz hg ht he hme hrun fun p L s' F' H' hp rp' c' nF o hns hfp hinv=>?_
 obtain ⟨m,hn⟩:=hns
 have I3:Inv X pins σ H' s':=by simpa using hinv s'.heap (.refl ..)
 have hH:H p=none:=by
  cases q:H p with
  | none=>rfl
  | some u=>exact absurd hp (c1.stay p (by rw [q]; simp))
 show wpAny _ X.A (assign (.Name x pos') X.env (.ref p)) _ _ s'
 refine wpAny_assign_Name (store_ok2 I3 hN hix hx (v:=.ref p) rfl (fun s4 I4 ⟨a,sba,ha⟩=>?_) hfx)
 obtain ⟨f0,f1,f2',f3,f4,f5⟩:=hfp
 have nL:L≠a:=by
  rcases ha with z | z
  ·rw [z]; exact f1
  ·exact fun q=>f4 x a z q.symm
 refine ⟨m,hn.sameBut sba nL,fun h' sb=>?_⟩
 have I5:Inv X pins (σ.set i (some (.ref p))) H' { s4 with heap:=h' }:=by
  have:=I4.turned (h':=h') (t':=s4.toks) (it:=L) (fun b o hb e=>(sb.2 b hb).trans e) f0 f1 f3 f4 f5
  exact this
 refine ⟨_,H',I5,?_⟩
 have po:PoS C own (i::dropL own [i]) σ F H (if i < (capOut own ρe nt cap ρ1).length then .ok (.nx,(capOut own ρe nt cap ρ1).set i (some (.lst ys))) else .bad) D:=po
 by_cases z:i < (capOut own ρe nt cap ρ1).length
 ·rw [if_pos z] at po
  refine po _ F' H' ⟨rp'.putO z nF (fun y=>(rp.OA_there y).1 hH) o,c1.trans' c',fun b y=>?_,fun j hj=>List.getElem?_set_ne fun y=>hio (by rw [y]; exact hj)⟩
  obtain ⟨j,hj,e⟩:=y
  by_cases qj:j=i
  ·subst qj
   rw [List.getElem?_set_self (by rw [rp'.len]; exact z)] at e
   cases e
   exact .inr hH
  ·have hj':=(mem_dropL j).mp ((List.mem_cons.mp hj).resolve_left qj)
   rw [List.getElem?_set_ne (Ne.symm qj)] at e
   exact .inl ⟨j,hj'.1,e⟩
 ·rw [if_neg z] at po; exact po.elim
end
def Fly (h:Heap) (ex T:Addr) (cls:Value):Prop:=∃ oe vs oT ts,h.get? ex=some oe/\oe.cls=cls/\oe.data=.fields vs/\vs[1]?=some (.ref T)/\T≠ex/\h.get? T=some oT/\oT.data=.fields ts/\ts[3]?=some .none
def CXk (P:Program) (w:World):CXT:=fun outer H s E e s'=>∃ ex T C H',e=.ref ex/\s'.os=s.os/\AllBare s'.gens/\Un (frs outer) [] H H' s.heap s'.heap/\HOk P w H' s'.heap/\Fly s'.heap ex T (.ref C)/\H' ex=none/\H' T=none/\s.heap.get? ex=none/\s.heap.get? T=none/\E (.ref C) none H'
def InB (X:Cx) (H:Hp) (s:Shared) (ex:Addr) (cls:Value):Prop:=H ex=none/\X.s₀.heap.get? ex=none /\
 ((∃ oe vs,s.heap.get? ex=some oe/\oe.cls=cls/\oe.data=.fields vs/\vs[1]?=some .none)\/∃ T,Fly s.heap ex T cls/\H T=none/\X.s₀.heap.get? T=none)
section
variable {X:Cx} {pins:List (Addr×Obj)} {σ:St} {H:Hp} {s:Shared} {ex:Addr} {cls:Value}
noncomputable def touch (ex:Addr) (T:Option Addr) (X:Cx):List Addr:=ex::(T.toList++frs X.stack)
theorem frame_nf (I:Inv X pins σ H s) {b:Addr} (hb:b∈frs X.stack):∃ o,s.heap.get? b=some o/\∀ vs,o.data≠.fields vs:=(I.stack.mem hb).2
theorem stack_env (hs:X.stack=X.env::X.outer):∀ env∈X.stack,∀ b,env.frame=some b->b∈frs X.stack:=fun env he b hb=>List.mem_filterMap.mpr ⟨env,he,hb⟩
structure Gone (X:Cx) (H:Hp) (s:Shared) (ex:Addr) (cls:Value) (h2:Heap):Prop where
 keep:∀ b o,s.heap.get? b=some o->H b≠none\/(X.s₀.heap.get? b≠none/\b∉frs X.stack)->h2.get? b=some o
 slot:∀ b o,s.heap.get? b=some o->b∈frs X.stack->∃ sl,h2.get? b=some { o with slots:=sl }
 ok:HOk X.prog X.w H h2
 un:Un (frs X.stack) [] H H s.heap h2\/True
theorem gone_of {T0:Option Addr} {h2:Heap} (I:Inv X pins σ H s) (hex:H ex=none) (hT:∀ T,T0=some T->H T=none) (n1:X.s₀.heap.get? ex=none) (n2:∀ T,T0=some T->X.s₀.heap.get? T=none)
  (st:(PySem.W.hideAll s.heap (touch ex T0 X)).StaysIn h2) (sl:∀ b o,s.heap.get? b=some o->(∀ vs,o.data≠.fields vs)->∃ sl,h2.get? b=some { o with slots:=sl }):Gone X H s ex cls h2:=by
 have keep:∀ b o,s.heap.get? b=some o->b≠ex->(∀ T,T0=some T->b≠T)->b∉frs X.stack->h2.get? b=some o:=fun b o e h1 h2 h3=>st b o (PySem.W.hideAll_get _ e fun hm=>by
  rcases List.mem_cons.mp hm with q | hm
  ·exact h1 q
  ·rcases List.mem_append.mp hm with q | q
   ·exact h2 b (Option.mem_toList.mp q) rfl
   ·exact h3 q)
 have k1:∀ b o,s.heap.get? b=some o->H b≠none->h2.get? b=some o:=fun b o e hn=>keep b o e (fun q=>hn (by rw [q]; exact hex)) (fun T hT' q=>hn (by rw [q]; exact hT T hT')) fun q=>hn (I.stkFree b q)
 refine ⟨fun b o e hb=>?_,fun b o e hb=>?_,fun b u e=>?_,.inr trivial⟩
 ·rcases hb with hb | ⟨hb,hf⟩
  ·exact k1 b o e hb
  ·exact keep b o e (fun q=>hb (by rw [q]; exact n1)) (fun T hT' q=>hb (by rw [q]; exact n2 T hT')) hf
 ·obtain ⟨o',e',nf⟩:=frame_nf I hb
  rw [e] at e'; cases e'
  exact sl b o e nf
 ·refine (I.hok b u e).stay (fun c v hc q=>k1 c v q ?_) (fun _ q=>q) fun _ _ q=>q
  rcases hc with z | z
  ·rw [z,e]; simp
  ·rw [z]; simp
theorem traced_of {T0:Option Addr} {h2:Heap} (I:Inv X pins σ H s) (hT:∀ T,T0=some T->H T=none) (n2:∀ T,T0=some T->X.s₀.heap.get? T=none) (g:Gone X H s ex cls h2) (hex0:X.ex=[])
  (tr:h2.Traced (PySem.W.hideAll s.heap (touch ex T0 X)) ex cls):∃ T,Fly h2 ex T cls/\H T=none/\X.s₀.heap.get? T=none:=by
 obtain ⟨oe,vs,T,oT,ts,a1,a2,a3,a4,a5,a6,a7,a8,a9⟩:=tr
 have noS:∀ o,s.heap.get? T=some o->(∃ q,T0=some q/\T=q):=fun o e=>by
  have hm:T∈touch ex T0 X:=by
   refine Classical.byContradiction fun hn=>?_
   rw [PySem.W.hideAll_get _ e hn] at a5
   cases a5
  rcases List.mem_cons.mp hm with q | hm
  ·exact absurd q a6
  ·rcases List.mem_append.mp hm with q | q
   ·exact ⟨T,Option.mem_toList.mp q,rfl⟩
   ·obtain ⟨o',e',nf⟩:=frame_nf I q
    obtain ⟨sl,e2⟩:=g.slot T o' e' q
    rw [a7] at e2
    cases e2
    exact absurd a8 (nf ts)
 refine ⟨T,⟨oe,vs,oT,ts,a1,a2,a3,a4,a6,a7,a8,a9⟩,?_,?_⟩
 ·cases q:H T with
  | none=>rfl
  | some u=>
   have hlt:=I.hok.lt q
   obtain ⟨o,e⟩:∃ o,s.heap.get? T=some o:=by
    have:=(I.hok T u q)
    have st:=this.stay (H':=H) (h':=s.heap) (fun b v _ z=>z) (fun _ z=>z) fun _ _ z=>z
    cases z:s.heap.get? T with
    | some o=>exact ⟨o,rfl⟩
    | none=>
     exfalso
     cases u with
     | lst xs=>obtain ⟨_,_,_,_,e⟩:=st; rw [z] at e; cases e
     | tup xs=>obtain ⟨_,_,_,_,e,_⟩:=st; rw [z] at e; cases e
     | dK kvs=>obtain ⟨_,_,_,_,o,_,_,e,_⟩:=st; rw [z] at e; cases e
     | dT kvs=>obtain ⟨_,_,_,_,o,_,_,e,_⟩:=st; rw [z] at e; cases e
     | set S n=>obtain ⟨o,_,_,_,e,_⟩:=st; rw [z] at e; cases e
     | ins C dx fs=>obtain ⟨_,_,_,e,_⟩:=st; rw [z] at e; cases e
     | own y=>obtain ⟨_,e⟩:=st; rw [z] at e; cases e
     | xd fs=>obtain ⟨_,⟨_,_,_,e,_⟩,_⟩:=st; rw [z] at e; cases e
     | rng lo hi=>obtain ⟨_,_,_,e⟩:=st; rw [z] at e; cases e
     | frz ob u=>obtain ⟨e,_⟩:=st; rw [z] at e; cases e
     | tbl ps=>have e:s.heap.get? T=some _:=st; rw [z] at e; cases e
     | met f y=>have e:s.heap.get? T=some _:=st; rw [z] at e; cases e
     | ext φ=>obtain ⟨_,⟨_,e⟩,_⟩:=st; rw [z] at e; cases e
   obtain ⟨q',hq',rfl⟩:=noS o e
   rw [hT _ hq'] at q; cases q
 ·cases q:X.s₀.heap.get? T with
  | none=>rfl
  | some o=>
   obtain ⟨o',e'⟩:=I.base.there T o q (by rw [hex0]; simp)
   obtain ⟨q',hq',rfl⟩:=noS o' e'
   rw [n2 _ hq'] at q; cases q
theorem leave_core {E:Value->Shared->Prop} {Q:Unit->Shared->Prop} (I:Inv X pins σ H s) (hstk:X.stack=X.env::X.outer) (hfr:X.env.frame=some X.env.locals) (hex0:X.ex=[]) (x:InB X H s ex cls)
  (k:∀ h2 T,Gone X H s ex cls h2->Fly h2 ex T cls->H T=none->X.s₀.heap.get? T=none->Q () { s with heap:=h2 }):wpAny (model X.prog X.w) X.A (leaving X.env (.ref ex)) Q E s:=by
 obtain ⟨hex,n1,hx⟩:=x
 have hF:X.A.frames=some (X.env::X.outer):=by rw [I.ok.frames,hstk]
 have hB:∀ as,(PySem.W.hideAll s.heap as).StaysIn s.heap:=fun as b o e=>PySem.W.of_hideAll as e
 have hl:∀ T0,s.heap.FunFrames (PySem.W.hideAll s.heap (touch ex T0 X)) (X.env::X.outer):=fun T0=>by
  rw [<-hstk]
  exact PySem.W.funFrames_hide I.stack fun env he b hb=>List.mem_cons_of_mem _ (List.mem_append_right _ (stack_env hstk env he b hb))
 have hn:∀ T0,(PySem.W.hideAll s.heap (touch ex T0 X)).get? ex=none:=fun T0=>PySem.W.hideAll_none _ (List.mem_cons.mpr (.inl rfl))
 rcases hx with ⟨oe,vs,a1,a2,a3,a4⟩ | ⟨T,⟨oe,vs,oT,ts,a1,a2,a3,a4,a5,a6,a7,a8⟩,hT,n2⟩
 ·refine wpAny_leaving_first (base:=PySem.W.hideAll s.heap (touch ex none X)) hF (hl none) hfr a1 (hB _) (hn none) a3 a4 fun h2 ⟨st,_,tr,sl⟩=>?_
  have g:Gone X H s ex cls h2:=gone_of I hex (T0:=none) (fun _ z=>nomatch z) n1 (fun _ z=>nomatch z) st sl
  rw [a2] at tr
  obtain ⟨T',f1,f2,f3⟩:=traced_of I (T0:=none) (fun _ z=>nomatch z) (fun _ z=>nomatch z) g hex0 tr
  exact k h2 T' g f1 f2 f3
 ·have hT':∀ T1,some T=some T1->H T1=none:=fun T1 z=>by cases z; exact hT
  have n2':∀ T1,some T=some T1->X.s₀.heap.get? T1=none:=fun T1 z=>by cases z; exact n2
  have tr0:s.heap.Traced (PySem.W.hideAll s.heap (touch ex (some T) X)) ex cls:=⟨oe,vs,T,oT,ts,a1,a2,a3,a4,PySem.W.hideAll_none _ (List.mem_cons_of_mem _ (List.mem_append_left _ (by simp))),a5,a6,a7,a8⟩
  refine wpAny_leaving_next (base:=PySem.W.hideAll s.heap (touch ex (some T) X)) hF (hl (some T)) hfr tr0 (hB _) (hn _) fun h2 ⟨st,_,tr,sl⟩=>?_
  have g:Gone X H s ex cls h2:=gone_of I hex hT' n1 n2' st sl
  obtain ⟨T',f1,f2,f3⟩:=traced_of I hT' n2' g hex0 tr
  exact k h2 T' g f1 f2 f3
end
section
variable {P:Program} {w:World} {K:Frag} {mg:Str->Option Value} {base:Heap} {N:List Str} {qual:Str} {scope:Scope} {f:Addr} {cd:Value} {A:Around} {outer:List Env} {s0:Shared} {H0:Hp} {E:XK}
abbrev cxk (P:Program) (w:World) (K:Frag) (mg:Str->Option Value) (base:Heap) (N:List Str) (qual:Str) (scope:Scope) (f:Addr) (cd:Value) (A:Around) (outer:List Env) (s0:Shared) (H0:Hp) (E:XK):Cx:=cxOf (CXk P w) P w K mg base N qual scope f cd A outer s0 H0 E
theorem xe_of {pins:List (Addr×Obj)} {σ:St} {H:Hp} {s:Shared} {ex C:Addr} (I:Inv (cxk P w K mg base N qual scope f cd A outer s0 H0 E) pins σ H s) (x:InB (cxk P w K mg base N qual scope f cd A outer s0 H0 E) H s ex (.ref C)) (hE:E (.ref C) none H) :
  (cxk P w K mg base N qual scope f cd A outer s0 H0 E).xe (.ref ex) s:=by
 refine leave_core I rfl rfl rfl x fun h2 T g fl hT nT=>?_
 have bs0:=I.base
 have neL:∀ b o,s0.heap.get? b=some o->b≠(cxk P w K mg base N qual scope f cd A outer s0 H0 E).env.locals:=fun b o e=>Nat.ne_of_lt (Nat.lt_of_lt_of_le (Heap.lt_size e) I.ok.above)
 have nst:∀ b o,s0.heap.get? b=some o->b∉frs outer->b∉frs (cxk P w K mg base N qual scope f cd A outer s0 H0 E).stack:=fun b o e hb z=>by
  rcases List.mem_cons.mp (I.stkSub b z) with q | q
  ·exact neL b o e q
  ·exact hb q
 have ist:∀ b,b∈frs outer->b∈frs (cxk P w K mg base N qual scope f cd A outer s0 H0 E).stack:=fun b hb=>by
  show b∈frs (_::outer)
  unfold frs
  rw [List.filterMap_cons]
  exact List.mem_cons_of_mem _ hb
 refine ⟨ex,T,C,H,rfl,I.os,I.bare,⟨fun b o e n hb hx=>?_,fun b o e n hb hx=>?_,bs0.free,fun b o e hx=>?_,bs0.tups,bs0.frzs,bs0.tbls⟩,g.ok,fl,x.1,hT,x.2.1,nT,hE⟩
 ·exact g.keep b o (bs0.keep b o e n hb hx) (.inr ⟨by show s0.heap.get? b≠none; rw [e]; simp,nst b o e hb⟩)
 ·obtain ⟨sl,q⟩:=bs0.slot b o e n hb hx
  obtain ⟨sl2,q2⟩:=g.slot b _ q (ist b hb)
  exact ⟨sl2,q2⟩
 ·obtain ⟨o',q⟩:=bs0.there b o e hx
  by_cases hb:b∈frs (cxk P w K mg base N qual scope f cd A outer s0 H0 E).stack
  ·obtain ⟨sl,q2⟩:=g.slot b o' q hb
   exact ⟨_,q2⟩
  ·exact ⟨o',g.keep b o' q (.inr ⟨by show s0.heap.get? b≠none; rw [e]; simp,hb⟩)⟩
theorem back_of {X:Cx} {pins:List (Addr×Obj)} {σ:St} {H:Hp} {s s':Shared} {e:Value} (hex0:X.ex=[]) (I:Inv X pins σ H s) (h:CXk X.prog X.w X.stack H s E e s'):∃ ex C H',e=.ref ex/\Inv X pins σ H' s'/\InB X H' s' ex (.ref C)/\E (.ref C) none H':=by
 obtain ⟨ex,T,C,H',rfl,os,bare,un,hok,fl,e1,e2,n1,n2,hE⟩:=h
 have old:∀ b,s.heap.get? b=none->X.s₀.heap.get? b=none:=fun b hb=>by
  cases q:X.s₀.heap.get? b with
  | none=>rfl
  | some o=>
   obtain ⟨o',e'⟩:=I.base.there b o q (by rw [hex0]; simp)
   rw [hb] at e'; cases e'
 exact ⟨ex,C,H',rfl,I.call' (ch:=[]) os un hok bare (fun b z=>absurd z (by simp)),⟨e1,old ex n1,.inr ⟨T,fl,e2,old T n2⟩⟩,hE⟩
theorem passK:Passes (CXk P w) (cxk P w K mg base N qual scope f cd A outer s0 H0 E) E:=fun pins σ H s e s' I h=>by
 obtain ⟨ex,C,H',rfl,I',x,hE⟩:=back_of rfl I h
 exact xe_of I' x hE
theorem own_cls {h:Heap} {C:Addr} {bmB:List Value} {newId:String} {x:Str} (kin:K.In h) (hm:mg x=some (.ref C)) (q:PySem.W.excIn K C bmB newId=true):OwnCls x C bmB newId mg h:=by
 refine ⟨hm,?_⟩
 unfold PySem.W.excIn at q
 split at q
 case h_2=>cases q
 case h_1 dd cd sl lk=>
  split at q
  case h_2=>cases q
  case h_1 C' bm a0 a1 a2 a3 n a5 em es=>
   have q':=q
   simp only [Bool.and_eq_true,beq_iff_eq,Bool.not_eq_true'] at q'
   obtain ⟨⟨⟨⟨⟨e1,e2⟩,nodel⟩,tl⟩,nsok⟩,noinit⟩:=q'
   obtain ⟨nm,bs,mro,ns,qn,hd,sn,sub,ab,col,del⟩:=cd
   dsimp only at em nodel nsok noinit
   obtain ⟨sll⟩:=sl
   dsimp only at es
   subst em nodel es e1 e2
   exact ⟨bm,ns,nm,qn,bs,hd,sn,sub,ab,col,dd,a0,a1,a2,a3,a5,_,kin _ _ lk,.of_isNs (PySem.W.isNs_of_in kin nsok),PySem.W.nsMap_none_of_in kin nsok noinit,PySem.W.tail_of_in kin tl⟩
end
theorem obj_at {P:Program} {w:World} {H:Hp} {h:Heap} {T:Addr} {u:HO} (hok:HOk P w H h) (q:H T=some u):∃ o,h.get? T=some o:=by
 have st:=hok T u q
 cases z:h.get? T with
 | some o=>exact ⟨o,rfl⟩
 | none=>
  exfalso
  cases u with
  | lst xs=>obtain ⟨_,_,_,_,e⟩:=st; rw [z] at e; cases e
  | tup xs=>obtain ⟨_,_,_,_,e,_⟩:=st; rw [z] at e; cases e
  | dK kvs=>obtain ⟨_,_,_,_,o,_,_,e,_⟩:=st; rw [z] at e; cases e
  | dT kvs=>obtain ⟨_,_,_,_,o,_,_,e,_⟩:=st; rw [z] at e; cases e
  | set S n=>obtain ⟨o,_,_,_,e,_⟩:=st; rw [z] at e; cases e
  | ins C dx fs=>obtain ⟨_,_,_,e,_⟩:=st; rw [z] at e; cases e
  | own y=>obtain ⟨_,e⟩:=st; rw [z] at e; cases e
  | xd fs=>obtain ⟨_,⟨_,_,_,e,_⟩,_⟩:=st; rw [z] at e; cases e
  | rng lo hi=>obtain ⟨_,_,_,e⟩:=st; rw [z] at e; cases e
  | frz ob u=>obtain ⟨e,_⟩:=st; rw [z] at e; cases e
  | tbl ps=>have e:h.get? T=some _:=st; rw [z] at e; cases e
  | met f y=>have e:h.get? T=some _:=st; rw [z] at e; cases e
  | ext φ=>obtain ⟨_,⟨_,e⟩,_⟩:=st; rw [z] at e; cases e
abbrev bmV:List Value:=[.type "ValueError",.type "Exception",.type "BaseException",.type "object"]
noncomputable def sRaiseD (x:Str) (fr:Sl->Out (List D×Sl)):Sl->Out (Fl×Sl):=fun ρ=>(fr ρ).bind fun p=>.exc x p.2
theorem PoS.bindA {C:Ct} {own own':List Nat} {as:List AK} {σ:St} {F H:Hp} {o:Out (List D×Sl)} {k:List D×Sl->Out (Fl×Sl)} {D:Ends} {R:List V->Hp->Prop} (hp:PoS C own own' σ F H (o.bind k) D)
  (h:∀ vs F1 H1 ds ρ1,Rep C.K own F1 H1 σ ρ1->Chg (OA own σ) F H F1 H1->ArgV C.K H F1 H1 σ as vs ds->PoS C own own' σ F1 H1 (k (ds,ρ1)) D->R vs H1):PoA C own as σ F H o R:=by
 cases o with
 | ok p=>
  obtain ⟨ds,ρ1⟩:=p
  exact fun vs F1 H1 rp c av=>h vs F1 H1 ds ρ1 rp c av (PoS.shift (show PoS C own own' σ F H (k (ds,ρ1)) D from hp) (.ofE rp c))
 | exc x=>exact hp
 | bad=>exact hp.elim
def Throws (X:Cx) (C:Ct):Prop:=∀ (pins:List (Addr×Obj)) (σ:St) (H:Hp) (s:Shared) (ex A:Addr),Inv X pins σ H s->InB X H s ex (.ref A)->C.E (.ref A) none H->X.xe (.ref ex) s
theorem throwK {P:Program} {w:World} {K:Frag} {mg:Str->Option Value} {base:Heap} {N:List Str} {qual:Str} {scope:Scope} {f:Addr} {cd:Value} {A:Around} {outer:List Env} {s0:Shared} {H0:Hp} {C:Ct}:Throws (cxk P w K mg base N qual scope f cd A outer s0 H0 C.E) C:=fun pins σ H s ex A I x hE=>xe_of I x hE
section
variable {X:Cx} {C:Ct} {own own':List Nat} {as:List AK} {e:Expr} {es:List Expr} {fr:Sl->Out (List D×Sl)} {x:Str} {Cc:Addr} {np cpos pos:Pos}
theorem ArgV.len {K:Frag} {H0 F H:Hp} {σ:St}:∀ {as:List AK} {vs:List V} {ds:List D},ArgV K H0 F H σ as vs ds->vs.length=as.length
 | [],[],[],_=>rfl
 | .vl::as,v::vs,d::ds,h=>congrArg (·+1) (ArgV.len h.2)
 | .sl i::as,v::vs,d::ds,h=>congrArg (·+1) (ArgV.len h.2.2)
 | .fr::as,v::vs,d::ds,h=>congrArg (·+1) (ArgV.len h.2)
 | [],_::_,_,h=>h.elim
 | [],[],_::_,h=>h.elim
 | .vl::_,[],_,h=>h.elim
 | .vl::_,_::_,[],h=>h.elim
 | .sl _::_,[],_,h=>h.elim
 | .sl _::_,_::_,[],h=>h.elim
 | .fr::_,[],_,h=>h.elim
 | .fr::_,_::_,[],h=>h.elim
theorem pds_raise (hx0:X.ex=[]) (ht:Throws X C) (hcalm:X.calm=true) (hg:Gl X x) (hm:X.mg x=some (.ref Cc)) (hcv:C.cv x=.ref Cc) (q:PySem.W.excIn X.K Cc bmV "ValueError.__new__"=true) (ha:PA X (e::es) (tAr C own as fr)) (hsz:as.length<=1000:=by decide) (hio:∀ i∈C.ox,i∈own:=by exact sub_of rfl) (hd:(x == ("__debug__":Str))=false:=by decide)
  (he:starEach (e::es) X.env=(false,eval e X.env)::starEach es X.env:=by exact star_cons rfl) (hpl:(backTo cpos (starEach es X.env)).any (·.1)=false:=by rfl) :
  PS X (.Raise (some (.Call (.Name x np) (e::es) [] cpos)) none pos) (tSt C own own' (sRaiseD x fr)):=by
 refine ⟨?_⟩
 intro pins s σ H D I ⟨F,ρ,rp,h⟩
 obtain ⟨tl,N,nm,qn,bs,hdct,sn,sub,ab,col,dd,k0,k1,k2,k3,k5,mN,hC,hN,hni,T⟩:=(own_cls I.ok.mod.kin hm q).obj
 refine wpAny_Raise_call_subT (C:=Cc) (nm:=nm) (q:=qn) (N:=N) (bs:=bs) (bm:=tl) (hdct:=hdct) (sn:=sn) (sub:=sub) (ab:=ab) (col:=col) (dd:=dd) (k0:=k0) (k1:=k1) (k2:=k2) (k3:=k3) (k5:=k5)
  PySem.F.excBase_ValueError (mN:=mN) (T.hasType PySem.F.excBase_ValueError.hasBase) (I.ok.hd hcalm) (by rw [he]; show (false||(backTo cpos (starEach es X.env)).any (·.1))=false; rw [hpl]; rfl) hni (ld_glob I hg hm ⟨rfl,?_⟩ hd)
 have main:tAr C own as fr σ H fun vs H1=>vs.length<=sizeLine/\C.E (.ref Cc) none H1:=by
  refine ⟨F,ρ,rp,PoS.bindA h fun vs F1 H1 ds ρ1 rp1 c1 av h1=>⟨?_,?_⟩⟩
  ·rw [av.len]; exact Nat.le_trans hsz (by rw [sizeLine_eq]; decide)
  ·rw [<-hcv]; exact h1 F1 H1 rp1.sub (rp1.ioIs hio) .refl
 have run:=ha cpos pins s σ H _ I main
 rw [he] at run ⊢
 refine Calls.evalArgs_plain (wpAny_mono run (fun us s2 ⟨vs,H2,I2,r2,z2,hE⟩=>?_) fun _ _ y=>y)
 refine ⟨rfl,by rw [<-r2.length]; exact z2,I2.bk _ _ hC,hN.keeps I2.bk,T.keeps I2.bk,fun h' ex mk=>?_⟩
 have I3:Inv X pins σ H2 { s2 with heap:=h' }:=I2.kept (t':=s2.toks) mk.keeps
 obtain ⟨t,h1,h2,h3⟩:=mk.there
 refine ht pins σ H2 _ ex Cc I3 ⟨?_,?_,.inl ⟨_,_,h1,rfl,rfl,rfl⟩⟩ hE
 ·cases q2:H2 ex with
  | none=>rfl
  | some u=>
   have hlt:=I2.hok.lt q2
   refine absurd mk.new ?_
   obtain ⟨o,e⟩:=obj_at I2.hok q2
   rw [e]; simp
 ·cases q2:X.s₀.heap.get? ex with
  | none=>rfl
  | some o=>
   obtain ⟨o',e'⟩:=I2.base.there ex o q2 (by rw [hx0]; simp)
   rw [mk.new] at e'; cases e'
end
structure Caught (X:Cx) (pins:List (Addr×Obj)) (H:Hp) (s:Shared) (ex T Cc:Addr):Prop where
 fly:Fly s.heap ex T (.ref Cc)
 hex:H ex=none
 hT:H T=none
 n1:X.s₀.heap.get? ex=none
 n2:X.s₀.heap.get? T=none
 pp:∀ p∈X.pn++pins,p.1≠ex/\p.1≠T
section
variable {X:Cx} {pins:List (Addr×Obj)} {σ:St} {H:Hp} {s:Shared} {ex T Cc:Addr}
theorem Caught.dex (c:Caught X pins H s ex T Cc):∃ oe vs,s.heap.get? ex=some oe/\oe.data=.fields vs:=let ⟨oe,vs,oT,ts,a1,a2,a3,_⟩:=c.fly; ⟨oe,vs,a1,a3⟩
theorem Caught.dT (c:Caught X pins H s ex T Cc):∃ oe vs,s.heap.get? T=some oe/\oe.data=.fields vs:=let ⟨oe,vs,oT,ts,a1,a2,a3,a4,a5,a6,a7,_⟩:=c.fly; ⟨oT,ts,a6,a7⟩
theorem inv_gone {h2:Heap} (I:Inv X pins σ H s) (hstk:X.stack=X.env::X.outer) (hfr:X.env.frame=some X.env.locals) (hx0:X.ex=[]) (c:Caught X pins H s ex T Cc)
  (keep:∀ b o,s.heap.get? b=some o->b≠ex->b≠T->b∉frs X.stack->h2.get? b=some o)
  (slot:∀ b o,s.heap.get? b=some o->b∈frs X.stack->∃ sl,h2.get? b=some { o with slots:=sl }):Inv X pins σ H { s with heap:=h2 }:=by
 obtain ⟨oe,ve,he,de⟩:=c.dex
 obtain ⟨oT,vT,hT,dT⟩:=c.dT
 have nf:∀ b o,s.heap.get? b=some o->(∀ vs,o.data≠.fields vs)->b≠ex/\b≠T:=fun b o e n=>by
  constructor
  ·rintro rfl; rw [he] at e; cases e; exact n _ de
  ·rintro rfl; rw [hT] at e; cases e; exact n _ dT
 have Lm:X.env.locals∈frs X.stack:=by
  rw [hstk]; unfold frs; rw [List.filterMap_cons,hfr]; exact List.mem_cons_self
 have neL:∀ b o,X.s₀.heap.get? b=some o->b≠X.env.locals:=fun b o e=>Nat.ne_of_lt (Nat.lt_of_lt_of_le (Heap.lt_size e) I.ok.above)
 have nst:∀ b o,X.s₀.heap.get? b=some o->b∉X.fs->b∉frs X.stack:=fun b o e hb z=>by
  rcases List.mem_cons.mp (I.stkSub b z) with q | q
  ·exact neL b o e q
  ·exact hb q
 have ist:∀ b,b∈X.fs->b∈frs X.stack:=fun b hb=>by
  rw [hstk]; unfold frs; rw [List.filterMap_cons,hfr]; exact List.mem_cons_of_mem _ hb
 have ne0:∀ b o,X.s₀.heap.get? b=some o->b≠ex/\b≠T:=fun b o e=>⟨(by rintro rfl; rw [c.n1] at e; cases e),(by rintro rfl; rw [c.n2] at e; cases e)⟩
 have kc:∀ {a:Addr} {v:Option Value},s.heap.IsCell a v->h2.IsCell a v:=fun {a v} ⟨oc,e1,e2⟩=>by
  have q:=nf a oc e1 fun vs z=>by rw [e2] at z; cases z
  by_cases hb:a∈frs X.stack
  ·obtain ⟨sl,z⟩:=slot a oc e1 hb
   exact ⟨_,z,e2⟩
  ·exact ⟨oc,keep a oc e1 q.1 q.2 hb,e2⟩
 refine ⟨I.ok,I.os,I.bare,⟨fun b o e n hb hx=>?_,fun b o e n hb hx=>?_,I.base.free,fun b o e hx=>?_,I.base.tups,I.base.frzs,I.base.tbls⟩,?_,fun x a e=>?_,I.free,I.freeC,fun p hp=>?_,fun b u e=>?_,I.len⟩
 ·exact keep b o (I.base.keep b o e n hb hx) (ne0 b o e).1 (ne0 b o e).2 (nst b o e hb)
 ·obtain ⟨sl,q⟩:=I.base.slot b o e n hb hx
  obtain ⟨sl2,q2⟩:=slot b _ q (ist b hb)
  exact ⟨sl2,q2⟩
 ·obtain ⟨o',q⟩:=I.base.there b o e hx
  by_cases hb:b∈frs X.stack
  ·obtain ⟨sl,z⟩:=slot b o' q hb
   exact ⟨_,z⟩
  ·exact ⟨o',keep b o' q (ne0 b o e).1 (ne0 b o e).2 hb⟩
 ·obtain ⟨m,⟨o,es,ep,ho,r⟩,hl⟩:=I.loc
  obtain ⟨sl,hL⟩:=slot _ o ho Lm
  refine ⟨m,⟨_,es,ep,hL,r⟩,fun i x v e1 e2 e3=>?_⟩
  obtain ⟨u,rv,lk⟩:=hl i x v e1 e2 e3
  refine ⟨u,rv,?_⟩
  rcases lk with z | ⟨k,a,e,z⟩
  ·exact .inl z
  ·exact .inr ⟨k,a,e,kc z⟩
 ·obtain ⟨v,z⟩:=I.cell x a e
  exact ⟨v,kc z⟩
 ·obtain ⟨a1,a2,a3,a4,a5⟩:=I.pin p hp
  refine ⟨keep p.1 p.2 a1 (c.pp p hp).1 (c.pp p hp).2 fun z=>?_,a2,a3,a4,a5⟩
  rcases List.mem_cons.mp (I.stkSub p.1 z) with q | q
  ·exact a3 q
  ·exact a4 q
 ·refine (I.hok b u e).stay (fun d v hc q=>?_) (fun _ q=>q) fun _ _ q=>q
  have hd:H d≠none:=by
   rcases hc with z | z
   ·rw [z,e]; simp
   ·rw [z]; simp
  exact keep d v q (fun z=>hd (by rw [z]; exact c.hex)) (fun z=>hd (by rw [z]; exact c.hT)) fun z=>hd (I.stkFree d z)
theorem caught_new {h2:Heap} {a0:Value} (I:Inv X pins σ H s) (hx0:X.ex=[]) (c:Caught X pins H s ex T Cc) (slot:∀ b o,s.heap.get? b=some o->b∈frs X.stack->∃ sl,h2.get? b=some { o with slots:=sl })
  (tr:h2.TracedW (PySem.W.hideAll s.heap (touch ex (some T) X)) ex (.ref Cc) a0):∃ T',Caught X pins H { s with heap:=h2 } ex T' Cc:=by
 obtain ⟨oe,vs,T',oT,ts,b1,⟨b2,_⟩,b3,b4,b5,b6,b7,b8,b9⟩:=tr
 have noS:∀ o,s.heap.get? T'=some o->T'=T:=fun o e=>by
  have hm:T'∈touch ex (some T) X:=by
   refine Classical.byContradiction fun hn=>?_
   rw [PySem.W.hideAll_get _ e hn] at b5
   cases b5
  rcases List.mem_cons.mp hm with q | hm
  ·exact absurd q b6
  ·rcases List.mem_append.mp hm with q | q
   ·simpa using q
   ·obtain ⟨o',e',nf⟩:=frame_nf I q
    obtain ⟨sl,e2⟩:=slot T' o' e' q
    rw [b7] at e2
    cases e2
    exact absurd b8 (nf ts)
 refine ⟨T',⟨oe,vs,oT,ts,b1,b2,b3,b4,b6,b7,b8,b9⟩,c.hex,?_,c.n1,?_,fun p hp=>⟨(c.pp p hp).1,?_⟩⟩
 ·cases q:H T' with
  | none=>rfl
  | some u=>
   obtain ⟨o,e⟩:=obj_at I.hok q
   rw [noS o e,c.hT] at q; cases q
 ·cases q:X.s₀.heap.get? T' with
  | none=>rfl
  | some o=>
   obtain ⟨o',e'⟩:=I.base.there T' o q (by rw [hx0]; simp)
   rw [noS o' e',c.n2] at q; cases q
 ·rintro rfl
  exact (c.pp p hp).2 (noS _ (I.pin p hp).1)
theorem touch_keep {h2:Heap} (st:(PySem.W.hideAll s.heap (touch ex (some T) X)).StaysIn h2):∀ b o,s.heap.get? b=some o->b≠ex->b≠T->b∉frs X.stack->h2.get? b=some o:=fun b o e h1 h2 h3=>st b o (PySem.W.hideAll_get _ e fun hm=>by
  rcases List.mem_cons.mp hm with q | hm
  ·exact h1 q
  ·rcases List.mem_append.mp hm with q | q
   ·exact h2 (by simpa using q)
   ·exact h3 q)
theorem caught_tr (c:Caught X pins H s ex T Cc):∃ a0,s.heap.TracedW (PySem.W.hideAll s.heap (touch ex (some T) X)) ex (.ref Cc) a0:=by
 obtain ⟨oe,vs,oT,ts,a1,a2,a3,a4,a5,a6,a7,a8⟩:=c.fly
 have hz:0 < vs.size:=Nat.lt_of_succ_lt (Array.getElem?_eq_some_iff.mp a4).1
 exact ⟨vs[0],oe,vs,T,oT,ts,a1,⟨a2,by simp [hz]⟩,a3,a4,PySem.W.hideAll_none _ (List.mem_cons_of_mem _ (List.mem_append_left _ (by simp))),a5,a6,a7,a8⟩
theorem stack_hide (I:Inv X pins σ H s) (hstk:X.stack=X.env::X.outer):s.heap.FunFrames (PySem.W.hideAll s.heap (touch ex (some T) X)) (X.env::X.outer):=by
 rw [<-hstk]
 exact PySem.W.funFrames_hide I.stack fun env he b hb=>List.mem_cons_of_mem _ (List.mem_append_right _ (stack_env hstk env he b hb))
theorem note_core {A:Around} {E:Value->Shared->Prop} {Q:Unit->Shared->Prop} (hA:A.frames=some X.stack) (I:Inv X pins σ H s) (hstk:X.stack=X.env::X.outer) (hfr:X.env.frame=some X.env.locals) (hx0:X.ex=[]) (c:Caught X pins H s ex T Cc)
  (k:∀ s' T',Inv X pins σ H s'->Caught X pins H s' ex T' Cc->Q () s'):wpAny (model X.prog X.w) A (noteFrame (.ref ex) X.env) (fun _ s1=>wpAny (model X.prog X.w) A (setFlight (.ref ex) none) Q E s1) E s:=by
 obtain ⟨a0,tr⟩:=caught_tr c
 refine wpAny_looks_onW (by rw [hA,hstk]) hfr ⟨fun b o e=>PySem.W.of_hideAll _ e,PySem.W.hideAll_none _ (List.mem_cons.mpr (.inl rfl)),stack_hide I hstk,tr⟩ fun h1 held u1=>?_
 refine wpAny_landsW held fun h2 fl u2=>?_
 have slot:∀ b o,s.heap.get? b=some o->b∈frs X.stack->∃ sl,h2.get? b=some { o with slots:=sl }:=fun b o e hb=>by
  obtain ⟨o',e',nf⟩:=frame_nf I hb
  rw [e] at e'; cases e'
  obtain ⟨sl,q⟩:=u1 b o e nf
  obtain ⟨sl2,q2⟩:=u2 b _ q nf
  exact ⟨sl2,q2⟩
 obtain ⟨T',c'⟩:=caught_new I hx0 c slot fl.2.2.2
 have I2:Inv X pins σ H { s with heap:=h2 }:=inv_gone I hstk hfr hx0 c (touch_keep fl.1) slot
 exact k { s with heap:=h2 } T' I2 c'
theorem flight_core {A:Around} {E:Value->Shared->Prop} {Q:Unit->Shared->Prop} (I:Inv X pins σ H s) (hstk:X.stack=X.env::X.outer) (hfr:X.env.frame=some X.env.locals) (hx0:X.ex=[]) (c:Caught X pins H s ex T Cc)
  (k:∀ s' T',Inv X pins σ H s'->Caught X pins H s' ex T' Cc->Q () s'):wpAny (model X.prog X.w) A (setFlight (.ref ex) none) Q E s:=by
 obtain ⟨a0,tr⟩:=caught_tr c
 refine wpAny_setFlight_noneW (base:=PySem.W.hideAll s.heap (touch ex (some T) X)) (fun b o e=>PySem.W.of_hideAll _ e) (stack_hide I hstk) tr fun h2 st _ tr2 kp=>?_
 have slot:∀ b o,s.heap.get? b=some o->b∈frs X.stack->∃ sl,h2.get? b=some { o with slots:=sl }:=fun b o e hb=>by
  obtain ⟨o',e',nf⟩:=frame_nf I hb
  rw [e] at e'; cases e'
  exact ⟨o.slots,kp b o e nf⟩
 obtain ⟨T',c'⟩:=caught_new I hx0 c slot tr2
 exact k _ T' (inv_gone I hstk hfr hx0 c (touch_keep st) slot) c'
theorem track (I:Inv X pins σ H s) (c:Caught X pins H s ex T Cc):Inv X pins σ (upd H ex (excO ex Cc)) s:=by
 obtain ⟨oe,vs,oT,ts,a1,a2,a3,_⟩:=c.fly
 have nf:∀ b o,s.heap.get? b=some o->(∀ vs,o.data≠.fields vs)->b≠ex:=fun b o e n=>by
  rintro rfl; rw [a1] at e; cases e; exact n _ a3
 have up:∀ {b:Addr} {u:HO},H b=some u->upd H ex (excO ex Cc) b=some u:=fun {b u} e=>by rw [upd_ne (ne_of_none e c.hex)]; exact e
 refine ⟨I.ok,I.os,I.bare,⟨I.base.keep,I.base.slot,fun b o e n hx=>?_,I.base.there,fun b xs e=>up (I.base.tups b xs e),fun b o u e=>up (I.base.frzs b o u e),fun b ps e=>?_⟩,I.loc,I.cell,?_,fun x a e=>?_,fun p hp=>?_,fun b u e=>?_,I.len⟩
 ·rw [upd_ne (by rintro rfl; rw [c.n1] at e; cases e)]; exact I.base.free b o e n hx
 ·obtain ⟨more,z⟩:=I.base.tbls b ps e
  exact ⟨more,up z⟩
 ·obtain ⟨m,⟨o,es,ep,ho,hd,_⟩,_⟩:=I.loc
  rw [upd_ne (nf _ o ho fun vs z=>by rw [hd] at z; cases z)]; exact I.free
 ·obtain ⟨v,oc,e1,e2⟩:=I.cell x a e
  rw [upd_ne (nf _ oc e1 fun vs z=>by rw [e2] at z; cases z)]; exact I.freeC x a e
 ·obtain ⟨b1,b2,b3⟩:=I.pin p hp
  refine ⟨b1,?_,b3⟩
  rw [upd_ne (c.pp p hp).1]; exact b2
 ·by_cases q:b=ex
  ·subst q
   rw [upd_same] at e; cases e
   refine ⟨⟨oe,vs,a1,a2,a3⟩,⟨oe,a1⟩,fun h1 h2 ⟨o1,v1,e1,e2,e3⟩ kk=>⟨o1,v1,kk _ e1,e2,e3⟩⟩
  ·rw [upd_ne q] at e
   exact (I.hok b u e).stay (fun _ _ _ z=>z) (fun d z=>up z) fun d xs z=>up z
def cxTry (X:Cx) (pn:List (Addr×Obj)) (xe:Value->Shared->Prop):Cx:={ X with pn:=pn,xe:=xe }
theorem inv_try {xe:Value->Shared->Prop} (I:Inv X pins σ H s):Inv (cxTry X (X.pn++pins) xe) [] σ H s:=
 ⟨⟨I.ok.mod,I.ok.kind,I.ok.glob,I.ok.blt,I.ok.above,I.ok.inj,I.ok.has,I.ok.cab,I.ok.hd,I.ok.frames,I.ok.stk,I.ok.exf,I.ok.bs,I.ok.bsz,I.ok.noex,I.ok.exfs,I.ok.funs,I.ok.frf⟩,I.os,I.bare,I.base,I.loc,I.cell,I.free,I.freeC,fun p hp=>I.pin p (by simpa [cxTry] using hp),I.hok,I.len⟩
theorem inv_untry {xe:Value->Shared->Prop} {pins':List (Addr×Obj)} (I:Inv (cxTry X (X.pn++pins) xe) pins' σ H s):Inv X pins σ H s:=
 ⟨⟨I.ok.mod,I.ok.kind,I.ok.glob,I.ok.blt,I.ok.above,I.ok.inj,I.ok.has,I.ok.cab,I.ok.hd,I.ok.frames,I.ok.stk,I.ok.exf,I.ok.bs,I.ok.bsz,I.ok.noex,I.ok.exfs,I.ok.funs,I.ok.frf⟩,I.os,I.bare,I.base,I.loc,I.cell,I.free,I.freeC,fun p hp=>I.pin p (List.mem_append_left _ hp),I.hok,I.len⟩
noncomputable def cxIn (X:Cx) (e:Value):Cx:={ X with A:=X.A.mark (some e),calm:=false,xe:=fun _ _=>False }
theorem inv_in {e:Value} (I:Inv X pins σ H s):Inv (cxIn X e) pins σ H s:=
 ⟨⟨I.ok.mod,I.ok.kind,I.ok.glob,I.ok.blt,I.ok.above,I.ok.inj,I.ok.has,I.ok.cab,fun z=>absurd z (by show ¬(false=true); exact Bool.false_ne_true),I.ok.frames,I.ok.stk,I.ok.exf,I.ok.bs,I.ok.bsz,I.ok.noex,I.ok.exfs,I.ok.funs,I.ok.frf⟩,I.os,I.bare,I.base,I.loc,I.cell,I.free,I.freeC,I.pin,I.hok,I.len⟩
theorem inv_out {e:Value} (hok:X.Ok) (I:Inv (cxIn X e) pins σ H s):Inv X pins σ H s:=
 ⟨hok,I.os,I.bare,I.base,I.loc,I.cell,I.free,I.freeC,I.pin,I.hok,I.len⟩
theorem inv_nsgone {h':Heap} {m':Str->Option Value} {t:Nat} (I:Inv X pins σ H s) (hstk:X.stack=X.env::X.outer) (hfr:X.env.frame=some X.env.locals) (hns:h'.Ns X.env.locals m') (sb:Heap.SameBut X.env.locals s.heap h'):Inv X pins (σ.map fun _=>none) H { s with heap:=h',toks:=t }:=by
 have neL:∀ b o,X.s₀.heap.get? b=some o->b≠X.env.locals:=fun b o e=>Nat.ne_of_lt (Nat.lt_of_lt_of_le (Heap.lt_size e) I.ok.above)
 obtain ⟨m,⟨oL,es,ep,hoL,hdL,_⟩,_⟩:=id I.loc
 have cL:∀ {a:Addr} {v:Option Value},s.heap.IsCell a v->a≠X.env.locals:=fun {a v} ⟨oc,e1,e2⟩=>by
  rintro rfl; rw [hoL] at e1; cases e1; rw [hdL] at e2; cases e2
 refine ⟨I.ok,I.os,I.bare,⟨fun b o e n hb hx=>(sb.2 b (neL b o e)).trans (I.base.keep b o e n hb hx),fun b o e n hb hx=>?_,I.base.free,fun b o e hx=>?_,I.base.tups,I.base.frzs,I.base.tbls⟩,⟨m',hns,fun i x v e1 e2=>?_⟩,fun x a e=>?_,I.free,I.freeC,fun p hp=>?_,fun b u e=>?_,by simp [I.len]⟩
 ·obtain ⟨sl,q⟩:=I.base.slot b o e n hb hx
  exact ⟨sl,(sb.2 b (neL b o e)).trans q⟩
 ·obtain ⟨o',q⟩:=I.base.there b o e hx
  exact ⟨o',(sb.2 b (neL b o e)).trans q⟩
 ·simp only [List.getElem?_map] at e2
  cases q:σ[i]? <;> rw [q] at e2 <;> cases e2
 ·obtain ⟨v,z⟩:=I.cell x a e
  exact ⟨v,z.sameBut sb (cL z)⟩
 ·obtain ⟨a1,a2,a3,a4⟩:=I.pin p hp
  exact ⟨(sb.2 p.1 a3).trans a1,a2,a3,a4⟩
 ·refine (I.hok b u e).stay (fun d v hc q=>(sb.2 d ?_).trans q) (fun _ q=>q) fun _ _ q=>q
  rintro rfl
  rcases hc with z | z
  ·rw [<-z,I.free] at e; cases e
  ·rw [I.free] at z; cases z
end
def tryC (C:Ct) (own:List Nat) (E:XK):Ct:=⟨C.K,C.cv,E,own,C.mr,C.ol,own,fun _ h=>h⟩
noncomputable def exC (C:Ct):Ct:=⟨C.K,C.cv,fun _ _ _=>False,[],C.mr,[],[],fun _ h=>h⟩
noncomputable def sTry (n:Nat) (j:Option Nat) (hit:Str->Option Addr) (fb fs:Sl->Out (Fl×Sl)):Sl->Out (Fl×Sl):=fun ρ=>match fb ρ with
 | .exc c ρe=>match hit c with
  | some Cc=>match fs (match j with | some j=>(List.replicate n none).set j (some (.xcp Cc)) | none=>List.replicate n none) with
   | .ok (.rt d,_)=>.ok (.rt d,ρe)
   | _=>.bad
  | none=>.bad
 | o=>o
def tryE (C:Ct) (own:List Nat) (σ:St) (F H:Hp) (r:Out (Fl×Sl)):XK:=fun cls _ H'=>∃ c ρe F',r=.exc c ρe/\cls=C.cv c/\Same F' H'/\IoIs C.K own F' H' σ ρe/\Chg (OA own σ) F H F' H'
def tryX (X:Cx) (pins:List (Addr×Obj)) (E:XK):Value->Shared->Prop:=fun e s'=>∃ σ ex T Cc H',e=.ref ex/\Inv X pins σ H' s'/\Caught X pins H' s' ex T Cc/\E (.ref Cc) none H'
section
variable {X:Cx} {C:Ct} {own own':List Nat} {fb fs:Sl->Out (Fl×Sl)} {pins:List (Addr×Obj)}
theorem try_passes {E:XK} (hx0:X.ex=[]):Passes (CXk X.prog X.w) (cxTry X (X.pn++pins) (tryX X pins E)) E:=fun pins' σ H s e s' I h=>by
 obtain ⟨ex,T,Cc,H',rfl,os,bare,un,hok,fl,e1,e2,n1,n2,hE⟩:=h
 have old:∀ b,s.heap.get? b=none->X.s₀.heap.get? b=none:=fun b hb=>by
  cases q:X.s₀.heap.get? b with
  | none=>rfl
  | some o=>
   obtain ⟨o',e'⟩:=I.base.there b o q (by show b∉X.ex; rw [hx0]; simp)
   rw [hb] at e'; cases e'
 have I2:Inv (cxTry X (X.pn++pins) (tryX X pins E)) pins' σ H' s':=I.call' (ch:=[]) os un hok bare (fun b z=>absurd z (by simp))
 refine ⟨σ,ex,T,Cc,H',rfl,inv_untry I2,⟨fl,e1,e2,old ex n1,old T n2,fun p hp=>?_⟩,hE⟩
 have q:=(I.pin p (List.mem_append_left _ hp)).1
 exact ⟨fun z=>(by rw [z,n1] at q; cases q),fun z=>(by rw [z,n2] at q; cases q)⟩
theorem Nx.untry {E:XK} {o1 o2:List Nat} {σ σ':St} {F H F' H':Hp} {ρ':Sl} (hsub:∀ i∈C.io,i∈own) (n:Nx (tryC C own E) o1 o2 σ F H ρ' σ' F' H'):Nx C o1 o2 σ F H ρ' σ' F' H':=⟨n.rep,n.chg,n.oa,fun i hi=>n.io i (hsub i hi)⟩
theorem try_body {σ:St} {F H:Hp} {ρ:Sl} {D:Ends} {n:Nat} {j:Option Nat} {hit:Str->Option Addr} (hsub:∀ i∈C.io,i∈own) (rp:Rep C.K own F H σ ρ) (h:PoS C own own' σ F H (sTry n j hit fb fs ρ) D):tSt (tryC C own (tryE C own σ F H (fb ρ))) own own' fb D σ H:=by
 refine ⟨F,ρ,rp,?_⟩
 unfold sTry at h
 cases q:fb ρ with
 | ok p=>
  rw [q] at h
  obtain ⟨fl,ρ'⟩:=p
  cases fl with
  | nx=>exact fun σ' F' H' nn=>h σ' F' H' (nn.untry hsub)
  | rt d=>exact fun v σ' F' H' s io c e mo=>h v σ' F' H' s (fun i hi=>io i (hsub i hi)) c (fun i hi=>e i (hsub i hi)) mo
  | bk=>exact fun σ' F' H' nn=>h σ' F' H' (nn.untry hsub)
  | ct=>exact fun σ' F' H' nn=>h σ' F' H' (nn.untry hsub)
 | exc c ρe=>exact fun F' H' s io ch=>⟨c,ρe,F',rfl,rfl,s,io,ch⟩
 | bad=>rw [q] at h; exact h.elim
theorem suite_end {σ:St} {F H F1 H1 F3 H3:Hp} {ρe:Sl} {ex Cc:Addr} {D:Ends} {d:D2.D} {v:V} {σw:St} (hsub:∀ i∈C.io,i∈own) (h:PoS C own own' σ F H (.ok (.rt d,ρe)) D) (hn:H1 ex=none) (sb:Same F1 H1) (io:IoIs C.K own F1 H1 σ ρe) (ch:Chg (OA own σ) F H F1 H1)
  (s3:Same F3 H3) (c3:Chg (OA [] σw) (upd F1 ex (excO ex Cc)) (upd H1 ex (excO ex Cc)) F3 H3) (mo:MoIs C.K C.mr (upd H1 ex (excO ex Cc)) F3 H3 v d):D.rt v H3:=by
 obtain ⟨sb2,c2⟩:=grow_sh (u:=excO ex Cc) sb hn
 have no:∀ {b},OA [] σw b->False:=fun ⟨i,hi,_⟩=>by simp at hi
 have c3':Chg No (upd F1 ex (excO ex Cc)) (upd H1 ex (excO ex Cc)) F3 H3:=c3.mono fun x z=>no z
 have c12:Chg No F1 H1 F3 H3:=c2.trans c3' fun _ z=>z.elim
 refine h v σ F3 H3 s3 (fun i hi=>?_) (ch.trans c12 fun _ z=>z.elim) (fun _ _=>rfl) (MoIs.back (Ha:=H3) (ch.trans c2 fun _ z=>z.elim) mo)
 obtain ⟨d',a,e1,e2,e3,e4⟩:=io i (hsub i hi)
 refine ⟨d',a,e1,e2,?_,e4.grow c12.grow fun o q=>c12.keep a o q fun z=>z⟩
 cases q:F3 a with
 | none=>rfl
 | some u=>
  rcases c12.new a (by rw [q]; simp) with z | z | z
  ·exact absurd e3 z
  ·exact absurd z e4.there
  ·exact z.elim
theorem pds_try {cn en:Str} {np hpos pos:Pos} {body suite:List Stmt} {b0:Stmt} {cls:Value} {n j:Nat} {hit:Str->Option Addr} {own2:List Nat} (hx0:X.ex=[]) (hstk:X.stack=X.env::X.outer) (hfr:X.env.frame=some X.env.locals)
  (hg:Gl X cn) (hm:X.mg cn=some cls) (hhit:∀ c Cc,hit c=some Cc->C.cv c=.ref Cc/\PySem.W.exmOne X.K (.ref Cc) cls=some true) (hN:X.N.Nodup) (hj:X.N[j]?=some en) (hx:X.env.scope.names.lookup en=some .local) (hn:X.N.length=n)
  (hb:∀ pn xe E,Passes (CXk X.prog X.w) (cxTry X pn xe) E->PSs (cxTry X pn xe) body (tSt (tryC C own E) own own' fb)) (hs:∀ e,PSs (cxIn X e) (b0::suite) (tSt (exC C) [] own2 fs)) (hsub:∀ i∈C.io,i∈own:=by exact sub_of rfl) (hd:(cn == ("__debug__":Str))=false:=by decide) :
  PS X (.Try body [.ExceptHandler (some (.Name cn np)) (some en) (b0::suite) hpos] [] [] pos) (tSt C own own' (sTry n (some j) hit fb fs)):=by
 refine ⟨?_⟩
 intro pins s σ H D I ⟨F,ρ,rp,h⟩
 have run:=hb (X.pn++pins) (tryX X pins (tryE C own σ F H (fb ρ))) (tryE C own σ F H (fb ρ)) (try_passes hx0) [] s σ H D (inv_try I) (try_body hsub rp h)
 refine wpAny_Try_except (wpAny_mono run (fun f s1 hf=>?_) fun e s1 he=>?_)
 ·cases f with
  | next=>
   obtain ⟨σ',H',I',q⟩:=hf
   exact pss_nil pins s1 σ' H' D (inv_untry I') q
  | brk=>obtain ⟨σ',H',I',q⟩:=hf; exact ⟨σ',H',inv_untry I',q⟩
  | cont=>obtain ⟨σ',H',I',q⟩:=hf; exact ⟨σ',H',inv_untry I',q⟩
  | ret u=>obtain ⟨v,σ',H',I',r,q⟩:=hf; exact ⟨v,σ',H',inv_untry I',r,q⟩
 ·obtain ⟨σ1,ex,T,Cc,H1,rfl,I1,c1,c,ρe,F1,hr,hcls,sb1,io1,ch1⟩:=he
  refine note_core I1.ok.frames I1 hstk hfr hx0 c1 fun s2 T2 I2 c2=>?_
  unfold sTry at h
  rw [hr] at h
  cases qh:hit c with
  | none=>simp only [qh] at h; exact h.elim
  | some Ch=>
   simp only [qh] at h
   obtain ⟨hc1,hc2⟩:=hhit c Ch qh
   rw [hc1] at hcls
   obtain rfl:Cc=Ch:=by injection hcls
   refine wpAny_handleBy_cons (codeAny_handlers_test (ld_glob (X:=cxIn X (.ref ex)) (inv_in I2) hg hm ?_ hd)) (by intro q; cases q)
   obtain ⟨oe,vs,oT,ts,a1,a2,a3,_⟩:=id c2.fly
   have LT:PySem.W.Looks (model X.prog X.w) s2.heap (typeOf (.ref ex)) (.ref Cc):=by rw [<-a2]; exact (PySem.W.Looks.ld a1).andThen .now
   refine (PySem.W.exm_one I2.kIn LT hc2) _ _ _ _ (fun _ _ z=>z) ?_
   refine codeAny_handlers_suite_as (flight_core I2 hstk hfr hx0 c2 fun s3 T3 I3 c3=>?_)
   have I4:=track I3 c3
   refine store_ok I4 hN hj (.inl hx) (v:=.ref ex) rfl (fun s5 I5=>?_) (.inr hx)
   have hjn:j < n:=by rw [<-hn]; exact (List.getElem?_eq_some_iff.mp hj).1
   have I6:Inv X pins ((List.replicate n none).set j (some (.ref ex))) (upd H1 ex (excO ex Cc)) s5:=I5.weak (by simp [I3.len,hn]) fun i v e=>by
    by_cases qi:i=j
    ·subst qi
     rw [List.getElem?_set_self (by simpa using hjn)] at e
     rw [List.getElem?_set_self (by rw [I3.len,hn]; exact hjn)]
     exact e
    ·rw [List.getElem?_set_ne (Ne.symm qi),List.getElem?_replicate] at e
     split at e <;> cases e
   obtain ⟨sb2,cc2⟩:=grow_sh (u:=excO ex Cc) sb1 c1.hex
   have rp6:Rep C.K [] (upd F1 ex (excO ex Cc)) (upd H1 ex (excO ex Cc)) ((List.replicate n none).set j (some (V.ref ex))) ((List.replicate n none).set j (some (.xcp Cc))):=by
    refine ⟨sb2,by simp,fun i d hi e=>?_,fun i d hi=>by simp at hi,fun i hi=>by simp at hi,fun i j a hi=>by simp at hi⟩
    by_cases qi:i=j
    ·subst qi
     rw [List.getElem?_set_self (by simpa using hjn)] at e
     cases e
     exact ⟨.ref ex,by rw [List.getElem?_set_self (by simpa using hjn)],.xcp upd_same⟩
    ·rw [List.getElem?_set_ne (Ne.symm qi),List.getElem?_replicate] at e
     split at e <;> cases e
   have main:tSt (exC C) [] own2 fs { nx:=fun _ _=>False,rt:=D.rt } ((List.replicate n none).set j (some (V.ref ex))) (upd H1 ex (excO ex Cc)):=by
    refine ⟨_,_,rp6,?_⟩
    cases qs:fs ((List.replicate n none).set j (some (.xcp Cc))) with
    | ok p=>
     obtain ⟨fl,ρ5⟩:=p
     rw [qs] at h
     cases fl with
     | rt d=>exact fun v σ' F3 H3 s3 io c3 e mo=>suite_end (own':=own') (D:=D) (ex:=ex) (Cc:=Cc) hsub h c1.hex sb1 io1 ch1 s3 c3 mo
     | nx=>exact h.elim
     | bk=>exact h.elim
     | ct=>exact h.elim
    | exc _ _=>rw [qs] at h; exact h.elim
    | bad=>rw [qs] at h; exact h.elim
   refine wpAny_mono (hs (.ref ex) pins s5 _ _ _ (inv_in I6) main) (fun f s7 hf=>?_) fun _ _ z=>z.elim
   cases f with
   | next=>obtain ⟨_,_,_,q⟩:=hf; exact q.elim
   | brk=>obtain ⟨_,_,_,q⟩:=hf; exact q.elim
   | cont=>obtain ⟨_,_,_,q⟩:=hf; exact q.elim
   | ret u=>
    obtain ⟨v,σ7,H7,I7,r7,q7⟩:=hf
    have I7':Inv X pins σ7 H7 s7:=inv_out I.ok I7
    obtain ⟨m,hns,_⟩:=id I7'.loc
    refine wpAny_nameGoes hx hns (by rw [I.ok.kind]; rfl) fun h' m' hn' sb'=>?_
    exact ⟨v,_,H7,inv_nsgone I7' hstk hfr hn' sb',r7,q7⟩
end
structure RoomQ (k:Nat) (A:Around):Prop where
 dp:A.depth+3 * k+5 < recursionLimit
 un:A.units+16 * k+200 < cLine
theorem RoomQ.deeper {k:Nat} {A:Around} (r:RoomQ (k+1) A) (env:Env):RoomQ k (A.deeper env):=
 ⟨by have:=r.dp; show A.depth+1+3 * k+5 < _; omega,by have:=r.un; show A.units+3+16 * k+200 < _; omega⟩
theorem RoomQ.depth {k:Nat} {A:Around} (r:RoomQ k A):A.depth < recursionLimit:=by have:=r.dp; omega
theorem RoomQ.units {k:Nat} {A:Around} (r:RoomQ k A):A.units+64 < cLine:=by have:=r.un; omega
theorem _root_.L2.Room.quiet {k:Nat} {A:Around} (r:Room k A):RoomQ k A:=⟨r.dp,r.un⟩
theorem RoomQ.mark {k:Nat} {A:Around} (r:RoomQ k A) (e:Option Value):RoomQ k (A.mark e):=⟨r.dp,r.un⟩
structure FnQ (P:Program) (w:World) (K:Frag) (mg:Str->Option Value) (base:Heap) (CX:CXT) (k:Nat) (f:Addr) (fd:FuncData) (ps:List Str) (sp:Sp):Prop where
 len:∀ vs H Q E,sp vs H Q E->vs.length=ps.length
 run:∀ (A:Around) (outer:List Env) (s:Shared) (H:Hp) (args:Args) (us:List Value) (vs:List V) (Q:VK) (E:XK),RoomQ k A->Env0 P w K mg base A outer s H->BindsTo s fd args (ps.zip us)->Vals vs us->sp vs H Q E ->
  codeAny (model P w) A (.call (.ref f) args) (CR CX outer P w H s Q E) s
def cxQ (CX:CXT) (P:Program) (w:World) (K:Frag) (mg:Str->Option Value) (base:Heap) (N:List Str) (qual:Str) (scope:Scope) (f:Addr) (cd:Value) (A:Around) (outer:List Env) (s:Shared) (H:Hp) (E:XK):Cx where
 prog:=P
 w:=w
 K:=K
 mg:=mg
 base:=base
 A:=A.deeper (envOfC qual scope s.heap.objs.size f cd)
 N:=N
 s₀:=s
 H₀:=H
 env:=envOfC qual scope s.heap.objs.size f cd
 outer:=outer
 stack:=envOfC qual scope s.heap.objs.size f cd::outer
 ex:=[]
 calm:=false
 fn:=fun _=>true
 pn:=[]
 xe:=fun e s'=>wpAny (model P w) (A.deeper (envOfC qual scope s.heap.objs.size f cd)) (leaving (envOfC qual scope s.heap.objs.size f cd) e) (fun _ s''=>CX outer H s E e s'') (fun e' s''=>CX outer H s E e' s'') s'
theorem inv_startQ {CX:CXT} {P:Program} {w:World} {K:Frag} {mg:Str->Option Value} {base:Heap} {N ps:List Str} {qual:Str} {scope:Scope} {f:Addr} {cd:Value} {A:Around} {outer:List Env} {s s1:Shared} {H:Hp} {E:XK} {us:List Value} {vs:List V}
  (S:FnScope N ps scope) (e0:Env0 P w K mg base A outer s H) (hl:vs.length=ps.length) (r:Vals vs us)
  (x:InCallC s s.heap.objs.size (bindL (envOfC qual scope s.heap.objs.size f cd).kindOf (ps.zip us) fun _=>none) (cellsFrom (s.heap.objs.size+1) scope.names []) (bindC (envOfC qual scope s.heap.objs.size f cd).kindOf (ps.zip us) fun _=>none) s1) :
  Inv (cxQ CX P w K mg base N qual scope f cd A outer s H E) [] (start N vs) H s1:=by
 have hpl:ps.length<=N.length:=by have:=congrArg List.length S.pre; rw [List.length_take] at this; omega
 obtain ⟨h1,tk,rfl,hk⟩:=x.done
 have noA:∀ b:Addr,b∉(cxQ CX P w K mg base N qual scope f cd A outer s H E).ex:=fun b z=>absurd (show b∈([]:List Addr) from z) (by simp)
 refine ⟨⟨e0.mod,S.kind,rfl,rfl,Nat.le_refl _,fun y z c h1 h2=>?_,fun y hy=>?_,fun y c _ h=>?_,fun z=>absurd z (by show ¬(false=true); exact Bool.false_ne_true),Around.frames_deeper e0.frames,.inr ⟨rfl,rfl⟩,fun b z=>absurd z (noA b),e0.bs,e0.bsz,fun b _ _=>noA b,fun b z=>absurd z (noA b),e0.funs,e0.frf⟩,
  rfl,e0.bare,Un.kept hk,⟨_,x.toInCall.ns,fun i y v h1 h2 h3=>?_⟩,fun y c h=>⟨_,x.cell y c h⟩,e0.hok.fresh (Nat.le_refl _),fun y c h=>?_,fun p hp=>absurd (show p∈([]:List (Addr×Obj)) from hp) (by simp),e0.hok.kept hk,?_⟩
 ·exact name_of_addr x.apart (PySem.mem_of_lookup h1) (PySem.mem_of_lookup h2)
 ·have hy:scope.names.lookup y=some .cell\/scope.names.lookup y=some .free:=hy
  rcases hy with hy | hy
  ·exact cell_has hy
  ·exact absurd rfl (S.nofree _ (PySem.mem_of_lookup hy))
 ·exact Nat.le_of_lt (x.above y c (PySem.mem_of_lookup h))
 ·have hi:i < vs.length:=by
   unfold start at h2
   by_cases hi:i < vs.length
   ·exact hi
   ·rw [List.getElem?_append_right (by simpa using hi)] at h2
    rw [List.getElem?_replicate] at h2
    split at h2 <;> cases h2
  have ha:vs[i]?=some v:=by
   unfold start at h2
   rw [List.getElem?_append_left (by simpa using hi),List.getElem?_map] at h2
   cases e:vs[i]? with
   | none=>rw [e] at h2; cases h2
   | some a=>rw [e] at h2; cases h2; rfl
  obtain ⟨u,hu,rv⟩:=r.get ha
  have hp:ps[i]?=some y:=by
   rw [<-S.pre,List.getElem?_take_of_lt (by omega)]; exact h1
  have ndP:ps.Nodup:=by rw [<-S.pre]; exact S.nd.sublist (List.take_sublist _ _)
  refine ⟨u,rv,?_⟩
  rcases S.par y (List.mem_of_getElem? hp) with k | k
  ·exact .inl ⟨k,bindL_get ndP hp hu k⟩
  ·obtain ⟨c,e⟩:=cell_has (n:=s.heap.objs.size+1) k
   refine .inr ⟨.inl k,c,e,?_⟩
   have q:=x.cell y c e
   rw [bindC_get ndP hp hu (by show scope.names.lookup y≠_; rw [k]; decide)] at q
   exact q
 ·exact e0.hok.fresh (Nat.le_of_lt (x.above y c (PySem.mem_of_lookup h)))
 ·unfold start
  show _=N.length
  rw [List.length_append,List.length_map,List.length_replicate]
  omega
theorem fn_ofQ {CX:CXT} {P:Program} {w:World} {K:Frag} {mg:Str->Option Value} {base:Heap} {k:Nat} {f:Addr} {name qual:Str} {params:Arguments} {body:List Stmt} {scope:Scope} {dV kV doc pm cdv ct oc:Value} {an od:Option Addr}
  {osl:Array (Option Value)} {N ps:List Str} {sp:Sp} (lk:K.lookup f=some ⟨oc,od,.func (PySem.W.fnOf name qual params body scope dV kV doc pm an cdv ct),osl⟩) (hcd:codeIn K cdv qual=true) (S:FnScope N ps scope)
  (len:∀ vs H Q E,sp vs H Q E->vs.length=ps.length)
  (hbody:∀ (A:Around) (outer:List Env) (s:Shared) (H:Hp) (vs:List V) (Q:VK) (E:XK),RoomQ k (A.deeper (envOfC qual scope s.heap.objs.size f cdv))->sp vs H Q E ->
   ∃ t,PSs (cxQ CX P w K mg base N qual scope f cdv A outer s H E) body t/\t { nx:=fun _ H'=>Q .non H',rt:=Q } (start N vs) H) :
  FnQ P w K mg base CX (k+1) f (PySem.W.fnOf name qual params body scope dV kV doc pm an cdv ct) ps sp:=by
 refine ⟨len,fun A outer s H args us vs Q E hr e0 hb r hsp=>?_⟩
 have hl:=len _ _ _ _ hsp
 have KX:K.In s.heap:=e0.mod.kin.keeps fun b o e=>(e0.bs b o e).1
 have lim:s.heap.NoLimit:=e0.mod.nolimit.keeps fun b o e=>(e0.bs b o e).1
 have hkind:∀ y∈ps.zip us,scope.names.lookup y.1=some .local\/(scope.names.lookup y.1=some .cell/\((cellsFrom (s.heap.objs.size+1) scope.names []).lookup y.1).isSome=true):=fun ⟨n,v⟩ hy=>by
  rcases S.par n (List.of_mem_zip hy).1 with q | q
  ·exact .inl q
  ·exact .inr ⟨q,PySem.W.cellsFrom_some _ _ _ (.inl q)⟩
 refine codeAny_call_function hr.depth (KX _ _ lk) rfl S.co S.gen rfl (PySem.W.codeRec_of KX hcd) (hb _ _ _ _ ?_)
 refine wpAny_newFunctionEnv_cells S.kind hkind fun env he s1 x=>?_
 subst he
 refine ⟨lim.keeps x.toInCall.keep,codeAny_func ?_⟩
 obtain ⟨t,ht,hq⟩:=hbody A outer s H vs Q E (hr.deeper _) hsp
 have I:Inv (cxQ CX P w K mg base N qual scope f cdv A outer s H E) [] (start N vs) H s1:=inv_startQ S e0 hl r x
 refine wpAny_mono (ht [] s1 (start N vs) H _ I hq) (fun fl s' hs=>?_) fun e s' hs=>hs
 have fin:∀ {σ':St} {H':Hp} {v:V} {u:Value},Inv (cxQ CX P w K mg base N qual scope f cdv A outer s H E) [] σ' H' s'->RelV v u->Q v H'->CE outer P w H s Q u s':=
  fun {σ' H' v u} J rv q=>⟨v,H',J.os,J.bare,J.base,J.hok,rv,q⟩
 cases fl with
 | ret u=>
  obtain ⟨v,σ',H',J,rv,q⟩:=hs
  exact fin J rv q
 | next=>
  obtain ⟨σ',H',J,q⟩:=hs
  exact fin (v:=V.non) (u:=Value.none) J rfl q
 | brk=>
  obtain ⟨_,_,_,q⟩:=hs
  exact False.elim q
 | cont=>
  obtain ⟨_,_,_,q⟩:=hs
  exact False.elim q
theorem fn_DQ {P:Program} {w:World} {K:Frag} {mg:Str->Option Value} {base:Heap} {CX:CXT} {x qual:Str} {st:Stmt} {f:Addr} {fd:FuncData} {N ps:List Str} {k:Nat} {cv:Str->Value} {ms:List PM} {mr:Mo} {own':List Nat} {fb:Sl->Out (Fl×Sl)} {G:List D->Out (D×List D)}
  (F:Fun K x qual st f fd) (S:FnScope N ps (defScope st)) (hl:ms.length=ps.length) (hsub:∀ i∈ioAt 0 ms,i∈own') (hmr:mr=.sh\/∀ ds ρ,(fb (startD N ds))≠.ok (.nx,ρ))
  (hbody:∀ (cdv:Value) (A:Around) (outer:List Env) (s:Shared) (H:Hp) (E:XK),RoomQ k (A.deeper (envOfC qual (defScope st) s.heap.objs.size f cdv)) ->
   PSs (cxQ CX P w K mg base N qual (defScope st) f cdv A outer s H E) (defBody st) (tSt (ctOf K cv E ms mr) (ownAt 0 ms) own' fb))
  (hG:∀ ds,Out.le (G ds) (runD N ms fb ds)):FnQ P w K mg base CX (k+1) f fd ps (spD K cv ms mr G):=by
 obtain ⟨oc,od,kV,doc,pm,an,cdv,ct,osl,rfl,lk,hcd⟩:=F.ex
 refine fn_ofQ lk hcd S (fun vs H Q E h=>?_) fun A outer s H vs Q E hr hsp=>?_
 ·obtain ⟨F,ds,_,ar,_⟩:=h
  rw [ar.length.1,hl]
 ·obtain ⟨F1,ds,sb,ar,nd,h⟩:=hsp
  refine ⟨_,hbody cdv A outer s H E hr,?_⟩
  exact ends_of (C:=ctOf K cv E ms mr) rfl rfl (hmr.imp id fun z ρ=>z ds ρ) hsub sb ar nd (hG ds) h
section
variable {X:Cx} {C:Ct} {own:List Nat} {as:List AK} {G:List D->Out (D×List D)} {fr:Sl->Out (List D×Sl)} {mr:Mo} {e:Expr} {es:List Expr}
theorem run_fnQ {CX:CXT} {k:Nat} {f:Addr} {fd:FuncData} {ps:List Str} {sp:Sp} {E:XK} {pins:List (Addr×Obj)} {σ:St} {H:Hp} {s:Shared} {Q:VK} {us:List Value} {vs:List V} (F:FnQ X.prog X.w X.K X.mg X.base CX k f fd ps sp) (hr:RoomQ k X.A) (hb:Binds X.K fd ps []) (hx:Passes CX X E)
  (I:Inv X pins σ H s) (r:Vals vs us) (h:sp (vs++[]) H Q E):wpAny (model X.prog X.w) X.A (call (.ref f) us) (EP X pins σ Q) X.xe s:=by
 have r2:Vals (vs++[]) (us++[]):=r.append .nil
 have hl:(us++[]).length=ps.length:=by rw [<-r2.length]; exact F.len _ _ _ _ h
 refine wpAny_call (codeAny_mono (F.run X.A X.stack s H ⟨us,[]⟩ (us++[]) (vs++[]) Q E hr I.env0 (hb s us I.kIn hl) r2 h) fun r s' hq=>?_)
 cases r with
 | error e=>exact hx pins σ H s e s' I hq
 | ok fl=>
  cases fl with
  | ret u=>exact I.after hq
  | next=>exact False.elim hq
  | brk=>exact False.elim hq
  | cont=>exact False.elim hq
theorem pd_callQ {CX:CXT} {k:Nat} {f:Addr} {fd:FuncData} {ps:List Str} {x:Str} {p pos:Pos} {ms:List PM} (F:FnQ X.prog X.w X.K X.mg X.base CX k f fd ps (spD C.K C.cv ms mr G)) (hr:RoomQ k X.A) (hg:Gl X x) (hm:X.mg x=some (.ref f)) (hk:keepIn X.K (.ref f)=true) (hb:Binds X.K fd ps []) (hx:Passes CX X C.E)
  (ha:PA X (e::es) (tAr C own as fr)) (hms:ms=as.map msOf:=by rfl) (hs:∀ i∈slotsA as,i∈own:=by decide) (nd:(slotsA as).Nodup:=by decide) (hf:frA as<=1:=by decide) (hio:∀ i∈C.ox,i∈own:=by exact sub_of rfl) (hdb:(x == ("__debug__":Str))=false:=by decide) (he:starEach (e::es) X.env=(false,eval e X.env)::starEach es X.env:=by exact star_cons rfl)
  (hpl:(backTo pos (starEach es X.env)).any (·.1)=false:=by exact star_any rfl):PE X (.Call (.Name x p) (e::es) [] pos) (tE C own mr (dCall as G fr)):=by
 subst hms
 refine ⟨?_⟩
 intro pins s σ H Q I h
 refine wpAny_Call_Name_kw (ld_glob I hg hm ?_ hdb)
 refine PySem.W.callWith_K (h₀:=X.base) I.ok.mod.kin hk (thn (ha pos pins s σ H _ I (call_of hio hs nd hf h)) fun us s1 ⟨vs,H1,I1,r,q⟩=>⟨I1.kIn,?_⟩) he hpl
 exact run_fnQ F hr hb hx I1 r q
end
def DefOk (P:Program) (w:World) (K:Frag) (mg:Str->Option Value) (base:Heap) (cv:Str->Value) (k:Nat) (x:Str) (ps:List Str) (ms:List PM) (mr:Mo) (G:List D->Out (D×List D)):Prop:=
 ∃ f fd,FnOk P w K mg base (CXk P w) k f fd ps (spD K cv ms mr G)/\mg x=some (.ref f)/\keepIn K (.ref f)=true/\Binds K fd ps []
def DefQ (P:Program) (w:World) (K:Frag) (mg:Str->Option Value) (base:Heap) (cv:Str->Value) (k:Nat) (x:Str) (ps:List Str) (ms:List PM) (mr:Mo) (G:List D->Out (D×List D)):Prop:=
 ∃ f fd,FnQ P w K mg base (CXk P w) k f fd ps (spD K cv ms mr G)/\mg x=some (.ref f)/\keepIn K (.ref f)=true/\Binds K fd ps []
def Text (K:Frag) (mg:Str->Option Value) (x:Str) (st:Stmt) (ps:List Str):Prop:=∃ f fd,Fun K x x st f fd/\mg x=some (.ref f)/\Binds K fd ps []
theorem def_ok {P:Program} {w:World} {K:Frag} {mg:Str->Option Value} {base:Heap} {cv:Str->Value} {x:Str} {st:Stmt} {N ps:List Str} {k:Nat} {ms:List PM} {mr:Mo} {own':List Nat} {fb:Sl->Out (Fl×Sl)} (T:Text K mg x st ps) (S:FnScope N ps (defScope st))
  (hbody:∀ (cdv:Value) (f:Addr) (A:Around) (outer:List Env) (s:Shared) (H:Hp) (E:XK),Room k (A.deeper (envOfC x (defScope st) s.heap.objs.size f cdv)) ->
   PSs (cxk P w K mg base N x (defScope st) f cdv A outer s H E) (defBody st) (tSt (ctOf K cv E ms mr) (ownAt 0 ms) own' fb))
  (hl:ms.length=ps.length:=by rfl) (hsub:∀ i∈ioAt 0 ms,i∈own':=by exact sub_of rfl) (hmr:mr=.sh\/∀ ds ρ,(fb (startD N ds))≠.ok (.nx,ρ):=by exact .inl rfl):DefOk P w K mg base cv (k+1) x ps ms mr (runD N ms fb):=by
 obtain ⟨f,fd,F,hm,hb⟩:=T
 exact ⟨f,fd,fn_D F S hl hsub hmr (fun cdv A outer s H E hr=>hbody cdv f A outer s H E hr) fun _=>.inr rfl,hm,F.kp,hb⟩
theorem def_q {P:Program} {w:World} {K:Frag} {mg:Str->Option Value} {base:Heap} {cv:Str->Value} {x:Str} {st:Stmt} {N ps:List Str} {k:Nat} {ms:List PM} {mr:Mo} {own':List Nat} {fb:Sl->Out (Fl×Sl)} (T:Text K mg x st ps) (S:FnScope N ps (defScope st))
  (hbody:∀ (cdv:Value) (f:Addr) (A:Around) (outer:List Env) (s:Shared) (H:Hp) (E:XK),RoomQ k (A.deeper (envOfC x (defScope st) s.heap.objs.size f cdv)) ->
   PSs (cxQ (CXk P w) P w K mg base N x (defScope st) f cdv A outer s H E) (defBody st) (tSt (ctOf K cv E ms mr) (ownAt 0 ms) own' fb))
  (hl:ms.length=ps.length:=by rfl) (hsub:∀ i∈ioAt 0 ms,i∈own':=by exact sub_of rfl) (hmr:mr=.sh\/∀ ds ρ,(fb (startD N ds))≠.ok (.nx,ρ):=by exact .inl rfl):DefQ P w K mg base cv (k+1) x ps ms mr (runD N ms fb):=by
 obtain ⟨f,fd,F,hm,hb⟩:=T
 exact ⟨f,fd,fn_DQ F S hl hsub hmr (fun cdv A outer s H E hr=>hbody cdv f A outer s H E hr) fun _=>.inr rfl,hm,F.kp,hb⟩
theorem DefOk.mono {P:Program} {w:World} {K:Frag} {mg:Str->Option Value} {base:Heap} {cv:Str->Value} {j k:Nat} {x:Str} {ps:List Str} {ms:List PM} {mr:Mo} {G:List D->Out (D×List D)} (h:DefOk P w K mg base cv j x ps ms mr G) (hj:j<=k):DefOk P w K mg base cv k x ps ms mr G:=by
 obtain ⟨f,fd,F,r⟩:=h
 exact ⟨f,fd,F.mono hj,r⟩
theorem DefOk.by {P:Program} {w:World} {K:Frag} {mg:Str->Option Value} {base:Heap} {cv:Str->Value} {k:Nat} {x:Str} {ps:List Str} {ms:List PM} {mr:Mo} {G G':List D->Out (D×List D)} (h:DefOk P w K mg base cv k x ps ms mr G) (e:∀ ds,Out.le (G' ds) (G ds)):DefOk P w K mg base cv k x ps ms mr G':=by
 obtain ⟨f,fd,F,r⟩:=h
 refine ⟨f,fd,F.imp fun vs H Q E ⟨F1,ds,sb,ar,nd,po⟩=>⟨F1,ds,sb,ar,nd,?_⟩,r⟩
 rcases e ds with z | z
 ·rw [z] at po; exact po.elim
 ·rw [<-z]; exact po
section
variable {X:Cx} {C:Ct} {own:List Nat} {as:List AK} {G:List D->Out (D×List D)} {fr:Sl->Out (List D×Sl)} {mr:Mo} {e:Expr} {es:List Expr} {x:Str} {p pos:Pos} {ms:List PM} {ps:List Str} {k j:Nat} {cv:Str->Value}
theorem pd_callN (F:DefOk X.prog X.w X.K X.mg X.base cv j x ps ms mr G) (hr:Room k X.A) (hj:j<=k) (hx:Passes (CXk X.prog X.w) X C.E) (hg:Gl X x) (ha:PA X (e::es) (tAr C own as fr)) (hcv:C.cv=cv:=by rfl) (hK:C.K=X.K:=by rfl) (hms:ms=as.map msOf:=by rfl) (hs:∀ i∈slotsA as,i∈own:=by decide) (nd:(slotsA as).Nodup:=by decide) (hf:frA as<=1:=by decide) (hio:∀ i∈C.ox,i∈own:=by exact sub_of rfl)
  (hdb:(x == ("__debug__":Str))=false:=by decide) (he:starEach (e::es) X.env=(false,eval e X.env)::starEach es X.env:=by exact star_cons rfl) (hpl:(backTo pos (starEach es X.env)).any (·.1)=false:=by exact star_any rfl):PE X (.Call (.Name x p) (e::es) [] pos) (tE C own mr (dCall as G fr)):=by
 subst hcv
 obtain ⟨f,fd,F,hm,hk,hb⟩:=F
 rw [<-hK] at F
 exact pd_call (by rw [<-hK]; exact F) (hr.mono hj) hg hm hk hb hx ha hms hs nd hf hio hdb he hpl
theorem pd_callNQ (F:DefQ X.prog X.w X.K X.mg X.base cv j x ps ms mr G) (hr:RoomQ j X.A) (hx:Passes (CXk X.prog X.w) X C.E) (hg:Gl X x) (ha:PA X (e::es) (tAr C own as fr)) (hcv:C.cv=cv:=by rfl) (hK:C.K=X.K:=by rfl) (hms:ms=as.map msOf:=by rfl) (hs:∀ i∈slotsA as,i∈own:=by decide) (nd:(slotsA as).Nodup:=by decide) (hf:frA as<=1:=by decide) (hio:∀ i∈C.ox,i∈own:=by exact sub_of rfl)
  (hdb:(x == ("__debug__":Str))=false:=by decide) (he:starEach (e::es) X.env=(false,eval e X.env)::starEach es X.env:=by exact star_cons rfl) (hpl:(backTo pos (starEach es X.env)).any (·.1)=false:=by exact star_any rfl):PE X (.Call (.Name x p) (e::es) [] pos) (tE C own mr (dCall as G fr)):=by
 subst hcv
 obtain ⟨f,fd,F,hm,hk,hb⟩:=F
 rw [<-hK] at F
 exact pd_callQ (by rw [<-hK]; exact F) hr hg hm hk hb hx ha hms hs nd hf hio hdb he hpl
noncomputable def negD:D->Out D
 | .int i=>.ok (.int (-i))
 | _=>.bad
theorem od_neg:UnD X C .sh (unaryOp .USub) negD:=by
 intro pins s σ H x v Q I rx h
 obtain ⟨F,dx,sb,tx,po⟩:=h
 cases dx <;> try exact po.elim
 obtain rfl:=tx.int
 exact un_neg pins s σ H _ v Q I rx ⟨_,rfl,po _ F H sb .refl (.int _)⟩
end
noncomputable def isLst:Option (Option D)->Bool
 | some (some (.lst _))=>true
 | _=>false
noncomputable def mOwn (i:Nat) (g:List D->D->Out (List D)) (fe:Sl->Out (D×Sl)):Sl->Out (D×Sl):=fun ρ=>if isLst ρ[i]?=true then (fe ρ).bind fun p=>match p.2[i]? with
 | some (some (.lst xs))=>match g xs p.1 with
  | .ok ys=>.ok (.non,p.2.set i (some (.lst ys)))
  | _=>.bad
 | _=>.bad
 else .bad
noncomputable def appG (xs:List D) (d:D):Out (List D):=if xs.length < sizeLine then .ok (xs++[d]) else .bad
noncomputable def extG (xs:List D):D->Out (List D)
 | .lst ys=>if xs.length+ys.length<=sizeLine then .ok (xs++ys) else .bad
 | .tup ys=>if xs.length+ys.length<=sizeLine then .ok (xs++ys) else .bad
 | _=>.bad
section
variable {X:Cx} {C:Ct} {own:List Nat} {m:Mo} {e:Expr} {fe:Sl->Out (D×Sl)}
theorem Rep.write {K:Frag} {F H:Hp} {σ:St} {ρ:Sl} {i:Nat} {a:Addr} {d:D} {u:HO} (rp:Rep K own F H σ ρ) (hi:i∈own) (ha:σ[i]?=some (some (V.ref a))) (ow:OwnIs K F (upd H a u) a d) :
  Rep K own F (upd H a u) σ (ρ.set i (some d))/\Chg (OA own σ) F H F (upd H a u):=by
 obtain ⟨d0,hd0⟩:=rp.opn i hi
 obtain ⟨a',e1,hF,o0⟩:=rp.ow i d0 hi hd0
 rw [ha] at e1; cases e1
 have hl:i < ρ.length:=(List.getElem?_eq_some_iff.mp hd0).1
 refine ⟨⟨fun b o e=>by rw [upd_ne (ne_of_none e hF)]; exact rp.sub b o e,by simp [rp.len],fun j d' hj e=>?_,fun j d' hj e=>?_,fun j hj=>?_,rp.dis⟩,⟨fun b o e n=>?_,fun b e=>?_,Same.refl _,fun b e=>.inl e⟩⟩
 ·rw [List.getElem?_set_ne (fun z=>hj (by rw [<-z]; exact hi))] at e
  exact rp.val j d' hj e
 ·by_cases q:j=i
  ·subst q
   rw [List.getElem?_set_self hl] at e
   cases e
   exact ⟨a,ha,hF,ow⟩
  ·rw [List.getElem?_set_ne (Ne.symm q)] at e
   obtain ⟨b,h1,h2,h3⟩:=rp.ow j d' hj e
   have nb:b≠a:=fun z=>by subst z; exact q (rp.dis j i b hj hi h1 ha)
   exact ⟨b,h1,h2,h3.grow (Same.refl _) fun o z=>by rw [upd_ne nb]; exact z⟩
 ·by_cases q:j=i
  ·subst q; exact ⟨d,List.getElem?_set_self hl⟩
  ·rw [List.getElem?_set_ne (Ne.symm q)]; exact rp.opn j hj
 ·have nb:b≠a:=fun z=>n (by rw [z]; exact ⟨i,hi,ha⟩)
  rw [upd_ne nb]; exact e
 ·by_cases q:b=a
  ·rw [q,upd_same]; simp
  ·rw [upd_ne q]; exact e
theorem isLst_of {o:Option (Option D)} (h:isLst o=true):∃ xs,o=some (some (.lst xs)):=by
 unfold isLst at h
 split at h
 ·exact ⟨_,rfl⟩
 ·cases h
theorem own_meth {i:Nat} {g:List D->D->Out (List D)} {R:V->V->Hp->VK->Prop} {σ:St} {H:Hp} {Q:VK} (ho:i∈own) (hm:m≠.any)
  (hR:∀ (a:Addr) (xs:List V) (ds ys:List D) (v:V) (d:D) (F H:Hp),Same F H->H a=some (.lst xs)->F a=none->IsL C.K F xs ds->Is C.K F v d->g ds d=.ok ys->(∀ zs,IsL C.K F zs ys->Q .non (upd H a (.lst zs)))->R (.ref a) v H Q)
  (h:tE C own .sh (mOwn i g fe) σ H Q):∃ a xs,σ[i]?=some (some (V.ref a))/\H a=some (.lst xs)/\tE C own .sh fe σ H fun v H1=>R (.ref a) v H1 Q:=by
 obtain ⟨F,ρ,rp,h⟩:=h
 unfold mOwn at h
 by_cases q:isLst ρ[i]?=true
 ·rw [if_pos q] at h
  obtain ⟨ds,hd⟩:=isLst_of q
  obtain ⟨a,h1,h2,xs,h3,h4⟩:=rp.ow i _ ho hd
  refine ⟨a,xs,h1,h3,F,ρ,rp,Po.bind h fun v F1 H1 d ρ1 rp1 c1 mo1 po=>?_⟩
  cases q1:ρ1[i]? with
  | none=>simp only [q1] at po; exact po.elim
  | some o=>
   cases o with
   | none=>simp only [q1] at po; exact po.elim
   | some dd=>
    simp only [q1] at po
    cases dd with
    | lst es=>
     simp only at po
     cases q2:g es d with
     | ok ys=>
      simp only [q2] at po
      obtain ⟨a',e1,e2,vs,e3,e4⟩:=rp1.ow i _ ho q1
      rw [h1] at e1; cases e1
      refine hR a vs es ys v d F1 H1 rp1.sub e3 e2 e4 mo1 q2 fun zs iz=>?_
      obtain ⟨r2,c2⟩:=rp1.write (u:=.lst zs) (d:=.lst ys) ho h1 ⟨zs,upd_same,iz⟩
      exact po .non F1 _ r2 c2 .non
     | exc c o=>simp only [q2] at po; exact po.elim
     | bad=>simp only [q2] at po; exact po.elim
    | _=>exact po.elim
 ·rw [if_neg q] at h; exact h.elim
theorem pd_append {i:Nat} {x:Str} {px apos cpos:Pos} (hK:C.K=X.K) (hN:X.N[i]?=some x) (hv:Vis X.env.scope x) (ho:i∈own) (he:PE X e (tE C own m fe)) (hm:m≠.any:=by decide)
  (hd:(x == ("__debug__":Str))=false:=by decide) (hcd:(x == ("__classdict__":Str))=false:=by decide)
  (hbase:attributeBase (.Name x px) "append" X.env (eval (.Name x px) X.env)=eval (.Name x px) X.env:=by rfl)
  (hfew:((backTo cpos (starEach [e] X.env)).all (fun x=>!x.1)&&(backToKw cpos (keywordEach [] X.env)).all (fun x=>x.1.isSome)
   && decide ([e].length+([]:List Keyword).length+(if ([]:List Keyword).isEmpty then 0 else 1) < 30))=true:=by exact star_few rfl)
  (hline:(apos.endLine == cpos.line)=true:=by rfl) (hs:starEach [e] X.env=[(false,eval e X.env)]:=by exact star_one rfl) :
  PE X (.Call (.Attribute (.Name x px) "append" apos) [e] [] cpos) (tE C own .sh (mOwn i appG fe)):=by
 refine pe_to (pe_bm PySem.F.plainAttrs_list PySem.F.slot_list_append PySem.F.type_list_append mt_append (pe_var hN hv hd hcd) (pa_cons (pd_sh he hm) pa_nil hs) hbase hfew hline hs rfl) fun σ H Q h=>?_
 have hR:∀ (a:Addr) (xs:List V) (ds ys:List D) (v:V) (d:D) (F H:Hp),Same F H->H a=some (.lst xs)->F a=none->IsL C.K F xs ds->Is C.K F v d->appG ds d=.ok ys->(∀ zs,IsL C.K F zs ys->Q .non (upd H a (.lst zs)))->rAppend (.ref a) [v] H Q:=fun a xs ds ys v d F H sb ea ef ix iv eg k=>by
  unfold appG at eg
  split at eg
  ·cases eg
   exact ⟨a,xs,v,rfl,rfl,ea,by rw [ix.length]; assumption,k _ (ix.append (.cons iv .nil))⟩
  ·cases eg
 obtain ⟨a,xs,h1,h2,k⟩:=own_meth (R:=fun x v H Q=>rAppend x [v] H Q) ho hm hR h
 exact ⟨.ref a,h1,.inl ⟨rfl,xs,.inl (.inl h2)⟩,k⟩
theorem pd_extend {i:Nat} {x:Str} {px apos cpos:Pos} (hN:X.N[i]?=some x) (hv:Vis X.env.scope x) (ho:i∈own) (he:PE X e (tE C own .fr fe))
  (hd:(x == ("__debug__":Str))=false:=by decide) (hcd:(x == ("__classdict__":Str))=false:=by decide)
  (hbase:attributeBase (.Name x px) "extend" X.env (eval (.Name x px) X.env)=eval (.Name x px) X.env:=by rfl)
  (hfew:((backTo cpos (starEach [e] X.env)).all (fun x=>!x.1)&&(backToKw cpos (keywordEach [] X.env)).all (fun x=>x.1.isSome)
   && decide ([e].length+([]:List Keyword).length+(if ([]:List Keyword).isEmpty then 0 else 1) < 30))=true:=by exact star_few rfl)
  (hline:(apos.endLine == cpos.line)=true:=by rfl) (hs:starEach [e] X.env=[(false,eval e X.env)]:=by exact star_one rfl) :
  PE X (.Call (.Attribute (.Name x px) "extend" apos) [e] [] cpos) (tE C own .sh (mOwn i extG fe)):=by
 refine pe_to (pe_bm PySem.F.plainAttrs_list PySem.F.slot_list_extend PySem.F.type_list_extend mt_extend (pe_var hN hv hd hcd) (pa_cons he pa_nil hs) hbase hfew hline hs rfl) fun σ H Q ⟨F,ρ,rp,h⟩=>?_
 unfold mOwn at h
 by_cases q:isLst ρ[i]?=true
 ·rw [if_pos q] at h
  obtain ⟨ds,hd⟩:=isLst_of q
  obtain ⟨a,h1,h2,xs,h3,h4⟩:=rp.ow i _ ho hd
  refine ⟨.ref a,h1,.inl ⟨rfl,xs,.inl (.inl h3)⟩,F,ρ,rp,Po.bind h fun v F1 H1 d ρ1 rp1 c1 mo1 po=>?_⟩
  obtain ⟨b,rfl,hb0,hbF,ob⟩:=mo1
  cases q1:ρ1[i]? with
  | none=>simp only [q1] at po; exact po.elim
  | some o=>
   cases o with
   | none=>simp only [q1] at po; exact po.elim
   | some dd=>
    simp only [q1] at po
    cases dd with
    | lst es=>
     simp only at po
     obtain ⟨a',e1,e2,vs,e3,e4⟩:=rp1.ow i _ ho q1
     rw [h1] at e1; cases e1
     cases d with
     | lst ys=>
      obtain ⟨zs,hz,iz⟩:=ob
      have po:Po C own .sh σ F1 H1 (match (if es.length+ys.length<=sizeLine then .ok (es++ys) else .bad:Out (List D)) with | .ok ys=>.ok (.non,ρ1.set i (some (.lst ys))) | _=>.bad) Q:=po
      by_cases qz:es.length+ys.length<=sizeLine
      ·rw [if_pos qz] at po
       refine ⟨a,b,vs,zs,rfl,rfl,e3,hz,by rw [e4.length,iz.length]; exact qz,?_⟩
       obtain ⟨r2,c2⟩:=rp1.write (u:=.lst (vs++zs)) (d:=.lst (es++ys)) ho h1 ⟨_,upd_same,e4.append iz⟩
       exact po .non F1 _ r2 c2 .non
      ·rw [if_neg qz] at po; exact po.elim
     | dct ys=>
      exact po.elim
     | ins _ _=>exact po.elim
     | _=>exact ob.elim
    | _=>exact po.elim
 ·rw [if_neg q] at h; exact h.elim
end
noncomputable def scB (names:List (Str×NameKind)) (scope:Scope):Bool:=decide (scope.kind=.function)&&scope.names.all fun y=>decide (y.2≠.cell)&&(!decide (y.2=.local)||decide (scope.names.lookup y.1=some .local)) &&
 (!decide (y.2=.free)||((decide (names.lookup y.1=some .cell)||decide (names.lookup y.1=some .free))&&decide (scope.names.lookup y.1=some .free)))
theorem sc_of {X:Cx} {scope:Scope} {names:List (Str×NameKind)} (hX:X.env.scope.names=names) (b:scB names scope=true):ScOk X scope:=by
 subst hX
 unfold scB at b
 rw [Bool.and_eq_true,List.all_eq_true] at b
 obtain ⟨b0,b1⟩:=b
 refine ⟨of_decide_eq_true b0,fun y hy=>?_,fun y hy e=>?_,fun y hy e=>?_,fun y hy e=>?_⟩
 all_goals
  have q:=b1 y hy
  simp only [Bool.and_eq_true,Bool.or_eq_true,Bool.not_eq_true',decide_eq_true_eq,decide_eq_false_iff_not] at q
 ·exact q.1.1
 ·exact q.1.2.resolve_left fun z=>z e
 ·exact (q.2.resolve_left fun z=>z e).1
 ·exact (q.2.resolve_left fun z=>z e).2
noncomputable def capB (names:List (Str×NameKind)) (N:List Str) (scope:Scope) (Nc:List Str) (nt:Nat) (cap:List Nat):Bool:=decide cap.Nodup&&decide (Nc.length=nt+cap.length)&&(List.range cap.length).all fun j=>match cap[j]? with
 | some k=>match Nc[nt+j]? with
  | some x=>decide (N[k]?=some x)&&(decide (names.lookup x=some .local)||decide (names.lookup x=some .cell)||decide (names.lookup x=some .free))&&decide ((x,NameKind.free)∈scope.names)
  | none=>false
 | none=>false
theorem cap_of {X:Cx} {scope:Scope} {names:List (Str×NameKind)} {N Nc:List Str} {nt:Nat} {cap:List Nat} (hX:X.env.scope.names=names) (hN:X.N=N) (b:capB names N scope Nc nt cap=true):CapOk X scope Nc nt cap:=by
 subst hX hN
 unfold capB at b
 rw [Bool.and_eq_true,Bool.and_eq_true,List.all_eq_true] at b
 obtain ⟨⟨b0,b1⟩,b2⟩:=b
 refine ⟨of_decide_eq_true b0,of_decide_eq_true b1,fun j k hj=>?_⟩
 have q:=b2 j (List.mem_range.mpr (List.getElem?_eq_some_iff.mp hj).1)
 rw [hj] at q
 cases e:Nc[nt+j]? with
 | none=>simp only [e] at q; cases q
 | some x=>
  simp only [e,Bool.and_eq_true,Bool.or_eq_true,decide_eq_true_eq] at q
  refine ⟨x,rfl,q.1.1,?_,q.2⟩
  rcases q.1.2 with (z | z) | z
  ·exact .inl z
  ·exact .inr (.inl z)
  ·exact .inr (.inr z)
theorem passF {P:Program} {w:World} {X:Cx}:Passes (CXk P w) X (fun _ _ _=>False):=fun _ _ _ _ _ _ _ h=>by
 obtain ⟨_,_,_,_,_,_,_,_,_,_,_,_,_,_,hE⟩:=h
 exact hE.elim
noncomputable def dNotV (f:Sl->Out (D×Sl)):Sl->Out (D×Sl):=fun ρ=>(dBool f ρ).bind fun p=>.ok (.bl (!p.1),p.2)
section
variable {X:Cx} {C:Ct} {own:List Nat} {e:Expr} {x:Str} {pos:Pos} {i:Int}
theorem pd_const (h:∃ t,X.mg x=some (.int i t)) (hg:Gl X x) (hd:(x == ("__debug__":Str))=false:=by decide):PE X (.Name x pos) (tE C own .sh (dC (.int i))):=by
 obtain ⟨t,h⟩:=h
 exact pd_glob (v:=.int i) hg h ⟨t,rfl⟩ (fun _=>.int i) hd
end
section
variable {X:Cx} {C:Ct} {own:List Nat} {a b e:Expr} {f fa fb:Sl->Out (D×Sl)} {m ma mb:Mo} {pos:Pos}
noncomputable def tupleD:D->Out D
 | .lst xs=>.ok (.tup xs)
 | .tup xs=>.ok (.tup xs)
 | _=>.bad
noncomputable def listD:D->Out D
 | .lst xs=>.ok (.lst xs)
 | .tup xs=>.ok (.lst xs)
 | _=>.bad
theorem cd_tuple (hK:C.K=X.K):CallD X C .sh (.type "tuple") tupleD:=by
 intro pins s σ H xs us Q I r h
 obtain ⟨x,F,dx,rfl,sb,tx,po⟩:=h
 cases dx with
 | lst ds=>
  obtain ⟨p,vs,rfl,hq,t⟩:=tx.lst sb
  refine call_tuple_of pins s σ H _ us Q I r ⟨p,vs,rfl,.inl ⟨by rw [<-hK]; exact hq,fun l hl=>?_⟩⟩
  obtain ⟨s2,c2⟩:=grow_sh (u:=.tup vs) sb hl
  exact po _ _ _ s2 c2 (.tup (.inl (.inl upd_same)) (t.mono c2.grow))
 | tup ds=>
  rcases tx with tx | ⟨_,_,tx⟩
  ·have tx0:=tx
   cases tx with
   | tup hq t=>exact call_tuple_of pins s σ H _ us Q I r ⟨_,_,rfl,.inr ⟨by rw [<-hK]; exact sqT_mono sb hq,po _ F H sb .refl tx0⟩⟩
  ·exact tx.elim
 | _=>exact po.elim
theorem cd_list (hK:C.K=X.K):CallD X C .fr (.type "list") listD:=by
 intro pins s σ H xs us Q I r h
 obtain ⟨x,F,dx,rfl,sb,tx,po⟩:=h
 cases dx with
 | lst ds=>
  obtain ⟨p,vs,rfl,hq,t⟩:=tx.lst sb
  refine call_list_of pins s σ H _ us Q I r ⟨p,vs,rfl,.inl (by rw [<-hK]; exact hq),fun l hl=>?_⟩
  obtain ⟨s2,c2,hF⟩:=grow_fr (u:=.lst vs) sb hl
  exact po _ _ _ s2 c2 ⟨l,rfl,hl,hF,vs,upd_same,t⟩
 | tup ds=>
  obtain ⟨p,vs,rfl,hq,t⟩:=tx.tup sb
  refine call_list_of pins s σ H _ us Q I r ⟨p,vs,rfl,.inr (by rw [<-hK]; exact hq),fun l hl=>?_⟩
  obtain ⟨s2,c2,hF⟩:=grow_fr (u:=.lst vs) sb hl
  exact po _ _ _ s2 c2 ⟨l,rfl,hl,hF,vs,upd_same,t⟩
 | _=>exact po.elim
noncomputable def kitTT (a T:String):Option Bool:=if (Value.type a == Value.type T)=true then some true else if PySem.W.kitMeta T=true then (fastBuiltinMro a).map (·.contains (.type T)) else none
theorem kitTT_ok (K:Frag) (a T:String):PySem.W.kitOne K (.type a) (.type T)=kitTT a T:=rfl
noncomputable def tyN:D->Option String
 | .non=>some "NoneType"
 | .bl _=>some "bool"
 | .int _=>some "int"
 | .str _=>some "str"
 | .tup _=>some "tuple"
 | .lst _=>some "list"
 | .dct _=>some "dict"
 | _=>none
noncomputable def isTD (T:String) (d:D):Out D:=match tyN d with
 | some a=>match kitTT a T with
  | some b=>.ok (.bl b)
  | none=>.bad
 | none=>.bad
theorem call_isT {T:String} (hK:C.K=X.K):CallR X (.builtin "isinstance") (fun xs H Q=>∃ x F d,xs=[x,.ty T]/\Same F H/\TopIs C.K F H x d/\PoV C .sh F H (isTD T d) Q):=by
 intro pins s σ H xs us Q I r h
 obtain ⟨x,F,d,rfl,sb,tx,po⟩:=h
 obtain ⟨u,c,rfl,ru,rc⟩:=vals2 r
 cases rc
 cases q:tyN d with
 | none=>unfold isTD at po; rw [q] at po; exact po.elim
 | some a=>
  cases q2:kitTT a T with
  | none=>unfold isTD at po; rw [q] at po; simp only [q2] at po; exact po.elim
  | some b=>
   have po:PoV C .sh F H (.ok (.bl b)) Q:=by unfold isTD at po; rw [q] at po; simp only [q2] at po; exact po
   have fin:∀ tk,EP X pins σ Q (.bool b) { s with toks:=tk }:=fun tk=>⟨.bl b,H,I.tok tk,rfl,po _ F H sb .refl (.bl b)⟩
   have e:PySem.W.kitOne X.K (.type a) (.type T)=some b:=(kitTT_ok X.K a T).trans q2
   cases d with
   | non=>obtain rfl:=tx.non; cases ru; cases q; exact PySem.W.kia_one PySem.W.kitx_none I.kIn True.intro e (fun z=>nomatch z) fin
   | bl y=>obtain rfl:=tx.bl; cases ru; cases q; exact PySem.W.kia_one PySem.W.kitx_bool I.kIn True.intro e (fun z=>nomatch z) fin
   | int y=>obtain rfl:=tx.int; obtain ⟨t,rfl⟩:=ru; cases q; exact PySem.W.kia_one PySem.W.kitx_int I.kIn True.intro e (fun z=>nomatch z) fin
   | str y=>obtain ⟨rfl,_⟩:=tx.str; obtain ⟨t,rfl⟩:=ru; cases q; exact PySem.W.kia_one PySem.W.kitx_str I.kIn True.intro e (fun z=>nomatch z) fin
   | tup y=>
    obtain ⟨p,vs,rfl,hq,t⟩:=tx.tup sb
    cases ru; cases q
    obtain ⟨its,_,⟨o,h1,h2,_⟩,_⟩:=I.tuple (show SqT X.K H p vs by rw [<-hK]; exact hq)
    exact PySem.W.kia_one PySem.W.kitx_tuple I.kIn ⟨o,h1,h2⟩ e (fun z=>nomatch z) fin
   | lst y=>
    obtain ⟨p,vs,rfl,hq,t⟩:=tx.lst sb
    cases ru; cases q
    obtain ⟨its,_,⟨o,n,h1,h2,_⟩,_⟩:=I.list (show SqL X.K H p vs by rw [<-hK]; exact hq)
    exact PySem.W.kia_one PySem.W.kitx_list I.kIn ⟨o,h1,h2⟩ e (fun z=>nomatch z) fin
   | dct y=>
    obtain ⟨p,vs,rfl,hq,t⟩:=tx.dct sb
    cases ru; cases q
    obtain ⟨_,_,ws,_,o,es,ep,h1,h2,_⟩:=(show ObjOk X.prog X.w H s.heap p (.dK vs) from I.hok p _ hq)
    exact PySem.W.kia_one PySem.W.kitx_dict I.kIn ⟨o,h1,h2.1⟩ e (fun z=>nomatch z) fin
   | _=>cases q
theorem pd_isT {T:String} {tn:Str} {p tp:Pos} (hK:C.K=X.K) (hg:Gl X "isinstance") (hm:X.mg "isinstance"=none) (hv:bootBuiltins "isinstance"=some (.builtin "isinstance")) (ht:Gl X tn) (htm:X.mg tn=none) (htv:bootBuiltins tn=some (.type T)) (ha:PE X a (tE C own ma fa)) (hn:tn ≠ "__name__":=by decide) (hdb:(tn == ("__debug__":Str))=false:=by decide)
  (h1:starEach [a,.Name tn tp] X.env=(false,eval a X.env)::starEach [.Name tn tp] X.env:=by rfl) (h2:starEach [.Name tn tp] X.env=[(false,eval (.Name tn tp) X.env)]:=by rfl):PE X (.Call (.Name "isinstance" p) [a,.Name tn tp] [] pos) (tE C own .sh (d1 (isTD T) fa)):=by
 refine pe_to (pe_callB (call_isT (T:=T) hK) hg hm hv (pa_cons ha (pa_cons (pe_bltn (v:=.ty T) ht htm htv rfl hn hdb) pa_nil h2) h1) (by decide) (by decide) (by rw [h1]) (by rw [h2]; rfl)) fun σ H Q h=>?_
 obtain ⟨F,ρ,rp,h⟩:=tE_un (ma:=ma) h
 refine ⟨F,ρ,rp,?_⟩
 cases q:fa ρ with
 | ok p=>
  rw [q] at h
  obtain ⟨d,ρ1⟩:=p
  intro v F1 H1 rp1 c1 mo1
  obtain ⟨F2,dx,z⟩:=h v F1 H1 rp1 c1 mo1
  exact ⟨v,F2,dx,rfl,z⟩
 | exc c=>rw [q] at h; exact h
 | bad=>rw [q] at h; exact h.elim
noncomputable def boolsD:List D->Option (List Bool)
 | []=>some []
 | .bl b::ds=>(boolsD ds).map (b::·)
 | _::_=>none
noncomputable def allD:D->Out D
 | .lst ds=>match boolsD ds with
  | some bs=>.ok (.bl (bs.all id))
  | none=>.bad
 | _=>.bad
theorem bools_of {K:Frag} {F:Hp}:∀ {vs:List V} {us:List Value} {ds:List D} {bs:List Bool},IsL K F vs ds->Vals vs us->boolsD ds=some bs->us=bs.map Value.bool
 | _,_,_,_,.nil,.nil,e=>by cases e; rfl
 | _,_,_,_,.cons (d:=d) h t,.cons r rs,e=>by
  cases d with
  | bl b=>
   unfold boolsD at e
   obtain ⟨bs',e1,e2⟩:=Option.map_eq_some_iff.mp e
   subst e2
   cases h
   cases r
   rw [bools_of t rs e1]; rfl
  | _=>cases e
theorem cd_all (hK:C.K=X.K) (hc:X.calm=true):CallD X C .sh (.builtin "all") allD:=by
 intro pins s σ H xs us Q I r h
 obtain ⟨x,F,dx,rfl,sb,tx,po⟩:=h
 cases dx <;> try exact po.elim
 rename_i ds
 obtain ⟨p,vs,rfl,hq,t⟩:=tx.lst sb
 obtain ⟨u,rfl,ru⟩:=vals1 r
 cases ru
 unfold allD at po
 cases q:boolsD ds with
 | none=>simp only [q] at po; exact po.elim
 | some bs=>
  simp only [q] at po
  obtain ⟨its,rv,pl,hz⟩:=I.list (show SqL X.K H p vs by rw [<-hK]; exact hq)
  have eb:=bools_of t rv q
  subst eb
  have hp:p < s.heap.objs.size:=let ⟨o,h1,_⟩:=pl.isList; Heap.lt_size h1
  refine call_all_walk (wpAny_pyIter_list pl.isList ?_)
  have W:Walks X.prog X.w X.A.in1 s.heap.objs.size [s.heap.objs.size,p] [s.heap.objs.size] (bs.map Value.bool).toArray.size (fun i v=>(bs.map Value.bool).toArray[i]?=some v) (fun i h=>h.IsListIter s.heap.objs.size p i/\h.IsList p (bs.map Value.bool).toArray):=Walks.list (A:=X.A.in1) (show X.A.in1.handled=none from I.ok.hd hc) s.heap.objs.size p (Nat.ne_of_lt hp) _
  have st:(s.heap.push { cls:=.type "list_iterator",data:=.fields #[.ref p,.int 0 0] }).IsListIter s.heap.objs.size p 0/\(s.heap.push { cls:=.type "list_iterator",data:=.fields #[.ref p,.int 0 0] }).IsList p (bs.map Value.bool).toArray:=⟨⟨_,Heap.get?_push_size _ rfl,rfl,rfl⟩,let ⟨o,h1,h2⟩:=pl.isList; ⟨o,Heap.get?_push_of_some _ h1,h2⟩⟩
  refine ⟨_,_,_,_,_,_,fun i=>(bs[i]?).getD false,rfl,W,st,fun i v s' Q' E' hP hQ'=>?_,fun h' tk kp=>?_⟩
  ·have hP:(bs.map Value.bool).toArray[i]?=some v:=hP
   rw [List.getElem?_toArray,List.getElem?_map] at hP
   cases qi:bs[i]? with
   | none=>rw [qi] at hP; cases hP
   | some b=>
    have hQ2:Q' ((bs[i]?).getD false) s':=hQ'
    rw [qi] at hP hQ2
    cases hP
    exact wpAny_truthy_bool hQ2
  ·have e:(List.range (bs.map Value.bool).toArray.size).all (fun i=>(bs[i]?).getD false)=bs.all id:=by
    rw [List.size_toArray,List.length_map,Bool.eq_iff_iff,List.all_eq_true,List.all_eq_true]
    constructor
    ·intro h b hb
     obtain ⟨i,hi,e⟩:=List.mem_iff_getElem.mp hb
     have:=h i (List.mem_range.mpr hi)
     rw [List.getElem?_eq_getElem hi,e] at this
     exact this
    ·intro h i hi
     have hi:=List.mem_range.mp hi
     rw [List.getElem?_eq_getElem hi]
     exact h _ (List.getElem_mem hi)
   rw [e]
   refine ⟨.bl (bs.all id),H,?_,rfl,po _ F H sb .refl (.bl _)⟩
   have k2:∀ b o,s.heap.get? b=some o->h'.get? b=some o:=fun b o eb=>kp b o (by simp; exact Nat.ne_of_lt (Heap.lt_size eb)) (Heap.get?_push_of_some _ eb)
   exact I.kept (t':=tk) k2
end
noncomputable def pickL {α:Type} (idx:List Nat) (xs:List α):List α:=idx.filterMap fun k=>xs[k]?
theorem IsL.pick {K:Frag} {F:Hp} {vs:List V} {ds:List D} (h:IsL K F vs ds):∀ (idx:List Nat),IsL K F (pickL idx vs) (pickL idx ds)
 | []=>.nil
 | k::idx=>by
  unfold pickL
  rw [List.filterMap_cons,List.filterMap_cons]
  cases e:vs[k]? with
  | none=>
   have e2:ds[k]?=none:=List.getElem?_eq_none_iff.mpr (by rw [<-h.length]; exact List.getElem?_eq_none_iff.mp e)
   rw [e2]
   exact IsL.pick h idx
  | some v=>
   obtain ⟨d,e2,i⟩:=h.get e
   rw [e2]
   exact .cons i (IsL.pick h idx)
theorem vals_pick {vs:List V} {us:List Value} (h:Vals vs us):∀ (idx:List Nat),Vals (pickL idx vs) (pickL idx us)
 | []=>.nil
 | k::idx=>by
  unfold pickL
  rw [List.filterMap_cons,List.filterMap_cons]
  cases e:vs[k]? with
  | none=>rw [h.none_of e]; exact vals_pick h idx
  | some v=>
   obtain ⟨u,e2,r⟩:=h.get e
   rw [e2]
   exact .cons r (vals_pick h idx)
theorem pick_all {α:Type} (xs:List α):pickL (List.range xs.length) xs=xs:=by
 unfold pickL
 have:=PySem.W.krv_all xs.toArray
 simpa using this
noncomputable def idxT (n:Nat) (lo hi:Option Int) (st:Int):List Nat:=(List.range (Builtin.Slice.slicePlaces (Builtin.Slice.sliceAdjust lo hi st n).1 (Builtin.Slice.sliceAdjust lo hi st n).2 st)).map fun (k:Nat)=>((Builtin.Slice.sliceAdjust lo hi st n).1+(k:Int) * st).toNat
noncomputable def strCut (x:Str) (lo hi:Option Int) (st:Int):Str:=if (st == 1&&(Builtin.Str.strSliceIndices lo hi st x.length).length == x.length)=true then x else ⟨((Builtin.Str.strSliceIndices lo hi st x.length).filterMap (x.cps[·]?)).toArray⟩
noncomputable def slD (lo hi st:Option Int):D->Out D
 | .tup xs=>if st.getD 1≠0/\(pickL (idxT xs.length lo hi (st.getD 1)) xs).length<=sizeLine then .ok (.tup (pickL (idxT xs.length lo hi (st.getD 1)) xs)) else .bad
 | .str x=>if st.getD 1≠0/\(strCut x lo hi (st.getD 1)).length<=sizeLine then .ok (.str (strCut x lo hi (st.getD 1))) else .bad
 | _=>.bad
def SlR3 (X:Cx) (r:V->Option Int->Option Int->Option Int->Hp->VK->Prop):Prop:=
 ∀ (pins:List (Addr×Obj)) (s:Shared) (σ:St) (H:Hp) (x:V) (v vl vu vk:Value) (lo hi st:Option Int) (sl:Addr) (Q:VK),Inv X pins σ H s->RelV x v->s.heap.IsSliceOf sl vl vu vk->IsPart vl lo->IsPart vu hi->IsPart vk st->r x lo hi st H Q ->
  ∃ T id,typeLookup (.type T) "__getitem__"=pure (some (.builtin id))/\s.TypeIs v T/\wpAny (model X.prog X.w) X.A (getItem v (.ref sl)) (EP X pins σ Q) X.xe s
section
variable {prog:Program} {w:World} {A:Around} {E:Value->Shared->Prop} {s:Shared}
theorem sliceApplied_3 {sl:Addr} {vl vu vk:Value} {lo hi st:Option Int} {n:Nat} {Q:Int×Int×Nat->Shared->Prop} (hs:s.heap.IsSliceOf sl vl vu vk) (pl:IsPart vl lo) (pu:IsPart vu hi) (pk:IsPart vk st) (h0:st.getD 1≠0)
  (h:Q ((Builtin.Slice.sliceAdjust lo hi (st.getD 1) n).1,st.getD 1,Builtin.Slice.slicePlaces (Builtin.Slice.sliceAdjust lo hi (st.getD 1) n).1 (Builtin.Slice.sliceAdjust lo hi (st.getD 1) n).2 (st.getD 1)) s):wpAny (model prog w) A (Builtin.Slice.sliceApplied (.ref sl) (pure (n:Int))) Q E s:=by
 obtain ⟨os,hos,hcs,hds⟩:=id hs
 unfold Builtin.Slice.sliceApplied Builtin.Slice.sliceFields
 refine wpAny_bind (wpAny_bind (wpAny_field hos hds (x:=vl) rfl (wpAny_bind (wpAny_field hos hds (x:=vu) rfl (wpAny_bind (wpAny_field hos hds (x:=vk) rfl (wpAny_pure ?_)))))))
 refine wpAny_bind (HT.slicePart_ pk ?_)
 show wpAny _ _ (if (st.getD 1 == 0)=true then _ else _) _ _ s
 rw [if_neg (by simpa using h0)]
 refine wpAny_bind (HT.slicePart_ pl (wpAny_bind (HT.slicePart_ pu (wpAny_bind (wpAny_pure ?_)))))
 exact wpAny_pure h
theorem getItem_tuple_3 {t sl:Addr} {items:Array Value} {vl vu vk:Value} {lo hi st:Option Int} {Q:Value->Shared->Prop} (ht:IsTup s.heap t items) (hs:s.heap.IsSliceOf sl vl vu vk) (pl:IsPart vl lo) (pu:IsPart vu hi) (pk:IsPart vk st) (h0:st.getD 1≠0)
  (hw:idxT items.size lo hi (st.getD 1)=List.range items.size->Q (.ref t) s)
  (h:Q (.ref s.heap.objs.size) { s with heap:=s.heap.push { cls:=.type "tuple",data:=.seq (pickL (idxT items.size lo hi (st.getD 1)) items.toList).toArray } })
  (hsz:(pickL (idxT items.size lo hi (st.getD 1)) items.toList).length<=sizeLine):wpAny (model prog w) A (getItem (.ref t) (.ref sl)) Q E s:=by
 obtain ⟨os,hos,hcs,hds⟩:=id hs
 have hTs:s.TypeIs (.ref sl) "slice":=⟨os,hos,hcs⟩
 unfold getItem
 try with_reducible refine wpAny_holding ?_
 first | refine wpAny_bind (wpAny_pure ?_) | skip
 refine wpAny_bind (wpAny_sequenceKey ht.typeIs (by decide) ?_)
 refine wpAny_bind (wpAny_callSpecial?_slot (name:=Str.ofString "__getitem__") ht.typeIs PyProof.Rows.slot_tuple_getitem
  (wpAny_call_entry PyProof.Rows.slot_tuple_getitem ht.typeIs entry_tuple_getitem ?_ (args_tuple_getitem _ _)))
 show wpAny _ _ (Builtin.Tuple.tupleItemsOf (.ref t) >>= _) _ _ s
 refine wpAny_bind (tupleItemsOf_ ht ?_)
 refine wpAny_bind (wpAny_typeOf hTs ?_)
 rw [if_pos (by decide)]
 refine wpAny_bind (sliceApplied_3 hs pl pu pk h0 ?_)
 generalize hA:Builtin.Slice.sliceAdjust lo hi (st.getD 1) items.size=A0
 generalize hN:Builtin.Slice.slicePlaces A0.1 A0.2 (st.getD 1)=N0
 have ep:pickL (idxT items.size lo hi (st.getD 1)) items.toList=(List.range N0).filterMap fun (k:Nat)=>items[(A0.1+(k:Int) * st.getD 1).toNat]?:=by
  unfold pickL idxT
  rw [hA,hN,List.filterMap_map]
  congr 1
  funext k
  simp
 rw [ep] at h hsz
 by_cases hc:(A0.1 == 0&&st.getD 1 == 1&&N0 == items.size)=true
 ·have hc':=hc
  rw [Bool.and_eq_true,Bool.and_eq_true] at hc'
  have q1:A0.1=0:=eq_of_beq hc'.1.1
  have q2:st.getD 1=1:=eq_of_beq hc'.1.2
  have q3:N0=items.size:=eq_of_beq hc'.2
  have whole:idxT items.size lo hi (st.getD 1)=List.range items.size:=by
   unfold idxT
   rw [hA,hN,q1,q2,q3]
   have e:(fun (k:Nat)=>((0:Int)+(k:Int) * 1).toNat)=id:=by
    funext k
    show ((0:Int)+(k:Int) * 1).toNat=k
    omega
   rw [e,List.map_id]
  have hQ:=hw whole
  show wpAny _ _ (if (A0.1 == 0&&st.getD 1 == 1&&N0 == items.size)=true then _ else _) _ _ s
  rw [if_pos hc]
  unfold Builtin.Tuple.tupleIsExact
  refine wpAny_bind (wpAny_bind (wpAny_typeOf ht.typeIs (wpAny_pure ?_)))
  rw [if_pos (by decide)]
  exact wpAny_bind (wpAny_rule (wpAny_pure ⟨_,rfl,wpAny_pure hQ⟩))
 ·show wpAny _ _ (if (A0.1 == 0&&st.getD 1 == 1&&N0 == items.size)=true then _ else _) _ _ s
  rw [if_neg hc]
  have htake:sizeOk (.seq ((List.range N0).filterMap fun (k:Nat)=>items[(A0.1+(k:Int) * st.getD 1).toNat]?).toArray):=by
   show (((List.range N0).filterMap fun (k:Nat)=>items[(A0.1+(k:Int) * st.getD 1).toNat]?).toArray).size<=sizeLine
   rw [List.size_toArray]; exact hsz
  first
   | exact wpAny_bind (m:=Builtin.Tuple.tupleExact _) (wpAny_newObj_type (wpAny_pure ⟨_,rfl,wpAny_pure h⟩) htake)
   | exact wpAny_bind (m:=Builtin.Tuple.tupleExact _) (wpAny_newObj_type (wpAny_bind (wpAny_pure (wpAny_pure ⟨_,rfl,wpAny_pure h⟩))) htake)
   | exact wpAny_bind (wpAny_bind (m:=Builtin.Tuple.tupleExact _) (wpAny_newObj_type (wpAny_pure (wpAny_pure ⟨_,rfl,wpAny_pure h⟩)) htake))
   | exact wpAny_bind (wpAny_bind (m:=Builtin.Tuple.tupleExact _) (wpAny_newObj_type (wpAny_pure ⟨_,rfl,wpAny_pure h⟩) htake))
end
def PoO (C:Ct) (own:List Nat) (σ:St) (F H:Hp) (r:Out (Option Int×Sl)) (Q:Option Int->Hp->Prop):Prop:=match r with
 | .ok (b,ρ')=>∀ F' H',Rep C.K own F' H' σ ρ'->Chg (OA own σ) F H F' H'->Q b H'
 | .exc c ρ'=>∀ F' H',Same F' H'->IoIs C.K C.ox F' H' σ ρ'->Chg (OA own σ) F H F' H'->C.E (C.cv c) none H'
 | .bad=>False
def tO (C:Ct) (own:List Nat) (f:Sl->Out (Option Int×Sl)):TO:=fun σ H Q=>∃ F ρ,Rep C.K own F H σ ρ/\PoO C own σ F H (f ρ) Q
noncomputable def dPart:Option (Sl->Out (D×Sl))->Sl->Out (Option Int×Sl)
 | none,ρ=>.ok (none,ρ)
 | some f,ρ=>(f ρ).bind fun p=>match p.1 with
  | .int i=>.ok (some i,p.2)
  | _=>.bad
theorem Po.bindO {C:Ct} {own:List Nat} {m:Mo} {σ:St} {F H:Hp} {o:Out (Option Int×Sl)} {k:Option Int×Sl->Out (D×Sl)} {Q:VK} {R:Option Int->Hp->Prop} (hp:Po C own m σ F H (o.bind k) Q)
  (h:∀ F1 H1 b ρ1,Rep C.K own F1 H1 σ ρ1->Chg (OA own σ) F H F1 H1->Po C own m σ F1 H1 (k (b,ρ1)) Q->R b H1):PoO C own σ F H o R:=by
 cases o with
 | ok p=>
  obtain ⟨d,ρ1⟩:=p
  exact fun F1 H1 rp c=>h F1 H1 d ρ1 rp c (Po.shift (show Po C own m σ F H (k (d,ρ1)) Q from hp) c)
 | exc x=>exact hp
 | bad=>exact hp.elim
noncomputable def dSlice (fa:Sl->Out (D×Sl)) (l u k:Option (Sl->Out (D×Sl))):Sl->Out (D×Sl):=fun ρ=>(fa ρ).bind fun p=>(dPart l p.2).bind fun a=>(dPart u a.2).bind fun b=>(dPart k b.2).bind fun c=>(slD a.1 b.1 c.1 p.1).plain.bind fun d=>.ok (d,c.2)
section
variable {X:Cx} {C:Ct} {own:List Nat} {a e:Expr} {fa f:Sl->Out (D×Sl)} {m ma:Mo} {pos p2:Pos}
theorem pdo_none:PO X none (tO C own (dPart none)):=by
 intro pins s σ H Q I ⟨F,ρ,rp,h⟩
 exact po_none pins s σ H Q I (h F H rp .refl)
theorem pdo_some (h:PE X e (tE C own m f)):PO X (some e) (tO C own (dPart (some f))):=by
 intro pins s σ H Q I ⟨F,ρ,rp,hp⟩
 refine po_some h pins s σ H Q I ⟨F,ρ,rp,?_⟩
 have hp:PoO C own σ F H ((f ρ).bind fun p=>match p.1 with | .int i=>.ok (some i,p.2) | _=>.bad) Q:=hp
 cases q:f ρ with
 | ok p=>
  rw [q] at hp
  obtain ⟨d,ρ1⟩:=p
  cases d with
  | int i=>exact fun v F1 H1 rp1 c1 mo1=>⟨i,mo1.top.int,hp F1 H1 rp1 c1⟩
  | _=>exact hp.elim
 | exc c=>rw [q] at hp; exact hp
 | bad=>rw [q] at hp; exact hp.elim
theorem pe_slice3 {r:V->Option Int->Option Int->Option Int->Hp->VK->Prop} {te:TE} {tl th tk:TO} {lo hi st:Option Expr} (hr:SlR3 X r) (he:PE X e te) (hl:PO X lo tl) (hu:PO X hi th) (hk:PO X st tk) :
  PE X (.Subscript e (.Slice lo hi st p2) pos) (fun σ H Q=>te σ H fun x H1=>tl σ H1 fun l H2=>th σ H2 fun u H3=>tk σ H3 fun k H4=>r x l u k H4 Q):=by
 refine ⟨?_⟩
 intro pins s σ H Q I h
 refine Subscript_ (thn (he pins s σ H _ I h) fun v s1 ⟨x,H1,I1,r1,q1⟩=>?_)
 refine wpAny_Slice (thn (hl pins s1 σ H1 _ I1 q1) fun vl s2 ⟨l,H2,I2,pl,q2⟩=>thn (hu pins s2 σ H2 _ I2 q2) fun vu s3 ⟨u,H3,I3,pu,q3⟩=>thn (hk pins s3 σ H3 _ I3 q3) fun vk s4 ⟨k,H4,I4,pk,q4⟩=>?_)
 have I5:Inv X pins σ H4 { s4 with heap:=s4.heap.push { cls:=.type "slice",data:=.fields #[vl,vu,vk] } }:=I4.kept (t':=s4.toks) fun b ob q=>Heap.get?_push_of_some _ q
 obtain ⟨T,id,hT,ht,hg⟩:=hr pins { s4 with heap:=s4.heap.push { cls:=.type "slice",data:=.fields #[vl,vu,vk] } } σ H4 x v vl vu vk l u k s4.heap.objs.size Q I5 r1 (Heap.IsSliceOf.new ..) pl pu pk q4
 show wpAny (model X.prog X.w) X.A (subscriptTail e (.Slice lo hi st p2) v (.ref s4.heap.objs.size)) (EP X pins σ Q) X.xe { s4 with heap:=s4.heap.push { cls:=.type "slice",data:=.fields #[vl,vu,vk] } }
 cases st with
 | none=>exact tail_any (ops:=[.ref s4.heap.objs.size,v]) ht hT hg (by with_unfolding_all rfl)
 | some st=>exact tail_any (ops:=[v,.ref s4.heap.objs.size]) ht hT hg (by with_unfolding_all rfl)
theorem part_val {v:Value} {o:Option Int} (h:IsPart v o):∃ l:Option (Int×Tok),v=partValue l/\l.map (·.1)=o:=by
 cases h with
 | none=>exact ⟨none,rfl,rfl⟩
 | int i t=>exact ⟨some (i,t),rfl,rfl⟩
theorem sl_D (hK:C.K=X.K):SlR3 X (fun x lo hi st H Q=>∃ F d,Same F H/\Is C.K F x d/\PoV C .sh F H (slD lo hi st d) Q):=by
 intro pins s σ H x v vl vu vk lo hi st sl Q I rx hs pl pu pk h
 obtain ⟨F,d,sb,is,po⟩:=h
 cases d with
 | tup ds=>
  have is0:=is
  cases is with
  | @tup a xs _ hq t=>
   cases rx
   have hq':SqT X.K H a xs:=by rw [<-hK]; exact sqT_mono sb hq
   obtain ⟨its,r,ht,hz⟩:=I.tuple hq'
   have hlen:its.length=ds.length:=r.length.symm.trans t.length
   have po:PoV C .sh F H (if st.getD 1≠0/\(pickL (idxT ds.length lo hi (st.getD 1)) ds).length<=sizeLine then .ok (.tup (pickL (idxT ds.length lo hi (st.getD 1)) ds)) else .bad) Q:=po
   by_cases c:st.getD 1≠0/\(pickL (idxT ds.length lo hi (st.getD 1)) ds).length<=sizeLine
   ·rw [if_pos c] at po
    have iv:=t.pick (idxT ds.length lo hi (st.getD 1))
    have rv:=vals_pick r (idxT ds.length lo hi (st.getD 1))
    refine ⟨"tuple",_,PyProof.Rows.slot_tuple_getitem.lookup,ht.typeIs,getItem_tuple_3 ht hs pl pu pk c.1 (fun e=>?_) ?_ ?_⟩
    ·rw [List.size_toArray,hlen] at e
     refine ⟨.ref a,H,I,rfl,po _ F H sb .refl ?_⟩
     rw [e,pick_all]
     exact is0
    ·simp only [List.size_toArray,hlen]
     have hlv:(pickL (idxT ds.length lo hi (st.getD 1)) xs).length<=sizeLine:=by rw [iv.length]; exact c.2
     refine ⟨.ref s.heap.objs.size,_,I.laid (t':=s.toks) (o:=.tup (pickL (idxT ds.length lo hi (st.getD 1)) xs)) (fun b ob q=>Heap.get?_push_of_some _ q) (Nat.le_refl _) ⟨⟨hlv,⟨_,Heap.get?_push_size _ rfl,rfl⟩⟩,_,rv,IsTup.new _ _⟩,rfl,?_⟩
     obtain ⟨s2,c2⟩:=grow_sh (u:=.tup (pickL (idxT ds.length lo hi (st.getD 1)) xs)) sb (I.hok.fresh (Nat.le_refl _))
     exact po _ _ _ s2 c2 (.tup (.inl (.inl upd_same)) (iv.mono c2.grow))
    ·simp only [List.size_toArray,hlen]
     rw [<-rv.length,iv.length]
     exact c.2
   ·rw [if_neg c] at po; exact po.elim
 | str z=>
  cases is
  obtain ⟨t,rfl⟩:=rx
  have po:PoV C .sh F H (if st.getD 1≠0/\(strCut z lo hi (st.getD 1)).length<=sizeLine then .ok (.str (strCut z lo hi (st.getD 1))) else .bad) Q:=po
  by_cases c:st.getD 1≠0/\(strCut z lo hi (st.getD 1)).length<=sizeLine
  ·rw [if_pos c] at po
   obtain ⟨l,rfl,el⟩:=part_val pl
   obtain ⟨u,rfl,eu⟩:=part_val pu
   obtain ⟨k,rfl,ek⟩:=part_val pk
   refine ⟨"str",_,PySem.F.slot_str_getitem.lookup,typeIs_str s z t,wpAny_getItem_str_slice (l:=l) (u:=u) (st:=k) hs (by rw [ek]; simpa using c.1) ?_⟩
   have c2:=c.2
   unfold sliceMade slicePicked
   rw [el,eu,ek]
   unfold strCut at c2 po
   by_cases q:(st.getD 1 == 1&&(Builtin.Str.strSliceIndices lo hi (st.getD 1) z.length).length == z.length)=true
   ·rw [if_pos q] at c2 po ⊢
    exact ⟨.str z,H,I,⟨t,rfl⟩,po _ F H sb .refl (.str c2)⟩
   ·rw [if_neg q] at c2 po ⊢
    exact ⟨c2,.str _,H,I.tok _,⟨_,rfl⟩,po _ F H sb .refl (.str c2)⟩
  ·rw [if_neg c] at po; exact po.elim
 | _=>exact po.elim
theorem pd_slice {lo hi st:Option Expr} {l u k:Option (Sl->Out (D×Sl))} (hK:C.K=X.K) (he:PE X e (tE C own ma fa)) (hl:PO X lo (tO C own (dPart l))) (hu:PO X hi (tO C own (dPart u))) (hk:PO X st (tO C own (dPart k))) (hma:ma≠.any:=by decide) :
  PE X (.Subscript e (.Slice lo hi st p2) pos) (tE C own .sh (dSlice fa l u k)):=by
 refine pe_to (pe_slice3 (sl_D (C:=C) hK) (pd_sh he hma) hl hu hk) fun σ H Q ⟨F,ρ,rp,h⟩=>⟨F,ρ,rp,Po.bind h fun v F1 H1 d ρ1 rp1 c1 mo1 h1=>?_⟩
 refine ⟨F1,ρ1,rp1,Po.bindO h1 fun F2 H2 a ρ2 rp2 c2 h2=>⟨F2,ρ2,rp2,Po.bindO h2 fun F3 H3 b ρ3 rp3 c3 h3=>⟨F3,ρ3,rp3,Po.bindO h3 fun F4 H4 c ρ4 rp4 c4 h4=>?_⟩⟩⟩
 exact ⟨F4,d,rp4.sub,((mo1.mono c2.grow).mono c3.grow).mono c4.grow,PoV.of rp4 h4⟩
end
noncomputable def Its (x:Str):It:=⟨fun i _=>i < x.cps.size,fun i H v H'=>H'=H/\∃ c,x.cps[i]?=some c/\v=.str ⟨#[c]⟩,fun i _=>x.cps.size<=i⟩
noncomputable def chars (x:Str):List D:=x.cps.toList.map fun c=>.str ⟨#[c]⟩
theorem turn_str {P:Program} {w:World} {K:Frag} {tg:Expr} (it:Addr) (x:Str) (t:Tok) (ty:String) (hn:["enumerate", "zip", "dict_itemiterator", "dict_reverseitemiterator", "odict_iterator", "itertools.zip_longest", "itertools.pairwise"].contains ty=false)
  (W:∀ A:Around,A.handled=none->Walks P w A it [it] [it] x.cps.size (SignAt x) (fun i h=>h.IsStrIter it ty x t i)) (sf:∀ (A:Around) (i:Nat) (s:Shared) (Q:Value->Shared->Prop) (E:Value->Shared->Prop),s.heap.IsStrIter it ty x t i->Q (.ref it) s->wpAny (model P w) A (pyIter (.ref it)) Q E s) :
  Turn P w K tg (Its x) [it] it (fun i h=>h.IsStrIter it ty x t i/\i<=x.cps.size) where
 mem:=by simp
 obj:=fun i h st b hb=>by
  have e:b=it:=by simpa using hb
  subst e
  obtain ⟨o,e,c,d⟩:=st.1
  exact ⟨o,e,fun v z=>by rw [d] at z; cases z⟩
 keep:=fun i h h' st k=>by
  obtain ⟨⟨o,e,r⟩,hi⟩:=st
  exact ⟨⟨o,k it (by simp) o e,r⟩,hi⟩
 item:=by
  intro X hP hw hK hc i pins s σ H E I hf st hg
  subst hP hw hK
  obtain ⟨f0,f1,f2,f3,f4,f5⟩:=hf it (by simp)
  refine (W X.A (I.ok.hd hc)).item i s _ _ hg st.1 fun v h' tk hP st' kp=>?_
  have I1:Inv X pins σ H { s with heap:=h',toks:=tk }:=I.turned (t':=tk) (fun b o hb e=>kp b o (by simpa using hb) e) f0 f1 f3 f4 f5
  obtain ⟨o,e,c,d⟩:=id st'
  obtain ⟨c',u,h1,h2⟩:∃ c' u,x.cps[i]?=some c'/\v=Value.str ⟨#[c']⟩ u:=by
   unfold SignAt at hP
   first
    | exact hP
    | (obtain ⟨c',u,h1,h2⟩:=hP; exact ⟨c',u,h1,h2⟩)
    | (obtain ⟨c',h1,u,h2⟩:=hP; exact ⟨c',u,h1,h2⟩)
    | (obtain ⟨u,c',h1,h2⟩:=hP; exact ⟨c',u,h1,h2⟩)
  subst h2
  exact ⟨_,rfl,go_of (s:={ s with heap:=h',toks:=tk }) e c d hn ⟨.str ⟨#[c']⟩,H,I1,⟨u,rfl⟩,⟨rfl,c',h1,rfl⟩,⟨st',hg⟩,fun b hb=>(hf b hb).1⟩⟩
 done:=by
  intro X hP hw hK hc i pins s σ H E I hf st hg
  subst hP hw hK
  obtain ⟨f0,f1,f2,f3,f4,f5⟩:=hf it (by simp)
  have hi:i=x.cps.size:=Nat.le_antisymm st.2 hg
  subst hi
  exact (W X.A (I.ok.hd hc)).done s _ _ st.1 fun h' tk kp=>⟨rfl,I.turned (t':=tk) (fun b o hb e=>kp b o (by simpa using hb) e) f0 f1 f3 f4 f5⟩
 self:=fun A i s Q E st h=>sf A i s Q E st.1 h
theorem its_is {K:Frag} {F:Hp} {x:Str}:ItIs K F (Its x) (chars x) where
 go:=fun i H hi _=>by
  have:i < x.cps.size:=by simpa [chars] using hi
  exact this
 yld:=fun i Fi H v H' d e s1 s2 y=>by
  obtain ⟨rfl,c,h1,rfl⟩:=y
  have e:d=.str ⟨#[c]⟩:=by
   unfold chars at e
   rw [List.getElem?_map] at e
   have h1:x.cps.toList[i]?=some c:=by simpa using h1
   rw [h1] at e
   exact (Option.some.inj e).symm
  subst e
  exact ⟨Fi,.refl,s2,.str (cp_small c)⟩
 stop:=fun i H hi _=>by
  have:x.cps.size<=i:=by simpa [chars] using hi
  exact this
noncomputable def seqOfA:D->Out (List D)
 | .lst xs=>.ok xs
 | .tup xs=>.ok xs
 | .str x=>.ok (chars x)
 | _=>.bad
noncomputable def iAny (f:Sl->Out (D×Sl)):Sl->Out (List D×Sl):=fun ρ=>(f ρ).bind fun p=>(seqOfA p.1).bind fun ds=>.ok (ds,p.2)
section
variable {X:Cx} {C:Ct} {own:List Nat} {tg e:Expr} {f:Sl->Out (D×Sl)} {m:Mo} {pos:Pos}
theorem pi_any {l:Expr} {tl:TE} (hl:PE X l tl):PI X tg l (fun σ H R=>tl σ H fun x H1=>(∃ a,x=.ref a/\(((∃ xs,SqL X.K H1 a xs)/\R (Itl X.K a) H1)\/((∃ xs,SqT X.K H1 a xs)/\R (Itt X.K a) H1)))\/∃ z,x=.str z/\R (Its z) H1):=by
 refine ⟨?_⟩
 intro pins s σ H R I h
 refine thn (hl pins s σ H _ I h) fun v s1 ⟨x,H1,I1,r1,q1⟩=>?_
 have fp:∀ b∈[s1.heap.objs.size],FpOk X pins H1 b:=fun b hb=>by
  have e:b=s1.heap.objs.size:=by simpa using hb
  subst e
  exact I1.fpOk (Nat.le_refl _) (I1.hok.fresh (Nat.le_refl _))
 rcases q1 with ⟨a,rfl,q⟩ | ⟨z,rfl,q⟩
 ·cases r1
  rcases q with ⟨⟨xs,hq⟩,q⟩ | ⟨⟨xs,hq⟩,q⟩
  ·obtain ⟨its,rv,p,hz⟩:=I1.list hq
   refine wpAny_pyIter_list p.isList ?_
   exact ⟨s1.heap.objs.size,[s1.heap.objs.size],_,_,H1,rfl,I1.kept (t':=s1.toks) fun b o e=>Heap.get?_push_of_some _ e,turn_list a _,⟨_,Heap.get?_push_size _ rfl,rfl,rfl⟩,fp,q⟩
  ·obtain ⟨its,rv,p,hz⟩:=I1.tuple hq
   refine wpAny_pyIter_tuple (show s1.heap.IsTuple a its.toArray from p) ?_
   exact ⟨s1.heap.objs.size,[s1.heap.objs.size],_,_,H1,rfl,I1.kept (t':=s1.toks) fun b o e=>Heap.get?_push_of_some _ e,turn_tuple a _,⟨_,Heap.get?_push_size _ rfl,rfl,rfl⟩,fp,q⟩
 ·obtain ⟨t,rfl⟩:=r1
  cases ha:z.cps.all (· < 128) with
  | true=>
   refine wpAny_pyIter_ascii ha ?_
   exact ⟨s1.heap.objs.size,[s1.heap.objs.size],_,_,H1,rfl,I1.kept (t':=s1.toks) fun b o e=>Heap.get?_push_of_some _ e,turn_str _ z t "str_ascii_iterator" (by decide) (fun A hA=>Walks.strAscii hA _ z t) (fun A i s Q E st h=>wpAny_pyIter_striter_ascii st h),⟨⟨_,Heap.get?_push_size _ rfl,rfl,rfl⟩,Nat.zero_le _⟩,fp,q⟩
  | false=>
   refine wpAny_pyIter_wide ha ?_
   exact ⟨s1.heap.objs.size,[s1.heap.objs.size],_,_,H1,rfl,I1.kept (t':=s1.toks) fun b o e=>Heap.get?_push_of_some _ e,turn_str _ z t "str_iterator" (by decide) (fun A hA=>Walks.strWide hA _ z t) (fun A i s Q E st h=>wpAny_pyIter_striter_wide st h),⟨⟨_,Heap.get?_push_size _ rfl,rfl,rfl⟩,Nat.zero_le _⟩,fp,q⟩
theorem pdi_any (hK:C.K=X.K) (h:PE X e (tE C own m f)) (hm:m≠.any:=by decide):PI X tg e (tIt C own (iAny f)):=by
 refine pi_to (pi_any (pd_sh h hm)) fun σ H R ⟨F,ρ,rp,h⟩=>⟨F,ρ,rp,PoI.bindV h fun v F1 H1 d ρ1 rp1 c1 mo1 h1=>?_⟩
 have mo1:Is C.K F1 v d:=mo1
 cases mo1 with
 | lst p t=>exact .inl ⟨_,rfl,.inl ⟨⟨_,by rw [<-hK]; exact rp1.sub.seq p⟩,by rw [<-hK]; exact h1 _ F1 H1 rp1 c1 (itl_is p t)⟩⟩
 | tup p t=>exact .inl ⟨_,rfl,.inr ⟨⟨_,by rw [<-hK]; exact sqT_mono rp1.sub p⟩,by rw [<-hK]; exact h1 _ F1 H1 rp1 c1 (itt_is p t)⟩⟩
 | str hz=>exact .inr ⟨_,rfl,h1 _ F1 H1 rp1 c1 its_is⟩
 | _=>exact h1.elim
end
noncomputable def countD (b:Bool):D->Out D
 | .lst ds=>match boolsD ds with
  | some bs=>.ok (.int (bs.countP (· == b):Nat))
  | none=>.bad
 | _=>.bad
noncomputable def indexD (b:Bool):D->Out D
 | .lst ds=>match boolsD ds with
  | some bs=>match bs.findIdx? (· == b) with
   | some j=>.ok (.int (j:Nat))
   | none=>.bad
  | none=>.bad
 | _=>.bad
section
variable {X:Cx} {C:Ct} {own:List Nat} {o:Expr} {fo:Sl->Out (D×Sl)} {m:Mo} {apos cpos:Pos} {b:Bool}
theorem isBool_eq (A:Around) (s:Shared) (c b:Bool):SeqAt.EqAt A s (.bool c) (.bool b) (c == b):=SeqAt.EqAt.bool_bool _ _
theorem mt_count:MtR X "list.count" (fun x vs H Q=>∃ (a:Addr) (xs:List V) (bs:List Bool) (b:Bool),x=.ref a/\vs=[.bl b]/\SqL X.K H a xs/\(∀ us,Vals xs us->us=bs.map Value.bool)/\Q (.int (bs.countP (· == b):Nat)) H):=by
 intro pins s σ H x vs v us Q I rx rv h
 obtain ⟨a,xs,bs,b,rfl,rfl,hq,hb,q⟩:=h
 cases rx
 obtain ⟨u,rfl,ru⟩:=rv.one
 cases ru
 obtain ⟨its,r,pl,hz⟩:=I.list hq
 have e:=hb its r
 subst e
 obtain ⟨⟨cls,dd,data,sl⟩,n,ho,hc,hd,hdt⟩:=pl
 simp only at hc hd hdt
 subst hc hdt
 refine call_meets PySem.F.slot_list_count ⟨_,ho,rfl⟩ PySem.F.entry_list_count (PySem.F.args_list_count_2 _ _) (SeqAt.list_countAt a _ n dd sl (.bool b) (fun v=>v == .bool b)) ⟨ho,fun y hy=>?_,?_⟩
 ·have hy:y∈bs.map Value.bool:=by simpa using hy
  obtain ⟨c,_,rfl⟩:=List.mem_map.mp hy
  have e:(Value.bool c == Value.bool b)=(c == b):=by cases c <;> cases b <;> rfl
  show SeqAt.EqAt _ s (.bool c) (.bool b) (Value.bool c == Value.bool b)
  rw [e]
  exact isBool_eq _ s c b
 ·refine ⟨.int (bs.countP (· == b):Nat),H,I.tok _,⟨s.toks,?_⟩,q⟩
  have e:(bs.map Value.bool).toArray.toList.countP (fun v=>v == Value.bool b)=bs.countP (· == b):=by
   rw [List.toList_toArray,List.countP_map]
   congr 1
   funext c
   cases c <;> cases b <;> rfl
  rw [e]
theorem mt_index:MtR X "list.index" (fun x vs H Q=>∃ (a:Addr) (xs:List V) (bs:List Bool) (b:Bool) (j:Nat),x=.ref a/\vs=[.bl b]/\SqL X.K H a xs/\(∀ us,Vals xs us->us=bs.map Value.bool)/\bs.findIdx? (· == b)=some j/\Q (.int (j:Nat)) H):=by
 intro pins s σ H x vs v us Q I rx rv h
 obtain ⟨a,xs,bs,b,j,rfl,rfl,hq,hb,hj,q⟩:=h
 cases rx
 obtain ⟨u,rfl,ru⟩:=rv.one
 cases ru
 obtain ⟨its,r,pl,hz⟩:=I.list hq
 have e:=hb its r
 subst e
 obtain ⟨⟨cls,dd,data,sl⟩,n,ho,hc,hd,hdt⟩:=pl
 simp only at hc hd hdt
 subst hc hdt
 obtain ⟨hj1,hj2,hj3⟩:=List.findIdx?_eq_some_iff_getElem.mp hj
 have hlen:bs.length<=sizeLine:=by have:=r.length; simp at this; omega
 have ev:∀ c:Bool,(Value.bool c == Value.bool b)=(c == b):=fun c=>by cases c <;> cases b <;> rfl
 refine call_meets PySem.F.slot_list_index ⟨_,ho,rfl⟩ PySem.F.entry_list_index (PySem.F.args_list_index_2 _ _) (SeqAt.list_indexAt a _ n dd sl (.bool b) (fun v=>v == .bool b) j (by simpa using hj1) (by rw [sizeLine_eq] at hlen; omega) (by simp [ev]; simpa using hj2) fun m hm h1=>?_) ⟨ho,fun y hy=>?_,?_⟩
 ·have:=hj3 m h1
  simp [ev]
  simpa using this
 ·have hy:y∈bs.map Value.bool:=by simpa using hy
  obtain ⟨c,_,rfl⟩:=List.mem_map.mp hy
  show SeqAt.EqAt _ s (.bool c) (.bool b) (Value.bool c == Value.bool b)
  rw [ev]
  exact isBool_eq _ s c b
 ·exact ⟨.int (j:Nat),H,I.tok _,⟨_,rfl⟩,q⟩
theorem pd_count {c1 c2} (hK:C.K=X.K) (ho:PE X o (tE C own m fo))
  (hbase:attributeBase o "count" X.env (eval o X.env)=eval o X.env:=by rfl)
  (hfew:((backTo cpos (starEach [.Constant (.bool b) c1 c2] X.env)).all (fun x=>!x.1)&&(backToKw cpos (keywordEach [] X.env)).all (fun x=>x.1.isSome)
   && decide ([Expr.Constant (.bool b) c1 c2].length+([]:List Keyword).length+(if ([]:List Keyword).isEmpty then 0 else 1) < 30))=true:=by exact star_few rfl)
  (hline:(apos.endLine == cpos.line)=true:=by rfl) (hs:starEach [.Constant (.bool b) c1 c2] X.env=[(false,eval (.Constant (.bool b) c1 c2) X.env)]:=by exact star_one rfl) :
  PE X (.Call (.Attribute o "count" apos) [.Constant (.bool b) c1 c2] [] cpos) (tE C own .sh (d1 (countD b) fo)):=by
 refine pe_to (pe_bm PySem.F.plainAttrs_list PySem.F.slot_list_count PySem.F.type_list_count mt_count ho (pa_cons pe_bl pa_nil hs) hbase hfew hline hs rfl) fun σ H Q h=>?_
 obtain ⟨F,ρ,rp,h⟩:=tE_un (ma:=m) h
 refine ⟨F,ρ,rp,?_⟩
 cases q:fo ρ with
 | ok p=>
  rw [q] at h
  obtain ⟨d,ρ1⟩:=p
  intro v F1 H1 rp1 c1 mo1
  obtain ⟨F2,dx,sb,tx,po⟩:=h v F1 H1 rp1 c1 mo1
  cases dx <;> try exact po.elim
  rename_i ds
  unfold countD at po
  cases q2:boolsD ds with
  | none=>simp only [q2] at po; exact po.elim
  | some bs=>
   simp only [q2] at po
   obtain ⟨a,vs,rfl,hq,t⟩:=tx.lst sb
   have hq':SqL X.K H1 a vs:=by rw [<-hK]; exact hq
   exact ⟨.inl ⟨rfl,vs,hq'⟩,a,vs,bs,b,rfl,rfl,hq',fun us r=>bools_of t r q2,po _ F2 H1 sb .refl (.int _)⟩
 | exc c=>rw [q] at h; exact h
 | bad=>rw [q] at h; exact h.elim
theorem pd_index {c1 c2} (hK:C.K=X.K) (ho:PE X o (tE C own m fo))
  (hbase:attributeBase o "index" X.env (eval o X.env)=eval o X.env:=by rfl)
  (hfew:((backTo cpos (starEach [.Constant (.bool b) c1 c2] X.env)).all (fun x=>!x.1)&&(backToKw cpos (keywordEach [] X.env)).all (fun x=>x.1.isSome)
   && decide ([Expr.Constant (.bool b) c1 c2].length+([]:List Keyword).length+(if ([]:List Keyword).isEmpty then 0 else 1) < 30))=true:=by exact star_few rfl)
  (hline:(apos.endLine == cpos.line)=true:=by rfl) (hs:starEach [.Constant (.bool b) c1 c2] X.env=[(false,eval (.Constant (.bool b) c1 c2) X.env)]:=by exact star_one rfl) :
  PE X (.Call (.Attribute o "index" apos) [.Constant (.bool b) c1 c2] [] cpos) (tE C own .sh (d1 (indexD b) fo)):=by
 refine pe_to (pe_bm PySem.F.plainAttrs_list PySem.F.slot_list_index PySem.F.type_list_index mt_index ho (pa_cons pe_bl pa_nil hs) hbase hfew hline hs rfl) fun σ H Q h=>?_
 obtain ⟨F,ρ,rp,h⟩:=tE_un (ma:=m) h
 refine ⟨F,ρ,rp,?_⟩
 cases q:fo ρ with
 | ok p=>
  rw [q] at h
  obtain ⟨d,ρ1⟩:=p
  intro v F1 H1 rp1 c1 mo1
  obtain ⟨F2,dx,sb,tx,po⟩:=h v F1 H1 rp1 c1 mo1
  cases dx <;> try exact po.elim
  rename_i ds
  unfold indexD at po
  cases q2:boolsD ds with
  | none=>simp only [q2] at po; exact po.elim
  | some bs=>
   simp only [q2] at po
   cases q3:bs.findIdx? (· == b) with
   | none=>simp only [q3] at po; exact po.elim
   | some j=>
    simp only [q3] at po
    obtain ⟨a,vs,rfl,hq,t⟩:=tx.lst sb
    have hq':SqL X.K H1 a vs:=by rw [<-hK]; exact hq
    exact ⟨.inl ⟨rfl,vs,hq'⟩,a,vs,bs,b,j,rfl,rfl,hq',fun us r=>bools_of t r q2,q3,po _ F2 H1 sb .refl (.int _)⟩
 | exc c=>rw [q] at h; exact h
 | bad=>rw [q] at h; exact h.elim
end
end L2.D2
namespace L2.D2
open PySem PySem.Spec PySem.Calls PyProof.Rows PySem.W Builtin Builtin.ObjectAttr Builtin.Getset_descriptor
section
variable {prog:Program} {w:World} {A:Around} {E:Value->Shared->Prop} {h:Heap} {g:Array GenState} {d:Drawn} {t:Nat} {os:OsState} {a C:Addr} {o:Obj} {K:Frag}
theorem xc_get {R:Result->Shared->Prop} (X:K.In h) (L0:Looks (model prog w) h (typeOf (.ref a)) (.ref C)) (hm:mroIn K C (.type "object")=some true) (hq:R (.ok (.ret (.ref C))) ⟨h,g,d,t,os⟩) :
  codeAny (model prog w) A (.call (.builtin "getset_descriptor.__get__") ⟨[.builtin "object.__class__",.ref a,.ref C],[]⟩) R ⟨h,g,d,t,os⟩:=by
 have L1:=looks_mroIn (M:=model prog w) X hm
 refine codeAny_call_builtin KF.slot_gs.plain KF.entry_gs (KF.slot_gs.check _ _ _ _ _ _ _ _ KF.type_class (KF.args_gs _ _ _) ?_)
 unfold Builtin.«getset_descriptor.__get__» descrGet
 rw [dga_obj]
 refine wpAny_bind (wpAny_pure ?_)
 unfold descrGetter descrCheckInstance descrNameAndClass isInstance
 simp only [KF.owner_class]
 repeat lk
 refine ⟨Code.quiet_builtin _ (by decide +kernel),codeAny_builtin KF.entry_class ?_⟩
 unfold Builtin.«object.__class__» shownTypeOf
 repeat lk
 exact hq
theorem xc_check {nameV:Value} {Q:Unit->Shared->Prop} (X:K.In h) (L0:Looks (model prog w) h (typeOf (.ref a)) (.ref C)) (hs:subIn K (.ref C) (.type "BaseException")=some true) (hq:Q () ⟨h,g,d,t,os⟩) :
  wpAny (model prog w) A (checkBuiltinCall "BaseException.__getattribute__" ⟨[.ref a,nameV],[]⟩) Q E ⟨h,g,d,t,os⟩:=by
 have hk:builtinKind "BaseException.__getattribute__"=some .slot:=by decide +kernel
 have hsplit:splitId "BaseException.__getattribute__"=some ("BaseException", "__getattribute__"):=by decide +kernel
 have ha:=F.args_bexc_ga (.ref a) nameV
 have LI:Looks (model prog w) h (isInstance (.ref a) (.type "BaseException")) true:=L0.andThen (looks_subIn X hs)
 simp only [checkBuiltinCall,hk,hsplit]
 refine wpAny_bind (LI.at ?_)
 repeat (first | assumption | wp_step)
theorem xc_entry {tk:Tok} {Q:Fin->Shared->Prop} (X:K.In h) (L0:Looks (model prog w) h (typeOf (.ref a)) (.ref C)) (g3:findIn K (.ref C) "__class__"=some (some (.builtin "object.__class__"))) (hm:mroIn K C (.type "object")=some true) (hq:Q (.done (.ret (.ref C))) ⟨h,g,d,t,os⟩) :
  wpAny (model prog w) A (Builtin.«object.__getattribute__» ⟨[.ref a,.str "__class__" tk],[]⟩) Q E ⟨h,g,d,t,os⟩:=by
 have L3:=looks_findIn (M:=model prog w) X g3
 have hT5:(⟨h,g,d,t,os⟩:Shared).TypeIs (.builtin "object.__class__") "getset_descriptor":=KF.type_class
 have f5:=KF.type_class
 have f6:=F.slot_gs_get.lookup
 have f7:=F.slot_gs_set.lookup
 repeat (any_goals (first | assumption | with_reducible refine L0.at ?_ | with_reducible refine L3.at ?_ | wp_step))
 refine xc_get X L0 hm ?_
 repeat (any_goals (first | assumption | wp_step))
theorem xc_call {tk:Tok} {R:Result->Shared->Prop} (X:K.In h) (L0:Looks (model prog w) h (typeOf (.ref a)) (.ref C)) (hs:subIn K (.ref C) (.type "BaseException")=some true) (g3:findIn K (.ref C) "__class__"=some (some (.builtin "object.__class__"))) (hm:mroIn K C (.type "object")=some true) (hq:R (.ok (.ret (.ref C))) ⟨h,g,d,t,os⟩) :
  codeAny (model prog w) A (.call (.builtin "BaseException.__getattribute__") ⟨[.ref a,.str "__class__" tk],[]⟩) R ⟨h,g,d,t,os⟩:=
 codeAny_call_builtin F.excAttr_ValueError.ga.plain F.entry_bexc_ga (xc_check X L0 hs (xc_entry X L0 g3 hm hq))
theorem xc_by {tk:Tok} {fill expr:Bool} {Q:Value->Shared->Prop} (X:K.In h) (L0:Looks (model prog w) h (typeOf (.ref a)) (.ref C)) (hs:subIn K (.ref C) (.type "BaseException")=some true) (g1:findIn K (.ref C) "__getattribute__"=some (some (.builtin "BaseException.__getattribute__"))) (g2:findIn K (.ref C) "__getattr__"=some none)
  (g3:findIn K (.ref C) "__class__"=some (some (.builtin "object.__class__"))) (hm:mroIn K C (.type "object")=some true) (hq:Q (.ref C) ⟨h,g,d,t,os⟩) :
  wpAny (model prog w) A (getAttrBy (.ref a) (.str "__class__" tk) fill expr) Q E ⟨h,g,d,t,os⟩:=by
 have L1:=looks_findIn (M:=model prog w) X g1
 have L2:=looks_findIn (M:=model prog w) X g2
 have f3:=F.excAttr_ValueError.ga.bind (.ref a)
 have hx0:(expr&&onTheHeap (Value.builtin "BaseException.__getattribute__"))=false:=by cases expr <;> rfl
 have hx2:(Value.builtin "BaseException.__getattribute__" == Value.builtin "object.__getattribute__")=false:=by decide +kernel
 have hx1:(onTheHeap (Value.ref C)&&Value.builtin "BaseException.__getattribute__" == Value.builtin "object.__getattribute__")=false:=by rw [hx2]; rfl
 repeat (any_goals (first | assumption | with_reducible refine L0.at ?_ | with_reducible refine L1.at ?_ | with_reducible refine L2.at ?_ | wp_step))
 refine xc_call X L0 hs g3 hm ?_
 repeat (any_goals (first | assumption | wp_step))
theorem xc_attr {Q:Option Value->Shared->Prop} (X:K.In h) (L0:Looks (model prog w) h (typeOf (.ref a)) (.ref C)) (hs:subIn K (.ref C) (.type "BaseException")=some true) (g1:findIn K (.ref C) "__getattribute__"=some (some (.builtin "BaseException.__getattribute__"))) (g2:findIn K (.ref C) "__getattr__"=some none)
  (g3:findIn K (.ref C) "__class__"=some (some (.builtin "object.__class__"))) (hm:mroIn K C (.type "object")=some true) (hq:Q (some (.ref C)) ⟨h,g,d,t+1,os⟩) :
  wpAny (model prog w) A (getAttr? (.ref a) "__class__") Q E ⟨h,g,d,t,os⟩:=by
 unfold getAttr? getAttrBy?
 exact wpAny_bind (wpAny_mkText (wpAny_bind (wpAny_attempt (xc_by X L0 hs g1 g2 g3 hm (wpAny_pure hq)))))
end
noncomputable def xcB (K:Frag) (C:Addr):Bool:=decide (subIn K (.ref C) (.type "BaseException")=some true)&&decide (findIn K (.ref C) "__getattribute__"=some (some (.builtin "BaseException.__getattribute__")))&&decide (findIn K (.ref C) "__getattr__"=some none) &&
 decide (findIn K (.ref C) "__class__"=some (some (.builtin "object.__class__")))&&decide (mroIn K C (.type "object")=some true)&&(clsIn K C).isSome
def ExcAt (a C:Addr) (h:Heap):Prop:=∃ oe vs,h.get? a=some oe/\oe.cls=.ref C/\oe.data=.fields vs
theorem kitx_exc {K:Frag} {a C:Addr} (b:xcB K C=true):KitX K (.ref a) (.ref C) (ExcAt a C):=by
 unfold xcB at b
 simp only [Bool.and_eq_true,decide_eq_true_eq] at b
 obtain ⟨⟨⟨⟨⟨b1,b2⟩,b3⟩,b4⟩,b5⟩,b6⟩:=b
 have ty:∀ (M:Model) (h:Heap),ExcAt a C h->Looks M h (typeOf (.ref a)) (.ref C):=fun M h ⟨oe,vs,e1,e2,e3⟩=>by rw [<-e2]; exact (Looks.ld e1).andThen .now
 refine ⟨fun M h _ x=>ty M h x,fun M h X _=>?_,fun h tp dd its n sl X ht=>?_,fun {prog w A E Q s} X x hq=>?_⟩
 ·unfold clsIn at b6
  split at b6
  ·rename_i c' d' cd' sl' ho
   intro A' Q' E' s' k q
   unfold isType loadHead
   exact wpAny_bind (wpAny_loadPart (k _ _ (X _ _ ho)) (wpAny_pure q))
  ·cases b6
 ·refine Bool.eq_false_iff.mpr fun q=>?_
  have q:Value.ref C=Value.ref tp:=beq_iff_eq.mp q
  cases q
  unfold clsIn at b6
  split at b6
  ·rename_i c' d' cd' sl' ho
   rw [X _ _ ho] at ht
   cases ht
  ·cases b6
 ·obtain ⟨h,g,d,t,os⟩:=s
  exact xc_attr X (ty _ h x) b1 b2 b3 b4 b5 hq
noncomputable def isXD (ans:Addr->Option Bool):D->Out D
 | .xcp C=>match ans C with
  | some b=>.ok (.bl b)
  | none=>.bad
 | _=>.bad
section
variable {X:Cx} {C:Ct} {own:List Nat} {a:Expr} {fa:Sl->Out (D×Sl)} {ma:Mo} {pos:Pos} {cls:Value} {vc:V} {ans:Addr->Option Bool}
theorem call_isX (hans:∀ Cc b,ans Cc=some b->xcB X.K Cc=true/\kitOne X.K (.ref Cc) cls=some b) (rc:RelV vc cls):CallR X (.builtin "isinstance") (fun xs H Q=>∃ x F d,xs=[x,vc]/\Same F H/\TopIs C.K F H x d/\PoV C .sh F H (isXD ans d) Q):=by
 intro pins s σ H xs us Q I r h
 obtain ⟨x,F,d,rfl,sb,tx,po⟩:=h
 obtain ⟨u,c,rfl,ru,rc'⟩:=vals2 r
 cases d with
 | xcp Cc=>
  unfold isXD at po
  cases q:ans Cc with
  | none=>simp only [q] at po; exact po.elim
  | some b=>
   simp only [q] at po
   obtain ⟨h1,h2⟩:=hans Cc b q
   rcases tx with tx | ⟨_,_,tx⟩
   ·cases tx with
    | @xcp ad _ hF=>
     cases ru
     have hx:ExcAt ad Cc s.heap:=(show ObjOk X.prog X.w H s.heap ad (excO ad Cc) from I.hok ad _ (sb _ _ hF)).1
     have e:cls=c:=by
      cases vc with
      | ref z=>exact (show cls=Value.ref z from rc).trans (show c=Value.ref z from rc').symm
      | ty z=>exact (show cls=Value.type z from rc).trans (show c=Value.type z from rc').symm
      | non=>exact (show cls=Value.none from rc).trans (show c=Value.none from rc').symm
      | bl z=>exact (show cls=Value.bool z from rc).trans (show c=Value.bool z from rc').symm
      | int z=>obtain ⟨t,rfl⟩:=rc; unfold kitOne kitCls at h2; simp at h2
      | str z=>obtain ⟨t,rfl⟩:=rc; unfold kitOne kitCls at h2; simp at h2
      | byt z=>obtain ⟨t,rfl⟩:=rc; unfold kitOne kitCls at h2; simp at h2
      | flt z=>obtain ⟨t,rfl⟩:=rc; unfold kitOne kitCls at h2; simp at h2
     subst e
     exact kia_one (kitx_exc h1) I.kIn hx h2 (fun z=>nomatch z) fun tk=>⟨.bl b,H,I.tok tk,rfl,po _ F H sb .refl (.bl b)⟩
   ·exact tx.elim
 | _=>exact po.elim
theorem isX_args {σ:St} {H:Hp} {Q:VK} (h:tE C own .sh (d1 (isXD ans) fa) σ H Q):tCons (tE C own ma fa) (tCons (tC vc) tNil) σ H fun xs H1=>∃ x F d,xs=[x,vc]/\Same F H1/\TopIs C.K F H1 x d/\PoV C .sh F H1 (isXD ans d) Q:=by
 obtain ⟨F,ρ,rp,h⟩:=tE_un (ma:=ma) h
 refine ⟨F,ρ,rp,?_⟩
 cases q:fa ρ with
 | ok p=>
  rw [q] at h
  obtain ⟨d,ρ1⟩:=p
  intro v F1 H1 rp1 c1 mo1
  obtain ⟨F2,dx,z⟩:=h v F1 H1 rp1 c1 mo1
  exact ⟨v,F2,dx,rfl,z⟩
 | exc c=>rw [q] at h; exact h
 | bad=>rw [q] at h; exact h.elim
theorem pd_isX {cn:Str} {Ct:Addr} {p tp:Pos} (hg:Gl X "isinstance") (hm:X.mg "isinstance"=none) (hv:bootBuiltins "isinstance"=some (.builtin "isinstance")) (ht:Gl X cn) (htm:X.mg cn=some (.ref Ct)) (hans:∀ Cc b,ans Cc=some b->xcB X.K Cc=true/\kitOne X.K (.ref Cc) (.ref Ct)=some b) (ha:PE X a (tE C own ma fa)) (hdb:(cn == ("__debug__":Str))=false:=by decide)
  (h1:starEach [a,.Name cn tp] X.env=(false,eval a X.env)::starEach [.Name cn tp] X.env:=by rfl) (h2:starEach [.Name cn tp] X.env=[(false,eval (.Name cn tp) X.env)]:=by rfl):PE X (.Call (.Name "isinstance" p) [a,.Name cn tp] [] pos) (tE C own .sh (d1 (isXD ans) fa)):=
 pe_to (pe_callB (call_isX (vc:=.ref Ct) hans rfl) hg hm hv (pa_cons ha (pa_cons (pe_glob (v:=.ref Ct) ht htm rfl hdb) pa_nil h2) h1) (by decide) (by decide) (by rw [h1]) (by rw [h2]; rfl)) fun σ H Q h=>isX_args h
theorem pd_isXT {cn:Str} {T:String} {p tp:Pos} (hg:Gl X "isinstance") (hm:X.mg "isinstance"=none) (hv:bootBuiltins "isinstance"=some (.builtin "isinstance")) (ht:Gl X cn) (htm:X.mg cn=none) (htv:bootBuiltins cn=some (.type T)) (hans:∀ Cc b,ans Cc=some b->xcB X.K Cc=true/\kitOne X.K (.ref Cc) (.type T)=some b) (ha:PE X a (tE C own ma fa)) (hn:cn ≠ "__name__":=by decide) (hdb:(cn == ("__debug__":Str))=false:=by decide)
  (h1:starEach [a,.Name cn tp] X.env=(false,eval a X.env)::starEach [.Name cn tp] X.env:=by rfl) (h2:starEach [.Name cn tp] X.env=[(false,eval (.Name cn tp) X.env)]:=by rfl):PE X (.Call (.Name "isinstance" p) [a,.Name cn tp] [] pos) (tE C own .sh (d1 (isXD ans) fa)):=
 pe_to (pe_callB (call_isX (vc:=.ty T) hans rfl) hg hm hv (pa_cons ha (pa_cons (pe_bltn (v:=.ty T) ht htm htv rfl hn hdb) pa_nil h2) h1) (by decide) (by decide) (by rw [h1]) (by rw [h2]; rfl)) fun σ H Q h=>isX_args h
end
end L2.D2
namespace L2.D2
open PySem PySem.Spec PyProof.Rows
theorem throwC {P:Program} {w:World} {K:Frag} {mg:Str->Option Value} {base:Heap} {N:List Str} {qual:Str} {scope:Scope} {f:Addr} {cd:Value} {A:Around} {outer:List Env} {s0:Shared} {H0:Hp} {E:XK} {C:Ct} (h:C.E=E):Throws (cxk P w K mg base N qual scope f cd A outer s0 H0 E) C:=by
 subst h
 exact throwK
theorem RoomQ.mono {j k:Nat} {A:Around} (r:RoomQ k A) (h:j<=k):RoomQ j A:=⟨by have:=r.dp; omega,by have:=r.un; omega⟩
noncomputable def hitD (ca:Str->Addr) (cs:List Str) (c:Str):Option Addr:=if c∈cs then some (ca c) else none
noncomputable def ansD (ca:Str->Addr) (cs:List Str) (x:Str) (C:Addr):Option Bool:=if C∈cs.map ca then some (decide (C=ca x)) else none
noncomputable def ansT (ca:Str->Addr) (cs:List Str) (C:Addr):Option Bool:=if C∈cs.map ca then some true else none
structure Xs (K:Frag) (cv:Str->Value) (ca:Str->Addr) (cs:List Str) (top:Str):Prop where
 val:∀ c∈cs,cv c=.ref (ca c)
 own:∀ c∈cs,PySem.W.exmOne K (.ref (ca c)) (cv top)=some true
 cls:∀ c∈cs,xcB K (ca c)=true
 kit:∀ c∈cs,∀ d∈cs,PySem.W.kitOne K (.ref (ca c)) (.ref (ca d))=some (decide (ca c=ca d))
 ve:∀ c∈cs,PySem.W.kitOne K (.ref (ca c)) (.type "ValueError")=some true
section
variable {K:Frag} {cv:Str->Value} {ca:Str->Addr} {cs:List Str} {top:Str}
theorem Xs.hit (z:Xs K cv ca cs top):∀ c Cc,hitD ca cs c=some Cc->cv c=.ref Cc/\PySem.W.exmOne K (.ref Cc) (cv top)=some true:=fun c Cc h=>by
 unfold hitD at h
 split at h
 ·cases h
  exact ⟨z.val c (by assumption),z.own c (by assumption)⟩
 ·cases h
theorem Xs.ans (z:Xs K cv ca cs top) {x:Str} (hx:x∈cs):∀ Cc b,ansD ca cs x Cc=some b->xcB K Cc=true/\PySem.W.kitOne K (.ref Cc) (.ref (ca x))=some b:=fun Cc b h=>by
 unfold ansD at h
 split at h
 ·rename_i hm
  obtain ⟨c,hc,rfl⟩:=List.mem_map.mp hm
  cases h
  exact ⟨z.cls c hc,z.kit c hc x hx⟩
 ·cases h
theorem Xs.ansV (z:Xs K cv ca cs top):∀ Cc b,ansT ca cs Cc=some b->xcB K Cc=true/\PySem.W.kitOne K (.ref Cc) (.type "ValueError")=some b:=fun Cc b h=>by
 unfold ansT at h
 split at h
 ·rename_i hm
  obtain ⟨c,hc,rfl⟩:=List.mem_map.mp hm
  cases h
  exact ⟨z.cls c hc,z.ve c hc⟩
 ·cases h
end
noncomputable def keyD:D->Option Key
 | .int i=>some (.inl i)
 | .str x=>some (.inr x)
 | _=>none
section
variable {X:Cx} {C:Ct} {pins:List (Addr×Obj)} {σ:St} {F H:Hp} {s:Shared}
theorem key_of {v:V} {u:Value} {d:D} {k:Key} (i:Is C.K F v d) (r:RelV v u) (e:keyD d=some k):keyIs k u=true:=by
 cases d with
 | int z=>cases i; cases e; obtain ⟨t,rfl⟩:=r; exact keyIs_int z t
 | str z=>cases i; cases e; obtain ⟨t,rfl⟩:=r; exact keyIs_str z t
 | _=>cases e
end
theorem lay_led (t:SetTable) (es:Array (Int×Value)) (h:Int) (x:Value):(layNew t es h x).2.1.led=t.led:=by
 unfold layNew
 cases t.freeSlot h with
 | none=>rfl
 | some p=>
  obtain ⟨sl,wd⟩:=p
  show (SetTable.orStandIn (t.put sl).1 _).led=t.led
  unfold SetTable.orStandIn
  split <;> rfl
theorem lay_plain {t:SetTable} (es:Array (Int×Value)) (h:Int) (x:Value) (e:t.plain=false):(layNew t es h x).2.1.plain=false:=by
 unfold layNew
 cases t.freeSlot h with
 | none=>rfl
 | some p=>
  obtain ⟨sl,wd⟩:=p
  show (SetTable.orStandIn (t.put sl).1 _).plain=false
  unfold SetTable.orStandIn
  split
  ·exact e
  ·rfl
theorem laid_of {m f v:Nat} {l p:Bool} {hs:Array Int} {t:SetTable} {o:Array Nat} (h:SetTable.laid m f v l p hs=some (t,o)):t.led=l/\t.plain=p:=by
 unfold SetTable.laid at h
 cases e:SetTable.layClean m hs with
 | none=>
  rw [e] at h
  cases h
 | some ow=>
  rw [e] at h
  have h2:=congrArg Prod.fst (Option.some.inj h)
  subst h2
  exact ⟨rfl,rfl⟩
theorem relay_keeps (t:SetTable) (es:Array (Int×Value)) (n:Nat):(relayAll t es n).2.1.led=t.led/\(t.plain=false->(relayAll t es n).2.1.plain=false):=by
 unfold relayAll
 cases e:t.relaid (es.map (·.1)) n with
 | none=>exact ⟨rfl,fun _=>rfl⟩
 | some q=>
  obtain ⟨t',o⟩:=q
  have hk:=laid_of (show SetTable.laid _ _ _ _ _ _=some (t',o) from e)
  dsimp only
  split
  ·exact ⟨hk.1,fun z=>hk.2.trans z⟩
  ·exact ⟨rfl,fun _=>rfl⟩
noncomputable def addS (ks:List Str) (x:Str):List Str:=if x∈ks then ks else ks++[x]
noncomputable def setObj (es:Array (Int×Value)) (ep:Nat) (t:SetTable):Obj:={ cls:=.type "set",dict:=none,data:=.set es ep t,slots:=#[] }
structure SetD (prog:Program) (w:World) (es:Array (Int×Value)) (t:SetTable) (ks:List Str):Prop where
 el:ElemsOf (PySem.strKind prog w) es.toList
 perm:(es.toList.map fun e=>strOf e.2).Perm ks
 nd:ks.Nodup
 bd:es.size < scanBound
 fits:t.fits es.size=true
 led:t.led=!(w.params.followText "set-order")
 plain:ks≠[]->t.plain=false
def SetS (prog:Program) (w:World) (h:Heap) (a:Addr) (ks:List Str):Prop:=∃ es ep t,h.get? a=some (setObj es ep t)/\SetD prog w es t ks
section
variable {prog:Program} {w:World} {A:Around} {E:Value->Shared->Prop} {s:Shared}
theorem el_str {l:List (Int×Value)} (h:ElemsOf (PySem.strKind prog w) l) {e:Int×Value} (he:e∈l):∃ x t,e.2=.str x t:=by
 obtain ⟨⟨k,hk,_⟩,_⟩:=h e he
 obtain ⟨t,ht⟩:=Value.isStrOf_shape hk
 exact ⟨k,t,ht⟩
theorem isS {x y:Str} {t:Tok}:(PySem.strKind prog w).is x (.str y t)=decide (x=y):=by
 have h:(PySem.strKind prog w).is y (.str y t)=true:=by
  show Value.isStrOf y (.str y t)=true
  simp [Value.isStrOf]
 exact KeyKind.is_eq_decide h x
theorem SetD.mem {es:Array (Int×Value)} {t:SetTable} {ks:List Str} (h:SetD prog w es t ks) {x:Str}:x∈ks↔∃ e∈es.toList,(PySem.strKind prog w).is x e.2=true:=by
 rw [<-h.perm.mem_iff,List.mem_map]
 constructor
 ·rintro ⟨e,he,z⟩
  obtain ⟨y,t,hy⟩:=el_str h.el he
  refine ⟨e,he,?_⟩
  rw [hy] at z ⊢
  rw [isS]
  exact decide_eq_true z.symm
 ·rintro ⟨e,he,z⟩
  obtain ⟨y,t,hy⟩:=el_str h.el he
  refine ⟨e,he,?_⟩
  rw [hy] at z ⊢
  rw [isS] at z
  exact (of_decide_eq_true z).symm
theorem SetD.size {es:Array (Int×Value)} {t:SetTable} {ks:List Str} (h:SetD prog w es t ks):es.size=ks.length:=by
 have e:=h.perm.length_eq
 simpa using e
theorem put_at {h:Heap} {a:Addr} {es es':Array (Int×Value)} {ep:Nat} {t t':SetTable} (ho:h.get? a=some (setObj es ep t)):(h.update a (Obj.putSet es' t')).get? a=some (setObj es' (ep+1) t'):=by
 have e:=Heap.get?_update_self (Obj.putSet es' t') ho (by rw [putSet_of (o:=setObj es ep t) es' t' rfl]; rfl)
 rw [putSet_of (o:=setObj es ep t) es' t' rfl] at e
 exact e
theorem SetD.more {es es1:Array (Int×Value)} {t t1:SetTable} {ks:List Str} {x:Str} {tk:Tok} (h:SetD prog w es t ks) (nx:x∉ks) (hr:ks.length+1 < scanBound)
  (hp:es1.toList.Perm (es.toList++[((PySem.strKind prog w).hash x,.str x tk)])) (hf:t1.fits es1.size=true) (hl:t1.led=t.led) (hq:t1.plain=false):SetD prog w es1 t1 (addS ks x):=by
 have ex:addS ks x=ks++[x]:=if_neg nx
 have hz:es1.size=ks.length+1:=by
  rw [<-Array.length_toList,hp.length_eq,List.length_append,Array.length_toList,h.size]
  rfl
 rw [ex]
 refine ⟨(h.el.push (by rw [isS]; exact decide_eq_true rfl) rfl).perm hp,?_,?_,?_,hf,hl.trans h.led,fun _=>hq⟩
 ·refine (hp.map _).trans ?_
  rw [List.map_append]
  exact h.perm.append (List.Perm.refl _)
 ·exact List.nodup_append.mpr ⟨h.nd,by simp,fun a ha b hb=>by rw [List.mem_singleton.mp hb]; exact fun z=>nx (z ▸ ha)⟩
 ·rw [hz]
  exact hr
theorem set_add {a:Addr} {ks:List Str} {x:Str} {tk:Tok} {Q:Bool->Shared->Prop} (hS:SetS prog w s.heap a ks) (hr:ks.length+1 < scanBound)
  (h:∀ h' b,Heap.SameBut a s.heap h'->SetS prog w h' a (addS ks x)->Q b { s with heap:=h' }):wpAny (model prog w) A (setAddHashed a (.str x tk) ((PySem.strKind prog w).hash x)) Q E s:=by
 obtain ⟨es,ep,t,ho,d⟩:=hS
 have hk:(PySem.strKind prog w).is x (.str x tk)=true:=by rw [isS]; exact decide_eq_true rfl
 unfold setAddHashed setAddHashedIn
 refine wpAny_holding (wpAny_bind (wpAny_setState_of ho rfl d.fits ?_))
 dsimp only
 rw [byScan_of rfl d.bd d.el,if_pos rfl]
 unfold setAddByScan
 refine wpAny_bind (wpAny_bind (wpAny_rule (wpAny_bind (wpAny_setScan_of hk ho rfl d.fits d.el ?_))))
 cases hq:es.toList.findIdx? (fun e=>(PySem.strKind prog w).is x e.2) with
 | some j=>
  obtain ⟨hj,hp,_⟩:=List.findIdx?_eq_some_iff_getElem.mp hq
  have hx:x∈ks:=d.mem.mpr ⟨_,List.getElem_mem hj,hp⟩
  have q:=h s.heap false (Heap.SameBut.refl a s.heap) ⟨es,ep,t,ho,by rw [show addS ks x=ks from if_pos hx]; exact d⟩
  dsimp only
  exact wpAny_pure (wpAny_pure q)
 | none=>
  have hx:x∉ks:=fun z=>by
   obtain ⟨e,he,q⟩:=d.mem.mp z
   have:=List.findIdx?_eq_none_iff.mp hq e he
   rw [q] at this
   cases this
  dsimp only
  have hp:=layNew_perm t es ((PySem.strKind prog w).hash x) (.str x tk)
  have hf:=layNew_fits t es ((PySem.strKind prog w).hash x) (.str x tk)
  have hl:=lay_led t es ((PySem.strKind prog w).hash x) (.str x tk)
  have hn:=fun e=>lay_plain (t:=t) es ((PySem.strKind prog w).hash x) (.str x tk) e
  generalize layNew t es ((PySem.strKind prog w).hash x) (.str x tk)=L at hp hf hl hn ⊢
  obtain ⟨es1,t1,wd,gv⟩:=L
  dsimp only at hp hf hl hn ⊢
  rw [Array.toList_push] at hp
  have tail:∀ t2:SetTable,t2.fits es1.size=true->t2.led=t.led->t2.plain=false->wpAny (model prog w) A (do
    storeSet a es1 t2
    if (!wd&&t2.tooFull)=true then do
      (match (relayAll t2 es1 (SetTable.grown es1.size)).2.2 with | true=>rule "set.scan.the-table-gave-way" | false=>pure ())
      storeSet a (relayAll t2 es1 (SetTable.grown es1.size)).1 (relayAll t2 es1 (SetTable.grown es1.size)).2.1
      pure (some true)
     else pure (some true)) (fun r s'=>∃ h',s'={ s with heap:=h' }/\r=some true/\Heap.SameBut a s.heap h'/\SetS prog w h' a (addS ks x)) E s:=by
   intro t2 f2 l2 p2
   have d2:=d.more hx hr hp f2 l2 p2
   refine wpAny_bind (wpAny_storeSet_of ho rfl ?_ (fits_of_scanBound d2.bd))
   have ho1:=put_at (es':=es1) (t':=t2) ho
   have sb:=Heap.SameBut.update s.heap a (Obj.putSet es1 t2)
   split
   ·have rp:=relayAll_perm t2 es1 (SetTable.grown es1.size)
    have rf:=relayAll_fits t2 es1 (SetTable.grown es1.size)
    have rk:=relay_keeps t2 es1 (SetTable.grown es1.size)
    generalize relayAll t2 es1 (SetTable.grown es1.size)=R at rp rf rk ⊢
    obtain ⟨es2,t3,g2⟩:=R
    dsimp only at rp rf rk ⊢
    have d3:=d.more hx hr (rp.trans hp) rf (rk.1.trans l2) (rk.2 p2)
    refine wpAny_bind ?_
    have go:wpAny (model prog w) A (storeSet a es2 t3 >>= fun _=>pure (some true)) (fun r s'=>∃ h',s'={ s with heap:=h' }/\r=some true/\Heap.SameBut a s.heap h'/\SetS prog w h' a (addS ks x)) E { s with heap:=s.heap.update a (Obj.putSet es1 t2) }:=
     wpAny_bind (wpAny_storeSet_of ho1 rfl (wpAny_pure ⟨_,rfl,rfl,sb.trans (Heap.SameBut.update _ a _),es2,_,t3,put_at ho1,d3⟩) (fits_of_scanBound d3.bd))
    cases g2
    ·exact wpAny_pure go
    ·exact wpAny_rule go
   ·exact wpAny_pure ⟨_,rfl,rfl,sb,es1,_,t2,ho1,d2⟩
  have fin:∀ (r:Option Bool) (s':Shared),(∃ h',s'={ s with heap:=h' }/\r=some true/\Heap.SameBut a s.heap h'/\SetS prog w h' a (addS ks x)) ->
    wpAny (model prog w) A (match r with | some added=>pure added | none=>setAddHashedIn a (.str x tk) ((PySem.strKind prog w).hash x) 99999) Q E s':=by
   rintro r s' ⟨h',rfl,rfl,sb,hS⟩
   exact wpAny_pure (h h' true sb hS)
  have gw:∀ (b:Bool) {s₁:Shared} {Q':Unit->Shared->Prop},Q' () s₁->wpAny (model prog w) A (match b with | true=>rule "set.scan.the-table-gave-way" | false=>pure ()) Q' E s₁:=fun b s₁ Q' q=>by
   cases b
   ·exact wpAny_pure q
   ·exact wpAny_rule q
  refine wpAny_bind (gw _ ?_)
  cases e1:t1.plain with
  | true=>
   rw [if_pos rfl,hashByValue_scannable 8 (x:=.str x tk) rfl]
   refine wpAny_bind (wpAny_pure ?_)
   show wpAny _ _ (storeSet a es1 { t1 with plain:=false } >>= _) _ _ _
   exact wpAny_mono (tail { t1 with plain:=false } (SetTable.fits_plain_off hf) hl rfl) fin fun _ _ z=>z
  | false=>
   rw [if_neg (by simp)]
   refine wpAny_bind (wpAny_pure ?_)
   show wpAny _ _ (storeSet a es1 t1 >>= _) _ _ _
   exact wpAny_mono (tail t1 hf hl e1) fin fun _ _ z=>z
end
theorem addS_len (ks:List Str) (x:Str):(addS ks x).length<=ks.length+1:=by
 unfold addS
 split
 ·omega
 ·rw [List.length_append]
  exact Nat.le_refl _
theorem foldS_len:∀ (l ks:List Str),(l.foldl addS ks).length<=ks.length+l.length
 | [],ks=>Nat.le_refl _
 | x::l,ks=>by
  have h1:=foldS_len l (addS ks x)
  have h2:=addS_len ks x
  rw [List.foldl_cons,List.length_cons]
  omega
theorem SetS.at {prog:Program} {w:World} {h h':Heap} {a:Addr} {ks:List Str} (hS:SetS prog w h a ks) (k:∀ o,h.get? a=some o->h'.get? a=some o):SetS prog w h' a ks:=
 let ⟨es,ep,t,ho,d⟩:=hS; ⟨es,ep,t,k _ ho,d⟩
section
variable {prog:Program} {w:World} {A:Around} {R:Result->Shared->Prop} {I:Addr} {fp wr:List Addr} {n:Nat} {P:Nat->Value->Prop} {St:Nat->Shared->Prop}
theorem set_loop {G:Array GenState->Array GenState->Prop} (W:WalksS prog w A.in1 I fp wr G n P St) (S:Addr) (hSf:S∉fp) (ss:List Str) (hn:ss.length=n) (hv:∀ i v,P i v->∃ x t,ss[i]?=some x/\v=.str x t) (hb:n+1 < scanBound) :
  ∀ (k i:Nat) (s:Shared),n - i=k->i<=n->St i s->SetS prog w s.heap S ((ss.take i).foldl addS []) ->
   (∀ s',Moved (S::wr) G s s'->SetS prog w s'.heap S (ss.foldl addS [])->R (.ok (.ret .none)) s')->codeAny (model prog w) A (.builtin "set.update.loop" ⟨[.ref S,.ref I],[]⟩) R s:=by
 have nw:S∉wr:=fun h=>hSf (W.sub _ h)
 have up:∀ b∈wr,b∈S::wr:=fun b hb=>List.mem_cons_of_mem _ hb
 intro k
 induction k with
 | zero=>
  intro i s hk hi hst hS hR
  have hin:i=n:=by omega
  subst hin
  refine codeAny_builtin F.entry_set_update_loop ?_
  rw [Around.under_plainId F.plain_set_update_loop _]; show wpAny _ A.in1 (pyNext (.ref I) >>= _) _ _ s
  refine wpAny_bind (W.done s _ _ hst fun s' hm=>wpAny_pure (hR s' (hm.mono up) ?_))
  rw [List.take_of_length_le (Nat.le_of_eq hn)] at hS
  exact hS.at fun o e=>hm.heap S o nw e
 | succ k ih=>
  intro i s hk hi hst hS hR
  have hlt:i < n:=by omega
  refine codeAny_builtin F.entry_set_update_loop ?_
  rw [Around.under_plainId F.plain_set_update_loop _]; show wpAny _ A.in1 (pyNext (.ref I) >>= _) _ _ s
  refine wpAny_bind (W.item i s _ _ hlt hst fun v s' hP hst' hm=>?_)
  obtain ⟨x,t,hx,rfl⟩:=hv i v hP
  have hS':SetS prog w s'.heap S ((ss.take i).foldl addS []):=hS.at fun o e=>hm.heap S o nw e
  show wpAny _ A.in1 (holding [Value.str x t] (setAdd S (.str x t)) >>= _) _ _ s'
  refine wpAny_bind (wpAny_holding ?_)
  unfold setAdd
  refine wpAny_holding (wpAny_bind ((PySem.strKind prog w).pyHash (k:=x) (by rw [isS]; exact decide_eq_true rfl) ?_))
  have hroom:((ss.take i).foldl addS []).length+1 < scanBound:=by
   have h1:=foldS_len (ss.take i) []
   rw [List.length_take,List.length_nil] at h1
   omega
  refine set_add (s:={ s' with toks:=s'.toks+1 }) hS' hroom fun h' b sb hS2=>?_
  have e2:addS ((ss.take i).foldl addS []) x=(ss.take (i+1)).foldl addS []:=by
   rw [List.take_add_one,hx,List.foldl_append]
   rfl
  rw [e2] at hS2
  refine wpAny_pure ⟨plainId_quiet F.plain_set_update_loop _,ih (i+1) _ (by omega) hlt (W.frame _ s' _ _ hst' (Nat.le_succ _) fun b hb o e=>?_) hS2 fun s'' hm'' hS''=>?_⟩
  ·rw [sb.2 b fun z:b=S=>hSf (z ▸ hb)]
   exact e
  ·refine hR s'' (Moved.trans W.gtrans ((hm.mono up).then_heap (Nat.le_succ _) fun b o hb e=>?_) hm'') hS''
   rw [sb.2 b fun z:b=S=>hb (z ▸ List.mem_cons_self)]
   exact e
end
section
variable {prog:Program} {w:World} {A:Around} {E:Value->Shared->Prop} {s:Shared}
abbrev set0 (w:World):Obj:=setObj #[] 0 (.fresh 0 0 (!(w.params.followText "set-order")))
theorem set_fresh {h:Heap} {a:Addr} (e:h.get? a=some (set0 w)):SetS prog w h a []:=
 ⟨_,_,_,e,⟨fun e he=>by simp at he,by simp,List.nodup_nil,by decide,by rfl,rfl,fun z=>absurd rfl z⟩⟩
theorem set_new (a:Value) {Q₁:Value->Shared->Prop} (h:Q₁ (.ref s.heap.objs.size) { s with heap:=s.heap.push (set0 w) }) :
  codeAny (model prog w) A (.call (.builtin "set.__new__") ⟨[.type "set",a],[]⟩) (wants Q₁ E) s:=by
 refine codeAny_of_tree ?_; show wpAny _ A.in1 (do checkBuiltinCall "set.__new__" ⟨[.type "set",a],[]⟩; again (.builtin "set.__new__" ⟨[.type "set",a],[]⟩)) _ _ s
 refine wpAny_bind (wpAny_of_eq (PySem.F.newCall_set_1 a) (wpAny_pure ⟨plainId_quiet PySem.F.plain_set_new _,codeAny_builtin PySem.F.entry_set_new ?_⟩)); rw [Around.under_plainId PySem.F.plain_set_new _]
 unfold Builtin.«set.__new__» Builtin.Frozenset.newClass; have hsub:=sub_set_self; obtain ⟨hp,g,d,tk,os⟩:=s; dsimp only; wp_walk
 refine wpAny_askSetting (wpAny_pure ?_); dsimp only; simp only [newObj]
 exact wpAny_bind (wpAny_alloc (wpAny_pure (wpAny_pure h)))
theorem sub_tup_set:isSubtype (.type "tuple") (.type "set")=pure false:=by rw [isSubtype_type]; kernel_rfl
theorem sub_tup_frozen:isSubtype (.type "tuple") (.type "frozenset")=pure false:=by rw [isSubtype_type]; kernel_rfl
theorem strs_at {vs:List Value} {ss:List Str} (h:StrsAre vs ss) {i:Nat} {v:Value} (e:vs[i]?=some v):∃ x t,ss[i]?=some x/\v=.str x t:=by
 obtain ⟨y,t,e1,e2⟩:=h.item i v e
 exact ⟨y,t,e2,e1⟩
theorem upd_list {S l:Addr} {items:Array Value} {ss:List Str} {Q:Unit->Shared->Prop} (hh:A.handled=none) (hS:SetS prog w s.heap S []) (hl:s.heap.IsList l items) (hi:StrsAre items.toList ss) (hb:items.size+1 < scanBound) (hne:l≠S)
  (h:∀ h' tk,SetS prog w h' S (ss.foldl addS [])->(∀ b o,b≠S->s.heap.get? b=some o->h'.get? b=some o)->Q () { s with heap:=h',toks:=tk }) :
  wpAny (model prog w) A (Builtin.Frozenset.updateFrom "set.__init__" S (.ref l)) Q E s:=by
 have hT:s.TypeIs (.ref l) "list":=let ⟨o,e,c,_⟩:=hl; ⟨o,e,c⟩
 unfold Builtin.Frozenset.updateFrom
 refine wpAny_bind (m:=Builtin.Frozenset.isAnySet _) ?_
 unfold Builtin.Frozenset.isAnySet
 refine wpAny_bind (wpAny_isInstance hT PySem.F.sub_list_set ?_)
 refine wpAny_isInstance hT PySem.F.sub_list_frozenset ?_
 rw [if_neg (by decide)]
 refine wpAny_bind (wpAny_typeOf hT ?_)
 rw [if_neg (by decide)]
 refine wpAny_bind (wpAny_pyIter_list hl ?_)
 have hz:s.heap.objs.size≠S:=fun z=>by
  obtain ⟨es,ep,t,ho,_⟩:=hS
  exact Nat.lt_irrefl _ (z ▸ Heap.lt_size ho)
 have hzl:l≠s.heap.objs.size:=by
  obtain ⟨o,e,_⟩:=hl
  exact Nat.ne_of_lt (Heap.lt_size e)
 refine wpAny_bind (wpAny_runValue (set_loop ((Walks.list (A:=A.in1) hh _ l hzl items).toS) S ?_ ss (by rw [<-hi.length]; simp) (fun i v e=>strs_at hi (by rw [Array.getElem?_toList]; exact e)) hb items.size 0 _ (by omega) (Nat.zero_le _) ⟨⟨_,Heap.get?_push_size _ rfl,rfl,rfl⟩,hl.push _⟩ ?_ ?_))
 ·intro z
  rcases List.mem_cons.mp z with z | z
  ·exact hz z.symm
  ·exact hne (List.mem_singleton.mp z).symm
 ·exact hS.at fun o e=>Heap.get?_push_of_some _ e
 ·intro s' hm hS'
  obtain ⟨h',g',d',tk',os'⟩:=s'
  have eg:g'=s.gens:=hm.gens
  have ed:d'=s.drawn:=hm.drawn
  have eo:os'=s.os:=hm.os
  subst eg ed eo
  refine wpAny_pure (h h' tk' hS' fun b o hb e=>hm.heap b o ?_ (Heap.get?_push_of_some _ e))
  intro z
  rcases List.mem_cons.mp z with z | z
  ·exact hb z
  ·rw [List.mem_singleton.mp z] at e
   exact Nat.lt_irrefl _ (Heap.lt_size e)
theorem upd_tuple {S l:Addr} {items:Array Value} {ss:List Str} {Q:Unit->Shared->Prop} (hh:A.handled=none) (hS:SetS prog w s.heap S []) (hl:s.heap.IsTuple l items) (hi:StrsAre items.toList ss) (hb:items.size+1 < scanBound) (hne:l≠S)
  (h:∀ h' tk,SetS prog w h' S (ss.foldl addS [])->(∀ b o,b≠S->s.heap.get? b=some o->h'.get? b=some o)->Q () { s with heap:=h',toks:=tk }) :
  wpAny (model prog w) A (Builtin.Frozenset.updateFrom "set.__init__" S (.ref l)) Q E s:=by
 have hT:s.TypeIs (.ref l) "tuple":=let ⟨o,e,c,_⟩:=hl; ⟨o,e,c⟩
 unfold Builtin.Frozenset.updateFrom
 refine wpAny_bind (m:=Builtin.Frozenset.isAnySet _) ?_
 unfold Builtin.Frozenset.isAnySet
 refine wpAny_bind (wpAny_isInstance hT sub_tup_set ?_)
 refine wpAny_isInstance hT sub_tup_frozen ?_
 rw [if_neg (by decide)]
 refine wpAny_bind (wpAny_typeOf hT ?_)
 rw [if_neg (by decide)]
 refine wpAny_bind (wpAny_pyIter_tuple hl ?_)
 have hz:s.heap.objs.size≠S:=fun z=>by
  obtain ⟨es,ep,t,ho,_⟩:=hS
  exact Nat.lt_irrefl _ (z ▸ Heap.lt_size ho)
 have hzl:l≠s.heap.objs.size:=by
  obtain ⟨o,e,_⟩:=hl
  exact Nat.ne_of_lt (Heap.lt_size e)
 refine wpAny_bind (wpAny_runValue (set_loop ((Walks.tuple (A:=A.in1) hh _ l hzl items).toS) S ?_ ss (by rw [<-hi.length]; simp) (fun i v e=>strs_at hi (by rw [Array.getElem?_toList]; exact e)) hb items.size 0 _ (by omega) (Nat.zero_le _) ⟨⟨_,Heap.get?_push_size _ rfl,rfl,rfl⟩,?_⟩ ?_ ?_))
 ·intro z
  rcases List.mem_cons.mp z with z | z
  ·exact hz z.symm
  ·exact hne (List.mem_singleton.mp z).symm
 ·obtain ⟨o,e,c⟩:=hl
  exact ⟨o,Heap.get?_push_of_some _ e,c⟩
 ·exact hS.at fun o e=>Heap.get?_push_of_some _ e
 ·intro s' hm hS'
  obtain ⟨h',g',d',tk',os'⟩:=s'
  have eg:g'=s.gens:=hm.gens
  have ed:d'=s.drawn:=hm.drawn
  have eo:os'=s.os:=hm.os
  subst eg ed eo
  refine wpAny_pure (h h' tk' hS' fun b o hb e=>hm.heap b o ?_ (Heap.get?_push_of_some _ e))
  intro z
  rcases List.mem_cons.mp z with z | z
  ·exact hb z
  ·rw [List.mem_singleton.mp z] at e
   exact Nat.lt_irrefl _ (Heap.lt_size e)
set_option maxHeartbeats 3200000 in
theorem call_setS {l:Addr} {ks:List Str} {Q:Value->Shared->Prop}
  (hup:∀ (A1:Around) (Q1:Unit->Shared->Prop) (E1:Value->Shared->Prop),A1.handled=A.handled->(∀ h' tk,SetS prog w h' s.heap.objs.size ks->(∀ b o,s.heap.get? b=some o->h'.get? b=some o)->Q1 () { s with heap:=h',toks:=tk }) ->
   wpAny (model prog w) A1 (Builtin.Frozenset.updateFrom "set.__init__" s.heap.objs.size (.ref l)) Q1 E1 { s with heap:=s.heap.push (set0 w) })
  (h:∀ h' tk,SetS prog w h' s.heap.objs.size ks->(∀ b o,s.heap.get? b=some o->h'.get? b=some o)->Q (.ref s.heap.objs.size) { s with heap:=h',toks:=tk }) :
  wpAny (model prog w) A (call (.type "set") [.ref l]) Q E s:=by
 have hnew:∀ {Q₁:Value->Shared->Prop},Q₁ (.ref s.heap.objs.size) { s with heap:=s.heap.push (set0 w) }->codeAny (model prog w) A.in1 (.call (.builtin "set.__new__") ⟨[.type "set",.ref l],[]⟩) (wants Q₁ E) s:=fun h=>set_new (.ref l) h
 unfold set0 setObj at hnew hup
 generalize (!(w.params.followText "set-order"))=led at hnew hup
 obtain ⟨c,tl,hmro⟩:=PySem.F.called_set.mro
 have hmade:=PySem.F.called_set.made
 have hsub:=PySem.F.called_set.sub
 refine wpAny_call (codeAny_of_tree ?_); show wpAny _ _ (callAny (.type "set") _) _ _ _
 refine wpAny_pure ⟨Code.quiet_builtin _ (by decide +kernel),codeAny_builtin PySem.F.entry_type_call ?_⟩; rw [Around.under_plain (weight_type_call_type "set" [.ref l] []) rfl]
 have h1:=PySem.F.called_set.notType
 have h2:=PySem.F.called_set.canCreate
 have hct:=PySem.F.typeCall_set_1 (.ref l)
 repeat (any_goals (first | assumption | wp_step))
 refine codeAny_mono (hnew (Q₁:=fun obj s₁=>obj=.ref s.heap.objs.size/\s₁={ s with heap:=s.heap.push { cls:=.type "set",dict:=none,data:=.set #[] 0 (.fresh 0 0 led) } }) ⟨rfl,rfl⟩) fun r s₁ hr=>?_
 cases r with
 | error e=>exact hr
 | ok fl=>
  cases fl with
  | ret obj=>
   obtain ⟨rfl,rfl⟩:=hr
   have hS:(s.heap.push { cls:=.type "set",dict:=none,data:=.set #[] 0 (.fresh 0 0 led) }).get? s.heap.objs.size=some { cls:=.type "set",dict:=none,data:=.set #[] 0 (.fresh 0 0 led) }:=Heap.get?_push_size _ rfl
   have hT:Shared.TypeIs { s with heap:=s.heap.push { cls:=.type "set",dict:=none,data:=.set #[] 0 (.fresh 0 0 led) } } (.ref s.heap.objs.size) "set":=⟨_,hS,rfl⟩
   have hli:=PySem.F.called_set.init.lookup
   have hbi:=PySem.F.called_set.init.bind (.ref s.heap.objs.size)
   repeat (any_goals (first | assumption | wp_step))
   refine codeAny_mono (codeAny_call_builtin (R:=wants (fun r s₂=>r=.none/\∃ h' tk,s₂={ s with heap:=h',toks:=tk }/\SetS prog w h' s.heap.objs.size ks/\(∀ b o,s.heap.get? b=some o->h'.get? b=some o)) E) PySem.F.called_set.init.plain PySem.F.entry_set_init (check_set_init_1 hT ?_)) fun r₂ s₂ hr₂=>?_
   ·unfold Builtin.«set.__init__» noKeywords
    generalize hU:Builtin.Frozenset.updateFrom=U
    wp_walk
    subst hU
    refine hup _ _ _ rfl fun h' tk hS' hk=>?_
    exact wpAny_pure ⟨rfl,h',tk,rfl,hS',hk⟩
   ·cases r₂ with
    | error e=>exact hr₂
    | ok fl₂=>
     cases fl₂ with
     | ret r=>
      obtain ⟨rfl,h',tk,rfl,hS',hk'⟩:=hr₂
      repeat (any_goals (first | assumption | wp_step))
      exact h _ _ hS' hk'
     | _=>exact hr₂.elim
  | _=>exact hr.elim
end
theorem erase_perm {α:Type}:∀ {xs:List α} {i:Nat} (h:i < xs.length),(xs[i]::xs.eraseIdx i).Perm xs
 | [],_,h=>absurd h (Nat.not_lt_zero _)
 | x::xs,0,h=>List.Perm.refl _
 | x::xs,i+1,h=>(List.Perm.swap _ _ _).trans ((erase_perm (xs:=xs) (i:=i) (Nat.lt_of_succ_lt_succ h)).cons x)
theorem wp_choose1 {M:Model} {A:Around} {E:Value->Shared->Prop} {s:Shared} {src:Source} {n:Nat} {Q:Nat->Shared->Prop} (hn:n≠0) (h:∀ i d',i < n->Q i { s with drawn:=d' }):wpAny M A (choose src n) Q E s:=
 fun _ _ _=>⟨hn,h _ _ (Nat.mod_lt _ (Nat.pos_of_ne_zero hn))⟩
theorem wp_draw {M:Model} {A:Around} {E:Value->Shared->Prop} {α:Type}:∀ (n:Nat) (xs:List α) (s:Shared) {Q:List α->Shared->Prop},n=xs.length->(∀ ys d',ys.Perm xs->Q ys { s with drawn:=d' })->wpAny M A (drawOrder n xs) Q E s
 | 0,xs,s,Q,hn,h=>by
  cases xs with
  | nil=>exact wpAny_pure (h [] s.drawn (List.Perm.refl _))
  | cons x l=>cases hn
 | n+1,[],s,Q,hn,h=>by cases hn
 | n+1,x::l,s,Q,hn,h=>by
  show wpAny M A (choose .order (x::l).length >>= _) Q E s
  refine wpAny_bind (wp_choose1 (by simp) fun i d' hi=>?_)
  have e:(x::l)[i]?=some (x::l)[i]:=List.getElem?_eq_getElem hi
  rw [e]
  refine wpAny_bind (wp_draw n _ _ (by rw [List.length_eraseIdx_of_lt hi]; simp only [List.length_cons] at hn ⊢; omega) fun ys d2 hp=>wpAny_pure (h _ d2 ?_))
  exact (hp.cons _).trans (erase_perm hi)
theorem pick_go {α:Type} (next:Nat->Nat):∀ (f k:Nat) (left:List α) (out:Array α),f=left.length->(pickOrder.go next f k left out).toList.Perm (out.toList++left)
 | 0,k,left,out,hf=>by
  cases left with
  | nil=>
   rw [List.append_nil]
   exact List.Perm.refl _
  | cons x l=>cases hf
 | f+1,k,left,out,hf=>by
  have hlt:next k % left.length < left.length:=Nat.mod_lt _ (by omega)
  have e:left[next k % left.length]?=some left[next k % left.length]:=List.getElem?_eq_getElem hlt
  unfold pickOrder.go
  rw [e]
  refine (pick_go next f (k+1) _ _ (by rw [List.length_eraseIdx_of_lt hlt]; omega)).trans ?_
  rw [Array.toList_push,List.append_assoc]
  exact List.Perm.append_left _ (erase_perm hlt)
theorem pick_perm {α:Type} (next:Nat->Nat) (xs:Array α):(pickOrder next xs).toList.Perm xs.toList:=by
 unfold pickOrder
 exact pick_go next _ _ _ _ (by simp)
noncomputable def sitObj (first:Value) (i:Nat) (a:Addr) (n ep:Nat):Obj:={ cls:=.type "set_iterator",data:=.fields #[first,rawInt i,.ref a,rawInt n,rawInt ep] }
theorem slot_si_next:Slot "set_iterator" "__next__" "set_iterator.__next__":=
 .of (owner := "set_iterator") (n := "__next__") (by rw [typeLookup_type,builtinLookup_eq_fast]; kernel_rfl) (by decide +kernel) (by decide +kernel) (by decide +kernel) (by first | exact .inl (by decide +kernel) | exact .inr (by decide +kernel)) (by rw [isSubtype_type]; kernel_rfl)
theorem slot_si_iter:Slot "set_iterator" "__iter__" "set_iterator.__iter__":=
 .of (owner := "set_iterator") (n := "__iter__") (by rw [typeLookup_type,builtinLookup_eq_fast]; kernel_rfl) (by decide +kernel) (by decide +kernel) (by decide +kernel) (by first | exact .inl (by decide +kernel) | exact .inr (by decide +kernel)) (by rw [isSubtype_type]; kernel_rfl)
theorem args_si_next (a:Value):argsOk "set_iterator.__next__" ⟨[a],[]⟩:=by unfold argsOk; kernel_rfl
theorem args_si_iter (a:Value):argsOk "set_iterator.__iter__" ⟨[a],[]⟩:=by unfold argsOk; kernel_rfl
theorem entry_si_next:entryFor table "set_iterator.__next__"=some Builtin.«set_iterator.__next__»:=entryFor_of_tree (by kernel_rfl)
theorem entry_si_iter:entryFor table "set_iterator.__iter__"=some Builtin.«dict_keyiterator.__iter__»:=entryFor_alias (id' := "dict_keyiterator.__iter__") (by kernel_rfl) rfl (by decide +kernel) (by kernel_rfl)
theorem entry_s_iter:entryFor table "set.__iter__"=some Builtin.«frozenset.__iter__»:=entryFor_alias (id' := "frozenset.__iter__") (by kernel_rfl) rfl (by decide +kernel) (by kernel_rfl)
section
variable {prog:Program} {w:World} {A:Around} {E:Value->Shared->Prop} {s:Shared}
theorem byText_eq {b:Bool} (hb:w.params.followText "set-order"=b):({ program:=(model prog w).prog,params:=(model prog w).w.params }:Setting).params.followText "set-order"=b:=hb
theorem next_some {it a:Addr} {sl i n ep nx:Nat} {es:Array (Int×Value)} {t:SetTable} {x:Value} {Q:Option Value->Shared->Prop} (hi:s.heap.get? it=some (sitObj (rawInt sl) i a n ep)) (ha:s.heap.get? a=some (setObj es ep t)) (hf:t.fits es.size=true) (hz:es.size=n)
  (hn:∀ (A1:Around) (Q1:Option (Value×Nat)->Shared->Prop) (E1:Value->Shared->Prop),Q1 (some (x,nx)) s->wpAny (model prog w) A1 (setNext a sl i ep) Q1 E1 s)
  (hQ:∀ h',h'.get? it=some (sitObj (rawInt nx) (i+1) a n ep)->Heap.SameBut it s.heap h'->Q (some x) { s with heap:=h' }):wpAny (model prog w) A (pyNext (.ref it)) Q E s:=by
 have hT:s.TypeIs (.ref it) "set_iterator":=⟨_,hi,rfl⟩
 unfold pyNext
 refine wpAny_bind (wpAny_attempt (wpAny_callSpecial?_slot (name:=Str.ofString "__next__") hT slot_si_next (wpAny_call_entry slot_si_next hT entry_si_next ?_ (args_si_next _))))
 show wpAny _ _ (fieldsOf (.ref it) >>= _) _ _ s
 refine wpAny_bind (wpAny_fieldsOf hi rfl ?_)
 show wpAny _ _ (setEntries a >>= _) _ _ s
 refine wpAny_bind (wpAny_setEntries_of ha rfl hf ?_)
 rw [if_neg (by rw [hz]; simp)]
 show wpAny _ _ (setNext a sl i ep >>= _) _ _ s
 refine wpAny_bind (hn _ _ _ ?_)
 show wpAny _ _ (setField (.ref it) 0 (rawInt nx) >>= _) _ _ s
 refine wpAny_bind (wpAny_setField hi rfl (by simp) ?_)
 have h1:(s.heap.update it (Obj.mapFields (·.setIfInBounds 0 (rawInt nx)))).get? it=some (sitObj (rawInt nx) i a n ep):=Heap.get?_update_self _ hi rfl
 refine wpAny_bind (wpAny_setField h1 rfl (by simp) (wpAny_pure ⟨x,rfl,wpAny_pure (hQ _ ?_ ((Heap.SameBut.update ..).trans (Heap.SameBut.update ..)))⟩))
 exact Heap.get?_update_self _ h1 rfl
theorem next_none {it a:Addr} {sl i n ep:Nat} {es:Array (Int×Value)} {t:SetTable} {Q:Option Value->Shared->Prop} (hh:A.handled=none) (hi:s.heap.get? it=some (sitObj (rawInt sl) i a n ep)) (ha:s.heap.get? a=some (setObj es ep t)) (hf:t.fits es.size=true) (hz:es.size=n)
  (hn:∀ (A1:Around) (Q1:Option (Value×Nat)->Shared->Prop) (E1:Value->Shared->Prop),Q1 none s->wpAny (model prog w) A1 (setNext a sl i ep) Q1 E1 s)
  (hQ:∀ h',Heap.ExtBut it s.heap h'->Q none { s with heap:=h' }):wpAny (model prog w) A (pyNext (.ref it)) Q E s:=by
 have hT:s.TypeIs (.ref it) "set_iterator":=⟨_,hi,rfl⟩
 unfold pyNext
 refine wpAny_bind (wpAny_attempt (wpAny_callSpecial?_slot (name:=Str.ofString "__next__") hT slot_si_next (wpAny_call_entry slot_si_next hT entry_si_next ?_ (args_si_next _))))
 show wpAny _ _ (fieldsOf (.ref it) >>= _) _ _ s
 refine wpAny_bind (wpAny_fieldsOf hi rfl ?_)
 show wpAny _ _ (setEntries a >>= _) _ _ s
 refine wpAny_bind (wpAny_setEntries_of ha rfl hf ?_)
 rw [if_neg (by rw [hz]; simp)]
 show wpAny _ _ (setNext a sl i ep >>= _) _ _ s
 refine wpAny_bind (hn _ _ _ ?_)
 show wpAny _ _ (setField (.ref it) 2 Value.none >>= _) _ _ s
 refine wpAny_bind (wpAny_setField hi rfl (by simp) ?_); show wpAny _ _ (newExc (.type "StopIteration") [] >>= _) _ _ _
 refine wpAny_bind ?_; simp only [newExc,newTuple]; refine wpAny_bind (wpAny_newObj_type ?_ (by size_fits))
 refine wpAny_bind (m:=firstArgMember _ _) (wpAny_of_eq (a:=Value.none) (by first | rfl | (simp only [firstArgMember]; rfl)) ?_); refine wpAny_newObj_type ?_ (by size_fits); simp only [raiseNew]
 refine wpAny_bind (wpAny_handled ?_); first | rw [show A.in1.handled=none from hh] | rw [hh]
 refine wpAny_bind (wpAny_pure (wpAny_throw ?_)); refine wpAny_bind (wpAny_isInstance (T := "StopIteration") (b:=true) ⟨_,Heap.get?_push_size _ rfl,rfl⟩ isSubtype_stop ?_)
 exact wpAny_pure (hQ _ (((Heap.SameBut.update ..).extBut.push _).push _))
theorem next_drawn {it a p:Addr} {i n ep pl m:Nat} {es:Array (Int×Value)} {t:SetTable} {hx:Int} {x:Value} {ps:Array Value} {Q:Option Value->Shared->Prop} (hi:s.heap.get? it=some (sitObj (.ref p) i a n ep)) (ha:s.heap.get? a=some (setObj es ep t)) (hf:t.fits es.size=true) (hz:es.size=n)
  (hp:s.heap.get? p=some { cls:=.type "tuple",data:=.seq ps m }) (hpl:ps[i]?=some (rawInt pl)) (hx:es[pl]?=some (hx,x))
  (hQ:∀ h',h'.get? it=some (sitObj (.ref p) (i+1) a n ep)->Heap.SameBut it s.heap h'->Q (some x) { s with heap:=h' }):wpAny (model prog w) A (pyNext (.ref it)) Q E s:=by
 have hT:s.TypeIs (.ref it) "set_iterator":=⟨_,hi,rfl⟩
 unfold pyNext
 refine wpAny_bind (wpAny_attempt (wpAny_callSpecial?_slot (name:=Str.ofString "__next__") hT slot_si_next (wpAny_call_entry slot_si_next hT entry_si_next ?_ (args_si_next _))))
 show wpAny _ _ (fieldsOf (.ref it) >>= _) _ _ s
 refine wpAny_bind (wpAny_fieldsOf hi rfl ?_)
 show wpAny _ _ (setEntries a >>= _) _ _ s
 refine wpAny_bind (wpAny_setEntries_of ha rfl hf ?_)
 rw [if_neg (by rw [hz]; simp)]
 show wpAny _ _ (seqItems? (.ref p) >>= _) _ _ s
 refine wpAny_bind (wpAny_seqItems hp rfl ?_)
 dsimp only
 rw [show ps[Int.toNat (i:Int)]?=some (rawInt pl) from hpl]
 show wpAny _ _ (setNextDrawn a pl ep >>= _) _ _ s
 refine wpAny_bind ?_
 unfold setNextDrawn
 refine wpAny_bind (wpAny_setState_of ha rfl hf ?_)
 dsimp only
 rw [if_neg (by simp),hx]
 refine wpAny_pure ?_
 show wpAny _ _ (setField (.ref it) 1 (rawInt (i+1)) >>= _) _ _ s
 refine wpAny_bind (wpAny_setField hi rfl (by simp) (wpAny_pure ⟨x,rfl,wpAny_pure (hQ _ ?_ (Heap.SameBut.update ..))⟩))
 exact Heap.get?_update_self _ hi rfl
theorem drawn_end {it a p:Addr} {i n ep m:Nat} {es:Array (Int×Value)} {t:SetTable} {ps:Array Value} {Q:Option Value->Shared->Prop} (hh:A.handled=none) (hi:s.heap.get? it=some (sitObj (.ref p) i a n ep)) (ha:s.heap.get? a=some (setObj es ep t)) (hf:t.fits es.size=true) (hz:es.size=n)
  (hp:s.heap.get? p=some { cls:=.type "tuple",data:=.seq ps m }) (hpl:ps[i]?=none)
  (hQ:∀ h',Heap.ExtBut it s.heap h'->Q none { s with heap:=h' }):wpAny (model prog w) A (pyNext (.ref it)) Q E s:=by
 have hT:s.TypeIs (.ref it) "set_iterator":=⟨_,hi,rfl⟩
 unfold pyNext
 refine wpAny_bind (wpAny_attempt (wpAny_callSpecial?_slot (name:=Str.ofString "__next__") hT slot_si_next (wpAny_call_entry slot_si_next hT entry_si_next ?_ (args_si_next _))))
 show wpAny _ _ (fieldsOf (.ref it) >>= _) _ _ s
 refine wpAny_bind (wpAny_fieldsOf hi rfl ?_)
 show wpAny _ _ (setEntries a >>= _) _ _ s
 refine wpAny_bind (wpAny_setEntries_of ha rfl hf ?_)
 rw [if_neg (by rw [hz]; simp)]
 show wpAny _ _ (seqItems? (.ref p) >>= _) _ _ s
 refine wpAny_bind (wpAny_seqItems hp rfl ?_)
 dsimp only
 rw [show ps[Int.toNat (i:Int)]?=none from hpl]
 show wpAny _ _ (setField (.ref it) 0 (rawInt 0) >>= _) _ _ s
 refine wpAny_bind (wpAny_setField hi rfl (by simp) ?_)
 have h1:(s.heap.update it (Obj.mapFields (·.setIfInBounds 0 (rawInt 0)))).get? it=some (sitObj (rawInt 0) i a n ep):=Heap.get?_update_self _ hi rfl
 refine wpAny_bind (wpAny_setField h1 rfl (by simp) ?_); show wpAny _ _ (newExc (.type "StopIteration") [] >>= _) _ _ _
 refine wpAny_bind ?_; simp only [newExc,newTuple]; refine wpAny_bind (wpAny_newObj_type ?_ (by size_fits))
 refine wpAny_bind (m:=firstArgMember _ _) (wpAny_of_eq (a:=Value.none) (by first | rfl | (simp only [firstArgMember]; rfl)) ?_); refine wpAny_newObj_type ?_ (by size_fits); simp only [raiseNew]
 refine wpAny_bind (wpAny_handled ?_); first | rw [show A.in1.handled=none from hh] | rw [hh]
 refine wpAny_bind (wpAny_pure (wpAny_throw ?_)); refine wpAny_bind (wpAny_isInstance (T := "StopIteration") (b:=true) ⟨_,Heap.get?_push_size _ rfl,rfl⟩ isSubtype_stop ?_)
 exact wpAny_pure (hQ _ (((((Heap.SameBut.update ..).trans (Heap.SameBut.update ..))).extBut.push _).push _))
theorem iter_self {it:Addr} {o:Obj} {Q:Value->Shared->Prop} (hi:s.heap.get? it=some o) (hc:o.cls=.type "set_iterator") (h:Q (.ref it) s):wpAny (model prog w) A (pyIter (.ref it)) Q E s:=by
 have hT:s.TypeIs (.ref it) "set_iterator":=⟨_,hi,hc⟩
 refine wpAny_pyIter_slot hT slot_si_iter (wpAny_call_entry slot_si_iter hT entry_si_iter ?_ (args_si_iter _)); show wpAny _ _ (ret (.ref it)) _ _ s
 exact wpAny_pure ⟨_,rfl, "set_iterator",_,hT,slot_si_next.lookup,h⟩
theorem walk_text {it a:Addr} {ep:Nat} {es:Array (Int×Value)} {t:SetTable} (hh:A.handled=none) (hb:w.params.followText "set-order"=true) (hf:t.fits es.size=true) (hne:a≠it) :
  Walks prog w A it [it,a] [it] es.size (fun i v=>((pickOrder (w.params.setOrder a ep) es).toList.map (·.2))[i]?=some v) (fun i h=>h.get? it=some (sitObj (rawInt 0) i a es.size ep)/\h.get? a=some (setObj es ep t)) where
 sub:=fun b hb=>by simp at hb; simp [hb]
 frame:=fun _ _ _ st hk=>⟨hk it (by simp) _ st.1,hk a (by simp) _ st.2⟩
 item:=fun i s Q E hi st hQ=>by
  have hlen:(pickOrder (w.params.setOrder a ep) es).size=es.size:=by
   have:=(pick_perm (w.params.setOrder a ep) es).length_eq
   simpa using this
  have hlt:i < (pickOrder (w.params.setOrder a ep) es).size:=by omega
  obtain ⟨e,he⟩:∃ e,(pickOrder (w.params.setOrder a ep) es)[i]?=some e:=⟨_,Array.getElem?_eq_getElem hlt⟩
  refine next_some (x:=e.2) (nx:=0) st.1 st.2 hf rfl (fun A1 Q1 E1 q=>?_) fun h' hi' sb=>hQ e.2 h' s.toks ?_ ⟨hi',?_⟩ fun b o nb eo=>?_
  ·unfold setNext
   refine wpAny_bind (wpAny_setState_of st.2 rfl hf ?_)
   dsimp only
   refine wpAny_bind (m:=setsByText) (wpAny_bind (wpAny_askSetting (wpAny_pure ?_)))
   rw [byText_eq hb,if_pos rfl,if_neg (by simp)]
   refine wpAny_bind ?_
   unfold setWalk
   refine wpAny_bind (wpAny_setState_of st.2 rfl hf ?_)
   dsimp only
   refine wpAny_bind (m:=setsByText) (wpAny_bind (wpAny_askSetting (wpAny_pure ?_)))
   rw [byText_eq hb,if_pos rfl]
   refine wpAny_bind (wpAny_askSetting (wpAny_pure ?_))
   refine wpAny_pure ?_
   rw [show (pickOrder ((⟨(model prog w).prog,(model prog w).w.params⟩:Setting).params.setOrder a ep) es)[i]?=some e from he]
   exact q
  ·rw [List.getElem?_map,Array.getElem?_toList,he]
   rfl
  ·rw [sb.2 a hne]
   exact st.2
  ·rw [sb.2 b (fun z=>nb (by simp [z]))]
   exact eo
 done:=fun s Q E st hQ=>by
  have hlen:(pickOrder (w.params.setOrder a ep) es).size=es.size:=by
   have:=(pick_perm (w.params.setOrder a ep) es).length_eq
   simpa using this
  refine next_none hh st.1 st.2 hf rfl (fun A1 Q1 E1 q=>?_) fun h' eb=>hQ h' s.toks fun b o nb eo=>eb b o (fun z=>nb (by simp [z])) eo
  unfold setNext
  refine wpAny_bind (wpAny_setState_of st.2 rfl hf ?_)
  dsimp only
  refine wpAny_bind (m:=setsByText) (wpAny_bind (wpAny_askSetting (wpAny_pure ?_)))
  rw [byText_eq hb,if_pos rfl,if_neg (by simp)]
  refine wpAny_bind ?_
  unfold setWalk
  refine wpAny_bind (wpAny_setState_of st.2 rfl hf ?_)
  dsimp only
  refine wpAny_bind (m:=setsByText) (wpAny_bind (wpAny_askSetting (wpAny_pure ?_)))
  rw [byText_eq hb,if_pos rfl]
  refine wpAny_bind (wpAny_askSetting (wpAny_pure ?_))
  refine wpAny_pure ?_
  rw [show (pickOrder ((⟨(model prog w).prog,(model prog w).w.params⟩:Setting).params.setOrder a ep) es)[es.size]?=none from Array.getElem?_eq_none (Nat.le_of_eq hlen)]
  exact q
 self:=fun i s Q E st hQ=>iter_self st.1 rfl hQ
noncomputable def slotFew (t:SetTable) (i:Nat):Nat:=if i=0 then 0 else t.place.getD 0 0+1
theorem below_one (j k:Nat):SetTable.below #[j] k=if j < k then 1 else 0:=by
 unfold SetTable.below
 show SetTable.below.go #[j] k 1 0 1=_
 unfold SetTable.below.go
 rw [if_pos (by omega)]
 show (if (#[j]:Array Nat).getD 0 k < k then SetTable.below.go #[j] k 0 1 1 else SetTable.below.go #[j] k 0 0 0)=_
 show (if j < k then SetTable.below.go #[j] k 0 1 1 else SetTable.below.go #[j] k 0 0 0)=_
 split <;> rfl
theorem few_next {a:Addr} {ep i:Nat} {es:Array (Int×Value)} {t:SetTable} {Q:Option (Value×Nat)->Shared->Prop} (hb:w.params.followText "set-order"=false) (hf:t.fits es.size=true) (hl:t.led=true) (hz:es.size<=1) (ha:s.heap.get? a=some (setObj es ep t)) (hi:i<=es.size)
  (q:Q (match es[i]? with | some e=>some (e.2,slotFew t (i+1)) | none=>none) s):wpAny (model prog w) A (setNext a (slotFew t i) i ep) Q E s:=by
 have hps:t.place.size=es.size:=by
  have:=hf
  simp only [SetTable.fits,Bool.and_eq_true,beq_iff_eq] at this
  exact this.1
 unfold setNext
 refine wpAny_bind (wpAny_setState_of ha rfl hf ?_)
 dsimp only
 refine wpAny_bind (m:=setsByText) (wpAny_bind (wpAny_askSetting (wpAny_pure ?_)))
 rw [byText_eq hb,if_neg (by simp)]
 show wpAny _ _ (if (!t.plain&&decide (es.size > 1))=true then _ else _) _ _ _
 rw [if_neg (by simp; intro _; omega)]
 refine wpAny_bind ?_
 show wpAny _ _ (if (!t.led&&!es.isEmpty)=true then _ else _) _ _ _
 rw [hl,if_neg (by simp)]
 refine wpAny_pure (wpAny_pure ?_)
 have e:(match es[SetTable.below t.place (slotFew t i)]?,t.place[SetTable.below t.place (slotFew t i)]? with | some (_,x),some j=>some (x,j+1) | _,_=>none)=(match es[i]? with | some e=>some (e.2,slotFew t (i+1)) | none=>none:Option (Value×Nat)):=by
  obtain ⟨l⟩:=es
  obtain ⟨mask,⟨pl⟩,du,fi,le,mo,pn⟩:=t
  cases l with
  | nil=>simp
  | cons e0 l=>
   cases l with
   | cons _ _=>exact absurd hz (by simp)
   | nil=>
    cases pl with
    | nil=>exact absurd hps (by simp)
    | cons j pl=>
     cases pl with
     | cons _ _=>exact absurd hps (by simp)
     | nil=>
      have hi1:i=0\/i=1:=by simp at hi; omega
      rcases hi1 with rfl | rfl
      ·show (match (#[e0]:Array (Int×Value))[SetTable.below #[j] 0]?,(#[j]:Array Nat)[SetTable.below #[j] 0]? with | some (_,x),some j=>some (x,j+1) | _,_=>none)=some (e0.2,j+1)
       rw [below_one,if_neg (by omega)]
       rfl
      ·show (match (#[e0]:Array (Int×Value))[SetTable.below #[j] (j+1)]?,(#[j]:Array Nat)[SetTable.below #[j] (j+1)]? with | some (_,x),some j=>some (x,j+1) | _,_=>none)=none
       rw [below_one,if_pos (by omega)]
       rfl
 exact Eq.mp (congrArg (fun z=>Q z s) e.symm) q
theorem walk_few {it a:Addr} {ep:Nat} {es:Array (Int×Value)} {t:SetTable} (hh:A.handled=none) (hb:w.params.followText "set-order"=false) (hf:t.fits es.size=true) (hl:t.led=true) (hz:es.size<=1) (hne:a≠it) :
  Walks prog w A it [it,a] [it] es.size (fun i v=>(es.toList.map (·.2))[i]?=some v) (fun i h=>h.get? it=some (sitObj (rawInt (slotFew t i)) i a es.size ep)/\h.get? a=some (setObj es ep t)) where
 sub:=fun b hb=>by simp at hb; simp [hb]
 frame:=fun _ _ _ st hk=>⟨hk it (by simp) _ st.1,hk a (by simp) _ st.2⟩
 item:=fun i s Q E hi st hQ=>by
  have he:es[i]?=some es[i]:=Array.getElem?_eq_getElem hi
  refine next_some (x:=es[i].2) (nx:=slotFew t (i+1)) st.1 st.2 hf rfl (fun A1 Q1 E1 q=>few_next hb hf hl hz st.2 (Nat.le_of_lt hi) (by rw [he]; exact q)) fun h' hi' sb=>hQ es[i].2 h' s.toks ?_ ⟨hi',?_⟩ fun b o nb eo=>?_
  ·rw [List.getElem?_map,Array.getElem?_toList,he]
   rfl
  ·rw [sb.2 a hne]
   exact st.2
  ·rw [sb.2 b (fun z=>nb (by simp [z]))]
   exact eo
 done:=fun s Q E st hQ=>next_none hh st.1 st.2 hf rfl (fun A1 Q1 E1 q=>few_next hb hf hl hz st.2 (Nat.le_refl _) (by rw [Array.getElem?_eq_none (Nat.le_refl _)]; exact q)) fun h' eb=>hQ h' s.toks fun b o nb eo=>eb b o (fun z=>nb (by simp [z])) eo
 self:=fun i s Q E st hQ=>iter_self st.1 rfl hQ
noncomputable def ordD (es:Array (Int×Value)) (ps:List Nat):List Value:=ps.map fun k=>(es[k]?.map (·.2)).getD .none
theorem ordD_perm {es:Array (Int×Value)} {ps:List Nat} (h:ps.Perm (List.range es.size)):(ordD es ps).Perm (es.toList.map (·.2)):=by
 have e:ordD es (List.range es.size)=es.toList.map (·.2):=by
  apply List.ext_getElem?
  intro i
  unfold ordD
  rw [List.getElem?_map,List.getElem?_map,show es.toList[i]?=es[i]? from Array.getElem?_toList]
  by_cases hi:i < es.size
  ·rw [List.getElem?_range hi,Array.getElem?_eq_getElem hi]
   simp [hi]
  ·rw [List.getElem?_eq_none (by rw [List.length_range]; omega),Array.getElem?_eq_none (by omega)]
   rfl
 rw [<-e]
 exact h.map _
theorem walk_drawn {it a p:Addr} {ep m:Nat} {es:Array (Int×Value)} {t:SetTable} {ps:List Nat} (hh:A.handled=none) (hf:t.fits es.size=true) (hp:ps.Perm (List.range es.size)) (hne:a≠it) (hpe:p≠it) :
  Walks prog w A it [it,a,p] [it] es.size (fun i v=>(ordD es ps)[i]?=some v) (fun i h=>h.get? it=some (sitObj (.ref p) i a es.size ep)/\h.get? a=some (setObj es ep t)/\h.get? p=some { cls:=.type "tuple",data:=.seq (ps.map fun (i:Nat)=>rawInt i).toArray m }) where
 sub:=fun b hb=>by simp at hb; simp [hb]
 frame:=fun _ _ _ st hk=>⟨hk it (by simp) _ st.1,hk a (by simp) _ st.2.1,hk p (by simp) _ st.2.2⟩
 item:=fun i s Q E hi st hQ=>by
  have hlen:ps.length=es.size:=by rw [hp.length_eq,List.length_range]
  have hil:i < ps.length:=by omega
  have hk:ps[i] < es.size:=List.mem_range.mp (hp.mem_iff.mp (List.getElem_mem hil))
  have he:es[ps[i]]?=some es[ps[i]]:=Array.getElem?_eq_getElem hk
  refine next_drawn (x:=es[ps[i]].2) (hx:=es[ps[i]].1) (pl:=ps[i]) st.1 st.2.1 hf rfl st.2.2 ?_ he fun h' hi' sb=>hQ es[ps[i]].2 h' s.toks ?_ ⟨hi',?_,?_⟩ fun b o nb eo=>?_
  ·rw [List.getElem?_toArray,List.getElem?_map,List.getElem?_eq_getElem hil]
   rfl
  ·unfold ordD
   rw [List.getElem?_map,List.getElem?_eq_getElem hil]
   simp [he]
  ·rw [sb.2 a hne]
   exact st.2.1
  ·rw [sb.2 p hpe]
   exact st.2.2
  ·rw [sb.2 b (fun z=>nb (by simp [z]))]
   exact eo
 done:=fun s Q E st hQ=>by
  have hlen:ps.length=es.size:=by rw [hp.length_eq,List.length_range]
  refine drawn_end hh st.1 st.2.1 hf rfl st.2.2 ?_ fun h' eb=>hQ h' s.toks fun b o nb eo=>eb b o (fun z=>nb (by simp [z])) eo
  rw [List.getElem?_toArray,List.getElem?_eq_none (by simp; omega)]
 self:=fun i s Q E st hQ=>iter_self st.1 rfl hQ
theorem iter_set {a:Addr} {ep:Nat} {es:Array (Int×Value)} {t:SetTable} {ks:List Str} {A1:Around} {Q:Value->Shared->Prop} (hh:A1.handled=none) (ha:s.heap.get? a=some (setObj es ep t)) (d:SetD prog w es t ks)
  (hQ:∀ (it:Addr) (h':Heap) (dr:Drawn) (ord:List Value) (fp:List Addr) (St:Nat->Heap->Prop),(∀ b o,s.heap.get? b=some o->h'.get? b=some o)->ord.Perm (es.toList.map (·.2))->Walks prog w A1 it fp [it] es.size (fun i v=>ord[i]?=some v) St->St 0 h' ->
   (∀ b∈fp,b=a\/s.heap.objs.size<=b)->s.heap.objs.size<=it->Q (.ref it) { s with heap:=h',drawn:=dr }):wpAny (model prog w) A (pyIter (.ref a)) Q E s:=by
 have hT:s.TypeIs (.ref a) "set":=⟨_,ha,rfl⟩
 have hlt:a < s.heap.objs.size:=Heap.lt_size ha
 refine wpAny_pyIter_slot hT PySem.F.slot_set_iter (wpAny_call_entry PySem.F.slot_set_iter hT entry_s_iter ?_ (PySem.F.args_set_iter_1 _))
 show wpAny _ _ (Builtin.Frozenset.sizeOf a >>= _) _ _ s
 refine wpAny_bind (m:=Builtin.Frozenset.sizeOf a) (wpAny_bind (wpAny_setEntries_of ha rfl d.fits (wpAny_pure ?_)))
 refine wpAny_bind (m:=setDrawn a) ?_
 unfold setDrawn
 refine wpAny_bind (wpAny_setState_of ha rfl d.fits ?_)
 dsimp only
 refine wpAny_bind (m:=setsByText) (wpAny_bind (wpAny_askSetting (wpAny_pure ?_)))
 refine wpAny_pure ?_
 cases hb:w.params.followText "set-order" with
 | true=>
  rw [byText_eq hb,if_neg (by simp)]
  refine wpAny_bind (wpAny_pure ?_)
  refine wpAny_bind (m:=setEpoch a) (wpAny_setEpoch_of ha rfl d.fits ?_)
  refine wpAny_bind (wpAny_newObj_type (wpAny_pure ⟨_,rfl, "set_iterator",_,⟨_,Heap.get?_push_size _ rfl,rfl⟩,slot_si_next.lookup,?_⟩))
  refine hQ _ _ s.drawn _ _ _ (fun b o e=>Heap.get?_push_of_some _ e) ((pick_perm (w.params.setOrder a ep) es).map _) (walk_text hh hb d.fits (Nat.ne_of_lt hlt)) ⟨Heap.get?_push_size _ rfl,Heap.get?_push_of_some _ ha⟩ ?_ (Nat.le_refl _)
  intro b hb
  rcases List.mem_cons.mp hb with z | z
  ·exact .inr (z ▸ Nat.le_refl _)
  ·exact .inl (List.mem_singleton.mp z)
 | false=>
  have hled:t.led=true:=by rw [d.led,hb]; rfl
  rw [byText_eq hb]
  show wpAny _ _ (if (!false&&(!t.plain&&decide (es.size > 1)))=true then _ else _) _ _ _
  by_cases hn:es.size<=1
  ·rw [if_neg (by simp; intro _; omega)]
   refine wpAny_bind (wpAny_pure ?_)
   refine wpAny_bind (m:=setEpoch a) (wpAny_setEpoch_of ha rfl d.fits ?_)
   refine wpAny_bind (wpAny_newObj_type (wpAny_pure ⟨_,rfl, "set_iterator",_,⟨_,Heap.get?_push_size _ rfl,rfl⟩,slot_si_next.lookup,?_⟩))
   refine hQ _ _ s.drawn _ _ _ (fun b o e=>Heap.get?_push_of_some _ e) (List.Perm.refl _) (walk_few hh hb d.fits hled hn (Nat.ne_of_lt hlt)) ⟨Heap.get?_push_size _ rfl,Heap.get?_push_of_some _ ha⟩ ?_ (Nat.le_refl _)
   intro b hb
   rcases List.mem_cons.mp hb with z | z
   ·exact .inr (z ▸ Nat.le_refl _)
   ·exact .inl (List.mem_singleton.mp z)
  ·have hpl:t.plain=false:=d.plain fun z=>by
    have h0:=d.size
    rw [z,List.length_nil] at h0
    omega
   rw [if_pos (by rw [hpl]; simp; omega)]
   refine wpAny_bind (wp_draw es.size (List.range es.size) s (by simp) fun ps dr hp=>?_)
   have hpl2:ps.length=es.size:=by rw [hp.length_eq,List.length_range]
   have hsz:(ps.map fun (i:Nat)=>rawInt i).length<=sizeLine:=by rw [List.length_map,hpl2]; exact fits_of_scanBound d.bd
   refine wpAny_bind (wpAny_newTuple ?_ hsz)
   refine wpAny_bind (m:=setEpoch a) (wpAny_setEpoch_of (Heap.get?_push_of_some _ ha) rfl d.fits ?_)
   refine wpAny_bind (wpAny_newObj_type (wpAny_pure ⟨_,rfl, "set_iterator",_,⟨_,Heap.get?_push_size _ rfl,rfl⟩,slot_si_next.lookup,?_⟩))
   have hp1:s.heap.objs.size < (s.heap.push ({ cls:=.type "tuple",data:=.seq (ps.map fun (i:Nat)=>rawInt i).toArray }:Obj)).objs.size:=by rw [Heap.size_push]; exact Nat.lt_succ_self _
   refine hQ _ _ dr _ _ _ (fun b o e=>Heap.get?_push_of_some _ (Heap.get?_push_of_some _ e)) (ordD_perm hp) (walk_drawn (p:=s.heap.objs.size) hh d.fits hp (Nat.ne_of_lt (Nat.lt_trans hlt hp1)) (Nat.ne_of_lt hp1)) ⟨Heap.get?_push_size _ rfl,Heap.get?_push_of_some _ (Heap.get?_push_of_some _ ha),Heap.get?_push_of_some _ (Heap.get?_push_size _ rfl)⟩ ?_ (Nat.le_of_lt hp1)
   intro b hb
   rcases List.mem_cons.mp hb with z | z
   ·exact .inr (z ▸ Nat.le_of_lt hp1)
   ·rcases List.mem_cons.mp z with z | z
    ·exact .inl z
    ·exact .inr (Nat.le_of_eq (List.mem_singleton.mp z).symm)
end
section
variable {prog:Program} {w:World} {A:Around} {E:Value->Shared->Prop} {s:Shared}
theorem items_eq {ord:List Value} {acc:Array Value} {n:Nat} (hl:ord.length=n) (h:ItemsOf (fun i v=>ord[i]?=some v) acc n):acc.toList=ord:=by
 apply List.ext_getElem?
 intro i
 rw [show acc.toList[i]?=acc[i]? from Array.getElem?_toList]
 by_cases hi:i < acc.size
 ·rw [Array.getElem?_eq_getElem hi]
  exact (h.2 i _ (Array.getElem?_eq_getElem hi)).symm
 ·rw [Array.getElem?_eq_none (by omega),List.getElem?_eq_none (by have:=h.1; omega)]
theorem collect_set {a:Addr} {ep:Nat} {es:Array (Int×Value)} {t:SetTable} {ks:List Str} {Q:List Value->Shared->Prop} (hh:A.handled=none) (ha:s.heap.get? a=some (setObj es ep t)) (d:SetD prog w es t ks)
  (hQ:∀ h' dr tk ord,(∀ b o,s.heap.get? b=some o->h'.get? b=some o)->ord.Perm (es.toList.map (·.2))->Q ord { s with heap:=h',drawn:=dr,toks:=tk }):wpAny (model prog w) A (collect (.ref a)) Q E s:=by
 have hlt:a < s.heap.objs.size:=Heap.lt_size ha
 unfold collect
 refine wpAny_bind (wpAny_runValue (codeAny_builtin PySem.F.entry_proto_collect ?_)); rw [Around.under_plainId PySem.F.plain_proto_collect _]
 show wpAny _ A.in1 (newList [] >>= fun l=>again (.builtin "list.__iadd__" ⟨[l,.ref a],[]⟩)) _ _ s; refine wpAny_bind (wpAny_newObj_type ?_)
 refine wpAny_pure ⟨plainId_quiet PySem.F.plain_list_iadd _,codeAny_builtin PySem.F.entry_list_iadd ?_⟩; rw [Around.under_plainId PySem.F.plain_list_iadd _]
 have ha1:(s.heap.push { cls:=.type "list",data:=.seq ([]:List Value).toArray }).get? a=some (setObj es ep t):=Heap.get?_push_of_some _ ha
 have hT:Shared.TypeIs { s with heap:=s.heap.push { cls:=.type "list",data:=.seq ([]:List Value).toArray } } (.ref a) "set":=⟨_,ha1,rfl⟩
 show wpAny _ A.in1 (Builtin.List.listExtendWith (.ref s.heap.objs.size) (.ref a) (.ref s.heap.objs.size)) _ _ _; unfold Builtin.List.listExtendWith
 refine wpAny_bind (wpAny_typeOf hT ?_)
 have h1:Builtin.List.listSameRef (.ref s.heap.objs.size) (.ref a)=false:=by simp [Builtin.List.listSameRef,Nat.ne_of_gt hlt]
 rw [if_neg (by rw [h1]; decide)]
 refine wpAny_bind (iter_set (A1:=A.in1) hh ha1 d fun it h2 dr ord fp St k2 hp W hst hfp hit=>?_)
 have hS1:h2.get? s.heap.objs.size=some { cls:=.type "list",data:=.seq ([]:List Value).toArray }:=k2 _ _ (Heap.get?_push_size _ rfl)
 have ha2:h2.get? a=some (setObj es ep t):=k2 _ _ ha1
 refine wpAny_bind (wpAny_holding ?_)
 unfold Builtin.List.listLengthHint
 have hT2:Shared.TypeIs { s with heap:=h2,drawn:=dr } (.ref a) "set":=⟨_,ha2,rfl⟩
 refine wpAny_bind (wpAny_specialOf hT2 PySem.F.slot_set_len.lookup ?_)
 (generalize hid:("set.__len__":String)=id0; (fail_if_success (clear hid id0)); wp_delta; rw [show splitId id0=some ("set", "__len__") from by subst hid; decide +kernel]; subst hid)
 refine wpAny_bind (wpAny_isInstance (b:=true) hT2 (by rw [isSubtype_type]; kernel_rfl) ?_)
 refine wpAny_bind (m:=typeOf (.ref a)) (wpAny_typeOf hT2 ?_)
 refine wpAny_pure ?_
 show wpAny _ A.in1 (rule "list.extend.makes-room" >>= fun _=>Builtin.List.listTouch (.ref s.heap.objs.size) >>= fun _=>again (.builtin "list.extend.loop" ⟨[.ref s.heap.objs.size,.ref it,.ref s.heap.objs.size],[]⟩)) _ _ _
 refine wpAny_bind (wpAny_rule (wpAny_bind ?_)); show wpAny _ A.in1 (updateSeq s.heap.objs.size (·.push .none) >>= fun _=>updateSeq s.heap.objs.size (·.pop)) _ _ _
 refine wpAny_bind (wpAny_updateSeq hS1 rfl ?_); have hS₂:=Heap.get?_update_self (Obj.mapSeq (·.push Value.none)) hS1 rfl
 refine wpAny_updateSeq hS₂ rfl ?_; have hS₃:=Heap.get?_update_self (Obj.mapSeq (·.pop)) hS₂ rfl
 have hzs:(s.heap.push ({ cls:=.type "list",data:=.seq ([]:List Value).toArray }:Obj)).objs.size=s.heap.objs.size+1:=Heap.size_push ..
 have oth:∀ b o,b≠s.heap.objs.size->h2.get? b=some o->((h2.update s.heap.objs.size (Obj.mapSeq (·.push Value.none))).update s.heap.objs.size (Obj.mapSeq (·.pop))).get? b=some o:=fun b o hb e=>(Heap.get?_update_other _ _ (Ne.symm hb)).trans ((Heap.get?_update_other _ _ (Ne.symm hb)).trans e)
 have nf:s.heap.objs.size∉fp:=fun z=>by
  rcases hfp _ z with q | q
  ·exact Nat.ne_of_gt hlt q
  ·exact Nat.not_succ_le_self _ (hzs ▸ q)
 have hlen:ord.length=es.size:=by
  rw [hp.length_eq]
  simp
 refine wpAny_pure ⟨plainId_quiet PySem.F.plain_extend_loop _,codeAny_extend_loopS W.toS (fits_of_scanBound d.bd) _ nf _ es.size 0 _ _ _ rfl (Nat.zero_le _) (W.frame 0 h2 _ hst fun b hb o e=>oth b o (fun z=>nf (z ▸ hb)) e) hS₃ (ItemsOf.nil _) fun s' acc' c' hm hS' hacc=>?_⟩
 show wpAny _ A (load s.heap.objs.size >>= _) _ _ s'
 refine wpAny_bind (wpAny_load hS' (wpAny_pure ?_))
 rw [items_eq hlen hacc]
 obtain ⟨h',g',d',tk',os'⟩:=s'
 have eg:g'=s.gens:=hm.gens
 have ed:d'=dr:=hm.drawn
 have eo:os'=s.os:=hm.os
 subst eg ed eo
 refine hQ h' d' tk' ord (fun b o e=>?_) hp
 have hb:=Heap.lt_size e
 refine hm.heap b o (fun z=>?_) (oth b o (Nat.ne_of_lt hb) (k2 b o (Heap.get?_push_of_some _ e)))
 rcases List.mem_cons.mp z with z | z
 ·exact Nat.ne_of_lt hb z
 ·have h3:s.heap.objs.size+1<=it:=hzs ▸ hit
  rw [<-List.mem_singleton.mp z] at h3
  exact Nat.lt_irrefl _ (Nat.lt_trans hb h3)
theorem sorted_set {a:Addr} {ks:List Str} {Q:Value->Shared->Prop} (hh:A.handled=none) (hS:SetS prog w s.heap a ks) (h64:ks.length < 64)
  (hQ:∀ (h1 h':Heap) dr tk vs e ss,(∀ b o,s.heap.get? b=some o->h1.get? b=some o)->(∀ b o,h1.get? b=some o->h'.get? b=some o)->h'.get? h1.objs.size=some (seqObj "list" vs e)->StrsAre vs.toList ss->ss.Perm ks->sortedS ss=true->Q (.ref h1.objs.size) { s with heap:=h',drawn:=dr,toks:=tk }) :
  wpAny (model prog w) A (call (.builtin "sorted") [.ref a]) Q E s:=by
 obtain ⟨es,ep,t,ha,d⟩:=hS
 refine Calls.call_function_entry kind_sorted plain_sorted entry_sorted (args_sorted1 _) ?_; unfold Builtin.«sorted»
 refine wpAny_bind (m:=checkCount "sorted" 1 1 _) (wpAny_pure ?_)
 refine wpAny_bind (collect_set (by exact hh) ha d fun h1 dr tk ord k1 hp=>?_)
 have hst:StrsAre ord (ord.map strOf):=strsAre_map ord fun v hv=>by
  obtain ⟨e,he,rfl⟩:=List.mem_map.mp (hp.mem_iff.mp hv)
  exact el_str d.el he
 have hpk:(ord.map strOf).Perm ks:=(hp.map strOf).trans (by rw [List.map_map]; exact d.perm)
 have hlen:ord.length=ks.length:=by
  have:=hpk.length_eq
  rwa [List.length_map] at this
 refine wpAny_bind (wpAny_newList ?_ (by rw [hlen,sizeLine_eq]; omega))
 have hoL:(h1.push (seqObj "list" ord.toArray 0)).get? h1.objs.size=some (seqObj "list" ord.toArray 0):=Heap.get?_push_size _ rfl
 refine wpAny_bind (wpAny_holding (wpAny_call_entry slot_list_sort (s:={ s with heap:=h1.push (seqObj "list" ord.toArray 0),drawn:=dr,toks:=tk }) ⟨_,hoL,rfl⟩ entry_list_sort (list_sort_treeK strKind_oneLt hoL hst.keysOf (fun v₁ v₂ rest e=>keyKind_strs (by rw [<-e]; exact hst)) (by rw [hlen]; exact h64) fun st' a1 a2=>⟨_,rfl,?_⟩) (args_list_sort _)))
 obtain ⟨ss',b1,b2,b3⟩:=sorted_out_str hst a1 a2
 obtain ⟨e,he⟩:=sortedHeap_at (out:=(arrOf st').map (·.2)) hoL
 refine wpAny_pure ⟨_,rfl,hQ h1 _ dr tk _ e ss' k1 (fun b o eb=>?_) he b1 (b2.trans hpk) b3⟩
 have hb:=Heap.lt_size eb
 rw [sortedHeap_old (Nat.ne_of_lt hb) (by rw [Heap.size_push]; exact Nat.lt_succ_of_lt hb)]
 exact Heap.get?_push_of_some _ eb
end
section
variable {prog:Program} {w:World} {A:Around} {E:Value->Shared->Prop} {s:Shared}
variable {z TI TO i1 i2:Addr} {fp1 fp2:List Addr} {n1 n2 i:Nat} {P1 P2:Nat->Value->Prop} {S1 S2:Nat->Heap->Prop} {a b:Value}
end
inductive SK where
 | l | t
noncomputable def SK.itc:SK->String
 | .l => "list_iterator"
 | .t => "tuple_iterator"
def ItK (h:Heap) (it a:Addr):SK->Nat->Prop
 | .l,i=>h.IsListIter it a i
 | .t,i=>h.IsTupleIter it a i
theorem ItK.obj {h:Heap} {it a:Addr} {i:Nat}:∀ {k:SK},ItK h it a k i->∃ o,h.get? it=some o/\o.cls=.type k.itc/\o.data=.fields #[.ref a,.int i 0]
 | .l,⟨o,e,c,d⟩=>⟨o,e,c,d⟩
 | .t,⟨o,e,c,d⟩=>⟨o,e,c,d⟩
section
variable {X:Cx} {pins:List (Addr×Obj)} {σ:St} {H:Hp} {s:Shared} {h':Heap}
theorem drew {t':Nat} {d':Drawn} (I:Inv X pins σ H s) (k:∀ b u,s.heap.get? b=some u->h'.get? b=some u):Inv X pins σ H { s with heap:=h',drawn:=d',toks:=t' }:=by
 refine I.step (g':=s.gens) (d':=d') (ch:=[]) (fun _ z=>nomatch z) (fun b o _ _ _ e _=>k b o e) (fun b o _ _ _ e _=>⟨o.slots,k b o e⟩) (fun _ _ _ _ n=>n) (fun b o _ e=>⟨o,k b o e⟩) (fun _ _ e=>e) (fun _ _ _ e=>e) (fun b ps e=>⟨#[],by rw [e]; simp⟩) (fun m hm=>?_) (I.hok.kept k) I.bare
 obtain ⟨o,es,ep,ho,r⟩:=hm
 exact ⟨o,es,ep,k _ o ho,r⟩
end
def leS (x y:Str):Prop:=¬y.cps.toList < x.cps.toList
noncomputable def insS (x:Str):List Str->List Str
 | []=>[x]
 | y::l=>if strLt y x=true then y::insS x l else x::y::l
noncomputable def sortS:List Str->List Str
 | []=>[]
 | x::l=>insS x (sortS l)
theorem leS_trans {x y z:Str} (a:leS x y) (b:leS y z):leS x z:=List.le_trans (α:=Nat) a b
theorem leS_total (x y:Str):leS x y\/leS y x:=List.le_total (α:=Nat) x.cps.toList y.cps.toList
theorem leS_anti {x y:Str} (a:leS x y) (b:leS y x):x=y:=by
 have e:=List.le_antisymm (α:=Nat) (as:=x.cps.toList) (bs:=y.cps.toList) a b
 obtain ⟨⟨l⟩⟩:=x
 obtain ⟨⟨m⟩⟩:=y
 simp at e
 rw [e]
theorem strLt_false {x y:Str}:strLt y x=false↔leS x y:=by
 unfold strLt leS
 exact decide_eq_false_iff_not
theorem insS_perm (x:Str):∀ l,(insS x l).Perm (x::l)
 | []=>List.Perm.refl _
 | y::l=>by
  unfold insS
  split
  ·exact ((insS_perm x l).cons y).trans (List.Perm.swap _ _ _)
  ·exact List.Perm.refl _
theorem sortS_perm:∀ l,(sortS l).Perm l
 | []=>List.Perm.refl _
 | x::l=>(insS_perm x _).trans ((sortS_perm l).cons x)
theorem insS_sorted (x:Str):∀ l,l.Pairwise leS->(insS x l).Pairwise leS
 | [],_=>List.pairwise_singleton _ _
 | y::l,h=>by
  have h0:=List.pairwise_cons.mp h
  unfold insS
  split
  ·rename_i hlt
   have hyx:leS y x:=by
    rcases leS_total y x with q | q
    ·exact q
    ·rw [<-strLt_false] at q
     rw [q] at hlt
     cases hlt
   refine List.pairwise_cons.mpr ⟨fun z hz=>?_,insS_sorted x l h0.2⟩
   rcases List.mem_cons.mp ((insS_perm x l).mem_iff.mp hz) with rfl | hz
   ·exact hyx
   ·exact h0.1 z hz
  ·rename_i hlt
   have hxy:leS x y:=strLt_false.mp (by cases e:strLt y x with | true=>exact absurd e hlt | false=>rfl)
   refine List.pairwise_cons.mpr ⟨fun z hz=>?_,h⟩
   rcases List.mem_cons.mp hz with rfl | hz
   ·exact hxy
   ·exact leS_trans hxy (h0.1 z hz)
theorem sortS_sorted:∀ l,(sortS l).Pairwise leS
 | []=>List.Pairwise.nil
 | x::l=>insS_sorted x _ (sortS_sorted l)
theorem sorted_eq:∀ {l m:List Str},l.Perm m->l.Pairwise leS->m.Pairwise leS->l=m
 | [],m,p,_,_=>p.nil_eq
 | x::l,[],p,_,_=>absurd p.length_eq (by simp)
 | x::l,y::m,p,hl,hm=>by
  have a:=List.pairwise_cons.mp hl
  have b:=List.pairwise_cons.mp hm
  have exy:x=y:=by
   have h1:y∈x::l:=p.mem_iff.mpr (List.mem_cons_self ..)
   have h2:x∈y::m:=p.mem_iff.mp (List.mem_cons_self ..)
   rcases List.mem_cons.mp h1 with e | e
   ·exact e.symm
   ·rcases List.mem_cons.mp h2 with e' | e'
    ·exact e'
    ·exact leS_anti (a.1 y e) (b.1 x e')
  subst exy
  rw [sorted_eq p.cons_inv a.2 b.2]
theorem rising_leS:∀ (x:Str) (l:List Str),risingS x l=true->(x::l).Pairwise leS
 | x,[],_=>List.pairwise_singleton _ _
 | x,y::l,h=>by
  have h:(!ltCps y.cps.toList x.cps.toList&&risingS y l)=true:=h
  rw [Bool.and_eq_true] at h
  have ih:=rising_leS y l h.2
  have hxy:leS x y:=by
   have h1:=h.1
   rw [ltCps_eq] at h1
   unfold leS
   simpa using h1
  refine List.pairwise_cons.mpr ⟨fun z hz=>?_,ih⟩
  rcases List.mem_cons.mp hz with rfl | hz
  ·exact hxy
  ·exact leS_trans hxy ((List.pairwise_cons.mp ih).1 z hz)
theorem sortedS_leS:∀ (l:List Str),sortedS l=true->l.Pairwise leS
 | [],_=>List.Pairwise.nil
 | x::l,h=>rising_leS x l h
theorem sorted_is {ss ks:List Str} (p:ss.Perm ks) (h:sortedS ss=true):ss=sortS ks:=sorted_eq (p.trans (sortS_perm ks).symm) (sortedS_leS ss h) (sortS_sorted ks)
noncomputable def strsD:List D->Option (List Str)
 | []=>some []
 | .str x::l=>(strsD l).map (x::·)
 | _::_=>none
noncomputable def seqStr:D->Option (List Str)
 | .lst ds=>strsD ds
 | .tup ds=>strsD ds
 | _=>none
noncomputable def setO (P:Program) (w:World) (p:Addr) (ks:List Str):HO:=.ext fun h=>SetS P w h p ks
theorem setO_ok {P:Program} {w:World} {H:Hp} {h:Heap} {p:Addr} {ks:List Str} (x:SetS P w h p ks):ObjOk P w H h p (setO P w p ks):=
 ⟨x,let ⟨_,_,_,e,_⟩:=x; ⟨_,e⟩,fun _ _ a k=>a.at k⟩
theorem strs_of {K:Frag} {F:Hp}:∀ {vs:List V} {us:List Value} {ds:List D} {ss:List Str},IsL K F vs ds->Vals vs us->strsD ds=some ss->StrsAre us ss/\∀ x∈ss,x.length<=sizeLine
 | [],[],[],ss,_,_,e=>by cases e; exact ⟨.nil,fun x h=>by cases h⟩
 | v::vs,u::us,d::ds,ss,.cons i il,.cons r rl,e=>by
  cases d with
  | str x=>
   cases q:strsD ds with
   | none=>
    have e:(strsD ds).map (x::·)=some ss:=e
    rw [q] at e
    cases e
   | some sl=>
    have e:(strsD ds).map (x::·)=some ss:=e
    rw [q] at e
    cases e
    cases i with
    | str hz=>
     obtain ⟨t,rfl⟩:=r
     have ih:=strs_of il rl q
     refine ⟨.cons x t ih.1,fun y hy=>?_⟩
     rcases List.mem_cons.mp hy with rfl | hy
     ·exact hz
     ·exact ih.2 y hy
  | _=>cases e
section
variable {X:Cx} {C:Ct} {own:List Nat} {e:Expr} {fa:Sl->Out (D×Sl)} {ma:Mo} {pos:Pos}
theorem foldS_mem:∀ (l ks:List Str) {x:Str},x∈l.foldl addS ks->x∈ks\/x∈l
 | [],ks,x,h=>.inl h
 | y::l,ks,x,h=>by
  rcases foldS_mem l (addS ks y) h with q | q
  ·unfold addS at q
   split at q
   ·exact .inl q
   ·rcases List.mem_append.mp q with q | q
    ·exact .inl q
    ·exact .inr (by rw [List.mem_singleton.mp q]; exact List.mem_cons_self ..)
  ·exact .inr (List.mem_cons_of_mem _ q)
theorem cr_set (hK:C.K=X.K) (hc:X.calm=true):CallR X (.type "set") (fun xs H Q=>∃ x F dx ss,xs=[x]/\Same F H/\TopIs C.K F H x dx/\seqStr dx=some ss/\ss.length < 4000/\((∀ y∈ss,y.length<=sizeLine)->∀ p,H p=none->Q (.ref p) (upd H p (setO X.prog X.w p (ss.foldl addS []))))):=by
 intro pins s σ H xs us Q I r h
 obtain ⟨x,F,dx,ss,rfl,sb,tx,es,hl,q⟩:=h
 obtain ⟨u,rfl,ru⟩:=vals1 r
 have fin:(∀ y∈ss,y.length<=sizeLine)->∀ h' tk,SetS X.prog X.w h' s.heap.objs.size (ss.foldl addS [])->(∀ b o,s.heap.get? b=some o->h'.get? b=some o)->EP X pins σ Q (.ref s.heap.objs.size) { s with heap:=h',toks:=tk }:=fun hy h' tk hS kp=>
  ⟨.ref s.heap.objs.size,_,I.laid (t':=tk) kp (Nat.le_refl _) (setO_ok hS),rfl,q hy _ (I.hok.fresh (Nat.le_refl _))⟩
 cases dx with
 | lst ds=>
  obtain ⟨a,vs,rfl,hq,il⟩:=tx.lst sb
  cases ru
  rw [hK] at hq
  obtain ⟨its,rv,pl,hz⟩:=I.list hq
  obtain ⟨st,hy⟩:=strs_of il rv es
  have hlt:a < s.heap.objs.size:=let ⟨o,_,e,_⟩:=pl; Heap.lt_size e
  have hn:its.length=ss.length:=st.length
  refine call_setS (fun A1 Q1 E1 hA k=>?_) (fin hy)
  refine upd_list (items:=its.toArray) (hA.trans (I.ok.hd hc)) (set_fresh (Heap.get?_push_size _ rfl)) (pl.isList.push _) (by simpa using st) (by rw [List.size_toArray,hn]; unfold scanBound; omega) (Nat.ne_of_lt hlt) fun h' tk hS kp=>k h' tk hS fun b o eb=>kp b o (Nat.ne_of_lt (Heap.lt_size eb)) (Heap.get?_push_of_some _ eb)
 | tup ds=>
  obtain ⟨a,vs,rfl,hq,il⟩:=tx.tup sb
  cases ru
  rw [hK] at hq
  obtain ⟨its,rv,pl,hz⟩:=I.tuple hq
  obtain ⟨st,hy⟩:=strs_of il rv es
  have hlt:a < s.heap.objs.size:=pl.lt
  have hn:its.length=ss.length:=st.length
  refine call_setS (fun A1 Q1 E1 hA k=>?_) (fin hy)
  refine upd_tuple (items:=its.toArray) (hA.trans (I.ok.hd hc)) (set_fresh (Heap.get?_push_size _ rfl)) (by obtain ⟨o,e,c⟩:=pl; exact ⟨o,Heap.get?_push_of_some _ e,c⟩) (by simpa using st) (by rw [List.size_toArray,hn]; unfold scanBound; omega) (Nat.ne_of_lt hlt) fun h' tk hS kp=>k h' tk hS fun b o eb=>kp b o (Nat.ne_of_lt (Heap.lt_size eb)) (Heap.get?_push_of_some _ eb)
 | _=>cases es
theorem vals_strs:∀ {us:List Value} {ss:List Str},StrsAre us ss->Vals (ss.map V.str) us
 | _,_,.nil=>.nil
 | _,_,.cons y t h=>.cons ⟨t,rfl⟩ (vals_strs h)
theorem cr_sorted (hc:X.calm=true):CallR X (.builtin "sorted") (fun xs H Q=>∃ a ks,xs=[.ref a]/\H a=some (setO X.prog X.w a ks)/\ks.length < 64/\∀ p,H p=none->Q (.ref p) (upd H p (.lst ((sortS ks).map V.str)))):=by
 intro pins s σ H xs us Q I r h
 obtain ⟨a,ks,rfl,ha,h64,q⟩:=h
 obtain ⟨u,rfl,ru⟩:=vals1 r
 cases ru
 have hS:SetS X.prog X.w s.heap a ks:=(I.hok a _ ha).1
 refine sorted_set (I.ok.hd hc) hS h64 fun h1 h' dr tk vs e ss k1 k2 hp st pm so=>?_
 rw [sorted_is pm so] at st
 have I1:Inv X pins σ H { s with heap:=h1,drawn:=dr,toks:=tk }:=drew I k1
 have hz:(sortS ks).length<=sizeLine:=by
  rw [(sortS_perm ks).length_eq,sizeLine_eq]
  omega
 refine ⟨.ref h1.objs.size,_,I1.laid (t':=tk) (o:=.lst ((sortS ks).map V.str)) k2 (Nat.le_refl _) ⟨by rw [List.length_map]; exact hz,vs.toList,e,vals_strs st,by simpa [seqObj] using hp⟩,rfl,q _ (I1.hok.fresh (Nat.le_refl _))⟩
theorem tE_mono {m:Mo} {f:Sl->Out (D×Sl)} {σ:St} {H:Hp} {Q R:VK} (h:tE C own m f σ H Q) (i:∀ v H1,Q v H1->R v H1):tE C own m f σ H R:=by
 obtain ⟨F,ρ,rp,po⟩:=h
 refine ⟨F,ρ,rp,?_⟩
 cases q:f ρ with
 | ok p=>
  rw [q] at po
  obtain ⟨d,ρ1⟩:=p
  exact fun v F1 H1 a b c=>i _ _ (po v F1 H1 a b c)
 | exc c ρ1=>
  rw [q] at po
  exact po
 | bad=>
  rw [q] at po
  exact po.elim
noncomputable def sortSetD (d:D):Out D:=match seqStr d with
 | some ss=>if ss.length < 64 then .ok (.lst ((sortS (ss.foldl addS [])).map D.str)) else .bad
 | none=>.bad
theorem isL_strs {K:Frag} {F:Hp}:∀ {ss:List Str},(∀ x∈ss,x.length<=sizeLine)->IsL K F (ss.map V.str) (ss.map D.str)
 | [],_=>.nil
 | x::l,h=>.cons (.str (h x (List.mem_cons_self ..))) (isL_strs fun y hy=>h y (List.mem_cons_of_mem _ hy))
theorem pd_sortSet {p p2 pos2:Pos} (hK:C.K=X.K) (hc:X.calm=true) (hg:Gl X "sorted") (hm:X.mg "sorted"=none) (hv:bootBuiltins "sorted"=some (.builtin "sorted")) (hg2:Gl X "set") (hm2:X.mg "set"=none) (hv2:bootBuiltins "set"=some (.type "set")) (ha:PE X e (tE C own ma fa))
  (he:starEach [e] X.env=[(false,eval e X.env)]:=by exact star_one rfl) (he2:starEach [.Call (.Name "set" p2) [e] [] pos2] X.env=[(false,eval (.Call (.Name "set" p2) [e] [] pos2) X.env)]:=by exact star_one rfl) :
  PE X (.Call (.Name "sorted" p) [.Call (.Name "set" p2) [e] [] pos2] [] pos) (tE C own .fr (d1 sortSetD fa)):=by
 refine pe_to (pe_callB (cr_sorted hc) hg hm hv (pa_cons (pe_callTy (cr_set hK hc) hg2 hm2 hv2 (pa_cons ha pa_nil he) (by decide) (by decide) (by rw [he]; rfl) rfl) pa_nil he2) (by decide) (by decide) (by rw [he2]; rfl) rfl) fun σ H Q h=>?_
 refine tE_mono (one_arg (ma:=ma) h) fun x H1 ⟨x',F,dx,ex,sb,tx,po⟩=>?_
 cases ex
 unfold sortSetD at po
 cases es:seqStr dx with
 | none=>
  rw [es] at po
  exact po.elim
 | some ss=>
  rw [es] at po
  by_cases hl:ss.length < 64
  ·have po:PoV C .fr F H1 (if ss.length < 64 then .ok (.lst ((sortS (ss.foldl addS [])).map D.str)) else .bad) Q:=po
   rw [if_pos hl] at po
   refine ⟨x,F,dx,ss,rfl,sb,tx,es,by omega,fun hy q hq=>⟨q,_,rfl,upd_same,?_,fun l hl2=>?_⟩⟩
   ·have:=foldS_len ss []
    rw [List.length_nil] at this
    omega
   ·obtain ⟨s1,c1,f1⟩:=grow_fr (u:=setO X.prog X.w q (ss.foldl addS [])) sb hq
    obtain ⟨s2,c2,f2⟩:=grow_fr (u:=.lst ((sortS (ss.foldl addS [])).map V.str)) s1 hl2
    have hl1:H1 l=none:=by
     by_cases z:l=q
     ·rw [z] at hl2
      rw [upd_same] at hl2
      cases hl2
     ·rwa [upd_ne z] at hl2
    refine po _ _ _ s2 (c1.trans' c2) ⟨l,rfl,hl1,f2,_,upd_same,isL_strs fun y hy2=>hy y ?_⟩
    rcases foldS_mem ss [] ((sortS_perm _).mem_iff.mp hy2) with z | z
    ·cases z
    ·exact z
  ·have po:PoV C .fr F H1 (if ss.length < 64 then .ok (.lst ((sortS (ss.foldl addS [])).map D.str)) else .bad) Q:=po
   rw [if_neg hl] at po
   exact po.elim
end
@[simp] theorem ob_ok {α β:Type} {a:α} {k:α->Out β}:(Out.ok a).bind k=k a:=rfl
@[simp] theorem ob_exc {α β:Type} {c:Str} {o:Sl} {k:α->Out β}:(Out.exc c o:Out α).bind k=.exc c o:=rfl
@[simp] theorem ob_bad {α β:Type} {k:α->Out β}:(Out.bad:Out α).bind k=.bad:=rfl
@[simp] theorem pl_ok {α:Type} {a:α}:(Out.ok a).plain=.ok a:=rfl
@[simp] theorem pl_bad {α:Type}:(Out.bad:Out α).plain=.bad:=rfl
@[simp] theorem ob_ite {α β:Type} {c:Prop} [Decidable c] {a b:Out α} {k:α->Out β}:(if c then a else b).bind k=if c then a.bind k else b.bind k:=by split <;> rfl
@[simp] theorem pl_ite {α:Type} {c:Prop} [Decidable c] {a b:Out α}:(if c then a else b).plain=if c then a.plain else b.plain:=by split <;> rfl
noncomputable def bcase {α:Type} (d:D) (A B:Out α):Out α:=match d with
 | .bl b=>if b=true then A else B
 | _=>.bad
@[simp] theorem bcase_bl {α:Type} {b:Bool} {A B:Out α}:bcase (.bl b) A B=if b=true then A else B:=rfl
noncomputable def bval (p:D×Sl):Out (Bool×Sl):=match p.1 with
 | .bl b=>.ok (b,p.2)
 | _=>.bad
@[simp] theorem bval_bl {b:Bool} {ρ:Sl}:bval (.bl b,ρ)=.ok (b,ρ):=rfl
noncomputable def endD (ms:List PM):Out (Fl×Sl)->Out (D×List D)
 | .ok (.nx,ρ)=>.ok (.non,outsOf ρ 0 ms)
 | .ok (.rt d,ρ)=>.ok (d,outsOf ρ 0 ms)
 | .ok _=>.bad
 | .exc c ρ=>.exc c ((outsOf ρ 0 ms).map some)
 | .bad=>.bad
theorem runD_ap {N:List Str} {ms:List PM} {f:Sl->Out (Fl×Sl)} {ds:List D}:runD N ms f ds=endD ms (f (startD N ds)):=by
 unfold runD endD
 rfl
@[simp] theorem end_rt {ms:List PM} {d:D} {ρ:Sl}:endD ms (.ok (.rt d,ρ))=.ok (d,outsOf ρ 0 ms):=rfl
@[simp] theorem end_nx {ms:List PM} {ρ:Sl}:endD ms (.ok (.nx,ρ))=.ok (.non,outsOf ρ 0 ms):=rfl
@[simp] theorem end_exc {ms:List PM} {c:Str} {ρ:Sl}:endD ms (.exc c ρ)=.exc c ((outsOf ρ 0 ms).map some):=rfl
@[simp] theorem end_ite {ms:List PM} {c:Prop} [Decidable c] {a b:Out (Fl×Sl)}:endD ms (if c then a else b)=if c then endD ms a else endD ms b:=by split <;> rfl
noncomputable def callR (as:List AK) (ρ:Sl):Out (D×List D)->Out (D×Sl)
 | .ok q=>.ok (q.1,putA as q.2 ρ)
 | .exc c o=>.exc c (putA as (o.map (·.getD .non)) ρ)
 | .bad=>.bad
@[simp] theorem callR_ok {as:List AK} {ρ:Sl} {q:D×List D}:callR as ρ (.ok q)=.ok (q.1,putA as q.2 ρ):=rfl
@[simp] theorem callR_exc {as:List AK} {ρ:Sl} {c:Str} {o:Sl}:callR as ρ (.exc c o)=.exc c (putA as (o.map (·.getD .non)) ρ):=rfl
@[simp] theorem callR_ite {as:List AK} {ρ:Sl} {c:Prop} [Decidable c] {a b:Out (D×List D)}:callR as ρ (if c then a else b)=if c then callR as ρ a else callR as ρ b:=by split <;> rfl
variable {ρ:Sl}
@[simp] theorem dVar_ap {i:Nat}:dVar i ρ=match ρ[i]? with | some (some d)=>.ok (d,ρ) | _=>.bad:=rfl
@[simp] theorem dC_ap {d:D}:dC d ρ=.ok (d,ρ):=rfl
section
variable {g g':D->D->Out D} {g1:D->Out D} {fa fb fc f:Sl->Out (D×Sl)} {ft fu:Sl->Out (Bool×Sl)} {fr:Sl->Out (List D×Sl)} {fs ft1:Sl->Out (Fl×Sl)} {fi:Sl->Out (List D×Sl)} {n i:Nat} {as:List AK} {G:List D->Out (D×List D)}
@[simp] theorem d1_ap:d1 g1 fa ρ=(fa ρ).bind fun p=>(g1 p.1).plain.bind fun d=>.ok (d,p.2):=rfl
@[simp] theorem d2_ap:d2 g fa fb ρ=(fa ρ).bind fun p=>(fb p.2).bind fun q=>(g p.1 q.1).plain.bind fun d=>.ok (d,q.2):=rfl
@[simp] theorem dTru_ap:dTru f ρ=(f ρ).bind fun p=>(truD p.1).bind fun b=>.ok (b,p.2):=rfl
@[simp] theorem dBool_ap:dBool f ρ=(f ρ).bind bval:=rfl
@[simp] theorem dNot_ap:dNot ft ρ=(ft ρ).bind fun p=>.ok (!p.1,p.2):=rfl
@[simp] theorem dNotV_ap:dNotV f ρ=(dBool f ρ).bind fun p=>.ok (.bl (!p.1),p.2):=rfl
@[simp] theorem dAnd_ap:dAnd ft fu ρ=(ft ρ).bind fun p=>if p.1=true then fu p.2 else .ok (false,p.2):=rfl
@[simp] theorem dOr_ap:dOr ft fu ρ=(ft ρ).bind fun p=>if p.1=true then .ok (true,p.2) else fu p.2:=rfl
@[simp] theorem dAndV_ap:dAndV fa fb ρ=(fa ρ).bind fun p=>bcase p.1 (fb p.2) (.ok (.bl false,p.2)):=by
 unfold dAndV
 cases fa ρ with
 | ok p=>
  obtain ⟨d,r⟩:=p
  cases d <;> try rfl
  rename_i b
  cases b <;> rfl
 | exc c o=>rfl
 | bad=>rfl
@[simp] theorem dOrV_ap:dOrV fa fb ρ=(fa ρ).bind fun p=>bcase p.1 (.ok (.bl true,p.2)) (fb p.2):=by
 unfold dOrV
 cases fa ρ with
 | ok p=>
  obtain ⟨d,r⟩:=p
  cases d <;> try rfl
  rename_i b
  cases b <;> rfl
 | exc c o=>rfl
 | bad=>rfl
@[simp] theorem dIf_ap:dIf ft fa fb ρ=(ft ρ).bind fun p=>if p.1=true then fa p.2 else fb p.2:=rfl
@[simp] theorem dChain_ap:dChain g g' fa fb fc ρ=(fa ρ).bind fun p=>(fb p.2).bind fun q=>(g p.1 q.1).plain.bind fun z=>bcase z ((fc q.2).bind fun r=>(g' q.1 r.1).plain.bind fun d=>.ok (d,r.2)) (.ok (.bl false,q.2)):=by
 unfold dChain
 congr 1
 funext p
 congr 1
 funext q
 congr 1
 funext z
 cases z <;> try rfl
 rename_i b
 cases b <;> rfl
@[simp] theorem aNil_ap:aNil ρ=.ok ([],ρ):=rfl
@[simp] theorem aCons_ap:aCons fa fr ρ=(fa ρ).bind fun p=>(fr p.2).bind fun q=>.ok (p.1::q.1,q.2):=rfl
@[simp] theorem aSlot_ap:aSlot fr ρ=(fr ρ).bind fun q=>.ok (D.non::q.1,q.2):=rfl
@[simp] theorem dTup_ap:dTup fr ρ=(fr ρ).bind fun p=>if p.1.length<=sizeLine then .ok (.tup p.1,p.2) else .bad:=rfl
@[simp] theorem dLst_ap:dLst fr ρ=(fr ρ).bind fun p=>if p.1.length<=sizeLine then .ok (.lst p.1,p.2) else .bad:=rfl
@[simp] theorem sNext_ap:sNext ρ=.ok (.nx,ρ):=rfl
@[simp] theorem sSeq_ap:sSeq fs ft1 ρ=(fs ρ).bind fun p=>match p.1 with | .nx=>ft1 p.2 | _=>.ok p:=by
 show _=_
 unfold sSeq
 cases fs ρ with
 | ok p=>obtain ⟨fl,r⟩:=p; cases fl <;> rfl
 | exc c o=>rfl
 | bad=>rfl
@[simp] theorem sIf_ap:sIf ft fs ft1 ρ=(ft ρ).bind fun p=>if p.1=true then fs p.2 else ft1 p.2:=rfl
@[simp] theorem sDrop_ap:sDrop f ρ=(f ρ).bind fun p=>.ok (.nx,p.2):=rfl
@[simp] theorem sRet_ap:sRet f ρ=(f ρ).bind fun p=>.ok (.rt p.1,p.2):=rfl
@[simp] theorem sSet_ap:sSet i f ρ=(f ρ).bind fun p=>if i < p.2.length then .ok (.nx,p.2.set i (some p.1)) else .bad:=rfl
@[simp] theorem dCall_ap:dCall as G fr ρ=(fr ρ).bind fun p=>match fillA as p.1 p.2 with | some ds=>callR as p.2 (G ds) | none=>.bad:=rfl
@[simp] theorem iSeq_ap:iSeq f ρ=(f ρ).bind fun p=>(seqOf p.1).bind fun ds=>.ok (ds,p.2):=rfl
@[simp] theorem iAny_ap:iAny f ρ=(f ρ).bind fun p=>(seqOfA p.1).bind fun ds=>.ok (ds,p.2):=rfl
@[simp] theorem gNm_ap {d:D}:gNm i d ρ=if i < ρ.length then .ok (ρ.set i (some d)) else .bad:=rfl
@[simp] theorem sFor_ap {gg:D->Sl->Out Sl}:sFor fi gg fs ρ=(fi ρ).bind fun p=>forD gg fs p.1 p.2:=rfl
@[simp] theorem sAsg_ap {gg:D->Sl->Out Sl}:sAsg f gg ρ=(f ρ).bind fun p=>match gg p.1 p.2 with | .ok ρ'=>.ok (.nx,ρ') | _=>.bad:=rfl
@[simp] theorem mOwn_ap {gg:List D->D->Out (List D)}:mOwn i gg f ρ=if isLst ρ[i]?=true then (f ρ).bind fun p=>(match p.2[i]? with | some (some (.lst xs))=>(match gg xs p.1 with | .ok ys=>.ok (.non,p.2.set i (some (.lst ys))) | _=>.bad) | _=>.bad) else .bad:=rfl
@[simp] theorem ftT_ap:ftT ρ=.ok (true,ρ):=rfl
end
end L2.D2
namespace L2.D2
open PySem PySem.Spec PyProof.Rows
def CPow (i j:Int):Prop:=(0<=j/\j<=64)/\-4611686018427387904 < i/\i < 4611686018427387904
instance:∀ i j,Decidable (CPow i j):=fun i j=>inferInstanceAs (Decidable (_/\_))
section
variable {X:Cx} {C:Ct}
theorem op_pow:OpR X (binaryOp .Pow) (rI CPow fun i j=>.int (i ^ j.toNat)):=opI fun i j _ _ _ _ _ hc q=>by
 obtain ⟨⟨h0,h1⟩,h2,h3⟩:=hc
 exact pow_int_small h0 (by omega) (by omega) q
noncomputable def powD:D->D->Out D:=intD fun i j=>if CPow i j then .ok (.int (i ^ j.toNat)) else .bad
theorem od_pow:OpD X C .sh (binaryOp .Pow) powD:=op_int op_pow fun _ _ _=>.int _
end
noncomputable def joinD (sep:Str):D->Out D
 | .lst ds=>match strsD ds with
  | some ss=>if (ss.map (·.length)).sum+ss.length * sep.length<=16777216/\(Txt.join sep ss).length<=sizeLine then .ok (.str (Txt.join sep ss)) else .bad
  | none=>.bad
 | _=>.bad
section
variable {X:Cx} {C:Ct} {own:List Nat} {e:Expr} {fe:Sl->Out (D×Sl)} {m:Mo} {apos cpos:Pos} {sep:Str}
theorem mt_join:MtR X "str.join" (fun x vs H Q=>∃ (sep:Str) (a:Addr) (xs:List V) (ss:List Str),x=.str sep/\vs=[.ref a]/\SqL X.K H a xs/\(∀ us,Vals xs us->StrsAre us ss)/\(ss.map (·.length)).sum+ss.length * sep.length<=16777216/\Q (.str (Txt.join sep ss)) H):=by
 intro pins s σ H x vs v us Q I rx rv h
 obtain ⟨sep,a,xs,ss,rfl,rfl,hq,hb,hz,q⟩:=h
 obtain ⟨t,rfl⟩:=rx
 obtain ⟨u,rfl,ru⟩:=rv.one
 cases ru
 obtain ⟨its,r,pl,_⟩:=I.list hq
 obtain ⟨o,n,ho,hc,hd,hdt⟩:=pl
 exact join_list ⟨o,ho,hc,n,hdt⟩ (by simpa using hb its r) hz fun t' k=>⟨.str (Txt.join sep ss),H,I.tok _,⟨_,rfl⟩,q⟩
theorem pd_join {c1 c2} (hK:C.K=X.K) (he:PE X e (tE C own m fe))
  (hbase:attributeBase (.Constant (.str sep) c1 c2) "join" X.env (eval (.Constant (.str sep) c1 c2) X.env)=eval (.Constant (.str sep) c1 c2) X.env:=by rfl)
  (hfew:((backTo cpos (starEach [e] X.env)).all (fun x=>!x.1)&&(backToKw cpos (keywordEach [] X.env)).all (fun x=>x.1.isSome)
   && decide ([e].length+([]:List Keyword).length+(if ([]:List Keyword).isEmpty then 0 else 1) < 30))=true:=by exact star_few rfl)
  (hline:(apos.endLine == cpos.line)=true:=by rfl) (hs:starEach [e] X.env=[(false,eval e X.env)]:=by exact star_one rfl) :
  PE X (.Call (.Attribute (.Constant (.str sep) c1 c2) "join" apos) [e] [] cpos) (tE C own .sh (d1 (joinD sep) fe)):=by
 refine pe_to (pe_bm PySem.F.plainAttrs_str PySem.F.slot_str_join PySem.F.type_str_join mt_join pe_str (pa_cons he pa_nil hs) hbase hfew hline hs rfl) fun σ H Q h=>?_
 refine ⟨rfl,?_⟩
 obtain ⟨F,ρ,rp,h⟩:=tE_un (ma:=m) h
 refine ⟨F,ρ,rp,?_⟩
 cases q:fe ρ with
 | ok p=>
  rw [q] at h
  obtain ⟨d,ρ1⟩:=p
  intro v F1 H1 rp1 c1 mo1
  obtain ⟨F2,dx,sb,tx,po⟩:=h v F1 H1 rp1 c1 mo1
  cases dx <;> try exact po.elim
  rename_i ds
  unfold joinD at po
  cases q2:strsD ds with
  | none=>simp only [q2] at po; exact po.elim
  | some ss=>
   simp only [q2] at po
   by_cases hz:(ss.map (·.length)).sum+ss.length * sep.length<=16777216/\(Txt.join sep ss).length<=sizeLine
   ·rw [if_pos hz] at po
    obtain ⟨a,vs,rfl,hq,t⟩:=tx.lst sb
    have hq':SqL X.K H1 a vs:=by rw [<-hK]; exact hq
    exact ⟨sep,a,vs,ss,rfl,rfl,hq',fun us r=>(strs_of t r q2).1,hz.1,po _ F2 H1 sb .refl (.str hz.2)⟩
   ·rw [if_neg hz] at po
    exact po.elim
 | exc c=>rw [q] at h; exact h
 | bad=>rw [q] at h; exact h.elim
end
noncomputable def dM (k:D->Bool) (g:D->D->Out D) (fo fa:Sl->Out (D×Sl)):Sl->Out (D×Sl):=fun ρ=>(fo ρ).bind fun p=>if k p.1 then (fa p.2).bind fun q=>(g p.1 q.1).plain.bind fun d=>.ok (d,q.2) else .bad
section
variable {X:Cx} {C:Ct} {own:List Nat} {a b:Expr} {fa fb:Sl->Out (D×Sl)} {m ma mb:Mo} {pos:Pos}
theorem Po.imp {σ:St} {F H:Hp} {r:Out (D×Sl)} {Q R:VK} (h:Po C own m σ F H r Q) (i:∀ v H',Q v H'->R v H'):Po C own m σ F H r R:=by
 cases r with
 | ok p=>exact fun v F' H' rp c mo=>i v H' (h v F' H' rp c mo)
 | exc x=>exact h
 | bad=>exact h.elim
theorem tE_meth {k:D->Bool} {g:D->D->Out D} {σ:St} {H:Hp} {Q:VK} (hma:ma≠.any) (h:tE C own m (dM k g fa fb) σ H Q) :
  tE C own ma fa σ H fun x H1=>(∃ F dx,Same F H1/\TopIs C.K F H1 x dx/\k dx=true)/\tE C own mb fb σ H1 fun y H2=>∃ F dx dy,Same F H2/\TopIs C.K F H2 x dx/\TopIs C.K F H2 y dy/\PoV C m F H2 (g dx dy) Q:=by
 obtain ⟨F,ρ,rp,h⟩:=h
 refine ⟨F,ρ,rp,Po.bind h fun v F1 H1 d ρ1 rp1 c1 mo1 h1=>?_⟩
 cases hk:k d with
 | false=>simp only [hk] at h1; exact h1.elim
 | true=>
  simp only [hk,if_true] at h1
  exact ⟨⟨F1,d,rp1.sub,mo1.top,hk⟩,F1,ρ1,rp1,Po.bind h1 fun w F2 H2 e ρ2 rp2 c2 mo2 h2=>⟨F2,d,e,rp2.sub,(mo1.grow hma c2 fun x z=>(rp.OA_there z).1).top,mo2.top,PoV.of rp2 h2⟩⟩
def MtD (X:Cx) (C:Ct) (m:Mo) (id:String) (g:D->D->Out D):Prop:=
 MtR X id (fun x vs H Q=>∃ y F dx dy,vs=[y]/\Same F H/\TopIs C.K F H x dx/\TopIs C.K F H y dy/\PoV C m F H (g dx dy) Q)
end
noncomputable def aRaw (ca:Str->Addr):List Str->Sl->Out (List D×Sl)
 | []=>aNil
 | x::l=>aCons (dC (.raw (.ref (ca x)))) (aRaw ca l)
theorem aRaw_ap (ca:Str->Addr) (ρ:Sl):∀ l:List Str,aRaw ca l ρ=.ok (l.map fun x=>D.raw (.ref (ca x)),ρ)
 | []=>rfl
 | x::l=>by
  unfold aRaw aCons dC
  rw [Out.ok_bind,aRaw_ap ca ρ l]
  rfl
theorem atI_map {α β:Type} (f:α->β) (xs:List α) (i:Int):atI (xs.map f) i=(atI xs i).map f:=by
 unfold atI ixN
 rw [List.length_map]
 split
 ·split <;> simp
 ·split <;> simp
noncomputable def dPick (as:List AK) (fi:Sl->Out (D×Sl)) (gs:List (List D->Out (D×List D))) (fr:Sl->Out (List D×Sl)):Sl->Out (D×Sl):=fun ρ=>(fi ρ).bind fun p=>match p.1 with
 | .int i=>match atI gs i with
  | some G=>dCall as G fr p.2
  | none=>.bad
 | _=>.bad
def DsOk (P:Program) (w:World) (K:Frag) (mg:Str->Option Value) (base:Heap) (cv:Str->Value) (j:Nat) (ms:List PM) (mr:Mo):List Str->List (List D->Out (D×List D))->Prop
 | [],[]=>True
 | x::l,G::gs=>(∃ ps,DefOk P w K mg base cv j x ps ms mr G)/\DsOk P w K mg base cv j ms mr l gs
 | _,_=>False
theorem DsOk.len {P:Program} {w:World} {K:Frag} {mg:Str->Option Value} {base:Heap} {cv:Str->Value} {j:Nat} {ms:List PM} {mr:Mo}:∀ {l:List Str} {gs:List (List D->Out (D×List D))},DsOk P w K mg base cv j ms mr l gs->l.length=gs.length
 | [],[],_=>rfl
 | _::_,_::_,h=>congrArg (·+1) h.2.len
 | [],_::_,h=>h.elim
 | _::_,[],h=>h.elim
theorem DsOk.get {P:Program} {w:World} {K:Frag} {mg:Str->Option Value} {base:Heap} {cv:Str->Value} {j:Nat} {ms:List PM} {mr:Mo}:∀ {l:List Str} {gs:List (List D->Out (D×List D))},DsOk P w K mg base cv j ms mr l gs->∀ (n:Nat) (G:List D->Out (D×List D)),gs[n]?=some G->∃ x ps,l[n]?=some x/\DefOk P w K mg base cv j x ps ms mr G
 | [],[],_,n,G,e=>by simp at e
 | x::_,_::_,h,0,G,e=>by
  simp at e
  subst e
  obtain ⟨ps,q⟩:=h.1
  exact ⟨x,ps,rfl,q⟩
 | _::_,_::_,h,n+1,G,e=>h.2.get n G (by simpa using e)
 | [],_::_,h,_,_,_=>h.elim
 | _::_,[],h,_,_,_=>h.elim
theorem atI_at {α:Type} {xs:List α} {i:Int} {d:α} (h:atI xs i=some d):∃ n:Nat,xs[n]?=some d/\∀ {β:Type} (ys:List β),ys.length=xs.length->atI ys i=ys[n]?:=by
 unfold atI at h
 cases q:ixN xs.length i with
 | none=>rw [q] at h; cases h
 | some n=>
  rw [q] at h
  refine ⟨n,h,fun ys hl=>?_⟩
  unfold atI
  rw [hl,q]
  rfl
section
variable {X:Cx} {C:Ct} {own:List Nat} {as:List AK} {fr:Sl->Out (List D×Sl)} {mr:Mo} {e:Expr} {es:List Expr} {x:Str} {p pos:Pos} {ms:List PM} {k j:Nat} {cv:Str->Value} {fi:Sl->Out (D×Sl)} {ca:Str->Addr} {ns:List Str} {gs:List (List D->Out (D×List D))} {v sl:Expr}
theorem pd_fn {a:Addr} (hm:X.mg x=some (.ref a)) (hg:Gl X x) (hd:(x == ("__debug__":Str))=false:=by decide):PE X (.Name x pos) (tE C own .sh (dC (.raw (.ref a)))):=pd_glob (v:=.ref a) hg hm rfl (fun _=>.raw _) hd
theorem call_sub {env:Env} {args:List Expr} {M:Model} {A:Around} {E:Value->Shared->Prop} {s:Shared} {Q:Value->Shared->Prop}
  (h:wpAny M A (eval (.Subscript v sl p) env) (fun f s₁=>wpAny M A (callWith pos f [] (backTo pos (starEach args env)) (backToKw pos (keywordEach [] env))) Q E s₁) E s) :
  wpAny M A (eval (.Call (.Subscript v sl p) args [] pos) env) Q E s:=by
 have e:eval (.Call (.Subscript v sl p) args [] pos) env=(do
  callWith pos (<-eval (.Subscript v sl p) env) [] (backTo pos (starEach args env)) (backToKw pos (keywordEach [] env))):=rfl
 rw [e]
 exact wpAny_bind h
theorem pd_pick (DD:DsOk X.prog X.w X.K X.mg X.base cv j ms mr ns gs) (hm:∀ x∈ns,X.mg x=some (.ref (ca x))) (hz:ns.length<=sizeLine) (hr:Room k X.A) (hj:j<=k) (hx:Passes (CXk X.prog X.w) X C.E)
  (hf:PE X (.Subscript v sl p) (tE C own .sh (d2 ixD (dLst (aRaw ca ns)) fi))) (ha:PA X (e::es) (tAr C own as fr)) (hcv:C.cv=cv:=by rfl) (hK:C.K=X.K:=by rfl) (hms:ms=as.map msOf:=by rfl) (hs:∀ i∈slotsA as,i∈own:=by decide) (nd:(slotsA as).Nodup:=by decide) (hfr:frA as<=1:=by decide) (hio:∀ i∈C.ox,i∈own:=by exact sub_of rfl)
  (he:starEach (e::es) X.env=(false,eval e X.env)::starEach es X.env:=by exact star_cons rfl) (hpl:(backTo pos (starEach es X.env)).any (·.1)=false:=by exact star_any rfl) :
  PE X (.Call (.Subscript v sl p) (e::es) [] pos) (tE C own mr (dPick as fi gs fr)):=by
 subst hms hcv
 refine ⟨?_⟩
 intro pins s σ H Q I h
 obtain ⟨F,ρ,rp,h⟩:=h
 have ed:dLst (aRaw ca ns) ρ=.ok (.lst (ns.map fun x=>.raw (.ref (ca x))),ρ):=by
  unfold dLst
  rw [aRaw_ap,Out.ok_bind,if_pos (by rw [List.length_map]; exact hz)]
 unfold dPick at h
 cases q:fi ρ with
 | bad=>rw [q] at h; exact h.elim
 | exc c ρ1=>
  rw [q] at h
  refine call_sub (thn (hf pins s σ H (fun _ _=>False) I ⟨F,ρ,rp,?_⟩) fun _ _ ⟨_,_,_,_,z⟩=>z.elim)
  unfold d2
  rw [ed,Out.ok_bind]
  show Po C own .sh σ F H ((fi ρ).bind _) _
  rw [q]
  exact h
 | ok pr=>
  obtain ⟨d,ρ1⟩:=pr
  rw [q,Out.ok_bind] at h
  cases d <;> try exact h.elim
  rename_i i
  cases qg:atI gs i with
  | none=>simp only [qg] at h; exact h.elim
  | some G=>
   simp only [qg] at h
   obtain ⟨n,h1,h2⟩:=atI_at qg
   obtain ⟨x,ps,hx1,f,fd,FF,hmg,hk,hb⟩:=DD.get n G h1
   have hxm:=hm x (List.mem_of_getElem? hx1)
   obtain rfl:f=ca x:=by
    rw [hxm] at hmg
    cases hmg
    rfl
   have hat:atI (ns.map fun x=>(D.raw (.ref (ca x)))) i=some (.raw (.ref (ca x))):=by
    rw [atI_map,h2 ns DD.len,hx1]
    rfl
   refine call_sub (thn (hf pins s σ H (fun y H1=>y=.ref (ca x)/\tE C own mr (dCall as G fr) σ H1 Q) I ⟨F,ρ,rp,?_⟩) fun w s1 ⟨y,H1,I1,r1,⟨ey,h3⟩⟩=>?_)
   ·unfold d2
    rw [ed,Out.ok_bind]
    show Po C own .sh σ F H ((fi ρ).bind _) _
    rw [q,Out.ok_bind]
    show Po C own .sh σ F H ((ixD (.lst (ns.map fun x=>.raw (.ref (ca x)))) (.int i)).plain.bind _) _
    unfold ixD
    simp only [hat]
    intro y F' H' rp' c' mo
    refine ⟨?_,F',ρ1,rp',Po.shift h c'⟩
    have mo:Is C.K F' y (.raw (.ref (ca x))):=mo
    cases mo
    rfl
   ·subst ey
    cases r1
    have h4:=call_of hio hs nd hfr h3
    refine PySem.W.callWith_K (h₀:=X.base) I1.ok.mod.kin hk (thn (ha pos pins s1 σ H1 _ I1 h4) fun us s2 ⟨vs,H2,I2,r,q2⟩=>⟨I2.kIn,?_⟩) he hpl
    exact run_fn (FF.mono hj) hr hb .nil hx I2 r (by rw [<-hK]; exact q2)
end
theorem vals_rep {xs:List V} {us:List Value} (r:Vals xs us):∀ n:Nat,Vals (List.replicate n xs).flatten (List.replicate n us).flatten
 | 0=>.nil
 | n+1=>by
  rw [List.replicate_succ,List.replicate_succ,List.flatten_cons,List.flatten_cons]
  exact r.append (vals_rep r n)
theorem isL_rep {K:Frag} {F:Hp} {vs:List V} {ds:List D} (r:IsL K F vs ds):∀ n:Nat,IsL K F (List.replicate n vs).flatten (List.replicate n ds).flatten
 | 0=>.nil
 | n+1=>by
  rw [List.replicate_succ,List.replicate_succ,List.flatten_cons,List.flatten_cons]
  exact r.append (isL_rep r n)
theorem rep_len {α:Type} (l:List α):∀ n:Nat,(List.replicate n l).flatten.length=l.length * n
 | 0=>by simp
 | n+1=>by rw [List.replicate_succ,List.flatten_cons,List.length_append,rep_len l n,Nat.mul_succ,Nat.add_comm]
noncomputable def mulL:D->D->Out D
 | .lst ds,.int n=>if (0<=n/\n<=100000)/\ds.length * n.toNat<=1000000 then .ok (.lst (List.replicate n.toNat ds).flatten) else .bad
 | _,_=>.bad
section
variable {X:Cx} {C:Ct}
theorem od_mulL (hK:C.K=X.K):OpD X C .fr (binaryOp .Mult) mulL:=by
 intro pins s σ H x y v u Q I rx ry h
 obtain ⟨F,dx,dy,sb,tx,ty,po⟩:=h
 cases dx <;> try exact po.elim
 cases dy <;> try exact po.elim
 rename_i ds n
 unfold mulL at po
 by_cases hz:(0<=n/\n<=100000)/\ds.length * n.toNat<=1000000
 ·simp only [if_pos hz] at po
  obtain ⟨a,xs,rfl,p,il⟩:=tx.lst sb
  obtain rfl:=ty.int
  cases rx
  obtain ⟨t,rfl⟩:=ry
  rw [hK] at p
  obtain ⟨its,r,pl,_⟩:=I.list p
  have hlen:its.length=ds.length:=by rw [<-r.length,il.length]
  obtain ⟨⟨cls,d,data,sl⟩,k,ho,hc,hd,hdt⟩:=pl
  simp only at hc hd hdt
  subst hc hdt
  have hq:H s.heap.objs.size=none:=I.hok.fresh (Nat.le_refl _)
  obtain ⟨s2,c2,f2⟩:=grow_fr (u:=.lst (List.replicate n.toNat xs).flatten) sb hq
  have hw:(List.replicate n.toNat xs).flatten.length<=sizeLine:=by rw [rep_len,il.length,sizeLine_eq]; omega
  refine wpAny_binaryOp_repeat_ref (T := "list") (U := "int") (by decide) ⟨_,ho,rfl⟩ (fun s'=>typeIs_int s' n t) noFill_list_mul PySem.F.fills_int_mul PySem.F.slot_int_rmul repeat_list PySem.F.slot_int_index.lookup
   (call_meets PySem.F.slot_int_rmul (typeIs_int s n t) PySem.F.entry_int_rmul (PySem.F.args_int_rmul_2 _ _) (lm_int_rmul_list_any n t a its.toArray k d sl)
    ⟨ho,rfl,⟨_,ho,rfl⟩,call_meets PySem.F.slot_list_mul ⟨_,ho,rfl⟩ PySem.F.entry_list_mul (PySem.F.args_list_mul_2 _ _)
     (lm_list_mul_any a its.toArray k d sl n t (by simp [Builtin.List.listFitsIndex]; omega) (by rw [List.size_toArray,hlen]; omega) (by simp [Builtin.List.listTooLong,sizeLine]; rw [hlen]; omega))
     ⟨ho,?_⟩⟩)
  refine ⟨.ref s.heap.objs.size,_,I.laid (t':=s.toks) (o:=.lst (List.replicate n.toNat xs).flatten) (fun b o e=>Heap.get?_push_of_some _ e) (Nat.le_refl _) ⟨hw,(List.replicate n.toNat its).flatten,0,vals_rep r _,?_⟩,rfl,po _ _ _ s2 c2 ⟨_,rfl,hq,f2,_,upd_same,isL_rep il _⟩⟩
  rw [listMul_foldl_if]
  exact Heap.get?_push_size _ rfl
 ·simp only [if_neg hz] at po
  exact po.elim
end
theorem PoI.shift {C:Ct} {own:List Nat} {σ:St} {F H F1 H1:Hp} {r:Out (List D×Sl)} {R:It->Hp->Prop} (h:PoI C own σ F H r R) (c:Chg (OA own σ) F H F1 H1):PoI C own σ F1 H1 r R:=by
 cases r with
 | ok p=>exact fun J F' H' rp c' j=>h J F' H' rp (c.trans' c') j
 | exc x=>exact fun F' H' s io c'=>h F' H' s io (c.trans' c')
 | bad=>exact h.elim
def CRng (i j:Int):Prop:=(-(2 ^ 62)<=i/\i < 2 ^ 62)/\-(2 ^ 62)<=j/\j < 2 ^ 62
instance:∀ i j,Decidable (CRng i j):=fun i j=>inferInstanceAs (Decidable (_/\_))
noncomputable def iRange2 (fa fb:Sl->Out (D×Sl)):Sl->Out (List D×Sl):=fun ρ=>(fa ρ).bind fun p=>(fb p.2).bind fun q=>match p.1,q.1 with
 | .int i,.int j=>if CRng i j then .ok (rngL i (j - i).toNat,q.2) else .bad
 | _,_=>.bad
section
variable {X:Cx} {C:Ct} {own:List Nat} {a b e tg:Expr} {fa fb:Sl->Out (D×Sl)} {ma mb:Mo} {pos:Pos}
theorem pdi_range2 {p:Pos} (hg:Gl X "range") (hm:X.mg "range"=none) (ha:PE X a (tE C own .sh fa)) (hb:PE X b (tE C own mb fb)) (hs:starEach [a,b] X.env=[(false,eval a X.env),(false,eval b X.env)]:=by exact star_two rfl rfl) (hs2:starEach [b] X.env=[(false,eval b X.env)]:=by exact star_one rfl) :
  PI X tg (.Call (.Name "range" p) [a,b] [] pos) (tIt C own (iRange2 fa fb)):=by
 refine pi_to (pi_range2 hg hm (pa_cons ha (pa_cons hb pa_nil hs2) (by rw [hs,hs2])) hs hs2) fun σ H R ⟨F,ρ,rp,h⟩=>⟨F,ρ,rp,PoI.bindV h fun v F1 H1 d ρ1 rp1 c1 mo1 h1=>⟨F1,ρ1,rp1,PoI.bindV (h1.shift c1) fun w F2 H2 e ρ2 rp2 c2 mo2 h2=>?_⟩⟩
 have mo1:Is C.K F1 v d:=mo1
 cases d with
 | int i=>
  cases e with
  | int j=>
   cases mo1
   obtain rfl:=mo2.top.int
   have h2:PoI C own σ F1 H1 (if CRng i j then .ok (rngL i (j - i).toNat,ρ2) else .bad) R:=h2
   by_cases z:CRng i j
   ·rw [if_pos z] at h2
    exact ⟨i,j,rfl,⟨z.1.1,z.1.2,z.2.1,z.2.2⟩,h2 _ F2 H2 rp2 c2 itr_is⟩
   ·rw [if_neg z] at h2; exact h2.elim
  | _=>exact h2.elim
 | _=>exact h2.elim
end
mutual
def litD:Nat->Expr->Option D
 | 0,_=>none
 | n+1,e=>match e with
  | .Constant c _ _=>match c with
   | .none=>some .non
   | .bool b=>some (.bl b)
   | .int i=>some (.int i)
   | .str x=>if x.length<=sizeLine then some (.str x) else none
   | _=>none
  | .UnaryOp .USub (.Constant (.int i) _ _) _=>some (.int (-i))
  | .List es _=>(litL n es).bind fun ds=>if ds.length<=sizeLine then some (.lst ds) else none
  | .Tuple es _ _=>(litL n es).bind fun ds=>if ds.length<=sizeLine then some (.tup ds) else none
  | _=>none
def litL:Nat->List Expr->Option (List D)
 | _,[]=>some []
 | 0,_::_=>none
 | n+1,e::es=>(litD n e).bind fun d=>(litL n es).bind fun ds=>some (d::ds)
end
theorem all_vl {α:Type}:∀ l:List α,((l.map fun _=>AK.vl).all fun a=>decide (a=.vl))=true
 | []=>rfl
 | _::l=>by rw [List.map_cons,List.all_cons,all_vl l]; rfl
theorem lit_nstar {n:Nat} {e:Expr} {d:D} (h:litD n e=some d):nStar e=true:=by
 cases n with
 | zero=>cases h
 | succ n=>cases e <;> first | rfl | (simp [litD] at h)
section
variable {X:Cx} {C:Ct} {own:List Nat}
mutual
theorem pd_lit:∀ (n:Nat) {e:Expr} {d:D},litD n e=some d->PE X e (tE C own .sh (dC d))
 | 0,_,_,h=>by cases h
 | n+1,e,d,h=>by
  unfold litD at h
  split at h
  ·split at h
   ·cases h; exact pd_non
   ·cases h; exact pd_bl
   ·cases h; exact pd_int
   ·split at h
    ·rename_i hz
     cases h
     exact pd_str hz
    ·cases h
   ·cases h
  ·cases h
   exact pe_to (pd_un od_neg pd_int) fun σ H Q h=>h
  ·obtain ⟨ds,h1,h2⟩:=Option.bind_eq_some_iff.mp h
   split at h2
   ·rename_i hz
    cases h2
    have e2:dLst (fun ρ=>.ok (ds,ρ))=dC (.lst ds):=by
     funext ρ
     unfold dLst dC
     rw [Out.ok_bind,if_pos hz]
    rw [<-e2]
    exact pd_sh (pd_lst (pda_lit n h1) (all_vl _)) (by decide)
   ·cases h2
  ·obtain ⟨ds,h1,h2⟩:=Option.bind_eq_some_iff.mp h
   split at h2
   ·rename_i hz
    cases h2
    have e2:dTup (fun ρ=>.ok (ds,ρ))=dC (.tup ds):=by
     funext ρ
     unfold dTup dC
     rw [Out.ok_bind,if_pos hz]
    rw [<-e2]
    exact pd_tup (pda_lit n h1) (all_vl _)
   ·cases h2
  ·cases h
theorem pda_lit:∀ (n:Nat) {es:List Expr} {ds:List D},litL n es=some ds->PA X es (tAr C own (es.map fun _=>.vl) fun ρ=>.ok (ds,ρ))
 | 0,[],ds,h=>by
  cases h
  exact pda_nil
 | _+1,[],ds,h=>by
  cases h
  exact pda_nil
 | 0,_::_,ds,h=>by cases h
 | n+1,e::es,ds,h=>by
  unfold litL at h
  obtain ⟨d,h1,h⟩:=Option.bind_eq_some_iff.mp h
  obtain ⟨ds',h2,h⟩:=Option.bind_eq_some_iff.mp h
  cases h
  have e2:aCons (dC d) (fun ρ=>.ok (ds',ρ))=fun ρ=>.ok (d::ds',ρ):=rfl
  rw [<-e2]
  exact pda_cons (pd_lit n h1) (pda_lit n h2) (by decide) (star_cons (lit_nstar h1))
end
theorem pd_litL {es:List Expr} {ds:List D} {pos:Pos} (n:Nat) (h:litL n es=some ds):PE X (.List es pos) (tE C own .fr (dLst fun ρ=>.ok (ds,ρ))):=pd_lst (pda_lit n h) (all_vl _)
end
noncomputable def txI (i:Int):Str:=toString i
def CTx (i:Int):Prop:=i.natAbs.log2 < 1920/\(txI i).length<=sizeLine
instance:∀ i,Decidable (CTx i):=fun i=>inferInstanceAs (Decidable (_/\_))
noncomputable def strD:D->Out D
 | .int i=>if CTx i then .ok (.str (txI i)) else .bad
 | _=>.bad
section
variable {X:Cx} {C:Ct}
theorem cd_str:CallD X C .sh (.type "str") strD:=by
 intro pins s σ H xs us Q I r h
 obtain ⟨x,F,dx,rfl,sb,tx,po⟩:=h
 cases dx <;> try exact po.elim
 rename_i i
 have po:PoV C .sh F H (if CTx i then .ok (.str (txI i)) else .bad) Q:=po
 by_cases hc:CTx i
 ·rw [if_pos hc] at po
  cases tx.int
  exact call_str_int pins s σ H _ us Q I r ⟨i,rfl,hc.1,po _ F H sb .refl (.str hc.2)⟩
 ·rw [if_neg hc] at po
  exact po.elim
end
noncomputable def fmtS:D->Option Str
 | .str x=>some x
 | .int i=>if CTx i then some (txI i) else none
 | _=>none
noncomputable def kFmt (d:D):Bool:=(fmtS d).isSome
noncomputable def fstrD (a b:D):Out D:=match fmtS a,fmtS b with
 | some x,some y=>if (x++y).length<=sizeLine then .ok (.str (x++y)) else .bad
 | _,_=>.bad
inductive Fmt:V->Str->Prop
 | str {x:Str} (h:x.length<=sizeLine):Fmt (.str x) x
 | int {i:Int} (h:CTx i):Fmt (.int i) (txI i)
theorem Fmt.len {v:V} {x:Str} (h:Fmt v x):x.length<=sizeLine:=by
 cases h with
 | str h=>exact h
 | int h=>exact h.2
theorem str_nil_append (x:Str):Str.empty++x=x:=by
 apply Str.ext'
 show (#[]:Array Nat)++x.cps=x.cps
 simp
theorem fmt_of {K:Frag} {F H:Hp} {v:V} {d:D} {x:Str} (tx:TopIs K F H v d) (h:fmtS d=some x):Fmt v x:=by
 cases d <;> try (cases h; done)
 ·have h:(if CTx _ then some (txI _) else none)=some x:=h
  split at h
  ·cases h
   cases tx.int
   exact .int (by assumption)
  ·cases h
 ·cases h
  obtain ⟨rfl,hz⟩:=tx.str
  exact .str hz
section
variable {X:Cx} {C:Ct} {own:List Nat} {a b:Expr} {fa fb:Sl->Out (D×Sl)} {ma mb:Mo} {pos p1 p2:Pos}
theorem wp_fmt {pins:List (Addr×Obj)} {s:Shared} {σ:St} {H:Hp} {v:V} {u:Value} {x:Str} {Q:Value->Shared->Prop} (I:Inv X pins σ H s) (r:RelV v u) (f:Fmt v x) (h:∀ t k,Q (.str x t) { s with toks:=k }) :
  wpAny (model X.prog X.w) X.A (formatField u Str.empty) Q X.xe s:=by
 cases f with
 | str hz=>
  obtain ⟨t,rfl⟩:=r
  exact wpAny_formatField_str (h t s.toks) (h _ _) hz
 | int hc=>
  obtain ⟨t,rfl⟩:=r
  exact wpAny_formatField_int hc.1 (h _ _)
theorem pd_fstr2 (hK:C.K=X.K) (ha:PE X a (tE C own ma fa)) (hb:PE X b (tE C own mb fb)) (hma:ma≠.any:=by decide) :
  PE X (.JoinedStr [.FormattedValue a (-1) none p1,.FormattedValue b (-1) none p2] pos) (tE C own .sh (dM kFmt fstrD fa fb)):=by
 refine ⟨?_⟩
 intro pins s σ H Q I h
 have h:=tE_meth (ma:=ma) (mb:=mb) hma h
 refine wpAny_JoinedStr ?_
 refine wpAny_FormattedValue_plain (thn (ha pins s σ H _ I h) fun v s1 ⟨x,H1,I1,r1,q1⟩=>?_)
 obtain ⟨⟨F1,dx,sb1,tx1,hk⟩,q1⟩:=q1
 obtain ⟨sx,ex⟩:=Option.isSome_iff_exists.mp hk
 have f1:=fmt_of tx1 ex
 refine wp_fmt I1 r1 f1 fun t k=>⟨sx,t,rfl,by rw [str_nil_append]; exact f1.len,?_⟩
 rw [str_nil_append]
 refine wpAny_FormattedValue_plain (thn (hb pins _ σ H1 _ (I1.tok k) q1) fun u s2 ⟨y,H2,I2,r2,q2⟩=>?_)
 obtain ⟨F2,dx2,dy,sb2,tx2,ty,po⟩:=q2
 unfold fstrD at po
 cases e1:fmtS dx2 with
 | none=>simp only [e1] at po; exact po.elim
 | some x2=>
  cases e2:fmtS dy with
  | none=>simp only [e1,e2] at po; exact po.elim
  | some y2=>
   simp only [e1,e2] at po
   have f2:=fmt_of tx2 e1
   have f3:=fmt_of ty e2
   have hx:sx=x2:=by
    cases f1 <;> cases f2 <;> rfl
   subst hx
   by_cases hz:(sx++y2).length<=sizeLine
   ·rw [if_pos hz] at po
    refine wp_fmt I2 r2 f3 fun t' k'=>⟨y2,t',rfl,hz,hz,?_⟩
    exact ⟨.str (sx++y2),H2,(I2.tok k').tok _,⟨_,rfl⟩,po _ F2 H2 sb2 .refl (.str hz)⟩
   ·rw [if_neg hz] at po
    exact po.elim
end
end L2.D2
namespace PySem
open Builtin Builtin.Str
theorem L2wp_split {prog:Program} {w:World} {A:Around} {E:Value->Shared->Prop} {s:Shared} {x y:Str} {t u:Tok} {Q:Value->Shared->Prop} (hy:(y.length == 0)=false) (hx:x.length<=sizeLine) (hn:(Txt.split x y).length<=sizeLine)
  (hq:∀ (l:List (Str×Tok)) (k:Nat),l.map (·.1)=Txt.split x y->Q (.ref s.heap.objs.size) { s with toks:=k,heap:=s.heap.push { cls:=.type "list",data:=.seq (strValues l).toArray } }) :
  wpAny (model prog w) A (call (.builtin "str.split") [.str x t,.str y u]) Q E s:=by
 cases h1:(decide (x.length < y.length)||decide (Builtin.Str.strKind x < Builtin.Str.strKind y))
 ·cases hf:(occurrences x y 0 x.length (x.length+1)).isEmpty
  ·have e:Txt.split x y=partsBetween x (occurrences x y 0 x.length (x.length+1)) y.length:=(if_neg (ne_true_of_eq_false h1)).trans (if_neg (ne_true_of_eq_false hf))
   rw [e] at hn
   refine call_meets F.slot_str_split (typeIs_str _ _ _) F.entry_str_split (F.args_str_split_2 _ _) (meets_str_split_sep x y t u h1 hy hf hx hn) ?_
   show wants Q E _ { s with toks:=_,heap:=s.heap.push { cls:=.type "list",data:=.seq (strsFrom s.toks (partsBetween x (occurrences x y 0 x.length (x.length+1)) y.length)).toArray } }
   rw [strsFrom_eq]
   exact hq (numbered s.toks _) _ ((numbered_texts _ _).trans e.symm)
  ·exact call_meets F.slot_str_split (typeIs_str _ _ _) F.entry_str_split (F.args_str_split_2 _ _) (meets_str_split_not_found x y t u h1 hy hf) (hq [(x,t)] s.toks ((if_neg (ne_true_of_eq_false h1)).trans (if_pos hf)).symm)
 ·exact call_meets F.slot_str_split (typeIs_str _ _ _) F.entry_str_split (F.args_str_split_2 _ _) (meets_str_split_cannot_occur x y t u h1) (hq [(x,t)] s.toks (if_pos h1).symm)
end PySem
namespace L2.D2
open PySem PySem.Spec PyProof.Rows
def CSpl (x y:Str):Prop:=(y.length == 0)=false/\(Txt.split x y).length<=sizeLine/\∀ z∈Txt.split x y,z.length<=sizeLine
instance:∀ x y,Decidable (CSpl x y):=fun x y=>inferInstanceAs (Decidable (_/\_))
noncomputable def splitD:D->D->Out D
 | .str x,.str y=>if CSpl x y then .ok (.lst ((Txt.split x y).map D.str)) else .bad
 | _,_=>.bad
noncomputable def kStr:D->Bool
 | .str _=>true
 | _=>false
section
variable {X:Cx} {C:Ct} {own:List Nat} {a b:Expr} {fa fb:Sl->Out (D×Sl)} {m ma mb:Mo} {pos:Pos}
theorem md_split:MtD X C .fr "str.split" splitD:=by
 intro pins s σ H x vs v us Q I rx rv h
 obtain ⟨y,F,dx,dy,rfl,sb,tx,ty,po⟩:=h
 obtain ⟨u,rfl,ru⟩:=rv.one
 cases dx <;> try exact po.elim
 rename_i sx
 cases dy <;> try exact po.elim
 rename_i sy
 obtain ⟨rfl,hzx⟩:=tx.str
 obtain ⟨rfl,hzy⟩:=ty.str
 obtain ⟨t,rfl⟩:=rx
 obtain ⟨t',rfl⟩:=ru
 have po:PoV C .fr F H (if CSpl sx sy then .ok (.lst ((Txt.split sx sy).map D.str)) else .bad) Q:=po
 by_cases hc:CSpl sx sy
 ·rw [if_pos hc] at po
  refine L2wp_split hc.1 hzx hc.2.1 fun l k e=>?_
  have hq:H s.heap.objs.size=none:=I.hok.fresh (Nat.le_refl _)
  obtain ⟨s2,c2,f2⟩:=grow_fr (u:=.lst ((Txt.split sx sy).map V.str)) sb hq
  have st:=strsAre_of_values l
  rw [e] at st
  exact ⟨.ref s.heap.objs.size,_,I.laid (t':=k) (o:=.lst ((Txt.split sx sy).map V.str)) (fun b o hb=>Heap.get?_push_of_some _ hb) (Nat.le_refl _) ⟨by rw [List.length_map]; exact hc.2.1,strValues l,0,vals_strs st,Heap.get?_push_size _ rfl⟩,rfl,po _ _ _ s2 c2 ⟨_,rfl,hq,f2,_,upd_same,isL_strs hc.2.2⟩⟩
 ·rw [if_neg hc] at po
  exact po.elim
theorem pd_methS {name:Str} {id:String} {g:D->D->Out D} {apos cpos:Pos} (slot:Slot "str" name id) (hty:typeOf (.builtin id)=pure (.type "method_descriptor")) (hm:MtD X C m id g) (hK:C.K=X.K)
  (ha:PE X a (tE C own ma fa)) (hb:PE X b (tE C own mb fb)) (hma:ma≠.any:=by decide)
  (hbase:attributeBase a name X.env (eval a X.env)=eval a X.env:=by rfl)
  (hfew:((backTo cpos (starEach [b] X.env)).all (fun x=>!x.1)&&(backToKw cpos (keywordEach [] X.env)).all (fun x=>x.1.isSome)
   && decide ([b].length+([]:List Keyword).length+(if ([]:List Keyword).isEmpty then 0 else 1) < 30))=true:=by exact star_few rfl)
  (hline:(apos.endLine == cpos.line)=true:=by rfl) (hs:starEach [b] X.env=[(false,eval b X.env)]:=by exact star_one rfl) :
  PE X (.Call (.Attribute a name apos) [b] [] cpos) (tE C own m (dM kStr g fa fb)):=by
 refine pe_to (pe_bm PySem.F.plainAttrs_str slot hty hm ha (pa_cons hb pa_nil hs) hbase hfew hline hs rfl) fun σ H Q h=>?_
 obtain ⟨F,ρ,rp,h⟩:=tE_meth (ma:=ma) (mb:=mb) hma h
 refine ⟨F,ρ,rp,Po.imp h fun x H1 h1=>?_⟩
 obtain ⟨⟨F1,dx,sb,tx,hk⟩,h2⟩:=h1
 refine ⟨?_,?_⟩
 ·cases dx <;> try (cases hk; done)
  obtain ⟨rfl,hz⟩:=tx.str
  rfl
 ·obtain ⟨F2,ρ2,rp2,h2⟩:=h2
  exact ⟨F2,ρ2,rp2,Po.imp h2 fun y H2 q=>⟨y,q.choose,q.choose_spec.choose,q.choose_spec.choose_spec.choose,rfl,q.choose_spec.choose_spec.choose_spec⟩⟩
end
end L2.D2
set_option maxHeartbeats 4000000
namespace Kx
open PySem PySem.Spec PyProof.Rows L2 L2.D2
noncomputable def top (i:Nat):Stmt:=PySem.Challenge.pw_lookwords_k26_whole_worths_written.main.body.getD i (.Pass ⟨0,0,0,0⟩)
noncomputable def CS:List Str:=["NoWords", "NoLook", "NoNumbers", "NoRoom", "NoWord", "NoWorths", "Never", "Full", "Known", "NoPlace", "NoLetters", "NoText", "Nothing"]
noncomputable def FS:List Str:=["read_worths", "worths_text"]
structure Zt (K:Frag) (mg:Str->Option Value) (cv:Str->Value) (ca:Str->Addr):Prop where
 xs:Xs K cv ca CS "WordError"
 mref:∀ c∈CS,mg c=some (.ref (ca c))
 xin:∀ c∈CS,PySem.W.excIn K (ca c) bmV "ValueError.__new__"=true
 fref:∀ x∈FS,mg x=some (.ref (ca x))
 m_WordError:mg "WordError"=some (cv "WordError")
 z_ValueError:mg "ValueError"=none
 z_all:mg "all"=none
 z_bool:mg "bool"=none
 z_int:mg "int"=none
 z_isinstance:mg "isinstance"=none
 z_len:mg "len"=none
 z_list:mg "list"=none
 z_range:mg "range"=none
 z_set:mg "set"=none
 z_sorted:mg "sorted"=none
 z_str:mg "str"=none
 z_tuple:mg "tuple"=none
 c_MOST_ROOM:∃ t,mg "MOST_ROOM"=some (.int 99 t)
theorem bt_ValueError:bootBuiltins "ValueError"=some (.type "ValueError"):=by decide +kernel
theorem bt_all:bootBuiltins "all"=some (.builtin "all"):=by decide +kernel
theorem bt_bool:bootBuiltins "bool"=some (.type "bool"):=by decide +kernel
theorem bt_int:bootBuiltins "int"=some (.type "int"):=by decide +kernel
theorem bt_isinstance:bootBuiltins "isinstance"=some (.builtin "isinstance"):=by decide +kernel
theorem bt_len:bootBuiltins "len"=some (.builtin "len"):=by decide +kernel
theorem bt_list:bootBuiltins "list"=some (.type "list"):=by decide +kernel
theorem bt_set:bootBuiltins "set"=some (.type "set"):=by decide +kernel
theorem bt_sorted:bootBuiltins "sorted"=some (.builtin "sorted"):=by decide +kernel
theorem bt_str:bootBuiltins "str"=some (.type "str"):=by decide +kernel
theorem bt_tuple:bootBuiltins "tuple"=some (.type "tuple"):=by decide +kernel
instance {α:Type}:Inhabited (Out α):=⟨.bad⟩
section
variable {P:Program} {w:World} {K:Frag} {mg:Str->Option Value} {base:Heap} {cv:Str->Value} {ca:Str->Addr}
abbrev s_is_between:Stmt:=top 17
abbrev N_is_between:List Str:=["thing", "least", "most"]
theorem sc_is_between:FnScope N_is_between ["thing", "least", "most"] (defScope s_is_between):=⟨rfl,rfl,rfl,by decide +kernel,rfl,by decide +kernel,by decide +kernel⟩
noncomputable def f_is_between:Sl->Out (Fl×Sl):=(sSeq (sIf (dOr (dNot (dTru (d1 (isTD "int") (dVar 0)))) (dTru (d1 (isTD "bool") (dVar 0)))) (sRet (dC (.bl false))) sNext)
  (sRet (dChain leD leD (dVar 1) (dVar 0) (dVar 2))))
noncomputable abbrev g_is_between:List D->Out (D×List D):=runD N_is_between [.val,.val,.val] (f_is_between)
abbrev Ok_is_between P w K mg base cv:=DefOk P w K mg base cv 1 "is_between" ["thing", "least", "most"] [.val,.val,.val] .sh (g_is_between)
theorem mk_is_between (Z:Zt K mg cv ca) (T:Text K mg "is_between" s_is_between ["thing", "least", "most"]):Ok_is_between P w K mg base cv:=
 def_ok (k:=0) (own':=[]) (fb:=f_is_between) T sc_is_between fun cdv f A outer s H E hr=>(pds_cons (pds_if (PW.pt (pdw_or (pdt_not (pdt_val rfl (pd_isT rfl rfl Z.z_isinstance bt_isinstance rfl Z.z_int bt_int (pd_var (i:=0) rfl (Or.inl rfl) (by decide))) (fun _=>rfl))) (pdw_one (pdt_val rfl (pd_isT rfl rfl Z.z_isinstance bt_isinstance rfl Z.z_bool bt_bool (pd_var (i:=0) rfl (Or.inl rfl) (by decide))) (fun _=>rfl))))) (pds_one (pds_retS pd_bl)) pds_nil)
  (pds_one (pds_retS (pd_chain od_le od_le (pd_var (i:=1) rfl (Or.inl rfl) (by decide)) (pd_var (i:=0) rfl (Or.inl rfl) (by decide)) (pd_var (i:=2) rfl (Or.inl rfl) (by decide))))))
abbrev s_check_room:Stmt:=top 21
abbrev N_check_room:List Str:=["thing"]
theorem sc_check_room:FnScope N_check_room ["thing"] (defScope s_check_room):=⟨rfl,rfl,rfl,by decide +kernel,rfl,by decide +kernel,by decide +kernel⟩
noncomputable def f_check_room:Sl->Out (Fl×Sl):=(sIf (dNot (dTru (dCall [.vl,.vl,.vl] g_is_between (aCons (dVar 0) (aCons (dC (.int 1)) (aCons (dC (.int 99)) aNil)))))) (sRaiseD "NoRoom" (aCons (dC (.str "a room is a whole number from 1 to 99")) aNil)) sNext)
noncomputable abbrev g_check_room:List D->Out (D×List D):=runD N_check_room [.val] (f_check_room)
abbrev Ok_check_room P w K mg base cv:=DefOk P w K mg base cv 2 "check_room" ["thing"] [.val] .sh (g_check_room)
theorem mk_check_room (Z:Zt K mg cv ca) (T:Text K mg "check_room" s_check_room ["thing"]) (ok_is_between:Ok_is_between P w K mg base cv):Ok_check_room P w K mg base cv:=
 def_ok (k:=1) (own':=[]) (fb:=f_check_room) T sc_check_room fun cdv f A outer s H E hr=>(pds_one (pds_if (pdt_not (pdt_val rfl (pd_callN ok_is_between hr (by decide) passK rfl (pda_cons (pd_var (i:=0) rfl (Or.inl rfl) (by decide)) (pda_cons pd_int (pda_cons (pd_const Z.c_MOST_ROOM rfl) pda_nil)))) (fun _=>rfl))) (pds_one (pds_raise rfl (throwC rfl) rfl rfl (Z.mref "NoRoom" (by decide +kernel)) (Z.xs.val "NoRoom" (by decide +kernel)) (Z.xin "NoRoom" (by decide +kernel)) (pda_cons pd_str pda_nil))) pds_nil))
abbrev s_is_letter:Stmt:=top 18
abbrev N_is_letter:List Str:=["thing"]
theorem sc_is_letter:FnScope N_is_letter ["thing"] (defScope s_is_letter):=⟨rfl,rfl,rfl,by decide +kernel,rfl,by decide +kernel,by decide +kernel⟩
noncomputable def f_is_letter:Sl->Out (Fl×Sl):=(sRet (dAndV (d1 (isTD "str") (dVar 0)) (dAndV (d2 eqD (d1 lenD (dVar 0)) (dC (.int 1))) (dChain leD leD (dC (.str "a")) (dVar 0) (dC (.str "z"))))))
noncomputable abbrev g_is_letter:List D->Out (D×List D):=runD N_is_letter [.val] (f_is_letter)
abbrev Ok_is_letter P w K mg base cv:=DefOk P w K mg base cv 1 "is_letter" ["thing"] [.val] .sh (g_is_letter)
theorem mk_is_letter (Z:Zt K mg cv ca) (T:Text K mg "is_letter" s_is_letter ["thing"]):Ok_is_letter P w K mg base cv:=
 def_ok (k:=0) (own':=[]) (fb:=f_is_letter) T sc_is_letter fun cdv f A outer s H E hr=>(pds_one (pds_retS (pd_and (pd_isT rfl rfl Z.z_isinstance bt_isinstance rfl Z.z_str bt_str (pd_var (i:=0) rfl (Or.inl rfl) (by decide))) (pd_and (pd_cmp (od_eq rfl hr.units) (pd_callB (cd_len rfl) rfl Z.z_len bt_len (pd_var (i:=0) rfl (Or.inl rfl) (by decide))) pd_int) (pd_one (pd_chain od_le od_le pd_str (pd_var (i:=0) rfl (Or.inl rfl) (by decide)) pd_str))))))
abbrev s_is_worth:Stmt:=top 19
abbrev N_is_worth:List Str:=["thing", "room"]
theorem sc_is_worth:FnScope N_is_worth ["thing", "room"] (defScope s_is_worth):=⟨rfl,rfl,rfl,by decide +kernel,rfl,by decide +kernel,by decide +kernel⟩
noncomputable def f_is_worth:Sl->Out (Fl×Sl):=(sSeq (sIf (dOr (dNot (dTru (d1 (isTD "tuple") (dVar 0)))) (dBool (d2 neD (d1 lenD (dVar 0)) (dC (.int 2))))) (sRet (dC (.bl false))) sNext)
  (sRet (dAndV (dCall [.vl] g_is_letter (aCons (d2 ixD (dVar 0) (dC (.int 0))) aNil)) (dCall [.vl,.vl,.vl] g_is_between (aCons (d2 ixD (dVar 0) (dC (.int 1))) (aCons (dC (.int 0)) (aCons (d2 subD (dVar 1) (dC (.int 1))) aNil)))))))
noncomputable abbrev g_is_worth:List D->Out (D×List D):=runD N_is_worth [.val,.val] (f_is_worth)
abbrev Ok_is_worth P w K mg base cv:=DefOk P w K mg base cv 2 "is_worth" ["thing", "room"] [.val,.val] .sh (g_is_worth)
theorem mk_is_worth (Z:Zt K mg cv ca) (T:Text K mg "is_worth" s_is_worth ["thing", "room"]) (ok_is_between:Ok_is_between P w K mg base cv) (ok_is_letter:Ok_is_letter P w K mg base cv):Ok_is_worth P w K mg base cv:=
 def_ok (k:=1) (own':=[]) (fb:=f_is_worth) T sc_is_worth fun cdv f A outer s H E hr=>(pds_cons (pds_if (PW.pt (pdw_or (pdt_not (pdt_val rfl (pd_isT rfl rfl Z.z_isinstance bt_isinstance rfl Z.z_tuple bt_tuple (pd_var (i:=0) rfl (Or.inl rfl) (by decide))) (fun _=>rfl))) (pdw_one (pdt_cmp (od_ne rfl hr.units) (pd_callB (cd_len rfl) rfl Z.z_len bt_len (pd_var (i:=0) rfl (Or.inl rfl) (by decide))) pd_int)))) (pds_one (pds_retS pd_bl)) pds_nil)
  (pds_one (pds_retS (pd_and (pd_callN ok_is_letter hr (by decide) passK rfl (pda_cons (pd_ix rfl hr.units (pd_var (i:=0) rfl (Or.inl rfl) (by decide)) pd_int (fun _ _=>rfl)) pda_nil)) (pd_one (pd_callN ok_is_between hr (by decide) passK rfl (pda_cons (pd_ix rfl hr.units (pd_var (i:=0) rfl (Or.inl rfl) (by decide)) pd_int (fun _ _=>rfl)) (pda_cons pd_int (pda_cons (pd_op od_sub (pd_var (i:=1) rfl (Or.inl rfl) (by decide)) pd_int) pda_nil)))))))))
abbrev s_is_worths:Stmt:=top 20
abbrev N_is_worths:List Str:=["thing", "room", "letters"]
theorem sc_is_worths:FnScope N_is_worths ["thing", "room"] (defScope s_is_worths):=⟨rfl,rfl,rfl,by decide +kernel,rfl,by decide +kernel,by decide +kernel⟩
noncomputable def f_is_worths:Sl->Out (Fl×Sl):=(sSeq (sIf (dOr (dNot (dTru (d1 (isTD "tuple") (dVar 0)))) (dNot (dTru (d1 allD (dComp [] 1 [1] (iAny (dVar 0)) (gNm 0) ftT (dCall [.vl,.vl] g_is_worth (aCons (dVar 0) (aCons (dVar 1) aNil)))))))) (sRet (dC (.bl false))) sNext)
  (sSeq (sSet 2 (dComp [] 1 [] (iAny (dVar 0)) (gNm 0) ftT (d2 ixD (dVar 0) (dC (.int 0)))))
  (sRet (d2 eqD (dVar 2) (d1 sortSetD (dVar 2))))))
noncomputable abbrev g_is_worths:List D->Out (D×List D):=runD N_is_worths [.val,.val] (f_is_worths)
abbrev Ok_is_worths P w K mg base cv:=DefOk P w K mg base cv 3 "is_worths" ["thing", "room"] [.val,.val] .sh (g_is_worths)
theorem mk_is_worths (Z:Zt K mg cv ca) (T:Text K mg "is_worths" s_is_worths ["thing", "room"]) (ok_is_worth:Ok_is_worth P w K mg base cv):Ok_is_worths P w K mg base cv:=
 def_ok (k:=2) (own':=[]) (fb:=f_is_worths) T sc_is_worths fun cdv f A outer s H E hr=>(pds_cons (pds_if (PW.pt (pdw_or (pdt_not (pdt_val rfl (pd_isT rfl rfl Z.z_isinstance bt_isinstance rfl Z.z_tuple bt_tuple (pd_var (i:=0) rfl (Or.inl rfl) (by decide))) (fun _=>rfl))) (pdw_one (pdt_not (pdt_val rfl (pd_callB (cd_all rfl rfl) rfl Z.z_all bt_all (pd_comp (N:=["part", "room"]) (nt:=1) (cap:=[1]) rfl (sc_of (names:=(defScope s_is_worths).names) rfl (by decide +kernel)) (cap_of (names:=(defScope s_is_worths).names) (N:=N_is_worths) rfl rfl (by decide +kernel)) (pdi_any rfl (pd_var (i:=0) rfl (Or.inl rfl) (by decide))) (fun fp L s1 H1=>(pdg_name (i:=0) (show List.Nodup (["part", "room"]:List Str) from by decide +kernel) rfl (Or.inl rfl))) (fun fp L s1 H1=>pdts_nil) (fun fp L s1 H1=>(pd_callN ok_is_worth hr (by decide) passF rfl (pda_cons (pd_var (i:=0) rfl (Or.inl rfl) (by decide)) (pda_cons (pd_var (i:=1) rfl (by first | exact Or.inr (Or.inr rfl) | exact Or.inr (Or.inl rfl)) (by decide)) pda_nil)))))) (fun _=>rfl)))))) (pds_one (pds_retS pd_bl)) pds_nil)
  (pds_cons (pds_setC (N:=["part"]) (nt:=1) (cap:=[]) sc_is_worths.nd (i:=2) rfl (Or.inl rfl) rfl (sc_of (names:=(defScope s_is_worths).names) rfl (by decide +kernel)) (cap_of (names:=(defScope s_is_worths).names) (N:=N_is_worths) rfl rfl (by decide +kernel)) (pdi_any rfl (pd_var (i:=0) rfl (Or.inl rfl) (by decide))) (fun fp L s1 H1=>(pdg_name (i:=0) (show List.Nodup (["part"]:List Str) from by decide +kernel) rfl (Or.inl rfl))) (fun fp L s1 H1=>pdts_nil) (fun fp L s1 H1=>(pd_ix rfl hr.units (pd_var (i:=0) rfl (Or.inl rfl) (by decide)) pd_int (fun _ _=>rfl))))
  (pss_drop [2] (pds_one (pds_retS (pd_cmp (od_eq rfl hr.units) (pd_var (i:=2) rfl (Or.inl rfl) (by decide)) (pd_sortSet rfl rfl rfl Z.z_sorted bt_sorted rfl Z.z_set bt_set (pd_var (i:=2) rfl (Or.inl rfl) (by decide)))))))))
abbrev s_check_worths:Stmt:=top 22
abbrev N_check_worths:List Str:=["thing", "room"]
theorem sc_check_worths:FnScope N_check_worths ["thing", "room"] (defScope s_check_worths):=⟨rfl,rfl,rfl,by decide +kernel,rfl,by decide +kernel,by decide +kernel⟩
noncomputable def f_check_worths:Sl->Out (Fl×Sl):=(sIf (dNot (dTru (dCall [.vl,.vl] g_is_worths (aCons (dVar 0) (aCons (dVar 1) aNil))))) (sRaiseD "NoWorths" (aCons (dC (.str "worths are a rising tuple of unlike letters, each with a number within the room")) aNil)) sNext)
noncomputable abbrev g_check_worths:List D->Out (D×List D):=runD N_check_worths [.val,.val] (f_check_worths)
abbrev Ok_check_worths P w K mg base cv:=DefOk P w K mg base cv 4 "check_worths" ["thing", "room"] [.val,.val] .sh (g_check_worths)
theorem mk_check_worths (Z:Zt K mg cv ca) (T:Text K mg "check_worths" s_check_worths ["thing", "room"]) (ok_is_worths:Ok_is_worths P w K mg base cv):Ok_check_worths P w K mg base cv:=
 def_ok (k:=3) (own':=[]) (fb:=f_check_worths) T sc_check_worths fun cdv f A outer s H E hr=>(pds_one (pds_if (pdt_not (pdt_val rfl (pd_callN ok_is_worths hr (by decide) passK rfl (pda_cons (pd_var (i:=0) rfl (Or.inl rfl) (by decide)) (pda_cons (pd_var (i:=1) rfl (Or.inl rfl) (by decide)) pda_nil))) (fun _=>rfl))) (pds_one (pds_raise rfl (throwC rfl) rfl rfl (Z.mref "NoWorths" (by decide +kernel)) (Z.xs.val "NoWorths" (by decide +kernel)) (Z.xin "NoWorths" (by decide +kernel)) (pda_cons pd_str pda_nil))) pds_nil))
abbrev s_worths_text:Stmt:=top 26
abbrev N_worths_text:List Str:=["worths", "room"]
theorem sc_worths_text:FnScope N_worths_text ["worths", "room"] (defScope s_worths_text):=⟨rfl,rfl,rfl,by decide +kernel,rfl,by decide +kernel,by decide +kernel⟩
noncomputable def f_worths_text:Sl->Out (Fl×Sl):=(sSeq (sDrop (dCall [.vl] g_check_room (aCons (dVar 1) aNil)))
  (sSeq (sDrop (dCall [.vl,.vl] g_check_worths (aCons (dVar 0) (aCons (dVar 1) aNil))))
  (sRet (d1 (joinD " ") (dComp [] 2 [] (iAny (dVar 0)) (gTupD 2 (gConsD (gNm 0) (gConsD (gNm 1) gNilD))) ftT (dM kFmt fstrD (dVar 0) (dVar 1)))))))
noncomputable abbrev g_worths_text:List D->Out (D×List D):=runD N_worths_text [.val,.val] (f_worths_text)
abbrev Ok_worths_text P w K mg base cv:=DefOk P w K mg base cv 5 "worths_text" ["worths", "room"] [.val,.val] .sh (g_worths_text)
theorem mk_worths_text (Z:Zt K mg cv ca) (T:Text K mg "worths_text" s_worths_text ["worths", "room"]) (ok_check_room:Ok_check_room P w K mg base cv) (ok_check_worths:Ok_check_worths P w K mg base cv):Ok_worths_text P w K mg base cv:=
 def_ok (k:=4) (own':=[]) (fb:=f_worths_text) T sc_worths_text fun cdv f A outer s H E hr=>(pds_cons (pds_expr (pd_callN ok_check_room hr (by decide) passK rfl (pda_cons (pd_var (i:=1) rfl (Or.inl rfl) (by decide)) pda_nil)))
  (pds_cons (pds_expr (pd_callN ok_check_worths hr (by decide) passK rfl (pda_cons (pd_var (i:=0) rfl (Or.inl rfl) (by decide)) (pda_cons (pd_var (i:=1) rfl (Or.inl rfl) (by decide)) pda_nil))))
  (pds_one (pds_retS (pd_join rfl (pd_comp (N:=["letter", "number"]) (nt:=2) (cap:=[]) rfl (sc_of (names:=(defScope s_worths_text).names) rfl (by decide +kernel)) (cap_of (names:=(defScope s_worths_text).names) (N:=N_worths_text) rfl rfl (by decide +kernel)) (pdi_any rfl (pd_var (i:=0) rfl (Or.inl rfl) (by decide))) (fun fp L s1 H1=>(pdg_tup rfl rfl (pdgs_cons (pdg_name (i:=0) (show List.Nodup (["letter", "number"]:List Str) from by decide +kernel) rfl (Or.inl rfl)) (pdgs_cons (pdg_name (i:=1) (show List.Nodup (["letter", "number"]:List Str) from by decide +kernel) rfl (Or.inl rfl)) pdgs_nil)))) (fun fp L s1 H1=>pdts_nil) (fun fp L s1 H1=>(pd_fstr2 rfl (pd_var (i:=0) rfl (Or.inl rfl) (by decide)) (pd_var (i:=1) rfl (Or.inl rfl) (by decide))))))))))
abbrev s_check_text:Stmt:=top 23
abbrev N_check_text:List Str:=["thing"]
theorem sc_check_text:FnScope N_check_text ["thing"] (defScope s_check_text):=⟨rfl,rfl,rfl,by decide +kernel,rfl,by decide +kernel,by decide +kernel⟩
noncomputable def f_check_text:Sl->Out (Fl×Sl):=(sIf (dNot (dTru (d1 (isTD "str") (dVar 0)))) (sRaiseD "NoText" (aCons (dC (.str "this is no text")) aNil)) sNext)
noncomputable abbrev g_check_text:List D->Out (D×List D):=runD N_check_text [.val] (f_check_text)
abbrev Ok_check_text P w K mg base cv:=DefOk P w K mg base cv 1 "check_text" ["thing"] [.val] .sh (g_check_text)
theorem mk_check_text (Z:Zt K mg cv ca) (T:Text K mg "check_text" s_check_text ["thing"]):Ok_check_text P w K mg base cv:=
 def_ok (k:=0) (own':=[]) (fb:=f_check_text) T sc_check_text fun cdv f A outer s H E hr=>(pds_one (pds_if (pdt_not (pdt_val rfl (pd_isT rfl rfl Z.z_isinstance bt_isinstance rfl Z.z_str bt_str (pd_var (i:=0) rfl (Or.inl rfl) (by decide))) (fun _=>rfl))) (pds_one (pds_raise rfl (throwC rfl) rfl rfl (Z.mref "NoText" (by decide +kernel)) (Z.xs.val "NoText" (by decide +kernel)) (Z.xin "NoText" (by decide +kernel)) (pda_cons pd_str pda_nil))) pds_nil))
abbrev s_number_in:Stmt:=top 25
abbrev N_number_in:List Str:=["text", "least", "most", "number"]
theorem sc_number_in:FnScope N_number_in ["text", "least", "most"] (defScope s_number_in):=⟨rfl,rfl,rfl,by decide +kernel,rfl,by decide +kernel,by decide +kernel⟩
noncomputable def f_number_in:Sl->Out (Fl×Sl):=(sSeq (sFor (iRange2 (dVar 1) (d2 addD (dVar 2) (dC (.int 1)))) (gNm 3)
  (sIf (dBool (d2 eqD (d1 strD (dVar 3)) (dVar 0))) (sRet (dVar 3)) sNext))
  (sRaiseD "NoText" (aCons (dC (.str "this writes no number within its bounds")) aNil)))
noncomputable abbrev g_number_in:List D->Out (D×List D):=runD N_number_in [.val,.val,.val] (f_number_in)
abbrev Ok_number_in P w K mg base cv:=DefOk P w K mg base cv 1 "number_in" ["text", "least", "most"] [.val,.val,.val] .sh (g_number_in)
theorem mk_number_in (Z:Zt K mg cv ca) (T:Text K mg "number_in" s_number_in ["text", "least", "most"]):Ok_number_in P w K mg base cv:=
 def_ok (k:=0) (own':=[]) (fb:=f_number_in) T sc_number_in fun cdv f A outer s H E hr=>(pds_cons (pds_for PassesOwn.leaving rfl (pdi_range2 rfl Z.z_range (pd_var (i:=1) rfl (Or.inl rfl) (by decide)) (pd_op (od_add rfl) (pd_var (i:=2) rfl (Or.inl rfl) (by decide)) pd_int)) (pdg_name (i:=3) sc_number_in.nd rfl (Or.inl rfl))
  (pds_one (pds_if (pdt_cmp (od_eq rfl hr.units) (pd_callTy (cd_str) rfl Z.z_str bt_str (pd_var (i:=3) rfl (Or.inl rfl) (by decide))) (pd_var (i:=0) rfl (Or.inl rfl) (by decide))) (pds_one (pds_retS (pd_var (i:=3) rfl (Or.inl rfl) (by decide)))) pds_nil)))
  (pds_one (pds_raise rfl (throwC rfl) rfl rfl (Z.mref "NoText" (by decide +kernel)) (Z.xs.val "NoText" (by decide +kernel)) (Z.xin "NoText" (by decide +kernel)) (pda_cons pd_str pda_nil))))
abbrev s_worth_in:Stmt:=top 27
abbrev N_worth_in:List Str:=["text", "room"]
theorem sc_worth_in:FnScope N_worth_in ["text", "room"] (defScope s_worth_in):=⟨rfl,rfl,rfl,by decide +kernel,rfl,by decide +kernel,by decide +kernel⟩
noncomputable def f_worth_in:Sl->Out (Fl×Sl):=(sRet (dTup (aCons (dSlice (dVar 0) none (some (dC (.int 1))) none) (aCons (dCall [.vl,.vl,.vl] g_number_in (aCons (dSlice (dVar 0) (some (dC (.int 1))) none none) (aCons (dC (.int 0)) (aCons (d2 subD (dVar 1) (dC (.int 1))) aNil)))) aNil))))
noncomputable abbrev g_worth_in:List D->Out (D×List D):=runD N_worth_in [.val,.val] (f_worth_in)
abbrev Ok_worth_in P w K mg base cv:=DefOk P w K mg base cv 2 "worth_in" ["text", "room"] [.val,.val] .sh (g_worth_in)
theorem mk_worth_in (Z:Zt K mg cv ca) (T:Text K mg "worth_in" s_worth_in ["text", "room"]) (ok_number_in:Ok_number_in P w K mg base cv):Ok_worth_in P w K mg base cv:=
 def_ok (k:=1) (own':=[]) (fb:=f_worth_in) T sc_worth_in fun cdv f A outer s H E hr=>(pds_one (pds_retS (pd_tup (pda_cons (pd_slice rfl (pd_var (i:=0) rfl (Or.inl rfl) (by decide)) pdo_none (pdo_some pd_int) pdo_none) (pda_cons (pd_callN ok_number_in hr (by decide) passK rfl (pda_cons (pd_slice rfl (pd_var (i:=0) rfl (Or.inl rfl) (by decide)) (pdo_some pd_int) pdo_none pdo_none) (pda_cons pd_int (pda_cons (pd_op od_sub (pd_var (i:=1) rfl (Or.inl rfl) (by decide)) pd_int) pda_nil)))) pda_nil)))))
abbrev s_read_worths:Stmt:=top 28
abbrev N_read_worths:List Str:=["text", "room", "parts", "worths"]
theorem sc_read_worths:FnScope N_read_worths ["text", "room"] (defScope s_read_worths):=⟨rfl,rfl,rfl,by decide +kernel,rfl,by decide +kernel,by decide +kernel⟩
noncomputable def f_read_worths:Sl->Out (Fl×Sl):=(sSeq (sDrop (dCall [.vl] g_check_room (aCons (dVar 1) aNil)))
  (sSeq (sDrop (dCall [.vl] g_check_text (aCons (dVar 0) aNil)))
  (sSeq (sSet 2 (dIf (dBool (d2 neD (dVar 0) (dC (.str "")))) (dM kStr splitD (dVar 0) (dC (.str " "))) (dLst aNil)))
  (sSeq (sSet 3 (d1 tupleD (dComp [] 1 [1] (iAny (dVar 2)) (gNm 0) ftT (dCall [.vl,.vl] g_worth_in (aCons (dVar 0) (aCons (dVar 1) aNil))))))
  (sSeq (sIf (dNot (dTru (dCall [.vl,.vl] g_is_worths (aCons (dVar 3) (aCons (dVar 1) aNil))))) (sRaiseD "NoText" (aCons (dC (.str "this writes no worths")) aNil)) sNext)
  (sRet (dVar 3)))))))
noncomputable abbrev g_read_worths:List D->Out (D×List D):=runD N_read_worths [.val,.val] (f_read_worths)
abbrev Ok_read_worths P w K mg base cv:=DefOk P w K mg base cv 4 "read_worths" ["text", "room"] [.val,.val] .sh (g_read_worths)
theorem mk_read_worths (Z:Zt K mg cv ca) (T:Text K mg "read_worths" s_read_worths ["text", "room"]) (ok_is_worths:Ok_is_worths P w K mg base cv) (ok_check_room:Ok_check_room P w K mg base cv) (ok_check_text:Ok_check_text P w K mg base cv) (ok_worth_in:Ok_worth_in P w K mg base cv):Ok_read_worths P w K mg base cv:=
 def_ok (k:=3) (own':=[]) (fb:=f_read_worths) T sc_read_worths fun cdv f A outer s H E hr=>(pds_cons (pds_expr (pd_callN ok_check_room hr (by decide) passK rfl (pda_cons (pd_var (i:=1) rfl (Or.inr (Or.inl rfl)) (by decide)) pda_nil)))
  (pds_cons (pds_expr (pd_callN ok_check_text hr (by decide) passK rfl (pda_cons (pd_var (i:=0) rfl (Or.inl rfl) (by decide)) pda_nil)))
  (pds_cons (pds_set (i:=2) sc_read_worths.nd rfl (Or.inl rfl) (pd_if (pdt_cmp (od_ne rfl hr.units) (pd_var (i:=0) rfl (Or.inl rfl) (by decide)) pd_str) (pd_methS PySem.F.slot_str_split PySem.F.type_str_split md_split rfl (pd_var (i:=0) rfl (Or.inl rfl) (by decide)) pd_str) (pd_lst pda_nil)))
  (pds_cons (pds_set (i:=3) sc_read_worths.nd rfl (Or.inl rfl) (pd_callTy (cd_tuple rfl) rfl Z.z_tuple bt_tuple (pd_comp (N:=["part", "room"]) (nt:=1) (cap:=[1]) rfl (sc_of (names:=(defScope s_read_worths).names) rfl (by decide +kernel)) (cap_of (names:=(defScope s_read_worths).names) (N:=N_read_worths) rfl rfl (by decide +kernel)) (pdi_any rfl (pd_var (i:=2) rfl (Or.inl rfl) (by decide))) (fun fp L s1 H1=>(pdg_name (i:=0) (show List.Nodup (["part", "room"]:List Str) from by decide +kernel) rfl (Or.inl rfl))) (fun fp L s1 H1=>pdts_nil) (fun fp L s1 H1=>(pd_callN ok_worth_in hr (by decide) passF rfl (pda_cons (pd_var (i:=0) rfl (Or.inl rfl) (by decide)) (pda_cons (pd_var (i:=1) rfl (by first | exact Or.inr (Or.inr rfl) | exact Or.inr (Or.inl rfl)) (by decide)) pda_nil)))))))
  (pds_cons (pds_if (pdt_not (pdt_val rfl (pd_callN ok_is_worths hr (by decide) passK rfl (pda_cons (pd_var (i:=3) rfl (Or.inl rfl) (by decide)) (pda_cons (pd_var (i:=1) rfl (Or.inr (Or.inl rfl)) (by decide)) pda_nil))) (fun _=>rfl))) (pds_one (pds_raise rfl (throwC rfl) rfl rfl (Z.mref "NoText" (by decide +kernel)) (Z.xs.val "NoText" (by decide +kernel)) (Z.xin "NoText" (by decide +kernel)) (pda_cons pd_str pda_nil))) pds_nil)
  (pds_one (pds_retS (pd_var (i:=3) rfl (Or.inl rfl) (by decide)))))))))
abbrev s_Lcell_at:Stmt:=top 30
abbrev N_Lcell_at:List Str:=["_law_script", "_law_k"]
theorem sc_Lcell_at:FnScope N_Lcell_at ["_law_script", "_law_k"] (defScope s_Lcell_at):=⟨rfl,rfl,rfl,by decide +kernel,rfl,by decide +kernel,by decide +kernel⟩
noncomputable def f_Lcell_at:Sl->Out (Fl×Sl):=(sSeq (sIf (dBool (d2 ltD (dVar 1) (d1 lenD (dVar 0)))) (sRet (d2 ixD (dVar 0) (dVar 1))) sNext)
  (sSeq (sIf (dBool (d2 eqD (dVar 0) (dLst aNil))) (sRet (dC (.int 0))) sNext)
  (sRet (d2 addD (d2 mulD (d2 ixD (dVar 0) (d2 modD (dVar 1) (d1 lenD (dVar 0)))) (dC (.int 31))) (dVar 1)))))
noncomputable abbrev g_Lcell_at:List D->Out (D×List D):=runD N_Lcell_at [.val,.val] (f_Lcell_at)
abbrev Ok_Lcell_at P w K mg base cv:=DefOk P w K mg base cv 1 "_law_cell_at" ["_law_script", "_law_k"] [.val,.val] .sh (g_Lcell_at)
theorem mk_Lcell_at (Z:Zt K mg cv ca) (T:Text K mg "_law_cell_at" s_Lcell_at ["_law_script", "_law_k"]):Ok_Lcell_at P w K mg base cv:=
 def_ok (k:=0) (own':=[]) (fb:=f_Lcell_at) T sc_Lcell_at fun cdv f A outer s H E hr=>(pds_cons (pds_if (pdt_cmp od_lt (pd_var (i:=1) rfl (Or.inl rfl) (by decide)) (pd_callB (cd_len rfl) rfl Z.z_len bt_len (pd_var (i:=0) rfl (Or.inl rfl) (by decide)))) (pds_one (pds_retS (pd_ix rfl hr.units (pd_var (i:=0) rfl (Or.inl rfl) (by decide)) (pd_var (i:=1) rfl (Or.inl rfl) (by decide)) (fun _ _=>rfl)))) pds_nil)
  (pds_cons (pds_if (pdt_cmp (od_eq rfl hr.units) (pd_var (i:=0) rfl (Or.inl rfl) (by decide)) (pd_lst pda_nil)) (pds_one (pds_retS pd_int)) pds_nil)
  (pds_one (pds_retS (pd_op (od_add rfl) (pd_op od_mul (pd_ix rfl hr.units (pd_var (i:=0) rfl (Or.inl rfl) (by decide)) (pd_op od_mod (pd_var (i:=1) rfl (Or.inl rfl) (by decide)) (pd_callB (cd_len rfl) rfl Z.z_len bt_len (pd_var (i:=0) rfl (Or.inl rfl) (by decide)))) (fun _ _=>rfl)) pd_int) (pd_var (i:=1) rfl (Or.inl rfl) (by decide)))))))
abbrev s_Lmixed:Stmt:=top 31
abbrev N_Lmixed:List Str:=["_law_script", "_law_k", "_law_many", "_law_drawn"]
theorem sc_Lmixed:FnScope N_Lmixed ["_law_script", "_law_k", "_law_many"] (defScope s_Lmixed):=⟨rfl,rfl,rfl,by decide +kernel,rfl,by decide +kernel,by decide +kernel⟩
noncomputable def f_Lmixed:Sl->Out (Fl×Sl):=(sSeq (sSet 3 (d2 modD (d2 addD (d2 addD (d2 mulD (dCall [.vl,.vl] g_Lcell_at (aCons (dVar 0) (aCons (dVar 1) aNil))) (dC (.int 1103515245))) (d2 mulD (dC (.int 7919)) (dVar 1))) (dC (.int 12345))) (dC (.int 2147483647))))
  (sRet (d2 modD (d2 modD (d2 modD (d2 powD (dVar 3) (dC (.int 5))) (dC (.int 2147483647))) (dC (.int 999983))) (dVar 2))))
noncomputable abbrev g_Lmixed:List D->Out (D×List D):=runD N_Lmixed [.val,.val,.val] (f_Lmixed)
abbrev Ok_Lmixed P w K mg base cv:=DefOk P w K mg base cv 2 "_law_mixed" ["_law_script", "_law_k", "_law_many"] [.val,.val,.val] .sh (g_Lmixed)
theorem mk_Lmixed (Z:Zt K mg cv ca) (T:Text K mg "_law_mixed" s_Lmixed ["_law_script", "_law_k", "_law_many"]) (ok_Lcell_at:Ok_Lcell_at P w K mg base cv):Ok_Lmixed P w K mg base cv:=
 def_ok (k:=1) (own':=[]) (fb:=f_Lmixed) T sc_Lmixed fun cdv f A outer s H E hr=>(pds_cons (pds_set (i:=3) sc_Lmixed.nd rfl (Or.inl rfl) (pd_op od_mod (pd_op (od_add rfl) (pd_op (od_add rfl) (pd_op od_mul (pd_callN ok_Lcell_at hr (by decide) passK rfl (pda_cons (pd_var (i:=0) rfl (Or.inl rfl) (by decide)) (pda_cons (pd_var (i:=1) rfl (Or.inl rfl) (by decide)) pda_nil))) pd_int) (pd_op od_mul pd_int (pd_var (i:=1) rfl (Or.inl rfl) (by decide)))) pd_int) pd_int))
  (pds_one (pds_retS (pd_op od_mod (pd_op od_mod (pd_op od_mod (pd_op od_pow (pd_var (i:=3) rfl (Or.inl rfl) (by decide)) pd_int) pd_int) pd_int) (pd_var (i:=2) rfl (Or.inl rfl) (by decide))))))
abbrev s_Ldraw:Stmt:=top 32
abbrev N_Ldraw:List Str:=["_law_script", "_law_town", "_law_many"]
theorem sc_Ldraw:FnScope N_Ldraw ["_law_script", "_law_town", "_law_many"] (defScope s_Ldraw):=⟨rfl,rfl,rfl,by decide +kernel,rfl,by decide +kernel,by decide +kernel⟩
noncomputable def f_Ldraw:Sl->Out (Fl×Sl):=(sSeq (sDrop (mOwn 1 appG (dC (.int 0))))
  (sRet (dCall [.vl,.vl,.vl] g_Lmixed (aCons (dVar 0) (aCons (d1 lenD (dVar 1)) (aCons (dVar 2) aNil))))))
noncomputable abbrev g_Ldraw:List D->Out (D×List D):=runD N_Ldraw [.val,.io,.val] (f_Ldraw)
abbrev Ok_Ldraw P w K mg base cv:=DefOk P w K mg base cv 3 "_law_draw" ["_law_script", "_law_town", "_law_many"] [.val,.io,.val] .sh (g_Ldraw)
theorem mk_Ldraw (Z:Zt K mg cv ca) (T:Text K mg "_law_draw" s_Ldraw ["_law_script", "_law_town", "_law_many"]) (ok_Lmixed:Ok_Lmixed P w K mg base cv):Ok_Ldraw P w K mg base cv:=
 def_ok (k:=2) (own':=[1]) (fb:=f_Ldraw) T sc_Ldraw fun cdv f A outer s H E hr=>(pds_cons (pds_expr (pd_append (i:=1) rfl rfl (Or.inl rfl) (by decide) pd_int))
  (pds_one (pds_retS (pd_callN ok_Lmixed hr (by decide) passK rfl (pda_cons (pd_var (i:=0) rfl (Or.inl rfl) (by decide)) (pda_cons (pd_callB (cd_len rfl) rfl Z.z_len bt_len (pd_varO (i:=1) rfl (Or.inl rfl) (by decide))) (pda_cons (pd_var (i:=2) rfl (Or.inl rfl) (by decide)) pda_nil)))))))
abbrev s_Lpick:Stmt:=top 33
abbrev N_Lpick:List Str:=["_law_script", "_law_town", "_law_some"]
theorem sc_Lpick:FnScope N_Lpick ["_law_script", "_law_town", "_law_some"] (defScope s_Lpick):=⟨rfl,rfl,rfl,by decide +kernel,rfl,by decide +kernel,by decide +kernel⟩
noncomputable def f_Lpick:Sl->Out (Fl×Sl):=(sRet (d2 ixD (dVar 2) (dCall [.vl,.sl 1,.vl] g_Ldraw (aCons (dVar 0) (aSlot (aCons (d1 lenD (dVar 2)) aNil))))))
noncomputable abbrev g_Lpick:List D->Out (D×List D):=runD N_Lpick [.val,.io,.val] (f_Lpick)
abbrev Ok_Lpick P w K mg base cv:=DefOk P w K mg base cv 4 "_law_pick" ["_law_script", "_law_town", "_law_some"] [.val,.io,.val] .sh (g_Lpick)
theorem mk_Lpick (Z:Zt K mg cv ca) (T:Text K mg "_law_pick" s_Lpick ["_law_script", "_law_town", "_law_some"]) (ok_Ldraw:Ok_Ldraw P w K mg base cv):Ok_Lpick P w K mg base cv:=
 def_ok (k:=3) (own':=[1]) (fb:=f_Lpick) T sc_Lpick fun cdv f A outer s H E hr=>(pds_one (pds_retS (pd_ix rfl hr.units (pd_var (i:=2) rfl (Or.inl rfl) (by decide)) (pd_callN ok_Ldraw hr (by decide) passK rfl (pda_cons (pd_var (i:=0) rfl (Or.inl rfl) (by decide)) (pda_slot (i:=1) rfl (Or.inl rfl) (by decide) (pda_cons (pd_callB (cd_len rfl) rfl Z.z_len bt_len (pd_var (i:=2) rfl (Or.inl rfl) (by decide))) pda_nil)))) (fun _ _=>rfl))))
abbrev s_Lwhich:Stmt:=top 34
abbrev N_Lwhich:List Str:=["_law_e", "_law_own"]
theorem sc_Lwhich:FnScope N_Lwhich ["_law_e"] (defScope s_Lwhich):=⟨rfl,rfl,rfl,by decide +kernel,rfl,by decide +kernel,by decide +kernel⟩
noncomputable def f_Lwhich (ca:Str->Addr):Sl->Out (Fl×Sl):=(sSeq (sSet 1 (dLst (aCons (d1 (isXD (ansD ca CS "NoWords")) (dVar 0)) (aCons (d1 (isXD (ansD ca CS "NoLook")) (dVar 0)) (aCons (d1 (isXD (ansD ca CS "NoNumbers")) (dVar 0)) (aCons (d1 (isXD (ansD ca CS "NoRoom")) (dVar 0)) aNil))))))
  (sSeq (sDrop (mOwn 1 extG (dLst (aCons (d1 (isXD (ansD ca CS "NoWord")) (dVar 0)) (aCons (d1 (isXD (ansD ca CS "NoWorths")) (dVar 0)) (aCons (d1 (isXD (ansD ca CS "Never")) (dVar 0)) (aCons (d1 (isXD (ansD ca CS "Full")) (dVar 0)) aNil)))))))
  (sSeq (sDrop (mOwn 1 extG (dLst (aCons (d1 (isXD (ansD ca CS "Known")) (dVar 0)) (aCons (d1 (isXD (ansD ca CS "NoPlace")) (dVar 0)) (aCons (d1 (isXD (ansD ca CS "NoLetters")) (dVar 0)) (aCons (d1 (isXD (ansD ca CS "NoText")) (dVar 0)) aNil)))))))
  (sSeq (sDrop (mOwn 1 appG (d1 (isXD (ansD ca CS "Nothing")) (dVar 0))))
  (sSeq (sIf (dOr (dBool (d2 neD (d1 (countD true) (dVar 1)) (dC (.int 1)))) (dNot (dTru (d1 (isXD (ansT ca CS)) (dVar 0))))) (sRet (dTup (aCons (dC (.str "refused")) (aCons (d1 negD (dC (.int 1))) aNil)))) sNext)
  (sRet (dTup (aCons (dC (.str "refused")) (aCons (d1 (indexD true) (dVar 1)) aNil)))))))))
noncomputable abbrev g_Lwhich (ca:Str->Addr):List D->Out (D×List D):=runD N_Lwhich [.val] (f_Lwhich ca)
abbrev Ok_Lwhich (ca:Str->Addr) P w K mg base cv:=DefQ P w K mg base cv 1 "_law_which" ["_law_e"] [.val] .sh (g_Lwhich ca)
theorem mk_Lwhich (Z:Zt K mg cv ca) (T:Text K mg "_law_which" s_Lwhich ["_law_e"]):Ok_Lwhich ca P w K mg base cv:=
 def_q (k:=0) (own':=[]) (fb:=f_Lwhich ca) T sc_Lwhich fun cdv f A outer s H E hr=>(pds_cons (pds_setO (i:=1) sc_Lwhich.nd rfl (Or.inl rfl) (pd_lst (pda_cons (pd_isX rfl Z.z_isinstance bt_isinstance rfl (Z.mref "NoWords" (by decide +kernel)) (Z.xs.ans (by decide +kernel)) (pd_var (i:=0) rfl (Or.inl rfl) (by decide))) (pda_cons (pd_isX rfl Z.z_isinstance bt_isinstance rfl (Z.mref "NoLook" (by decide +kernel)) (Z.xs.ans (by decide +kernel)) (pd_var (i:=0) rfl (Or.inl rfl) (by decide))) (pda_cons (pd_isX rfl Z.z_isinstance bt_isinstance rfl (Z.mref "NoNumbers" (by decide +kernel)) (Z.xs.ans (by decide +kernel)) (pd_var (i:=0) rfl (Or.inl rfl) (by decide))) (pda_cons (pd_isX rfl Z.z_isinstance bt_isinstance rfl (Z.mref "NoRoom" (by decide +kernel)) (Z.xs.ans (by decide +kernel)) (pd_var (i:=0) rfl (Or.inl rfl) (by decide))) pda_nil))))))
  (pds_cons (pds_expr (pd_extend (i:=1) rfl (Or.inl rfl) (by decide) (pd_lst (pda_cons (pd_isX rfl Z.z_isinstance bt_isinstance rfl (Z.mref "NoWord" (by decide +kernel)) (Z.xs.ans (by decide +kernel)) (pd_var (i:=0) rfl (Or.inl rfl) (by decide))) (pda_cons (pd_isX rfl Z.z_isinstance bt_isinstance rfl (Z.mref "NoWorths" (by decide +kernel)) (Z.xs.ans (by decide +kernel)) (pd_var (i:=0) rfl (Or.inl rfl) (by decide))) (pda_cons (pd_isX rfl Z.z_isinstance bt_isinstance rfl (Z.mref "Never" (by decide +kernel)) (Z.xs.ans (by decide +kernel)) (pd_var (i:=0) rfl (Or.inl rfl) (by decide))) (pda_cons (pd_isX rfl Z.z_isinstance bt_isinstance rfl (Z.mref "Full" (by decide +kernel)) (Z.xs.ans (by decide +kernel)) (pd_var (i:=0) rfl (Or.inl rfl) (by decide))) pda_nil)))))))
  (pds_cons (pds_expr (pd_extend (i:=1) rfl (Or.inl rfl) (by decide) (pd_lst (pda_cons (pd_isX rfl Z.z_isinstance bt_isinstance rfl (Z.mref "Known" (by decide +kernel)) (Z.xs.ans (by decide +kernel)) (pd_var (i:=0) rfl (Or.inl rfl) (by decide))) (pda_cons (pd_isX rfl Z.z_isinstance bt_isinstance rfl (Z.mref "NoPlace" (by decide +kernel)) (Z.xs.ans (by decide +kernel)) (pd_var (i:=0) rfl (Or.inl rfl) (by decide))) (pda_cons (pd_isX rfl Z.z_isinstance bt_isinstance rfl (Z.mref "NoLetters" (by decide +kernel)) (Z.xs.ans (by decide +kernel)) (pd_var (i:=0) rfl (Or.inl rfl) (by decide))) (pda_cons (pd_isX rfl Z.z_isinstance bt_isinstance rfl (Z.mref "NoText" (by decide +kernel)) (Z.xs.ans (by decide +kernel)) (pd_var (i:=0) rfl (Or.inl rfl) (by decide))) pda_nil)))))))
  (pds_cons (pds_expr (pd_append (i:=1) rfl rfl (Or.inl rfl) (by decide) (pd_isX rfl Z.z_isinstance bt_isinstance rfl (Z.mref "Nothing" (by decide +kernel)) (Z.xs.ans (by decide +kernel)) (pd_var (i:=0) rfl (Or.inl rfl) (by decide)))))
  (pss_drop [1] (pds_cons (pds_if (PW.pt (pdw_or (pdt_cmp (od_ne rfl hr.units) (pd_count rfl (pd_var (i:=1) rfl (Or.inl rfl) (by decide))) pd_int) (pdw_one (pdt_not (pdt_val rfl (pd_isXT rfl Z.z_isinstance bt_isinstance rfl Z.z_ValueError bt_ValueError Z.xs.ansV (pd_var (i:=0) rfl (Or.inl rfl) (by decide))) (fun _=>rfl)))))) (pds_one (pds_retS (pd_tup (pda_cons pd_str (pda_cons (pd_un od_neg pd_int) pda_nil))))) pds_nil)
  (pds_one (pds_retS (pd_tup (pda_cons pd_str (pda_cons (pd_index rfl (pd_var (i:=1) rfl (Or.inl rfl) (by decide))) pda_nil)))))))))))
abbrev s_Lask:Stmt:=top 35
abbrev N_Lask:List Str:=["_law_what", "_law_thing", "_law_room", "_law_e"]
theorem sc_Lask:FnScope N_Lask ["_law_what", "_law_thing", "_law_room"] (defScope s_Lask):=⟨rfl,rfl,rfl,by decide +kernel,rfl,by decide +kernel,by decide +kernel⟩
noncomputable def f_Lask (ca:Str->Addr):Sl->Out (Fl×Sl):=(sTry 4 (some 3) (hitD ca CS) (sRet (dPick [.vl,.vl] (dVar 0) [g_worths_text,g_read_worths] (aCons (dVar 1) (aCons (dVar 2) aNil)))) (sRet (dCall [.vl] (g_Lwhich ca) (aCons (dVar 3) aNil))))
noncomputable abbrev g_Lask (ca:Str->Addr):List D->Out (D×List D):=runD N_Lask [.val,.val,.val] (f_Lask ca)
abbrev Ok_Lask (ca:Str->Addr) P w K mg base cv:=DefOk P w K mg base cv 6 "_law_ask" ["_law_what", "_law_thing", "_law_room"] [.val,.val,.val] .sh (g_Lask ca)
theorem mk_Lask (Z:Zt K mg cv ca) (T:Text K mg "_law_ask" s_Lask ["_law_what", "_law_thing", "_law_room"]) (ok_worths_text:Ok_worths_text P w K mg base cv) (ok_read_worths:Ok_read_worths P w K mg base cv) (ok_Lwhich:Ok_Lwhich ca P w K mg base cv):Ok_Lask ca P w K mg base cv:=
 def_ok (k:=5) (own':=[]) (fb:=f_Lask ca) T sc_Lask fun cdv f A outer s H E hr=>(pds_one (pds_try (own2:=[]) (n:=4) (j:=3) rfl rfl rfl rfl Z.m_WordError Z.xs.hit sc_Lask.nd rfl rfl rfl (fun pn xe E hx=>(pds_one (pds_retS (pd_pick (j:=5) (ca:=ca) (ns:=["worths_text", "read_worths"]) (gs:=[g_worths_text,g_read_worths]) ⟨⟨_,ok_worths_text.mono (by decide)⟩,⟨_,ok_read_worths.mono (by decide)⟩,trivial⟩ (fun x hx=>Z.fref x ((show ∀ x∈(["worths_text", "read_worths"]:List Str),x∈FS from by decide +kernel) x hx)) (by decide) hr (by decide) hx (pd_ix rfl hr.units (pd_lst (pda_cons (pd_fn (Z.fref "worths_text" (by decide +kernel)) rfl) (pda_cons (pd_fn (Z.fref "read_worths" (by decide +kernel)) rfl) pda_nil))) (pd_var (i:=0) rfl (Or.inl rfl) (by decide)) (fun _ _=>rfl)) (pda_cons (pd_var (i:=1) rfl (Or.inl rfl) (by decide)) (pda_cons (pd_var (i:=2) rfl (Or.inl rfl) (by decide)) pda_nil)))))) (fun e=>(pds_one (pds_retS (pd_callNQ ok_Lwhich ((hr.quiet.mono (by decide)).mark _) passF rfl (pda_cons (pd_var (i:=3) rfl (Or.inl rfl) (by decide)) pda_nil)))))))
abbrev s_law:Stmt:=top 36
abbrev N_law:List Str:=["_law_script", "_law_town", "_law_room", "_law_letters", "_law_line", "_law_none", "_law_wrong", "_law_due", "_law_letter", "_law_worth"]
theorem sc_law:FnScope N_law ["_law_script"] (defScope s_law):=⟨rfl,rfl,rfl,by decide +kernel,rfl,by decide +kernel,by decide +kernel⟩
noncomputable def f_law (ca:Str->Addr):Sl->Out (Fl×Sl):=(sSeq (sSet 1 (dLst aNil))
  (sSeq (sSet 2 (dCall [.vl,.sl 1,.vl] g_Lpick (aCons (dVar 0) (aSlot (aCons (dLst (aCons (dC (.int 1)) (aCons (dC (.int 2)) (aCons (dC (.int 9)) (aCons (dC (.int 10)) (aCons (dC (.int 11)) (aCons (dC (.int 50)) (aCons (dC (.int 99)) aNil)))))))) aNil)))))
  (sSeq (sSet 3 (dComp [1] 1 [0,1] (iAny (dC (.str "abcdefghkmnxyz"))) (gNm 0) (dBool (d2 eqD (dCall [.vl,.sl 2,.vl] g_Ldraw (aCons (dVar 1) (aSlot (aCons (dC (.int 3)) aNil)))) (dC (.int 0)))) (dVar 0)))
  (sSeq (sSet 4 (d1 tupleD (dComp [1] 1 [0,1,2] (iAny (dVar 3)) (gNm 0) ftT (dTup (aCons (dVar 0) (aCons (dCall [.vl,.sl 2,.vl] g_Ldraw (aCons (dVar 1) (aSlot (aCons (dVar 3) aNil)))) aNil))))))
  (sSeq (sSet 5 (dCall [.vl,.sl 1,.vl] g_Lpick (aCons (dVar 0) (aSlot (aCons (dLst (aCons (dC (.int 0)) (aCons (dC (.int 100)) (aCons (dC .non) (aCons (dC (.bl true)) (aCons (dC (.str "9")) aNil)))))) aNil)))))
  (sSeq (sSet 6 (dLst (aCons (dC .non) (aCons (d2 addD (d1 listD (dVar 4)) (dLst (aCons (dC (.int 1)) aNil))) (aCons (dC (.tup [(.tup [(.str "b"),(.int 0)]),(.tup [(.str "a"),(.int 0)])])) (aCons (dTup (aCons (dTup (aCons (dC (.str "a")) (aCons (dVar 2) aNil))) aNil)) (aCons (dC (.tup [(.tup [(.str "a"),(.int (-1))])])) (aCons (dC (.str "a0")) (aCons (dC (.tup [(.tup [(.str "ab"),(.int 0)])])) aNil)))))))))
  (sSeq (sSet 6 (dCall [.vl,.sl 1,.vl] g_Lpick (aCons (dVar 0) (aSlot (aCons (dVar 6) aNil)))))
  (sSeq (sSet 7 (dC (.str "")))
  (sSeq (sFor (iAny (dVar 4)) (gTupD 2 (gConsD (gNm 8) (gConsD (gNm 9) gNilD)))
  (sSet 7 (d2 addD (d2 addD (d2 addD (dVar 7) (dIf (dBool (d2 neD (dVar 7) (dC (.str "")))) (dC (.str " ")) (dC (.str "")))) (dVar 8)) (d1 strD (dVar 9)))))
  (sSeq (sIf (dOr (dBool (d2 neD (dCall [.vl,.vl] g_worths_text (aCons (dVar 4) (aCons (dVar 2) aNil))) (dVar 7))) (dBool (d2 neD (dCall [.vl,.vl] g_read_worths (aCons (dVar 7) (aCons (dVar 2) aNil))) (dVar 4)))) (sRet (dC (.bl false))) sNext)
  (sSeq (sIf (dBool (d2 neD (dComp [1] 1 [5] (iRange1 (dC (.int 2))) (gNm 0) ftT (dCall [.vl,.vl,.vl] (g_Lask ca) (aCons (dVar 0) (aCons (dC .non) (aCons (dVar 1) aNil))))) (d2 mulL (dLst fun ρ=>.ok ([(.tup [(.str "refused"),(.int 3)])],ρ)) (dC (.int 2))))) (sRet (dC (.bl false))) sNext)
  (sRet (dAndV (d2 eqD (dCall [.vl,.vl,.vl] (g_Lask ca) (aCons (dC (.int 0)) (aCons (dVar 6) (aCons (dVar 2) aNil)))) (dTup (aCons (dC (.str "refused")) (aCons (dC (.int 5)) aNil)))) (dAndV (d2 eqD (dCall [.vl,.vl] g_worths_text (aCons (dTup aNil) (aCons (dVar 2) aNil))) (dC (.str ""))) (d2 eqD (dCall [.vl,.vl] g_read_worths (aCons (dC (.str "")) (aCons (dVar 2) aNil))) (dTup aNil))))))))))))))))
noncomputable abbrev g_law (ca:Str->Addr):List D->Out (D×List D):=runD N_law [.val] (f_law ca)
theorem fn_law {f:Addr} {fd:FuncData} (Z:Zt K mg cv ca) (F:Fun K "law" "law" s_law f fd) (ok_worths_text:Ok_worths_text P w K mg base cv) (ok_read_worths:Ok_read_worths P w K mg base cv) (ok_Ldraw:Ok_Ldraw P w K mg base cv) (ok_Lpick:Ok_Lpick P w K mg base cv) (ok_Lask:Ok_Lask ca P w K mg base cv):FnOk P w K mg base (CXk P w) 7 f fd ["_law_script"] (spD K cv [.val] .sh (g_law ca)):=
 fn_D (k:=6) (own':=[]) (fb:=f_law ca) F sc_law rfl (sub_of rfl) (.inl rfl) (fun cdv A outer s H E hr=>(pds_cons (pds_setO (i:=1) sc_law.nd rfl (Or.inr rfl) (pd_lst pda_nil))
  (pds_cons (pds_set (i:=2) sc_law.nd rfl (Or.inr rfl) (pd_callN ok_Lpick hr (by decide) passK rfl (pda_cons (pd_var (i:=0) rfl (Or.inr (Or.inl rfl)) (by decide)) (pda_slot (i:=1) rfl (Or.inr (Or.inl rfl)) (by decide) (pda_cons (pd_lst (pda_cons pd_int (pda_cons pd_int (pda_cons pd_int (pda_cons pd_int (pda_cons pd_int (pda_cons pd_int (pda_cons pd_int pda_nil)))))))) pda_nil)))))
  (pds_cons (pds_setC (N:=["_law_letter", "_law_script", "_law_town"]) (nt:=1) (cap:=[0,1]) sc_law.nd (i:=3) rfl (Or.inl rfl) rfl (sc_of (names:=(defScope s_law).names) rfl (by decide +kernel)) (cap_of (names:=(defScope s_law).names) (N:=N_law) rfl rfl (by decide +kernel)) (pdi_any rfl pd_str) (fun fp L s1 H1=>(pdg_name (i:=0) (show List.Nodup (["_law_letter", "_law_script", "_law_town"]:List Str) from by decide +kernel) rfl (Or.inl rfl))) (fun fp L s1 H1=>(pts_one (pdt_cmp (od_eq rfl hr.units) (pd_callN ok_Ldraw hr (by decide) passF rfl (pda_cons (pd_var (i:=1) rfl (by first | exact Or.inr (Or.inr rfl) | exact Or.inr (Or.inl rfl)) (by decide)) (pda_slot (i:=2) rfl (by first | exact Or.inr (Or.inr rfl) | exact Or.inr (Or.inl rfl)) (by decide) (pda_cons pd_int pda_nil)))) pd_int))) (fun fp L s1 H1=>(pd_var (i:=0) rfl (Or.inl rfl) (by decide))))
  (pss_drop [3] (pds_cons (pds_set (i:=4) sc_law.nd rfl (Or.inl rfl) (pd_callTy (cd_tuple rfl) rfl Z.z_tuple bt_tuple (pd_comp (N:=["_law_letter", "_law_script", "_law_town", "_law_room"]) (nt:=1) (cap:=[0,1,2]) rfl (sc_of (names:=(defScope s_law).names) rfl (by decide +kernel)) (cap_of (names:=(defScope s_law).names) (N:=N_law) rfl rfl (by decide +kernel)) (pdi_any rfl (pd_var (i:=3) rfl (Or.inl rfl) (by decide))) (fun fp L s1 H1=>(pdg_name (i:=0) (show List.Nodup (["_law_letter", "_law_script", "_law_town", "_law_room"]:List Str) from by decide +kernel) rfl (Or.inl rfl))) (fun fp L s1 H1=>pdts_nil) (fun fp L s1 H1=>(pd_tup (pda_cons (pd_var (i:=0) rfl (Or.inl rfl) (by decide)) (pda_cons (pd_callN ok_Ldraw hr (by decide) passF rfl (pda_cons (pd_var (i:=1) rfl (by first | exact Or.inr (Or.inr rfl) | exact Or.inr (Or.inl rfl)) (by decide)) (pda_slot (i:=2) rfl (by first | exact Or.inr (Or.inr rfl) | exact Or.inr (Or.inl rfl)) (by decide) (pda_cons (pd_var (i:=3) rfl (by first | exact Or.inr (Or.inr rfl) | exact Or.inr (Or.inl rfl)) (by decide)) pda_nil)))) pda_nil)))))))
  (pds_cons (pds_set (i:=5) sc_law.nd rfl (Or.inr rfl) (pd_callN ok_Lpick hr (by decide) passK rfl (pda_cons (pd_var (i:=0) rfl (Or.inr (Or.inl rfl)) (by decide)) (pda_slot (i:=1) rfl (Or.inr (Or.inl rfl)) (by decide) (pda_cons (pd_lst (pda_cons pd_int (pda_cons pd_int (pda_cons pd_non (pda_cons pd_bl (pda_cons pd_str pda_nil)))))) pda_nil)))))
  (pds_cons (pds_set (i:=6) sc_law.nd rfl (Or.inl rfl) (pd_lst (pda_cons pd_non (pda_cons (pd_op (od_add rfl) (pd_callTy (cd_list rfl) rfl Z.z_list bt_list (pd_var (i:=4) rfl (Or.inl rfl) (by decide))) (pd_lst (pda_cons pd_int pda_nil))) (pda_cons (pd_lit 11 rfl) (pda_cons (pd_tup (pda_cons (pd_tup (pda_cons pd_str (pda_cons (pd_var (i:=2) rfl (Or.inr (Or.inl rfl)) (by decide)) pda_nil))) pda_nil)) (pda_cons (pd_lit 10 rfl) (pda_cons pd_str (pda_cons (pd_lit 10 rfl) pda_nil)))))))))
  (pds_cons (pds_set (i:=6) sc_law.nd rfl (Or.inl rfl) (pd_callN ok_Lpick hr (by decide) passK rfl (pda_cons (pd_var (i:=0) rfl (Or.inr (Or.inl rfl)) (by decide)) (pda_slot (i:=1) rfl (Or.inr (Or.inl rfl)) (by decide) (pda_cons (pd_var (i:=6) rfl (Or.inl rfl) (by decide)) pda_nil)))))
  (pds_cons (pds_set (i:=7) sc_law.nd rfl (Or.inl rfl) pd_str)
  (pds_cons (pds_for PassesOwn.leaving rfl (pdi_any rfl (pd_var (i:=4) rfl (Or.inl rfl) (by decide))) (pdg_tup rfl rfl (pdgs_cons (pdg_name (i:=8) sc_law.nd rfl (Or.inl rfl)) (pdgs_cons (pdg_name (i:=9) sc_law.nd rfl (Or.inl rfl)) pdgs_nil)))
  (pds_one (pds_set (i:=7) sc_law.nd rfl (Or.inl rfl) (pd_op (od_add rfl) (pd_op (od_add rfl) (pd_op (od_add rfl) (pd_var (i:=7) rfl (Or.inl rfl) (by decide)) (pd_if (pdt_cmp (od_ne rfl hr.units) (pd_var (i:=7) rfl (Or.inl rfl) (by decide)) pd_str) pd_str pd_str)) (pd_var (i:=8) rfl (Or.inl rfl) (by decide))) (pd_callTy (cd_str) rfl Z.z_str bt_str (pd_var (i:=9) rfl (Or.inl rfl) (by decide)))))))
  (pds_cons (pds_if (PW.pt (pdw_or (pdt_cmp (od_ne rfl hr.units) (pd_callN ok_worths_text hr (by decide) passK rfl (pda_cons (pd_var (i:=4) rfl (Or.inl rfl) (by decide)) (pda_cons (pd_var (i:=2) rfl (Or.inr (Or.inl rfl)) (by decide)) pda_nil))) (pd_var (i:=7) rfl (Or.inl rfl) (by decide))) (pdw_one (pdt_cmp (od_ne rfl hr.units) (pd_callN ok_read_worths hr (by decide) passK rfl (pda_cons (pd_var (i:=7) rfl (Or.inl rfl) (by decide)) (pda_cons (pd_var (i:=2) rfl (Or.inr (Or.inl rfl)) (by decide)) pda_nil))) (pd_var (i:=4) rfl (Or.inl rfl) (by decide)))))) (pds_one (pds_retS pd_bl)) pds_nil)
  (pds_cons (pds_if (pdt_cmp (od_ne rfl hr.units) (pd_comp (N:=["_law_what", "_law_none"]) (nt:=1) (cap:=[5]) rfl (sc_of (names:=(defScope s_law).names) rfl (by decide +kernel)) (cap_of (names:=(defScope s_law).names) (N:=N_law) rfl rfl (by decide +kernel)) (pdi_range1 rfl Z.z_range pd_int) (fun fp L s1 H1=>(pdg_name (i:=0) (show List.Nodup (["_law_what", "_law_none"]:List Str) from by decide +kernel) rfl (Or.inl rfl))) (fun fp L s1 H1=>pdts_nil) (fun fp L s1 H1=>(pd_callN ok_Lask hr (by decide) passF rfl (pda_cons (pd_var (i:=0) rfl (Or.inl rfl) (by decide)) (pda_cons pd_non (pda_cons (pd_var (i:=1) rfl (by first | exact Or.inr (Or.inr rfl) | exact Or.inr (Or.inl rfl)) (by decide)) pda_nil)))))) (pd_op (od_mulL rfl) (pd_litL 10 rfl) pd_int)) (pds_one (pds_retS pd_bl)) pds_nil)
  (pds_one (pds_retS (pd_and (pd_cmp (od_eq rfl hr.units) (pd_callN ok_Lask hr (by decide) passK rfl (pda_cons pd_int (pda_cons (pd_var (i:=6) rfl (Or.inl rfl) (by decide)) (pda_cons (pd_var (i:=2) rfl (Or.inr (Or.inl rfl)) (by decide)) pda_nil)))) (pd_tup (pda_cons pd_str (pda_cons pd_int pda_nil)))) (pd_and (pd_cmp (od_eq rfl hr.units) (pd_callN ok_worths_text hr (by decide) passK rfl (pda_cons (pd_tup pda_nil) (pda_cons (pd_var (i:=2) rfl (Or.inr (Or.inl rfl)) (by decide)) pda_nil))) pd_str) (pd_one (pd_cmp (od_eq rfl hr.units) (pd_callN ok_read_worths hr (by decide) passK rfl (pda_cons pd_str (pda_cons (pd_var (i:=2) rfl (Or.inr (Or.inl rfl)) (by decide)) pda_nil))) (pd_tup pda_nil)))))))))))))))))))) fun _=>.inr rfl
end
end Kx
namespace PySem
open Builtin Builtin.Str StrLaws
noncomputable def blanks (c:Nat):Nat->List Nat->List Nat
 | _,[]=>[]
 | a,d::r=>if d=c then a::blanks c (a+1) r else blanks c (a+1) r
theorem sub_one (x:Str) (c i:Nat):subAt x ⟨#[c]⟩ i=decide ((x.cps.toList.drop i).head?=some c):=by
 rw [subAt_eq]
 show ((x.cps.toList.drop i).take 1 == [c])=_
 cases x.cps.toList.drop i with
 | nil=>rfl
 | cons d r=>by_cases h:d=c <;> simp [h]
theorem occ_run (x:Str) (c:Nat):∀ (m i:Nat) (st:Array Nat×Nat),i+m=x.length+1->st.1.size<=i->st.2<=i ->
  (forIn (List.range' i m) st (occBody x ⟨#[c]⟩ x.length (x.length+1))).run.fst.toList=st.1.toList++blanks c i (x.cps.toList.drop i)
 | 0,i,st,h,_,_=>by
  have hl0:x.cps.toList.length=x.length:=by simp [Str.length]
  have:x.cps.toList.drop i=[]:=List.drop_eq_nil_of_le (by omega)
  rw [this]
  simp [blanks]
 | m+1,i,st,h,h1,h2=>by
  rw [List.range'_succ,List.forIn_cons]
  have hl:x.cps.toList.length=x.length:=by simp [Str.length]
  by_cases hi:i < x.length
  ·have hd:x.cps.toList.drop i=x.cps.toList[i]'(by omega)::x.cps.toList.drop (i+1):=List.drop_eq_getElem_cons (by omega)
   by_cases hc:x.cps.toList[i]'(by omega)=c
   ·have hb:occBody x ⟨#[c]⟩ x.length (x.length+1) i st=pure (ForInStep.yield (st.1.push i,i+1)):=by
     unfold occBody
     rw [if_pos ⟨⟨⟨by omega,h2⟩,by show i+1<=x.length; omega⟩,by rw [sub_one,hd,hc]; simp⟩]
     rfl
    rw [hb]
    have ih:=occ_run x c m (i+1) (st.1.push i,i+1) (by omega) (by rw [Array.size_push]; omega) (Nat.le_refl _)
    rw [hd,hc,blanks,if_pos rfl]
    refine Eq.trans ih ?_
    simp
   ·have hb:occBody x ⟨#[c]⟩ x.length (x.length+1) i st=pure (ForInStep.yield (st.1,st.2)):=by
     unfold occBody
     rw [if_neg fun z=>hc (by have:=z.2; rw [sub_one,hd] at this; simpa using this)]
    rw [hb]
    have ih:=occ_run x c m (i+1) st (by omega) (by omega) (by omega)
    rw [hd,blanks,if_neg hc]
    exact ih
  ·have hd:x.cps.toList.drop i=[]:=List.drop_eq_nil_of_le (by omega)
   have hd2:x.cps.toList.drop (i+1)=[]:=List.drop_eq_nil_of_le (by omega)
   have hb:occBody x ⟨#[c]⟩ x.length (x.length+1) i st=pure (ForInStep.yield (st.1,st.2)):=by
    unfold occBody
    rw [if_neg fun z=>by have:i+1<=x.length:=z.1.2; omega]
   rw [hb]
   have ih:=occ_run x c m (i+1) st (by omega) (by omega) (by omega)
   rw [hd2] at ih
   rw [hd]
   exact ih
theorem occ_is (x:Str) (c:Nat):occurrences x ⟨#[c]⟩ 0 x.length (x.length+1)=blanks c 0 x.cps.toList:=by
 rw [occ_eq]
 have:=occ_run x c (x.length+1) 0 (#[],0) (by omega) (by simp) (Nat.le_refl _)
 simpa using this
theorem blanks_none {c:Nat}:∀ (l:List Nat) (a:Nat),c∉l->blanks c a l=[]
 | [],a,_=>rfl
 | d::r,a,h=>by
  rw [blanks,if_neg fun z=>h (by rw [z]; exact List.mem_cons_self ..)]
  exact blanks_none r (a+1) fun z=>h (List.mem_cons_of_mem _ z)
theorem blanks_app {c:Nat}:∀ (l r:List Nat) (a:Nat),c∉l->blanks c a (l++c::r)=(a+l.length)::blanks c (a+l.length+1) r
 | [],r,a,_=>by simp [blanks]
 | d::l,r,a,h=>by
  rw [List.cons_append,blanks,if_neg fun z=>h (by rw [z]; exact List.mem_cons_self ..),blanks_app l r (a+1) fun z=>h (List.mem_cons_of_mem _ z)]
  simp only [List.length_cons]
  congr 1
  ·omega
  ·congr 1
   omega
theorem join_toList (c:Nat) (p:Str) (q:Str) (r:List Str):(Str.join ⟨#[c]⟩ (p::q::r)).cps.toList=p.cps.toList++c::(Str.join ⟨#[c]⟩ (q::r)).cps.toList:=by
 show (p++⟨#[c]⟩++Str.join ⟨#[c]⟩ (q::r)).cps.toList=_
 rw [Str.cps_append,Str.cps_append]
 simp
theorem parts_is {x:Str} {c:Nat}:∀ (ps:List Str) (a:Nat),ps≠[]->(∀ p∈ps,c∉p.cps.toList)->a<=x.length->x.cps.toList.drop a=(Str.join ⟨#[c]⟩ ps).cps.toList->partsFrom x 1 a (blanks c a (x.cps.toList.drop a))=ps
 | [],_,h,_,_,_=>absurd rfl h
 | [p],a,_,hn,ha,e=>by
  have e':x.cps.toList.drop a=p.cps.toList:=e
  rw [e',blanks_none _ _ (hn p (List.mem_cons_self ..))]
  show [strSub x a x.length]=[p]
  congr 1
  apply Str.ext'
  apply Array.toList_inj.mp
  have hl:x.cps.toList.length=x.length:=by simp [Str.length]
  rw [strSub_toList,e',List.take_of_length_le]
  rw [<-e',List.length_drop]
  omega
 | p::q::r,a,_,hn,ha,e=>by
  have hl:x.cps.toList.length=x.length:=by simp [Str.length]
  rw [join_toList] at e
  have hp:=hn p (List.mem_cons_self ..)
  have hlen:(x.cps.toList.drop a).length=x.length - a:=by rw [List.length_drop,hl]
  rw [e,List.length_append,List.length_cons] at hlen
  have e2:x.cps.toList.drop (a+p.cps.toList.length+1)=(Str.join ⟨#[c]⟩ (q::r)).cps.toList:=by
   rw [Nat.add_assoc,<-List.drop_drop,e,<-List.drop_drop,List.drop_left]
   rfl
  have ih:=parts_is (x:=x) (q::r) (a+p.cps.toList.length+1) (by simp) (fun z hz=>hn z (List.mem_cons_of_mem _ hz)) (by omega) e2
  rw [e,blanks_app _ _ _ hp,<-e2]
  show strSub x a (a+p.cps.toList.length)::partsFrom x 1 (a+p.cps.toList.length+1) _=_
  rw [ih]
  congr 1
  apply Str.ext'
  apply Array.toList_inj.mp
  rw [strSub_toList,e,Nat.add_sub_cancel_left,List.take_left]
theorem split_join {c:Nat} (hc:c < 256) {ps:List Str} (h:ps≠[]) (hn:∀ p∈ps,c∉p.cps.toList):Txt.split (Txt.join ⟨#[c]⟩ ps) ⟨#[c]⟩=ps:=by
 have ej:Txt.join ⟨#[c]⟩ ps=Str.join ⟨#[c]⟩ ps:=glued_eq_join _ _
 rw [ej]
 generalize hx:Str.join ⟨#[c]⟩ ps=x
 have hp:=parts_is (x:=x) ps 0 h hn (Nat.zero_le _) (by rw [hx]; rfl)
 rw [List.drop_zero] at hp
 have hk:Builtin.Str.strKind (⟨#[c]⟩:Str)=1:=by
  unfold Builtin.Str.strKind
  rw [if_pos (by simpa using hc)]
 have hk1:∀ y:Str,1<=Builtin.Str.strKind y:=by
  intro y
  unfold Builtin.Str.strKind
  split
  ·omega
  ·split <;> omega
 unfold Txt.split
 by_cases h0:x.length < 1
 ·have hc1:(decide (x.length < (⟨#[c]⟩:Str).length)||decide (Builtin.Str.strKind x < Builtin.Str.strKind (⟨#[c]⟩:Str)))=true:=by
   have:decide (x.length < (⟨#[c]⟩:Str).length)=true:=decide_eq_true h0
   rw [this]; rfl
  rw [if_pos hc1]
  have hl1:x.cps.toList.length=x.length:=by simp [Str.length]
  have hxe:x.cps.toList=[]:=List.eq_nil_of_length_eq_zero (by omega)
  rw [hxe] at hp
  rw [<-hp]
  show [x]=[strSub x 0 x.length]
  rw [sub_whole]
 ·have hc1:(decide (x.length < (⟨#[c]⟩:Str).length)||decide (Builtin.Str.strKind x < Builtin.Str.strKind (⟨#[c]⟩:Str)))=false:=by
   have h1:decide (x.length < (⟨#[c]⟩:Str).length)=false:=decide_eq_false h0
   have h2:decide (Builtin.Str.strKind x < Builtin.Str.strKind (⟨#[c]⟩:Str))=false:=decide_eq_false (by rw [hk]; have:=hk1 x; omega)
   rw [h1,h2]; rfl
  rw [if_neg (by rw [hc1]; exact Bool.false_ne_true),occ_is]
  cases hb:blanks c 0 x.cps.toList with
  | nil=>
   rw [if_pos (show ([]:List Nat).isEmpty=true from rfl)]
   rw [hb] at hp
   rw [<-hp]
   show [x]=[strSub x 0 x.length]
   rw [sub_whole]
  | cons i r=>
   rw [if_neg (by simp),partsBetween_eq,<-hb]
   exact hp
end PySem
namespace Kx
open PySem PySem.Spec L2 L2.D2
theorem atI_nat {α:Type} (xs:List α) (k:Nat):atI xs (k:Int)=xs[k]?:=by
 unfold atI ixN
 rw [if_pos (by omega)]
 by_cases h:k < xs.length
 ·rw [if_pos (by omega)]
  simp
 ·rw [if_neg (by omega),List.getElem?_eq_none (by omega)]
  rfl
theorem atI_of {α:Type} {xs:List α} {i:Int} (h0:0<=i) (h1:i < xs.length):∃ d,atI xs i=some d/\d∈xs:=by
 obtain ⟨k,rfl⟩:=Int.eq_ofNat_of_zero_le h0
 have hk:k < xs.length:=by omega
 exact ⟨xs[k],by rw [atI_nat,List.getElem?_eq_getElem hk],List.getElem_mem hk⟩
theorem big:2000<=sizeLine:=by rw [sizeLine_eq]; decide
abbrev scr (ns:List Int):D:=.lst (ns.map .int)
theorem cell_is (ns:List Int) (k:Nat):∃ i,g_Lcell_at [scr ns,.int k]=.ok (.int i,[.non,.non]):=by
 by_cases h:k < ns.length
 ·refine ⟨ns[k],?_⟩
  refine runD_ap.trans ?_
  simp [f_Lcell_at,startD,lenD,ltD,ixD,outsOf,h,atI_nat]
 ·by_cases h0:ns=[]
  ·subst h0
   have hk:¬((k:Int) < 0):=by omega
   exact ⟨0,by refine runD_ap.trans ?_; simp [f_Lcell_at,startD,lenD,ltD,ixD,outsOf,eqD,eqN,eqLs,hk]⟩
  ·have hp:0 < ns.length:=List.length_pos_iff.mpr h0
   have hm:k % ns.length < ns.length:=Nat.mod_lt _ hp
   have e:atI (ns.map D.int) ((k:Int) % (ns.length:Int))=some (.int ns[k % ns.length]):=by
    rw [show ((k:Int) % (ns.length:Int))=((k % ns.length:Nat):Int) by simp,atI_nat,List.getElem?_map,List.getElem?_eq_getElem hm]
    rfl
   refine ⟨ns[k % ns.length] * 31+k,?_⟩
   refine runD_ap.trans ?_
   simp [f_Lcell_at,startD,lenD,ltD,ixD,outsOf,eqD,eqN,h,h0,modD,mulD,addD,intD,hp,e,CMul]
theorem mixed_is (ns:List Int) (k:Nat) {many:Int} (hm:0 < many):∃ r,0<=r/\r < many/\g_Lmixed [scr ns,.int k,.int many]=.ok (.int r,[.non,.non,.non]):=by
 obtain ⟨c,hc⟩:=cell_is ns k
 have h1:=Int.emod_nonneg (c * 1103515245+7919 * k+12345) (show (2147483647:Int)≠0 by decide)
 have h2:=Int.emod_lt_of_pos (c * 1103515245+7919 * k+12345) (show (0:Int) < 2147483647 by decide)
 generalize hd:(c * 1103515245+7919 * (k:Int)+12345) % 2147483647=d at h1 h2
 have c1:L2.D2.CPow d 5:=⟨⟨by omega,by omega⟩,by omega,by omega⟩
 refine ⟨d ^ 5 % 2147483647 % 999983 % many,Int.emod_nonneg _ (by omega),Int.emod_lt_of_pos _ hm,?_⟩
 refine runD_ap.trans ?_
 simp [f_Lmixed,startD,outsOf,fillA,putA,hc,mulD,modD,addD,powD,intD,hm,hd,c1,show ∀ j,CMul 7919 j from fun j=>.inl ⟨by omega,by omega⟩,show ∀ i,CMul i 1103515245 from fun i=>.inr ⟨by omega,by omega⟩]
theorem draw_is (ns:List Int) (town:List D) {many:Int} (hm:0 < many) (ht:town.length < 1000):∃ r,0<=r/\r < many/\g_Ldraw [scr ns,.lst town,.int many]=.ok (.int r,[.non,.lst (town++[.int 0]),.non]):=by
 obtain ⟨r,h0,h1,h⟩:=mixed_is ns (town.length+1) hm
 have hl:town.length < sizeLine:=Nat.lt_of_lt_of_le (Nat.lt_trans ht (by decide)) big
 refine ⟨r,h0,h1,?_⟩
 simp at h
 refine runD_ap.trans ?_
 simp [f_Ldraw,startD,outsOf,fillA,putA,isLst,appG,lenD,hl,h]
theorem pick_is (ns:List Int) (town xs:List D) (hx:xs≠[]) (ht:town.length < 1000):∃ d,d∈xs/\g_Lpick [scr ns,.lst town,.lst xs]=.ok (d,[.non,.lst (town++[.int 0]),.non]):=by
 have hp:0 < xs.length:=List.length_pos_iff.mpr hx
 obtain ⟨r,h0,h1,h⟩:=draw_is ns town (many:=(xs.length:Int)) (by omega) ht
 obtain ⟨d,e,hd⟩:=atI_of (xs:=xs) h0 h1
 refine ⟨d,hd,?_⟩
 refine runD_ap.trans ?_
 simp [f_Lpick,startD,outsOf,fillA,putA,lenD,h,ixD,e]
def az (c:Nat):Prop:=97<=c/\c<=122
theorem str_len (x:Str):x.length=x.cps.size:=rfl
theorem str_app (x y:Str):(x++y).cps=x.cps++y.cps:=rfl
theorem strsD_map:∀ ws:List Str,strsD (ws.map D.str)=some ws
 | []=>rfl
 | w::ws=>by simp [strsD,strsD_map ws]
theorem small {n:Nat} (h:n<=2000):n<=sizeLine:=Nat.le_trans h big
theorem capOut_own {own:List Nat} (ρc:Sl):∀ (cap:List Nat) (n:Nat) (ρ:Sl),(∀ k∈cap,k∉own)->capOut own ρc n cap ρ=ρ
 | [],n,ρ,_=>rfl
 | k::cap,n,ρ,h=>by
  unfold capOut
  rw [if_neg (h k (List.mem_cons_self ..))]
  exact capOut_own ρc cap (n+1) ρ fun x hx=>h x (List.mem_cons_of_mem _ hx)
theorem compF {fe:Sl->Out (D×Sl)} {ft:Sl->Out (Bool×Sl)} {P:D->Bool} {F:D->D} {caps:Sl}:∀ (ds:List D) (x:Option D),(∀ d∈ds,ft (some d::caps)=.ok (P d,some d::caps))->(∀ d∈ds,P d=true->fe (some d::caps)=.ok (F d,some d::caps))->∃ x',compD (gNm 0) ft fe ds (x::caps)=.ok ((ds.filter P).map F,x'::caps)
 | [],x,_,_=>⟨x,rfl⟩
 | d::ds,x,h,h'=>by
  obtain ⟨x',e⟩:=compF ds (some d) (fun d' hd=>h d' (List.mem_cons_of_mem _ hd)) fun d' hd=>h' d' (List.mem_cons_of_mem _ hd)
  refine ⟨x',?_⟩
  have h1:=h d (List.mem_cons_self ..)
  have h2:=h' d (List.mem_cons_self ..)
  cases q:P d with
  | true=>simp [compD,turnD,h1,q,h2 q,e]
  | false=>simp [compD,turnD,h1,q,e]
theorem dCompF {own:List Nat} {cap:List Nat} {fi:Sl->Out (List D×Sl)} {fe:Sl->Out (D×Sl)} {ft:Sl->Out (Bool×Sl)} {ρ ρ1:Sl} {ds:List D} (P:D->Bool) (F:D->D) (ho:∀ k∈cap,k∉own) (h:fi ρ=.ok (ds,ρ1)) (hl:ds.length<=sizeLine)
  (ht:∀ d∈ds,ft (some d::cap.map fun k=>(ρ1[k]?).getD none)=.ok (P d,some d::cap.map fun k=>(ρ1[k]?).getD none)) (he:∀ d∈ds,P d=true->fe (some d::cap.map fun k=>(ρ1[k]?).getD none)=.ok (F d,some d::cap.map fun k=>(ρ1[k]?).getD none)) :
  dComp own 1 cap fi (gNm 0) ft fe ρ=.ok (.lst ((ds.filter P).map F),ρ1):=by
 obtain ⟨x',e⟩:=compF ds none ht he
 unfold dComp
 rw [h]
 simp only [ob_ok]
 rw [if_pos hl,show capIn 1 cap ρ1=none::cap.map fun k=>(ρ1[k]?).getD none from rfl,e]
 simp only [ob_ok,capOut_own _ _ _ _ ho]
theorem dComp1o {own:List Nat} {cap:List Nat} {fi:Sl->Out (List D×Sl)} {fe:Sl->Out (D×Sl)} {ρ ρ1:Sl} {ds:List D} (F:D->D) (ho:∀ k∈cap,k∉own) (h:fi ρ=.ok (ds,ρ1)) (hl:ds.length<=sizeLine) (ht:∀ d∈ds,fe (some d::cap.map fun k=>(ρ1[k]?).getD none)=.ok (F d,some d::cap.map fun k=>(ρ1[k]?).getD none)) :
  dComp own 1 cap fi (gNm 0) ftT fe ρ=.ok (.lst (ds.map F),ρ1):=by
 have e:=dCompF (ft:=ftT) (fun _=>true) F ho h hl (fun _ _=>rfl) fun d hd _=>ht d hd
 rw [List.filter_eq_self.mpr fun _ _=>rfl] at e
 exact e
theorem dComp1 {cap:List Nat} {fi:Sl->Out (List D×Sl)} {fe:Sl->Out (D×Sl)} {ρ ρ1:Sl} {ds:List D} (F:D->D) (h:fi ρ=.ok (ds,ρ1)) (hl:ds.length<=sizeLine) (ht:∀ d∈ds,fe (some d::cap.map fun k=>(ρ1[k]?).getD none)=.ok (F d,some d::cap.map fun k=>(ρ1[k]?).getD none)) :
  dComp [] 1 cap fi (gNm 0) ftT fe ρ=.ok (.lst (ds.map F),ρ1):=dComp1o F (fun _ _=>by simp) h hl ht
theorem compF2 {fe:Sl->Out (D×Sl)} {ft:Sl->Out (Bool×Sl)} {P:D×D->Bool} {F:D×D->D} {caps:Sl}:∀ (ps:List (D×D)) (x y:Option D),(∀ p∈ps,ft (some p.1::some p.2::caps)=.ok (P p,some p.1::some p.2::caps))->(∀ p∈ps,P p=true->fe (some p.1::some p.2::caps)=.ok (F p,some p.1::some p.2::caps)) ->
  ∃ x' y',compD (gTupD 2 (gConsD (gNm 0) (gConsD (gNm 1) gNilD))) ft fe (ps.map fun p=>.tup [p.1,p.2]) (x::y::caps)=.ok ((ps.filter P).map F,x'::y'::caps)
 | [],x,y,_,_=>⟨x,y,rfl⟩
 | p::ps,x,y,h,h'=>by
  obtain ⟨x',y',e⟩:=compF2 ps (some p.1) (some p.2) (fun d' hd=>h d' (List.mem_cons_of_mem _ hd)) fun d' hd=>h' d' (List.mem_cons_of_mem _ hd)
  refine ⟨x',y',?_⟩
  have h1:=h p (List.mem_cons_self ..)
  have h2:=h' p (List.mem_cons_self ..)
  cases q:P p with
  | true=>simp [compD,turnD,gTupD,gConsD,gNilD,h1,q,h2 q,e]
  | false=>simp [compD,turnD,gTupD,gConsD,gNilD,h1,q,e]
theorem dCompF2 {own:List Nat} {cap:List Nat} {fi:Sl->Out (List D×Sl)} {fe:Sl->Out (D×Sl)} {ft:Sl->Out (Bool×Sl)} {ρ ρ1:Sl} {ps:List (D×D)} (P:D×D->Bool) (F:D×D->D) (ho:∀ k∈cap,k∉own) (h:fi ρ=.ok (ps.map fun p=>.tup [p.1,p.2],ρ1)) (hl:ps.length<=sizeLine)
  (ht:∀ p∈ps,ft (some p.1::some p.2::cap.map fun k=>(ρ1[k]?).getD none)=.ok (P p,some p.1::some p.2::cap.map fun k=>(ρ1[k]?).getD none))
  (he:∀ p∈ps,P p=true->fe (some p.1::some p.2::cap.map fun k=>(ρ1[k]?).getD none)=.ok (F p,some p.1::some p.2::cap.map fun k=>(ρ1[k]?).getD none)) :
  dComp own 2 cap fi (gTupD 2 (gConsD (gNm 0) (gConsD (gNm 1) gNilD))) ft fe ρ=.ok (.lst ((ps.filter P).map F),ρ1):=by
 obtain ⟨x',y',e⟩:=compF2 ps none none ht he
 unfold dComp
 rw [h]
 simp only [ob_ok]
 rw [if_pos (by rw [List.length_map]; exact hl),show capIn 2 cap ρ1=none::none::cap.map fun k=>(ρ1[k]?).getD none from rfl,e]
 simp only [ob_ok,capOut_own _ _ _ _ ho]
theorem rng0 (n:Nat):rngL 0 n=(List.range n).map fun (j:Nat)=>.int j:=by
 unfold rngL
 simp
theorem iR0 {f:Sl->Out (D×Sl)} {ρ ρ1:Sl} {k:Int} (h0:0<=k) (h1:k<=2000) (h:f ρ=.ok (.int k,ρ1)):iRange1 f ρ=.ok (rngL 0 k.toNat,ρ1):=by
 have c1:-(2 ^ 62:Int)<=k/\k < 2 ^ 62:=by omega
 simp [iRange1,h,-Int.reducePow,c1]
theorem iR1 {f:Sl->Out (D×Sl)} {ρ ρ1:Sl} {n:Nat} (h:f ρ=.ok (.int n,ρ1)) (hn:n<=2000):iRange1 f ρ=.ok ((List.range n).map fun (j:Nat)=>.int j,ρ1):=by
 rw [iR0 (by omega) (by omega) h,rng0,Int.toNat_natCast]
def Pl:D->Prop
 | .raw _=>False
 | .xcp _=>False
 | .ins _ _=>False
 | .dct _=>False
 | _=>True
@[simp] theorem kk1:kitTT "NoneType" "int"=some false:=by decide +kernel
@[simp] theorem kk2:kitTT "bool" "int"=some true:=by decide +kernel
@[simp] theorem kk3:kitTT "int" "int"=some true:=by decide +kernel
@[simp] theorem kk4:kitTT "str" "int"=some false:=by decide +kernel
@[simp] theorem kk5:kitTT "tuple" "int"=some false:=by decide +kernel
@[simp] theorem kk6:kitTT "list" "int"=some false:=by decide +kernel
@[simp] theorem kb1:kitTT "NoneType" "bool"=some false:=by decide +kernel
@[simp] theorem kb2:kitTT "bool" "bool"=some true:=by decide +kernel
@[simp] theorem kb3:kitTT "int" "bool"=some false:=by decide +kernel
@[simp] theorem kb4:kitTT "str" "bool"=some false:=by decide +kernel
@[simp] theorem kb5:kitTT "tuple" "bool"=some false:=by decide +kernel
@[simp] theorem kb6:kitTT "list" "bool"=some false:=by decide +kernel
@[simp] theorem ks1:kitTT "NoneType" "str"=some false:=by decide +kernel
@[simp] theorem ks2:kitTT "bool" "str"=some false:=by decide +kernel
@[simp] theorem ks3:kitTT "int" "str"=some false:=by decide +kernel
@[simp] theorem ks4:kitTT "str" "str"=some true:=by decide +kernel
@[simp] theorem ks5:kitTT "tuple" "str"=some false:=by decide +kernel
@[simp] theorem ks6:kitTT "list" "str"=some false:=by decide +kernel
@[simp] theorem kt1:kitTT "NoneType" "tuple"=some false:=by decide +kernel
@[simp] theorem kt2:kitTT "bool" "tuple"=some false:=by decide +kernel
@[simp] theorem kt3:kitTT "int" "tuple"=some false:=by decide +kernel
@[simp] theorem kt4:kitTT "str" "tuple"=some false:=by decide +kernel
@[simp] theorem kt5:kitTT "tuple" "tuple"=some true:=by decide +kernel
@[simp] theorem kt6:kitTT "list" "tuple"=some false:=by decide +kernel
noncomputable def isTup:D->Bool
 | .tup _=>true
 | _=>false
noncomputable def isInt:D->Bool
 | .int _=>true
 | .bl _=>true
 | _=>false
theorem td_tup {d:D} (h:Pl d):isTD "tuple" d=.ok (.bl (isTup d)):=by cases d <;> first | exact h.elim | simp [isTD,tyN,isTup]
noncomputable def letB:D->Bool
 | .str x=>decide (x.length=1)&&(!strLt x "a"&&!strLt "z" x)
 | _=>false
noncomputable def betB (lo hi:Int):D->Bool
 | .int i=>decide (lo<=i)&&decide (i<=hi)
 | _=>false
theorem is_letter_is {d:D} (h:Pl d):g_is_letter [d]=.ok (.bl (letB d),[.non]):=by
 refine runD_ap.trans ?_
 cases d <;> first
  | exact h.elim
  | (simp [f_is_letter,startD,outsOf,isTD,tyN,letB]; done)
  | skip
 rename_i x
 by_cases h1:x.length=1
 ·have h1':(x.length:Int)=1:=by omega
  cases h2:strLt x "a" <;> simp [f_is_letter,startD,isTD,tyN,lenD,eqD,eqN,eqS,leD,outsOf,letB,h1,h1',h2]
 ·have h1':¬(x.length:Int)=1:=by omega
  simp [f_is_letter,startD,isTD,tyN,lenD,eqD,eqN,eqS,leD,outsOf,letB,h1,h1']
theorem is_between_is {d:D} (h:Pl d) (lo hi:Int):g_is_between [d,.int lo,.int hi]=.ok (.bl (betB lo hi d),[.non,.non,.non]):=by
 refine runD_ap.trans ?_
 cases d <;> first
  | exact h.elim
  | (simp [f_is_between,startD,outsOf,isTD,tyN,betB,truD]; done)
  | skip
 rename_i i
 by_cases h1:lo<=i <;> simp [f_is_between,startD,isTD,tyN,leD,outsOf,betB,truD,h1]
theorem let_az {c:Nat} (h:az c):letB (.str ⟨#[c]⟩)=true:=by
 have ha:(Str.ofString "a").cps.toList=[97]:=by decide +kernel
 have hz:(Str.ofString "z").cps.toList=[122]:=by decide +kernel
 obtain ⟨h1,h2⟩:=h
 have l1:¬([c]:List Nat) < [97]:=by
  rw [List.cons_lt_cons_iff]
  simp
  omega
 have l2:¬([122]:List Nat) < [c]:=by
  rw [List.cons_lt_cons_iff]
  simp
  omega
 have e1:strLt ⟨#[c]⟩ (Str.ofString "a")=false:=by
  unfold strLt
  rw [ha]
  exact decide_eq_false l1
 have e2:strLt (Str.ofString "z") ⟨#[c]⟩=false:=by
  unfold strLt
  rw [hz]
  exact decide_eq_false l2
 simp [letB,str_len,e1,e2]
theorem boolsD_map {α:Type} (f:α->Bool):∀ l:List α,boolsD (l.map fun x=>.bl (f x))=some (l.map f)
 | []=>rfl
 | a::l=>by
  have ih:=boolsD_map f l
  simp [boolsD,ih]
theorem allD_map {α:Type} (f:α->Bool) (l:List α):allD (.lst (l.map fun x=>.bl (f x)))=.ok (.bl (l.all f)):=by
 simp only [allD,boolsD_map]
 simp [List.all_map,Function.comp_def]
theorem foldS_nodup:∀ (ws ks:List Str),ws.Nodup->(∀ x∈ws,x∉ks)->ws.foldl addS ks=ks++ws
 | [],ks,_,_=>by simp
 | w::ws,ks,hn,hd=>by
  have h1:=List.nodup_cons.mp hn
  rw [List.foldl_cons,show addS ks w=ks++[w] from if_neg (hd w (List.mem_cons_self ..)),foldS_nodup ws (ks++[w]) h1.2 ?_]
  ·simp
  ·intro x hx z
   rcases List.mem_append.mp z with z | z
   ·exact hd x (List.mem_cons_of_mem _ hx) z
   ·rw [List.mem_singleton.mp z] at hx
    exact h1.1 hx
theorem foldS_set (ws:List Str):∀ ks:List Str,ks.Nodup->(ws.foldl addS ks).Nodup/\∀ x,x∈ws.foldl addS ks↔x∈ks\/x∈ws:=by
 induction ws with
 | nil=>intro ks hn; exact ⟨hn,fun x=>by simp⟩
 | cons w ws ih=>
  intro ks hn
  have hn2:(addS ks w).Nodup:=by
   unfold addS
   split
   ·exact hn
   ·rename_i h
    exact List.nodup_append.mpr ⟨hn,by simp,fun a ha b hb=>by
     rw [List.mem_singleton.mp hb]
     exact fun z=>h (z ▸ ha)⟩
  obtain ⟨a,b⟩:=ih (addS ks w) hn2
  refine ⟨a,fun x=>?_⟩
  rw [List.foldl_cons,b x]
  unfold addS
  split
  ·rename_i h
   constructor
   ·rintro (q | q)
    ·exact .inl q
    ·exact .inr (List.mem_cons_of_mem _ q)
   ·rintro (q | q)
    ·exact .inl q
    ·rcases List.mem_cons.mp q with rfl | q
     ·exact .inl h
     ·exact .inr q
  ·simp [List.mem_append,or_assoc]
def Nice (d:D):Prop:=Pl d/\∀ xs,d=.tup xs->∀ x∈xs,Pl x
noncomputable def worB (room:Int):D->Bool
 | .tup [a,b]=>letB a&&betB 0 (room - 1) b
 | _=>false
theorem at0 {a:D} {l:List D}:atI (a::l) 0=some a:=by
 have:=atI_nat (a::l) 0
 simpa using this
theorem at1 {a b:D} {l:List D}:atI (a::b::l) 1=some b:=by
 have:=atI_nat (a::b::l) 1
 simpa using this
theorem is_worth_is {d:D} (h:Nice d) (room:Int):g_is_worth [d,.int room]=.ok (.bl (worB room d),[.non,.non]):=by
 refine runD_ap.trans ?_
 have ht:=td_tup h.1
 cases d with
 | tup xs=>
  have hp:=h.2 xs rfl
  match xs,hp with
  | [],_=>simp [f_is_worth,startD,outsOf,ht,isTup,truD,lenD,neD,eqN,eqS,worB]
  | [a],_=>simp [f_is_worth,startD,outsOf,ht,isTup,truD,lenD,neD,eqN,eqS,worB]
  | [a,b],hp=>
   have h1:=is_letter_is (hp a (by simp))
   have h2:=is_between_is (hp b (by simp)) 0 (room - 1)
   cases hb:letB a <;> simp [f_is_worth,startD,outsOf,ht,isTup,truD,lenD,neD,eqN,eqS,worB,ixD,at0,at1,fillA,putA,h1,h2,hb,subD,intD]
  | a::b::c::l,_=>
   have hne:¬((l.length:Int)+1+1+1=2):=by omega
   simp [f_is_worth,startD,outsOf,ht,isTup,truD,lenD,neD,eqN,eqS,worB,hne]
 | _=>first | exact h.1.elim | simp [f_is_worth,startD,outsOf,ht,isTup,truD,worB]
noncomputable def prL (l:List (Str×Int)):List D:=l.map fun x=>.tup [.str x.1,.int x.2]
def OkW (room:Int) (l:List (Str×Int)):Prop:=∀ x∈l,letB (.str x.1)=true/\0<=x.2/\x.2 < room
theorem wor_prL {room:Int} {l:List (Str×Int)} (h:OkW room l):(prL l).all (worB room)=true:=by
 rw [List.all_eq_true]
 intro d hd
 obtain ⟨x,hx,rfl⟩:=List.mem_map.mp hd
 obtain ⟨h1,h2,h3⟩:=h x hx
 simp [worB,h1,betB,h2]
 omega
noncomputable def keysL (l:List (Str×Int)):List Str:=l.map (·.1)
theorem eqLs_strs:∀ (a b:List Str),eqLs (eqN 7) (a.map D.str) (b.map D.str)=some (decide (a.take (min a.length b.length)=b.take (min a.length b.length)))
 | [],b=>by simp [eqLs]
 | a::l,[]=>by simp [eqLs]
 | a::l,b::m=>by
  have ih:=eqLs_strs l m
  simp only [List.map_cons,eqLs,ih,eqN,eqS,List.length_cons,Nat.succ_eq_add_one,show min (l.length+1) (m.length+1)=min l.length m.length+1 by omega,List.take_succ_cons]
  by_cases h:a=b <;> simp [h]
theorem eqD_strs (a b:List Str):eqD (.lst (a.map D.str)) (.lst (b.map D.str))=.ok (.bl (decide (a=b))):=by
 by_cases h:a.length=b.length
 ·have e:=eqLs_strs a b
  rw [h,Nat.min_self,List.take_length,<-h,List.take_length] at e
  simp [eqD,eqN,h,e]
 ·have hne:a≠b:=fun z=>h (by rw [z])
  simp [eqD,eqN,h,hne]
noncomputable def riseB (l:List (Str×Int)):Bool:=decide (keysL l=sortS ((keysL l).foldl addS []))
theorem is_worths_no {d:D} (h:Pl d) (hn:isTup d=false) (room:Int):g_is_worths [d,.int room]=.ok (.bl false,[.non,.non]):=by
 refine runD_ap.trans ?_
 have ht:=td_tup h
 simp [f_is_worths,startD,outsOf,ht,hn,truD]
theorem is_worths_is {ds:List D} (h:∀ d∈ds,Nice d) (hl:ds.length<=50) (room:Int):(ds.all (worB room)=false->g_is_worths [.tup ds,.int room]=.ok (.bl false,[.non,.non]))/\∀ l,ds=prL l->OkW room l->g_is_worths [.tup ds,.int room]=.ok (.bl (riseB l),[.non,.non]):=by
 have hz:ds.length<=sizeLine:=small (by omega)
 have ht:=td_tup (d:=.tup ds) trivial
 have e1:=dComp1 (cap:=[1]) (fi:=iAny (dVar 0)) (ρ:=[some (.tup ds),some (.int room),none]) (ρ1:=[some (.tup ds),some (.int room),none]) (ds:=ds) (fe:=dCall [.vl,.vl] g_is_worth (aCons (dVar 0) (aCons (dVar 1) aNil))) (fun d=>.bl (worB room d)) (by simp [seqOfA]) hz (fun d hd=>by
   have h1:=is_worth_is (h d hd) room
   simp [fillA,putA,h1])
 have ha:=allD_map (worB room) ds
 constructor
 ·intro hb
  refine runD_ap.trans ?_
  simp [f_is_worths,startD,outsOf,ht,isTup,truD,e1,ha,hb]
 ·rintro l rfl hw
  refine runD_ap.trans ?_
  have hb:=wor_prL hw
  have e2:=dComp1 (cap:=[]) (fi:=iAny (dVar 0)) (ρ:=[some (.tup (prL l)),some (.int room),none]) (ρ1:=[some (.tup (prL l)),some (.int room),none]) (ds:=prL l) (fe:=d2 ixD (dVar 0) (dC (.int 0))) (fun d=>match d with | .tup [a,b]=>a | d=>d) (by simp [seqOfA]) hz (fun d hd=>by
   obtain ⟨x,hx,rfl⟩:=List.mem_map.mp hd
   simp [ixD,at0])
  have f2:(prL l).map (fun d=>match d with | .tup [a,b]=>a | d=>d)=(keysL l).map D.str:=by simp [prL,keysL]
  rw [f2] at e2
  have h64:(keysL l).length < 64:=by
   simp [keysL]
   simp [prL] at hl
   omega
  have ee:=eqD_strs (keysL l) (sortS ((keysL l).foldl addS []))
  simp [f_is_worths,startD,outsOf,ht,isTup,truD,e1,ha,hb,e2,sortSetD,seqStr,strsD_map,h64,ee,riseB]
noncomputable def stepB:List Str->Bool
 | x::y::l=>strLt x y&&stepB (y::l)
 | _=>true
theorem lt_le {x y:Str} (h:strLt x y=true):leS x y/\x≠y:=by
 unfold strLt at h
 have h:=of_decide_eq_true h
 constructor
 ·exact List.le_of_lt h
 ·rintro rfl
  exact List.lt_irrefl _ h
theorem lt_of {x y:Str} (h:leS x y) (n:x≠y):strLt x y=true:=by
 cases e:strLt x y with
 | true=>rfl
 | false=>exact absurd (leS_anti h (strLt_false.mp e)) n
theorem step_pw:∀ (l:List Str),stepB l=true->l.Pairwise (fun x y=>leS x y/\x≠y)
 | [],_=>List.Pairwise.nil
 | [x],_=>List.pairwise_singleton _ _
 | x::y::l,h=>by
  have h:(strLt x y&&stepB (y::l))=true:=h
  rw [Bool.and_eq_true] at h
  have ih:=step_pw (y::l) h.2
  have hxy:=lt_le h.1
  refine List.pairwise_cons.mpr ⟨fun z hz=>?_,ih⟩
  rcases List.mem_cons.mp hz with rfl | hz
  ·exact hxy
  ·have hyz:=(List.pairwise_cons.mp ih).1 z hz
   refine ⟨leS_trans hxy.1 hyz.1,fun e=>?_⟩
   subst e
   exact hxy.2 (leS_anti hxy.1 hyz.1)
theorem pw_step:∀ (l:List Str),l.Pairwise (fun x y=>leS x y/\x≠y)->stepB l=true
 | [],_=>rfl
 | [x],_=>rfl
 | x::y::l,h=>by
  have h1:=List.pairwise_cons.mp h
  have hxy:=h1.1 y (List.mem_cons_self ..)
  show (strLt x y&&stepB (y::l))=true
  rw [lt_of hxy.1 hxy.2,pw_step (y::l) h1.2]
  rfl
theorem pw_nodup {l:List Str} (h:l.Pairwise (fun x y=>leS x y/\x≠y)):l.Nodup:=h.imp fun h=>h.2
theorem rise_iff (L:List Str):decide (L=sortS (L.foldl addS []))=stepB L:=by
 cases e:stepB L with
 | true=>
  have p:=step_pw L e
  have hn:=pw_nodup p
  have hf:L.foldl addS []=L:=by rw [foldS_nodup L [] hn (by simp)]; simp
  rw [hf]
  exact decide_eq_true (sorted_eq (sortS_perm L).symm (p.imp fun h=>h.1) (sortS_sorted L))
 | false=>
  refine decide_eq_false fun z=>?_
  have hn:(sortS (L.foldl addS [])).Nodup:=(sortS_perm _).nodup_iff.mpr (foldS_set L [] List.nodup_nil).1
  have hs:=sortS_sorted (L.foldl addS [])
  rw [<-z] at hn hs
  have p:L.Pairwise (fun x y=>leS x y/\x≠y):=hs.and hn
  rw [pw_step L p] at e
  cases e
theorem check_room_is {d:D} (h:Pl d):g_check_room [d]=if betB 1 99 d=true then .ok (.non,[.non]) else .exc "NoRoom" [some .non]:=by
 refine runD_ap.trans ?_
 have h1:=is_between_is h 1 99
 have hz:1<=sizeLine:=small (by omega)
 cases e:betB 1 99 d <;> simp [f_check_room,startD,outsOf,fillA,putA,h1,e,truD,sRaiseD]
theorem check_worths_is {d:D} {room:Int} {b:Bool} (h:g_is_worths [d,.int room]=.ok (.bl b,[.non,.non])):g_check_worths [d,.int room]=if b=true then .ok (.non,[.non,.non]) else .exc "NoWorths" [some .non,some .non]:=by
 refine runD_ap.trans ?_
 cases b <;> simp [f_check_worths,startD,outsOf,fillA,putA,h,truD,sRaiseD]
noncomputable def decS (x:Str):Nat:=x.cps.toList.foldl (fun a c=>10 * a+(c - 48)) 0
theorem tx_all:∀ n∈List.range 99,(Int.natAbs (n:Nat)).log2 < 1920/\((txI (n:Nat)).cps.size=1\/(txI (n:Nat)).cps.size=2)/\(32:Nat)∉(txI (n:Nat)).cps.toList/\decS (txI (n:Nat))=n:=by decide +kernel
theorem tx_of {i:Int} (h0:0<=i) (h1:i < 99):CTx i/\((txI i).cps.size=1\/(txI i).cps.size=2)/\(32:Nat)∉(txI i).cps.toList/\(decS (txI i):Int)=i:=by
 obtain ⟨n,rfl⟩:=Int.eq_ofNat_of_zero_le h0
 obtain ⟨a,b,c,d⟩:=tx_all n (List.mem_range.mpr (by omega))
 refine ⟨⟨a,?_⟩,b,c,by rw [d]⟩
 show (txI (n:Nat)).cps.size<=_
 exact small (by omega)
theorem tx_inj {i j:Int} (h0:0<=i) (h1:i < 99) (k0:0<=j) (k1:j < 99) (h:txI i=txI j):i=j:=by
 rw [<-(tx_of h0 h1).2.2.2,<-(tx_of k0 k1).2.2.2,h]
abbrev numB:Sl->Out (Fl×Sl):=(sIf (dBool (d2 eqD (d1 strD (dVar 3)) (dVar 0))) (sRet (dVar 3)) sNext)
theorem num_loop {n:Nat} (hn:n < 99) {a b:Option D}:∀ (m k:Nat) (x:Option D),k<=n->n < k+m->k+m<=99->∃ x',forD (gNm 3) numB ((List.range' k m).map fun (j:Nat)=>.int j) [some (.str (txI (n:Nat))),a,b,x]=.ok (.rt (.int (n:Nat)),[some (.str (txI (n:Nat))),a,b,x'])
 | 0,k,x,h1,h2,_=>by omega
 | m+1,k,x,h1,h2,h3=>by
  have hc:=(tx_of (i:=(k:Nat)) (by omega) (by omega)).1
  rw [List.range'_succ,List.map_cons]
  by_cases q:k=n
  ·subst q
   exact ⟨some (.int k),by simp [forD,numB,strD,hc,eqD,eqN,eqS]⟩
  ·obtain ⟨x',e⟩:=num_loop hn (a:=a) (b:=b) m (k+1) (some (.int k)) (by omega) (by omega) (by omega)
   have hq:¬txI (k:Nat)=txI (n:Nat):=fun z=>q (by have:=tx_inj (by omega) (by omega) (by omega) (by omega) z; omega)
   refine ⟨x',?_⟩
   rw [<-e]
   simp [forD,numB,strD,hc,eqD,eqN,eqS,hq]
theorem iR2 {fa fb:Sl->Out (D×Sl)} {ρ ρ1 ρ2:Sl} {i j:Int} (h0:-100<=i) (h1:i<=1000) (k0:-100<=j) (k1:j<=1000) (h:fa ρ=.ok (.int i,ρ1)) (h':fb ρ1=.ok (.int j,ρ2)):iRange2 fa fb ρ=.ok (rngL i (j - i).toNat,ρ2):=by
 have c1:CRng i j:=⟨⟨by omega,by omega⟩,by omega,by omega⟩
 simp [iRange2,h,h',c1]
theorem number_in_is {i r:Int} (h0:0<=i) (h1:i < r) (h2:r<=99):g_number_in [.str (txI i),.int 0,.int (r - 1)]=.ok (.int i,[.non,.non,.non]):=by
 obtain ⟨n,rfl⟩:=Int.eq_ofNat_of_zero_le h0
 obtain ⟨x',e⟩:=num_loop (n:=n) (by omega) (a:=some (.int 0)) (b:=some (.int (r - 1))) r.toNat 0 none (by omega) (by omega) (by omega)
 have hr:=iR2 (fa:=dVar 1) (fb:=d2 addD (dVar 2) (dC (.int 1))) (ρ:=[some (.str (txI (n:Nat))),some (.int 0),some (.int (r - 1)),none]) (ρ1:=[some (.str (txI (n:Nat))),some (.int 0),some (.int (r - 1)),none]) (ρ2:=[some (.str (txI (n:Nat))),some (.int 0),some (.int (r - 1)),none]) (i:=0) (j:=r - 1+1) (by omega) (by omega) (by omega) (by omega) rfl (by simp [addD])
 rw [show rngL 0 (r - 1+1 - 0).toNat=(List.range' 0 r.toNat).map fun (j:Nat)=>.int j by rw [rng0,<-List.range_eq_range']; congr 2; omega] at hr
 refine runD_ap.trans ?_
 have s0:startD N_number_in [.str (txI (n:Nat)),.int 0,.int (r - 1)]=[some (.str (txI (n:Nat))),some (.int 0),some (.int (r - 1)),none]:=rfl
 unfold f_number_in
 rw [s0,sSeq_ap,sFor_ap,hr,ob_ok,e]
 rfl
abbrev Ent:=Str×Int
def OkT (r:Int) (l:List Ent):Prop:=∀ x∈l,(∃ c,az c/\x.1=⟨#[c]⟩)/\0<=x.2/\x.2 < r
noncomputable def part (x:Ent):Str:=x.1++txI x.2
theorem txt_sizes {x:Str} (h:x.cps.size=1\/x.cps.size=2):(∃ a,x=⟨#[a]⟩)\/∃ a b,x=⟨#[a,b]⟩:=by
 obtain ⟨⟨l⟩⟩:=x
 have h:l.length=1\/l.length=2:=h
 match l,h with
 | [a],_=>exact .inl ⟨a,rfl⟩
 | [a,b],_=>exact .inr ⟨a,b,rfl⟩
theorem cut_head1 (c d:Nat):slD none (some 1) none (.str (⟨#[c]⟩++⟨#[d]⟩))=.ok (.str ⟨#[c]⟩)/\slD (some 1) none none (.str (⟨#[c]⟩++⟨#[d]⟩))=.ok (.str ⟨#[d]⟩):=⟨by kernel_rfl,by kernel_rfl⟩
theorem cut_head2 (c d e:Nat):slD none (some 1) none (.str (⟨#[c]⟩++⟨#[d,e]⟩))=.ok (.str ⟨#[c]⟩)/\slD (some 1) none none (.str (⟨#[c]⟩++⟨#[d,e]⟩))=.ok (.str ⟨#[d,e]⟩):=⟨by kernel_rfl,by kernel_rfl⟩
theorem cut_part {c:Nat} {i:Int} (h0:0<=i) (h1:i < 99):slD none (some 1) none (.str (⟨#[c]⟩++txI i))=.ok (.str ⟨#[c]⟩)/\slD (some 1) none none (.str (⟨#[c]⟩++txI i))=.ok (.str (txI i)):=by
 rcases txt_sizes (tx_of h0 h1).2.1 with ⟨a,e⟩ | ⟨a,b,e⟩
 ·rw [e]; exact cut_head1 c a
 ·rw [e]; exact cut_head2 c a b
theorem worth_in_is {x:Ent} {r:Int} (hx:(∃ c,az c/\x.1=⟨#[c]⟩)/\0<=x.2/\x.2 < r) (h2:r<=99):g_worth_in [.str (part x),.int r]=.ok (.tup [.str x.1,.int x.2],[.non,.non]):=by
 obtain ⟨⟨c,hc,e⟩,h0,h1⟩:=hx
 obtain ⟨k1,k2⟩:=cut_part (c:=c) h0 (by omega:x.2 < 99)
 have hn:=number_in_is h0 h1 h2
 have hz:2<=sizeLine:=small (by omega)
 have hp:part x=⟨#[c]⟩++txI x.2:=by unfold part; rw [e]
 rw [hp]
 refine runD_ap.trans ?_
 simp [f_worth_in,startD,outsOf,dSlice,dPart,k1,k2,fillA,putA,subD,intD,hn,hz,e]
abbrev bl1:Str:=⟨#[32]⟩
theorem bl_is:Str.ofString " "=bl1:=by decide +kernel
noncomputable def J (l:List Ent):Str:=Txt.join bl1 (l.map part)
theorem J_eq (l:List Ent):J l=Str.join bl1 (l.map part):=by
 unfold J Txt.join
 rw [StrLaws.glued_eq_join]
theorem part_size {r:Int} {x:Ent} (hr:r<=99) (h:(∃ c,az c/\x.1=⟨#[c]⟩)/\0<=x.2/\x.2 < r):1<=(part x).length/\(part x).length<=3/\(32:Nat)∉(part x).cps.toList:=by
 obtain ⟨⟨c,hc,e⟩,h0,h1⟩:=h
 obtain ⟨_,t2,t3,_⟩:=tx_of h0 (by omega:x.2 < 99)
 have hl:(part x).length=1+(txI x.2).cps.size:=by
  show (x.1++txI x.2).cps.size=_
  rw [e,str_app,Array.size_append]
  rfl
 refine ⟨by omega,by omega,fun z=>?_⟩
 have hm:(part x).cps.toList=c::(txI x.2).cps.toList:=by
  show (x.1++txI x.2).cps.toList=_
  rw [e,str_app]
  simp
 rw [hm] at z
 rcases List.mem_cons.mp z with z | z
 ·unfold az at hc
  omega
 ·exact t3 z
theorem sum_le {r:Int} (hr:r<=99):∀ {l:List Ent},OkT r l->((l.map part).map (·.length)).sum<=3 * l.length
 | [],_=>by simp
 | x::l,h=>by
  have ih:=sum_le hr (l:=l) fun y hy=>h y (List.mem_cons_of_mem _ hy)
  have hx:=part_size hr (h x (List.mem_cons_self ..))
  rw [List.map_cons,List.map_cons,List.sum_cons,List.length_cons]
  omega
theorem J_len {r:Int} (hr:r<=99) {l:List Ent} (h:OkT r l):(J l).length<=4 * l.length:=by
 rw [J_eq]
 have h1:=StrLaws.join_length_le bl1 (l.map part)
 have h2:=sum_le hr h
 rw [List.length_map] at h1
 have h3:bl1.length=1:=rfl
 rw [h3] at h1
 omega
theorem join_snoc (sep q:Str):∀ ps:List Str,ps≠[]->Str.join sep (ps++[q])=Str.join sep ps++sep++q
 | [],h=>absurd rfl h
 | [p],_=>rfl
 | p::p2::r,_=>by
  have ih:=join_snoc sep q (p2::r) (by simp)
  show p++sep++Str.join sep ((p2::r)++[q])=p++sep++Str.join sep (p2::r)++sep++q
  rw [ih]
  simp only [Str.append_assoc]
theorem J_snoc (l:List Ent) (x:Ent):J (l++[x])=J l++(if l=[] then Str.ofString "" else Str.ofString " ")++x.1++txI x.2:=by
 have he:Str.ofString ""=Str.empty:=by decide +kernel
 rw [J_eq,J_eq,List.map_append,List.map_cons,List.map_nil]
 by_cases h:l=[]
 ·subst h
  rw [if_pos rfl,he]
  show part x=Str.empty++Str.empty++x.1++txI x.2
  rw [Str.empty_append,Str.empty_append]
  rfl
 ·rw [if_neg h,bl_is,join_snoc _ _ _ (by simpa using h)]
  unfold part
  simp only [Str.append_assoc]
theorem J_pos {r:Int} (hr:r<=99) {x:Ent} {l:List Ent} (h:OkT r (x::l)):1<=(J (x::l)).length:=by
 have hx:=part_size hr (h x (List.mem_cons_self ..))
 rw [J_eq]
 cases l with
 | nil=>exact hx.1
 | cons y l=>
  show 1<=(part x++bl1++Str.join bl1 ((y::l).map part)).length
  rw [Str.length_append,Str.length_append]
  omega
theorem J_nil:J []=Str.ofString "":=by decide +kernel
theorem J_ne {r:Int} (hr:r<=99) {l:List Ent} (h:OkT r l):(J l=Str.ofString "")↔l=[]:=by
 constructor
 ·intro e
  cases l with
  | nil=>rfl
  | cons x l=>
   have:=J_pos hr h
   rw [e] at this
   have e0:Str.length (Str.ofString "")=0:=by decide +kernel
   omega
 ·rintro rfl
  exact J_nil
theorem okW_of {r:Int} {l:List Ent} (h:OkT r l):OkW r l:=fun x hx=>by
 obtain ⟨⟨c,hc,e⟩,h0,h1⟩:=h x hx
 exact ⟨by rw [e]; exact let_az hc,h0,h1⟩
theorem nice_prL (l:List Ent):∀ d∈prL l,Nice d:=by
 intro d hd
 obtain ⟨x,_,rfl⟩:=List.mem_map.mp hd
 refine ⟨trivial,fun xs e y hy=>?_⟩
 cases e
 rcases List.mem_cons.mp hy with rfl | hy
 ·trivial
 ·rw [List.mem_singleton.mp hy]
  trivial
theorem worths_ok {r:Int} {l:List Ent} (h:OkT r l) (hl:l.length<=20) (hs:riseB l=true):g_is_worths [.tup (prL l),.int r]=.ok (.bl true,[.non,.non]):=by
 have:=(is_worths_is (ds:=prL l) (nice_prL l) (by simp [prL]; omega) r).2 l rfl (okW_of h)
 rw [hs] at this
 exact this
theorem worths_text_is {r:Int} (h1:1<=r) (hr:r<=99) {l:List Ent} (h:OkT r l) (hl:l.length<=20) (hs:riseB l=true):g_worths_text [.tup (prL l),.int r]=.ok (.str (J l),[.non,.non]):=by
 have hc:=check_room_is (d:=.int r) trivial
 rw [if_pos (by simp [betB]; exact ⟨h1,hr⟩)] at hc
 have hw:=check_worths_is (worths_ok h hl hs)
 rw [if_pos rfl] at hw
 have e:=dCompF2 (own:=[]) (cap:=[]) (fi:=iAny (dVar 0)) (ft:=ftT) (fe:=dM kFmt fstrD (dVar 0) (dVar 1)) (ρ:=[some (.tup (prL l)),some (.int r)]) (ρ1:=[some (.tup (prL l)),some (.int r)]) (ps:=l.map fun x=>(D.str x.1,D.int x.2)) (fun _=>true)
  (fun p=>match p with | (.str a,.int b)=>.str (a++txI b) | _=>.non) (by simp) (by simp [seqOfA,prL,Function.comp_def]) (by simp; exact small (by omega)) (fun _ _=>rfl) (fun p hp _=>by
   obtain ⟨x,hx,rfl⟩:=List.mem_map.mp hp
   obtain ⟨hx1,h0,hx2⟩:=h x hx
   have ht:=(tx_of h0 (by omega:x.2 < 99)).1
   have hp:=part_size hr (h x hx)
   have hz:(x.1++txI x.2).length<=sizeLine:=small (by have:(part x).length<=3:=hp.2.1; unfold part at this; omega)
   simp [dM,kFmt,fmtS,fstrD,ht,hz])
 have e2:(((l.map fun x=>(D.str x.1,D.int x.2)).filter fun _=>true).map fun p=>match p with | (.str a,.int b)=>D.str (a++txI b) | _=>.non)=(l.map part).map D.str:=by
  rw [List.filter_eq_self.mpr fun _ _=>rfl,List.map_map,List.map_map]
  rfl
 rw [e2] at e
 have hj:joinD (Str.ofString " ") (.lst ((l.map part).map D.str))=.ok (.str (J l)):=by
  rw [bl_is]
  unfold joinD
  simp only [strsD_map]
  have h2:=sum_le hr h
  have h3:=J_len hr h
  have hb:bl1.length=1:=rfl
  rw [if_pos ⟨by rw [List.length_map,hb]; omega,small (by show (J l).length<=2000; omega)⟩]
  rfl
 refine runD_ap.trans ?_
 simp only [f_worths_text,startD,List.map_cons,List.map_nil,List.length_cons,List.length_nil,Nat.reduceAdd,Nat.sub_self,List.replicate_zero,List.append_nil]
 simp [-List.map_map,fillA,putA,hc,hw,e,hj,outsOf]
noncomputable def valO:Out (D×List D)->D
 | .ok p=>p.1
 | _=>.non
theorem seq_end {ms:List PM} {f g:Sl->Out (Fl×Sl)} {ρ ρ1:Sl} (h:f ρ=.ok (.nx,ρ1)):endD ms (sSeq f g ρ)=endD ms (g ρ1):=by
 rw [sSeq_ap,h]
 rfl
theorem read_worths_is {r:Int} (h1:1<=r) (hr:r<=99) {l:List Ent} (h:OkT r l) (hl:l.length<=20) (hs:riseB l=true):g_read_worths [.str (J l),.int r]=.ok (.tup (prL l),[.non,.non]):=by
 have hc:=check_room_is (d:=.int r) trivial
 rw [if_pos (by simp [betB]; exact ⟨h1,hr⟩)] at hc
 have ht:g_check_text [.str (J l)]=.ok (.non,[.non]):=by
  refine runD_ap.trans ?_
  simp [f_check_text,startD,outsOf,isTD,tyN,truD]
 have hw:=worths_ok h hl hs
 have e:=dComp1 (cap:=[1]) (fi:=iAny (dVar 2)) (fe:=dCall [.vl,.vl] g_worth_in (aCons (dVar 0) (aCons (dVar 1) aNil))) (ρ:=[some (.str (J l)),some (.int r),some (.lst ((l.map part).map D.str)),none]) (ρ1:=[some (.str (J l)),some (.int r),some (.lst ((l.map part).map D.str)),none]) (ds:=(l.map part).map D.str)
  (fun d=>valO (g_worth_in [d,.int r])) (by simp [seqOfA]) (by simp; exact small (by omega)) (fun d hd=>by
   obtain ⟨z,hz,rfl⟩:=List.mem_map.mp hd
   obtain ⟨x,hx,rfl⟩:=List.mem_map.mp hz
   have hi:=worth_in_is (h x hx) hr
   simp [fillA,putA,hi,valO])
 have e2:((l.map part).map D.str).map (fun d=>valO (g_worth_in [d,.int r]))=prL l:=by
  unfold prL
  rw [List.map_map,List.map_map]
  refine List.map_congr_left fun x hx=>?_
  have hi:=worth_in_is (h x hx) hr
  show valO (g_worth_in [.str (part x),.int r])=_
  rw [hi]
  rfl
 rw [e2] at e
 refine runD_ap.trans ?_
 have s0:startD N_read_worths [.str (J l),.int r]=[some (.str (J l)),some (.int r),none,none]:=rfl
 have hp:dIf (dBool (d2 neD (dVar 0) (dC (.str "")))) (dM kStr splitD (dVar 0) (dC (.str " "))) (dLst aNil) [some (.str (J l)),some (.int r),none,none]=.ok (.lst ((l.map part).map D.str),[some (.str (J l)),some (.int r),none,none]):=by
  by_cases q:l=[]
  ·subst q
   simp [J_nil,neD,eqN,eqS]
  ·have hne:¬J l=Str.ofString "":=fun z=>q ((J_ne hr h).mp z)
   have hsp:Txt.split (J l) (Str.ofString " ")=l.map part:=by
    rw [bl_is]
    exact split_join (by decide) (by simpa using q) fun p hp=>by
     obtain ⟨x,hx,rfl⟩:=List.mem_map.mp hp
     exact (part_size hr (h x hx)).2.2
   have hcs:CSpl (J l) (Str.ofString " "):=by
    refine ⟨by decide +kernel,?_,?_⟩
    ·rw [hsp,List.length_map]
     exact small (by omega)
    ·rw [hsp]
     intro z hz
     obtain ⟨x,hx,rfl⟩:=List.mem_map.mp hz
     exact small (by have:=(part_size hr (h x hx)).2.1; omega)
   simp [-List.map_map,neD,eqN,eqS,hne,dM,kStr,splitD,hcs,hsp]
 unfold f_read_worths
 rw [s0]
 refine (seq_end (ρ1:=[some (.str (J l)),some (.int r),none,none]) (by simp [fillA,putA,hc])).trans ?_
 refine (seq_end (ρ1:=[some (.str (J l)),some (.int r),none,none]) (by simp [fillA,putA,ht])).trans ?_
 refine (seq_end (ρ1:=[some (.str (J l)),some (.int r),some (.lst ((l.map part).map D.str)),none]) (by rw [sSet_ap,hp]; rfl)).trans ?_
 refine (seq_end (ρ1:=[some (.str (J l)),some (.int r),some (.lst ((l.map part).map D.str)),some (.tup (prL l))]) (by rw [sSet_ap,d1_ap,e]; rfl)).trans ?_
 refine (seq_end (ρ1:=[some (.str (J l)),some (.int r),some (.lst ((l.map part).map D.str)),some (.tup (prL l))]) (by simp [fillA,putA,hw,truD])).trans ?_
 simp [outsOf]
abbrev chD (c:Nat):D:=.str ⟨#[c]⟩
abbrev ABC:List Nat:=[97,98,99,100,101,102,103,104,107,109,110,120,121,122]
theorem abc_is:chars (Str.ofString "abcdefghkmnxyz")=ABC.map chD:=by
 have:(Str.ofString "abcdefghkmnxyz").cps.toList=ABC:=by decide +kernel
 unfold chars
 rw [this]
abbrev letF:Sl->Out (Bool×Sl):=dBool (d2 eqD (dCall [.vl,.sl 2,.vl] g_Ldraw (aCons (dVar 1) (aSlot (aCons (dC (.int 3)) aNil)))) (dC (.int 0)))
theorem lets_comp (ns:List Int):∀ (cs:List Nat) (town:List D) (k:Option D),town.length+cs.length < 1000 ->
  ∃ (cs':List Nat) (town':List D) (k':Option D),cs'.Sublist cs/\town'.length=town.length+cs.length /\
   compD (gNm 0) letF (dVar 0) (cs.map chD) [k,some (scr ns),some (.lst town)]=.ok (cs'.map chD,[k',some (scr ns),some (.lst town')])
 | [],town,k,_=>⟨[],town,k,List.Sublist.refl _,by simp,rfl⟩
 | c::cs,town,k,ht=>by
  rw [List.length_cons] at ht
  obtain ⟨r,r0,r1,hr⟩:=draw_is ns town (many:=3) (by omega) (by omega)
  obtain ⟨cs',town',k',h1,h2,h3⟩:=lets_comp ns cs (town++[.int 0]) (some (chD c)) (by rw [List.length_append]; simp; omega)
  have hl:town'.length=town.length+(c::cs).length:=by
   rw [h2,List.length_append,List.length_cons]
   simp
   omega
  by_cases q:r=0
  ·subst q
   exact ⟨c::cs',town',k',h1.cons_cons c,hl,by simp [compD,turnD,letF,fillA,putA,hr,eqD,eqN,eqS,h3]⟩
  ·exact ⟨cs',town',k',h1.cons c,hl,by simp [compD,turnD,letF,fillA,putA,hr,eqD,eqN,eqS,q,h3]⟩
theorem line_comp (ns:List Int) {room:Int} (hr:0 < room):∀ (cs:List Nat) (town:List D) (x:Option D),town.length+cs.length < 1000 ->
  ∃ (es:List Ent) (town':List D) (x':Option D),es.map (·.1)=cs.map (fun c=>(⟨#[c]⟩:Str))/\(∀ e∈es,0<=e.2/\e.2 < room)/\town'.length=town.length+cs.length /\
   compD (gNm 0) ftT (dTup (aCons (dVar 0) (aCons (dCall [.vl,.sl 2,.vl] g_Ldraw (aCons (dVar 1) (aSlot (aCons (dVar 3) aNil)))) aNil))) (cs.map chD) [x,some (scr ns),some (.lst town),some (.int room)]=.ok (prL es,[x',some (scr ns),some (.lst town'),some (.int room)])
 | [],town,x,_=>⟨[],town,x,rfl,by simp,by simp,rfl⟩
 | c::cs,town,x,h=>by
  rw [List.length_cons] at h
  obtain ⟨r,r0,r1,hd⟩:=draw_is ns town (many:=room) hr (by omega)
  obtain ⟨es,town',x',h1,h2,h3,h4⟩:=line_comp ns hr cs (town++[.int 0]) (some (chD c)) (by rw [List.length_append]; simp; omega)
  have hz:2<=sizeLine:=small (by omega)
  refine ⟨(⟨#[c]⟩,r)::es,town',x',by simp [h1],?_,?_,?_⟩
  ·intro e he
   rcases List.mem_cons.mp he with rfl | he
   ·exact ⟨r0,r1⟩
   ·exact h2 e he
  ·rw [h3,List.length_append,List.length_cons]
   simp
   omega
  ·simp [compD,turnD,fillA,putA,hd,hz,h4,prL]
theorem rise_of {cs:List Nat} (h:cs.Sublist ABC) {es:List Ent} (he:es.map (·.1)=cs.map (fun c=>(⟨#[c]⟩:Str))):riseB es=true:=by
 unfold riseB keysL
 rw [he,rise_iff]
 apply pw_step
 have hA:stepB (ABC.map (fun c=>(⟨#[c]⟩:Str)))=true:=by decide +kernel
 exact (step_pw _ hA).sublist (h.map _)
theorem okT_of {cs:List Nat} (h:cs.Sublist ABC) {es:List Ent} {r:Int} (he:es.map (·.1)=cs.map (fun c=>(⟨#[c]⟩:Str))) (hb:∀ e∈es,0<=e.2/\e.2 < r):OkT r es/\es.length<=14:=by
 have hA:∀ c∈ABC,az c:=by unfold az; decide +kernel
 refine ⟨fun x hx=>⟨?_,hb x hx⟩,?_⟩
 ·have:x.1∈es.map (·.1):=List.mem_map.mpr ⟨x,hx,rfl⟩
  rw [he] at this
  obtain ⟨c,hc,e⟩:=List.mem_map.mp this
  exact ⟨c,hA c (h.subset hc),e.symm⟩
 ·have h1:es.length=cs.length:=by
   have:=congrArg List.length he
   simpa using this
  have:=h.length_le
  simp only [ABC,List.length_cons,List.length_nil] at this
  omega
abbrev dueB:Sl->Out (Fl×Sl):=(sSet 7 (d2 addD (d2 addD (d2 addD (dVar 7) (dIf (dBool (d2 neD (dVar 7) (dC (.str "")))) (dC (.str " ")) (dC (.str "")))) (dVar 8)) (d1 strD (dVar 9))))
theorem due_loop {r:Int} (hr:r<=99) (a b c d e f g:Option D):∀ (l2 l1:List Ent) (x y:Option D),OkT r (l1++l2)->l1.length+l2.length<=100 ->
  ∃ x' y',forD (gTupD 2 (gConsD (gNm 8) (gConsD (gNm 9) gNilD))) dueB (prL l2) [a,b,c,d,e,f,g,some (.str (J l1)),x,y]=.ok (.nx,[a,b,c,d,e,f,g,some (.str (J (l1++l2))),x',y'])
 | [],l1,x,y,_,_=>⟨x,y,by simp [prL,forD]⟩
 | z::l2,l1,x,y,h,hl=>by
  rw [List.length_cons] at hl
  have hz:=h z (List.mem_append.mpr (.inr (List.mem_cons_self ..)))
  have h1:OkT r l1:=fun w hw=>h w (List.mem_append.mpr (.inl hw))
  have e1:l1++z::l2=(l1++[z])++l2:=by simp
  obtain ⟨x',y',hi⟩:=due_loop hr a b c d e f g l2 (l1++[z]) (some (.str z.1)) (some (.int z.2)) (by rw [<-e1]; exact h) (by rw [List.length_append]; simp; omega)
  refine ⟨x',y',?_⟩
  rw [e1,<-hi]
  have ht:=(tx_of hz.2.1 (by have:=hz.2.2; omega:z.2 < 99)).1
  have hJ:=J_len hr h1
  have hp:=part_size hr hz
  have hpl:z.1.length+(txI z.2).length<=3:=by
   have:=hp.2.1
   unfold part at this
   rw [Str.length_append] at this
   omega
  have e0:Str.length (Str.ofString "")=0:=by decide +kernel
  have e2:Str.length (Str.ofString " ")=1:=by decide +kernel
  have hsn:=J_snoc l1 z
  have hbg:=big
  by_cases q:l1=[]
  ·have hJe:J l1=Str.ofString "":=(J_ne hr h1).mpr q
   rw [if_pos q] at hsn
   have s1:(J l1).length+Str.length (Str.ofString "")<=sizeLine:=by omega
   have s2:(J l1++Str.ofString "").length+z.1.length<=sizeLine:=by rw [Str.length_append]; omega
   have s3:(J l1++Str.ofString ""++z.1).length+(txI z.2).length<=sizeLine:=by rw [Str.length_append,Str.length_append]; omega
   rw [hsn]
   rw [hJe] at s1 s2 s3 ⊢
   simp [prL,forD,gTupD,gConsD,gNilD,dueB,neD,eqN,eqS,addD,strD,ht,s1,s2,s3]
  ·have hne:¬J l1=Str.ofString "":=fun w=>q ((J_ne hr h1).mp w)
   rw [if_neg q] at hsn
   have s1:(J l1).length+Str.length (Str.ofString " ")<=sizeLine:=by omega
   have s2:(J l1++Str.ofString " ").length+z.1.length<=sizeLine:=by rw [Str.length_append]; omega
   have s3:(J l1++Str.ofString " "++z.1).length+(txI z.2).length<=sizeLine:=by rw [Str.length_append,Str.length_append]; omega
   rw [hsn]
   simp [prL,forD,gTupD,gConsD,gNilD,dueB,neD,eqN,eqS,hne,addD,strD,ht,s1,s2,s3]
def CaOk (ca:Str->Addr):Prop:=∀ x∈CS,∀ y∈CS,ca x=ca y->x=y
theorem ans_is {ca:Str->Addr} (h:CaOk ca) {x y:Str} (hx:x∈CS) (hy:y∈CS) {b:Bool} (e:decide (y=x)=b):ansD ca CS x (ca y)=some b:=by
 unfold ansD
 rw [if_pos (List.mem_map.mpr ⟨y,hy,rfl⟩),<-e]
 by_cases z:y=x
 ·simp [z]
 ·have:ca y≠ca x:=fun w=>z (h y hy x hx w)
  simp [z,this]
theorem ansT_is {ca:Str->Addr} {y:Str} (hy:y∈CS):ansT ca CS (ca y)=some true:=by
 unfold ansT
 rw [if_pos (List.mem_map.mpr ⟨y,hy,rfl⟩)]
theorem hit_is {ca:Str->Addr} {y:Str} (hy:y∈CS):hitD ca CS y=some (ca y):=by
 unfold hitD
 rw [if_pos hy]
theorem which_room {ca:Str->Addr} (h:CaOk ca):g_Lwhich ca [.xcp (ca "NoRoom")]=.ok (.tup [.str "refused",.int 3],[.non]):=by
 refine runD_ap.trans ?_
 have hy:(Str.ofString "NoRoom")∈CS:=by decide +kernel
 have a0:=ans_is h (x := "NoWords") (y := "NoRoom") (b:=false) (by decide +kernel) hy (by decide +kernel)
 have a1:=ans_is h (x := "NoLook") (y := "NoRoom") (b:=false) (by decide +kernel) hy (by decide +kernel)
 have a2:=ans_is h (x := "NoNumbers") (y := "NoRoom") (b:=false) (by decide +kernel) hy (by decide +kernel)
 have a3:=ans_is h (x := "NoRoom") (y := "NoRoom") (b:=true) (by decide +kernel) hy (by decide +kernel)
 have a4:=ans_is h (x := "NoWord") (y := "NoRoom") (b:=false) (by decide +kernel) hy (by decide +kernel)
 have a5:=ans_is h (x := "NoWorths") (y := "NoRoom") (b:=false) (by decide +kernel) hy (by decide +kernel)
 have a6:=ans_is h (x := "Never") (y := "NoRoom") (b:=false) (by decide +kernel) hy (by decide +kernel)
 have a7:=ans_is h (x := "Full") (y := "NoRoom") (b:=false) (by decide +kernel) hy (by decide +kernel)
 have a8:=ans_is h (x := "Known") (y := "NoRoom") (b:=false) (by decide +kernel) hy (by decide +kernel)
 have a9:=ans_is h (x := "NoPlace") (y := "NoRoom") (b:=false) (by decide +kernel) hy (by decide +kernel)
 have a10:=ans_is h (x := "NoLetters") (y := "NoRoom") (b:=false) (by decide +kernel) hy (by decide +kernel)
 have a11:=ans_is h (x := "NoText") (y := "NoRoom") (b:=false) (by decide +kernel) hy (by decide +kernel)
 have a12:=ans_is h (x := "Nothing") (y := "NoRoom") (b:=false) (by decide +kernel) hy (by decide +kernel)
 have aT:=ansT_is (ca:=ca) hy
 have z4:4<=sizeLine:=small (by omega)
 have z8:8<=sizeLine:=small (by omega)
 have z12:12<=sizeLine:=small (by omega)
 have z12':12 < sizeLine:=Nat.lt_of_lt_of_le (by decide) big
 have z2:2<=sizeLine:=small (by omega)
 simp [f_Lwhich,startD,outsOf,isXD,a0,a1,a2,a3,a4,a5,a6,a7,a8,a9,a10,a11,a12,aT,z4,z8,z12,z12',z2,isLst,extG,appG,countD,boolsD,neD,eqN,eqS,truD,indexD,negD,List.countP_cons,List.findIdx?_cons]
theorem which_worths {ca:Str->Addr} (h:CaOk ca):g_Lwhich ca [.xcp (ca "NoWorths")]=.ok (.tup [.str "refused",.int 5],[.non]):=by
 refine runD_ap.trans ?_
 have hy:(Str.ofString "NoWorths")∈CS:=by decide +kernel
 have a0:=ans_is h (x := "NoWords") (y := "NoWorths") (b:=false) (by decide +kernel) hy (by decide +kernel)
 have a1:=ans_is h (x := "NoLook") (y := "NoWorths") (b:=false) (by decide +kernel) hy (by decide +kernel)
 have a2:=ans_is h (x := "NoNumbers") (y := "NoWorths") (b:=false) (by decide +kernel) hy (by decide +kernel)
 have a3:=ans_is h (x := "NoRoom") (y := "NoWorths") (b:=false) (by decide +kernel) hy (by decide +kernel)
 have a4:=ans_is h (x := "NoWord") (y := "NoWorths") (b:=false) (by decide +kernel) hy (by decide +kernel)
 have a5:=ans_is h (x := "NoWorths") (y := "NoWorths") (b:=true) (by decide +kernel) hy (by decide +kernel)
 have a6:=ans_is h (x := "Never") (y := "NoWorths") (b:=false) (by decide +kernel) hy (by decide +kernel)
 have a7:=ans_is h (x := "Full") (y := "NoWorths") (b:=false) (by decide +kernel) hy (by decide +kernel)
 have a8:=ans_is h (x := "Known") (y := "NoWorths") (b:=false) (by decide +kernel) hy (by decide +kernel)
 have a9:=ans_is h (x := "NoPlace") (y := "NoWorths") (b:=false) (by decide +kernel) hy (by decide +kernel)
 have a10:=ans_is h (x := "NoLetters") (y := "NoWorths") (b:=false) (by decide +kernel) hy (by decide +kernel)
 have a11:=ans_is h (x := "NoText") (y := "NoWorths") (b:=false) (by decide +kernel) hy (by decide +kernel)
 have a12:=ans_is h (x := "Nothing") (y := "NoWorths") (b:=false) (by decide +kernel) hy (by decide +kernel)
 have aT:=ansT_is (ca:=ca) hy
 have z4:4<=sizeLine:=small (by omega)
 have z8:8<=sizeLine:=small (by omega)
 have z12:12<=sizeLine:=small (by omega)
 have z12':12 < sizeLine:=Nat.lt_of_lt_of_le (by decide) big
 have z2:2<=sizeLine:=small (by omega)
 simp [f_Lwhich,startD,outsOf,isXD,a0,a1,a2,a3,a4,a5,a6,a7,a8,a9,a10,a11,a12,aT,z4,z8,z12,z12',z2,isLst,extG,appG,countD,boolsD,neD,eqN,eqS,truD,indexD,negD,List.countP_cons,List.findIdx?_cons]
abbrev ref (k:Int):D:=.tup [.str "refused",.int k]
theorem ask_exc {ca:Str->Addr} {G:List D->Out (D×List D)} {i:Int} {a b r:D} {e:Str} {o:List D} (hG:atI [g_worths_text,g_read_worths] i=some G) (h:G [a,b]=.exc e [some .non,some .non]) (he:e∈CS) (hw:g_Lwhich ca [.xcp (ca e)]=.ok (r,o)):g_Lask ca [.int i,a,b]=.ok (r,[.non,.non,.non]):=by
 refine runD_ap.trans ?_
 have hi:=hit_is (ca:=ca) he
 simp [f_Lask,sTry,dPick,hG,startD,outsOf,fillA,putA,h,hi,hw]
theorem at_w:atI [g_worths_text,g_read_worths] 0=some g_worths_text:=rfl
theorem at_r:atI [g_worths_text,g_read_worths] 1=some g_read_worths:=rfl
theorem text_room {t d:D} (h:Pl d) (hb:betB 1 99 d=false):g_worths_text [t,d]=.exc "NoRoom" [some .non,some .non]:=by
 have hc:=check_room_is h
 rw [if_neg (by rw [hb]; exact Bool.false_ne_true)] at hc
 refine runD_ap.trans ?_
 simp [f_worths_text,startD,outsOf,fillA,putA,hc]
theorem read_room {t d:D} (h:Pl d) (hb:betB 1 99 d=false):g_read_worths [t,d]=.exc "NoRoom" [some .non,some .non]:=by
 have hc:=check_room_is h
 rw [if_neg (by rw [hb]; exact Bool.false_ne_true)] at hc
 refine runD_ap.trans ?_
 simp [f_read_worths,startD,outsOf,fillA,putA,hc]
theorem text_bad {t:D} {r:Int} (h1:1<=r) (hr:r<=99) (h:g_is_worths [t,.int r]=.ok (.bl false,[.non,.non])):g_worths_text [t,.int r]=.exc "NoWorths" [some .non,some .non]:=by
 have hc:=check_room_is (d:=.int r) trivial
 rw [if_pos (by simp [betB]; exact ⟨h1,hr⟩)] at hc
 have hw:=check_worths_is h
 rw [if_neg Bool.false_ne_true] at hw
 refine runD_ap.trans ?_
 simp [f_worths_text,startD,outsOf,fillA,putA,hc,hw]
theorem wrong_no {r:Int} {l:List Ent} {d:D} (h:d∈([.non,.lst (prL l++[.int 1]),.tup [.tup [.str "b",.int 0],.tup [.str "a",.int 0]],.tup [.tup [.str "a",.int r]],.tup [.tup [.str "a",.int (-1)]],.str "a0",.tup [.tup [.str "ab",.int 0]]]:List D)) (h1:1<=r):g_is_worths [d,.int r]=.ok (.bl false,[.non,.non]):=by
 have nice1:∀ (x:Str) (i:Int),Nice (.tup [.str x,.int i]):=fun x i=>⟨trivial,fun xs e y hy=>by
  cases e
  rcases List.mem_cons.mp hy with rfl | hy
  ·trivial
  ·rw [List.mem_singleton.mp hy]; trivial⟩
 simp only [List.mem_cons,List.not_mem_nil,or_false] at h
 rcases h with rfl | rfl | rfl | rfl | rfl | rfl | rfl
 ·exact is_worths_no (d:=.non) trivial rfl r
 ·exact is_worths_no (d:=.lst (prL l++[.int 1])) trivial rfl r
 ·have ha:letB (.str "a")=true:=by decide +kernel
  have hb:letB (.str "b")=true:=by decide +kernel
  have:=(is_worths_is (ds:=prL [("b",0),("a",0)]) (fun d hd=>by
   obtain ⟨x,_,rfl⟩:=List.mem_map.mp hd
   exact nice1 _ _) (by simp [prL]) r).2 [("b",0),("a",0)] rfl (fun x hx=>by
   simp only [List.mem_cons,List.not_mem_nil,or_false] at hx
   rcases hx with rfl | rfl
   ·exact ⟨hb,by omega,by show (0:Int) < r; omega⟩
   ·exact ⟨ha,by omega,by show (0:Int) < r; omega⟩)
  rw [show riseB [("b",0),("a",0)]=false by decide +kernel] at this
  exact this
 ·exact (is_worths_is (fun d hd=>by rw [List.mem_singleton.mp hd]; exact nice1 _ _) (by simp) r).1 (by simp [worB,betB]; omega)
 ·exact (is_worths_is (fun d hd=>by rw [List.mem_singleton.mp hd]; exact nice1 _ _) (by simp) r).1 (by simp [worB,betB])
 ·exact is_worths_no (d:=.str "a0") trivial rfl r
 ·have hab:letB (.str "ab")=false:=by decide +kernel
  exact (is_worths_is (fun d hd=>by rw [List.mem_singleton.mp hd]; exact nice1 _ _) (by simp) r).1 (by simp [worB,hab])
theorem eqL_ents (k:Nat):∀ l:List Ent,eqLs (eqN (k+1)) (prL l) (prL l)=some true
 | []=>rfl
 | x::l=>by
  have ih:=eqL_ents k l
  show (eqN (k+1) (.tup [.str x.1,.int x.2]) (.tup [.str x.1,.int x.2])).bind (fun a=>(eqLs (eqN (k+1)) (prL l) (prL l)).bind fun b=>some (a&&b))=_
  rw [ih]
  cases k <;> simp [eqN,eqLs,eqS]
theorem ne_line (l:List Ent):neD (.tup (prL l)) (.tup (prL l))=.ok (.bl false):=by
 have:eqN 8 (.tup (prL l)) (.tup (prL l))=some true:=by
  show (eqLs (eqN 7) (prL l) (prL l)).map (fun b=>b&&(prL l).length == (prL l).length)=_
  rw [eqL_ents 6 l]
  simp
 unfold neD
 rw [this]
 rfl
theorem dComp_is {own cap:List Nat} {nt:Nat} {fi:Sl->Out (List D×Sl)} {g:D->Sl->Out Sl} {ft:Sl->Out (Bool×Sl)} {fe:Sl->Out (D×Sl)} {ρ ρ1 ρ2:Sl} {ds es:List D} (h:fi ρ=.ok (ds,ρ1)) (hl:ds.length<=sizeLine) (hc:compD g ft fe ds (capIn nt cap ρ1)=.ok (es,ρ2)):dComp own nt cap fi g ft fe ρ=.ok (.lst es,capOut own ρ2 nt cap ρ1):=by
 unfold dComp
 rw [h]
 simp only [ob_ok]
 rw [if_pos hl,hc]
 rfl
theorem asks_is {ca:Str->Addr} (hca:CaOk ca) {d:D} (hd:Pl d) (hb:betB 1 99 d=false) {s t u v w x y z o:Option D} :
  dComp [1] 1 [5] (iRange1 (dC (.int 2))) (gNm 0) ftT (dCall [.vl,.vl,.vl] (g_Lask ca) (aCons (dVar 0) (aCons (dC .non) (aCons (dVar 1) aNil)))) [s,t,u,v,w,some d,x,y,z,o]=.ok (.lst [ref 3,ref 3],[s,t,u,v,w,some d,x,y,z,o]):=by
 have a0:=ask_exc (ca:=ca) at_w (text_room (t:=.non) hd hb) (by decide +kernel) (which_room hca)
 have a1:=ask_exc (ca:=ca) at_r (read_room (t:=.non) hd hb) (by decide +kernel) (which_room hca)
 have hr:=iR1 (f:=dC (.int 2)) (ρ:=[s,t,u,v,w,some d,x,y,z,o]) (ρ1:=[s,t,u,v,w,some d,x,y,z,o]) (n:=2) rfl (by omega)
 have e:=dComp1o (own:=[1]) (cap:=[5]) (fi:=iRange1 (dC (.int 2))) (fe:=dCall [.vl,.vl,.vl] (g_Lask ca) (aCons (dVar 0) (aCons (dC .non) (aCons (dVar 1) aNil)))) (fun _=>ref 3) (by decide) hr (by simp; exact small (by omega)) (fun p hp=>by
  have hp:p=.int 0\/p=.int 1:=by simpa [List.range_succ] using hp
  rcases hp with rfl | rfl
  ·simp [fillA,putA,a0]
  ·simp [fillA,putA,a1])
 exact e
theorem law_is {ca:Str->Addr} (hca:CaOk ca) (ns:List Int):g_law ca [scr ns]=.ok (.bl true,[.non]):=by
 refine runD_ap.trans ?_
 obtain ⟨rd,hrd,g1⟩:=pick_is ns [] [.int 1,.int 2,.int 9,.int 10,.int 11,.int 50,.int 99] (by simp) (by simp)
 obtain ⟨r,rfl,r1,r2⟩:∃ r:Int,rd=.int r/\1<=r/\r<=99:=by
  simp only [List.mem_cons,List.not_mem_nil,or_false] at hrd
  rcases hrd with rfl | rfl | rfl | rfl | rfl | rfl | rfl
  ·exact ⟨1,rfl,by omega,by omega⟩
  ·exact ⟨2,rfl,by omega,by omega⟩
  ·exact ⟨9,rfl,by omega,by omega⟩
  ·exact ⟨10,rfl,by omega,by omega⟩
  ·exact ⟨11,rfl,by omega,by omega⟩
  ·exact ⟨50,rfl,by omega,by omega⟩
  ·exact ⟨99,rfl,by omega,by omega⟩
 simp only [List.nil_append] at g1
 have hbg:=big
 have z7:7<=sizeLine:=by omega
 have z5:5<=sizeLine:=by omega
 unfold f_law
 have e0:startD N_law [scr ns]=[some (scr ns),none,none,none,none,none,none,none,none,none]:=rfl
 rw [e0]
 refine (seq_end (ρ1:=[some (scr ns),some (.lst []),none,none,none,none,none,none,none,none]) (by simp)).trans ?_
 refine (seq_end (ρ1:=[some (scr ns),some (.lst [.int 0]),some (.int r),none,none,none,none,none,none,none]) (by simp [fillA,putA,z7,g1])).trans ?_
 obtain ⟨cs,t3,k3,hsub,ht3,c3⟩:=lets_comp ns ABC [.int 0] none (by simp)
 have d3:=dComp_is (own:=[1]) (cap:=[0,1]) (nt:=1) (fi:=iAny (dC (.str "abcdefghkmnxyz"))) (g:=gNm 0) (ft:=letF) (fe:=dVar 0) (ρ:=[some (scr ns),some (.lst [.int 0]),some (.int r),none,none,none,none,none,none,none]) (ρ1:=[some (scr ns),some (.lst [.int 0]),some (.int r),none,none,none,none,none,none,none]) (ds:=ABC.map chD) (by simp only [iAny_ap,dC_ap,ob_ok]; rw [show seqOfA (.str "abcdefghkmnxyz")=.ok (chars (Str.ofString "abcdefghkmnxyz")) from rfl,abc_is]; rfl) (by simp; exact small (by omega)) c3
 refine (seq_end (ρ1:=[some (scr ns),some (.lst t3),some (.int r),some (.lst (cs.map chD)),none,none,none,none,none,none]) (by rw [sSet_ap,d3]; rfl)).trans ?_
 have hcl:cs.length<=14:=by
  have:=hsub.length_le
  simp only [ABC,List.length_cons,List.length_nil] at this
  omega
 have ht3:t3.length=15:=by rw [ht3]; rfl
 obtain ⟨es,t4,k4,hk,hbd,ht4,c4⟩:=line_comp ns (room:=r) (by omega) cs t3 none (by omega)
 have d4:=dComp_is (own:=[1]) (cap:=[0,1,2]) (nt:=1) (fi:=iAny (dVar 3)) (g:=gNm 0) (ft:=ftT) (fe:=dTup (aCons (dVar 0) (aCons (dCall [.vl,.sl 2,.vl] g_Ldraw (aCons (dVar 1) (aSlot (aCons (dVar 3) aNil)))) aNil))) (ρ:=[some (scr ns),some (.lst t3),some (.int r),some (.lst (cs.map chD)),none,none,none,none,none,none]) (ρ1:=[some (scr ns),some (.lst t3),some (.int r),some (.lst (cs.map chD)),none,none,none,none,none,none]) (ds:=cs.map chD) (by simp [seqOfA]) (by simp; exact small (by omega)) c4
 refine (seq_end (ρ1:=[some (scr ns),some (.lst t4),some (.int r),some (.lst (cs.map chD)),some (.tup (prL es)),none,none,none,none,none]) (by rw [sSet_ap,d1_ap,d4]; rfl)).trans ?_
 obtain ⟨hok,hel⟩:=okT_of hsub hk hbd
 have hrise:=rise_of hsub hk
 obtain ⟨nd,hnd,g5⟩:=pick_is ns t4 [.int 0,.int 100,.non,.bl true,.str "9"] (by simp) (by omega)
 have hpn:Pl nd/\betB 1 99 nd=false:=by
  simp only [List.mem_cons,List.not_mem_nil,or_false] at hnd
  rcases hnd with rfl | rfl | rfl | rfl | rfl
  ·exact ⟨trivial,by decide⟩
  ·exact ⟨trivial,by decide⟩
  ·exact ⟨trivial,rfl⟩
  ·exact ⟨trivial,rfl⟩
  ·exact ⟨trivial,rfl⟩
 refine (seq_end (ρ1:=[some (scr ns),some (.lst (t4++[.int 0])),some (.int r),some (.lst (cs.map chD)),some (.tup (prL es)),some nd,none,none,none,none]) (by simp [fillA,putA,z5,g5])).trans ?_
 have zl:(prL es).length+1<=sizeLine:=by simp [prL]; omega
 have z1:1<=sizeLine:=by omega
 have z2:2<=sizeLine:=by omega
 refine (seq_end (ρ1:=[some (scr ns),some (.lst (t4++[.int 0])),some (.int r),some (.lst (cs.map chD)),some (.tup (prL es)),some nd,some (.lst [.non,.lst (prL es++[.int 1]),.tup [.tup [.str "b",.int 0],.tup [.str "a",.int 0]],.tup [.tup [.str "a",.int r]],.tup [.tup [.str "a",.int (-1)]],.str "a0",.tup [.tup [.str "ab",.int 0]]]),none,none,none]) (by simp [listD,addD,zl,z1,z2,z7])).trans ?_
 obtain ⟨wd,hwd,g7⟩:=pick_is ns (t4++[.int 0]) [.non,.lst (prL es++[.int 1]),.tup [.tup [.str "b",.int 0],.tup [.str "a",.int 0]],.tup [.tup [.str "a",.int r]],.tup [.tup [.str "a",.int (-1)]],.str "a0",.tup [.tup [.str "ab",.int 0]]] (by simp) (by rw [List.length_append]; simp; omega)
 have hwn:=wrong_no hwd r1
 refine (seq_end (ρ1:=[some (scr ns),some (.lst (t4++[.int 0]++[.int 0])),some (.int r),some (.lst (cs.map chD)),some (.tup (prL es)),some nd,some wd,none,none,none]) (by simp [fillA,putA,g7])).trans ?_
 refine (seq_end (ρ1:=[some (scr ns),some (.lst (t4++[.int 0]++[.int 0])),some (.int r),some (.lst (cs.map chD)),some (.tup (prL es)),some nd,some wd,some (.str (J [])),none,none]) (by rw [J_nil]; simp)).trans ?_
 obtain ⟨x',y',e9⟩:=due_loop r2 (some (scr ns)) (some (.lst (t4++[.int 0]++[.int 0]))) (some (.int r)) (some (.lst (cs.map chD))) (some (.tup (prL es))) (some nd) (some wd) es [] none none (by simpa using hok) (by simp; omega)
 rw [List.nil_append] at e9
 refine (seq_end (ρ1:=[some (scr ns),some (.lst (t4++[.int 0]++[.int 0])),some (.int r),some (.lst (cs.map chD)),some (.tup (prL es)),some nd,some wd,some (.str (J es)),x',y']) (by rw [sFor_ap]; simp only [iAny_ap,dVar_ap]; exact e9)).trans ?_
 have w1:=worths_text_is r1 r2 hok (by omega) hrise
 have w2:=read_worths_is r1 r2 hok (by omega) hrise
 have n2:=ne_line es
 have n1:neD (.str (J es)) (.str (J es))=.ok (.bl false):=by simp [neD,eqN,eqS]
 refine (seq_end (ρ1:=[some (scr ns),some (.lst (t4++[.int 0]++[.int 0])),some (.int r),some (.lst (cs.map chD)),some (.tup (prL es)),some nd,some wd,some (.str (J es)),x',y']) (by simp [fillA,putA,w1,w2,n1,n2])).trans ?_
 have ha:=asks_is hca hpn.1 hpn.2 (s:=some (scr ns)) (t:=some (.lst (t4++[.int 0]++[.int 0]))) (u:=some (.int r)) (v:=some (.lst (cs.map chD))) (w:=some (.tup (prL es))) (x:=some wd) (y:=some (.str (J es))) (z:=x') (o:=y')
 refine (seq_end (ρ1:=[some (scr ns),some (.lst (t4++[.int 0]++[.int 0])),some (.int r),some (.lst (cs.map chD)),some (.tup (prL es)),some nd,some wd,some (.str (J es)),x',y']) (by rw [sIf_ap,dBool_ap,d2_ap,ha]; simp [z1,mulL,neD,eqN,eqLs,eqS,List.replicate])).trans ?_
 have wa:=ask_exc (ca:=ca) at_w (text_bad r1 r2 hwn) (by decide +kernel) (which_worths hca)
 have v1:=worths_text_is (l:=[]) r1 r2 (fun _ h=>by cases h) (by simp) (by decide +kernel)
 have v2:=read_worths_is (l:=[]) r1 r2 (fun _ h=>by cases h) (by simp) (by decide +kernel)
 rw [J_nil] at v1 v2
 have hp0:prL []=[]:=rfl
 rw [hp0] at v1 v2
 simp [fillA,putA,wa,v1,v2,eqD,eqN,eqLs,eqS,z2,outsOf]
end Kx
namespace Kx
open PySem PySem.Spec PyProof.Rows L2 L2.D2
theorem text_mk {K:Frag} {h:Heap} {mg:Str->Option Value} (X:K.In h) (G:h.Ns mainGlobals mg) {x:Str} {st:Stmt} {ps:List Str} {f:Addr} {oc:Value} {od an:Option Addr} {osl:Array (Option Value)} {kV doc pm cdv ct:Value}
  (hb:∀ (kV doc pm:Value) (an:Option Addr) (cdv ct:Value) (us:List Value),us.length=ps.length->bindArgs (PySem.W.fnOf x x (defArgs st) (defBody st) (defScope st) .none kV doc pm an cdv ct) ⟨us,[]⟩=pure (ps.zip us))
  (a:nsIn K mainGlobals x=some (some (.ref f))) (l:K.lookup f=some ⟨oc,od,.func (PySem.W.fnOf x x (defArgs st) (defBody st) (defScope st) .none kV doc pm an cdv ct),osl⟩) (c:codeIn K cdv x=true) (k:keepIn K (.ref f)=true):Text K mg x st ps:=
 ⟨f,_,fun_mk l c k,mg_of X G a,(fun_mk l c k).binds hb⟩
theorem len0 {us:List Value} {P:List Value->Prop} (hl:us.length=0) (h:P []):P us:=List.length_eq_zero_iff.mp hl ▸ h
theorem lenS {us:List Value} {n:Nat} (hl:us.length=n+1):∃ a l,us=a::l/\l.length=n:=by
 cases us with
 | nil=>cases hl
 | cons a l=>exact ⟨a,l,rfl,Nat.succ.inj hl⟩
theorem len1 {us:List Value} {P:List Value->Prop} (hl:us.length=1) (h:∀ a,P [a]):P us:=by
 obtain ⟨a,l,rfl,e⟩:=lenS hl
 exact len0 (P:=fun l=>P (a::l)) e (h a)
theorem len2 {us:List Value} {P:List Value->Prop} (hl:us.length=2) (h:∀ a b,P [a,b]):P us:=by
 obtain ⟨a,l,rfl,e⟩:=lenS hl
 exact len1 (P:=fun l=>P (a::l)) e (h a)
theorem len3 {us:List Value} {P:List Value->Prop} (hl:us.length=3) (h:∀ a b c,P [a,b,c]):P us:=by
 obtain ⟨a,l,rfl,e⟩:=lenS hl
 exact len2 (P:=fun l=>P (a::l)) e (h a)
theorem nodup_inj {l:List Str} {f:Str->Addr} (nd:(l.map f).Nodup) {x y:Str} (hx:x∈l) (hy:y∈l) (e:f x=f y):x=y:=by
 obtain ⟨i,hi,rfl⟩:=List.mem_iff_getElem.mp hx
 obtain ⟨j,hj,rfl⟩:=List.mem_iff_getElem.mp hy
 have q:=(List.getElem_inj (h₀:=by simpa using hi) (h₁:=by simpa using hj) nd).mp (show (l.map f)[i]'(by simpa using hi)=(l.map f)[j]'(by simpa using hj) by simpa using e)
 subst q
 rfl
noncomputable def caT (T:List (Str×Addr)) (x:Str):Addr:=(T.lookup x).getD 0
noncomputable def exAll (K:Frag) (Cs:List Addr) (W:Addr):Bool:=decide Cs.Nodup&&Cs.all fun c=>xcB K c&&decide (PySem.W.exmOne K (.ref c) (.ref W)=some true)&&decide (PySem.W.kitOne K (.ref c) (.type "ValueError")=some true)&&PySem.W.excIn K c bmV "ValueError.__new__"&&Cs.all fun d=>decide (PySem.W.kitOne K (.ref c) (.ref d)=some (decide (c=d)))
theorem exAll_of {K:Frag} {Cs:List Addr} {W:Addr} (h:exAll K Cs W=true):Cs.Nodup/\∀ c∈Cs,xcB K c=true/\PySem.W.exmOne K (.ref c) (.ref W)=some true/\PySem.W.kitOne K (.ref c) (.type "ValueError")=some true/\PySem.W.excIn K c bmV "ValueError.__new__"=true/\∀ d∈Cs,PySem.W.kitOne K (.ref c) (.ref d)=some (decide (c=d)):=by
 unfold exAll at h
 rw [Bool.and_eq_true,List.all_eq_true] at h
 refine ⟨of_decide_eq_true h.1,fun c hc=>?_⟩
 have q:=h.2 c hc
 simp only [Bool.and_eq_true,decide_eq_true_eq,List.all_eq_true] at q
 exact ⟨q.1.1.1.1,q.1.1.1.2,q.1.1.2,q.1.2,q.2⟩
theorem mem_FS {c:Str} (h:c∈FS):c = "read_worths"\/c = "worths_text":=by simpa [FS] using h
theorem mem_CS {c:Str} (h:c∈CS):c = "NoWords"\/c = "NoLook"\/c = "NoNumbers"\/c = "NoRoom"\/c = "NoWord"\/c = "NoWorths"\/c = "Never"\/c = "Full"\/c = "Known"\/c = "NoPlace"\/c = "NoLetters"\/c = "NoText"\/c = "Nothing":=by simpa [CS] using h
theorem zt_mk {K:Frag} {h:Heap} {mg:Str->Option Value} (X:K.In h) (G:h.Ns mainGlobals mg) {CW C0 C1 C2 C3 C4 C5 C6 C7 C8 C9 C10 C11 C12:Addr} {F0 F1:Addr} {t_MOST_ROOM:Tok}
  (aW:nsIn K mainGlobals "WordError"=some (some (.ref CW)))
  (a0:nsIn K mainGlobals "NoWords"=some (some (.ref C0)))
  (a1:nsIn K mainGlobals "NoLook"=some (some (.ref C1)))
  (a2:nsIn K mainGlobals "NoNumbers"=some (some (.ref C2)))
  (a3:nsIn K mainGlobals "NoRoom"=some (some (.ref C3)))
  (a4:nsIn K mainGlobals "NoWord"=some (some (.ref C4)))
  (a5:nsIn K mainGlobals "NoWorths"=some (some (.ref C5)))
  (a6:nsIn K mainGlobals "Never"=some (some (.ref C6)))
  (a7:nsIn K mainGlobals "Full"=some (some (.ref C7)))
  (a8:nsIn K mainGlobals "Known"=some (some (.ref C8)))
  (a9:nsIn K mainGlobals "NoPlace"=some (some (.ref C9)))
  (a10:nsIn K mainGlobals "NoLetters"=some (some (.ref C10)))
  (a11:nsIn K mainGlobals "NoText"=some (some (.ref C11)))
  (a12:nsIn K mainGlobals "Nothing"=some (some (.ref C12)))
  (z_ValueError:nsIn K mainGlobals "ValueError"=some none)
  (z_all:nsIn K mainGlobals "all"=some none)
  (z_bool:nsIn K mainGlobals "bool"=some none)
  (z_int:nsIn K mainGlobals "int"=some none)
  (z_isinstance:nsIn K mainGlobals "isinstance"=some none)
  (z_len:nsIn K mainGlobals "len"=some none)
  (z_list:nsIn K mainGlobals "list"=some none)
  (z_range:nsIn K mainGlobals "range"=some none)
  (z_set:nsIn K mainGlobals "set"=some none)
  (z_sorted:nsIn K mainGlobals "sorted"=some none)
  (z_str:nsIn K mainGlobals "str"=some none)
  (z_tuple:nsIn K mainGlobals "tuple"=some none)
  (c_MOST_ROOM:nsIn K mainGlobals "MOST_ROOM"=some (some (.int 99 t_MOST_ROOM)))
  (ex:exAll K [C0,C1,C2,C3,C4,C5,C6,C7,C8,C9,C10,C11,C12] CW=true)
  (r0:nsIn K mainGlobals "read_worths"=some (some (.ref F0))) (r1:nsIn K mainGlobals "worths_text"=some (some (.ref F1))) :
  Zt K mg (fun x=>.ref (caT [("WordError",CW),("NoWords",C0),("NoLook",C1),("NoNumbers",C2),("NoRoom",C3),("NoWord",C4),("NoWorths",C5),("Never",C6),("Full",C7),("Known",C8),("NoPlace",C9),("NoLetters",C10),("NoText",C11),("Nothing",C12),("read_worths",F0),("worths_text",F1)] x)) (caT [("WordError",CW),("NoWords",C0),("NoLook",C1),("NoNumbers",C2),("NoRoom",C3),("NoWord",C4),("NoWorths",C5),("Never",C6),("Full",C7),("Known",C8),("NoPlace",C9),("NoLetters",C10),("NoText",C11),("Nothing",C12),("read_worths",F0),("worths_text",F1)])/\CaOk (caT [("WordError",CW),("NoWords",C0),("NoLook",C1),("NoNumbers",C2),("NoRoom",C3),("NoWord",C4),("NoWorths",C5),("Never",C6),("Full",C7),("Known",C8),("NoPlace",C9),("NoLetters",C10),("NoText",C11),("Nothing",C12),("read_worths",F0),("worths_text",F1)]):=by
 obtain ⟨nd,al⟩:=exAll_of ex
 generalize hT:([("WordError",CW),("NoWords",C0),("NoLook",C1),("NoNumbers",C2),("NoRoom",C3),("NoWord",C4),("NoWorths",C5),("Never",C6),("Full",C7),("Known",C8),("NoPlace",C9),("NoLetters",C10),("NoText",C11),("Nothing",C12),("read_worths",F0),("worths_text",F1)]:List (Str×Addr))=T
 have eW:caT T "WordError"=CW:=by subst hT; kernel_rfl
 have e0:caT T "NoWords"=C0:=by subst hT; kernel_rfl
 have e1:caT T "NoLook"=C1:=by subst hT; kernel_rfl
 have e2:caT T "NoNumbers"=C2:=by subst hT; kernel_rfl
 have e3:caT T "NoRoom"=C3:=by subst hT; kernel_rfl
 have e4:caT T "NoWord"=C4:=by subst hT; kernel_rfl
 have e5:caT T "NoWorths"=C5:=by subst hT; kernel_rfl
 have e6:caT T "Never"=C6:=by subst hT; kernel_rfl
 have e7:caT T "Full"=C7:=by subst hT; kernel_rfl
 have e8:caT T "Known"=C8:=by subst hT; kernel_rfl
 have e9:caT T "NoPlace"=C9:=by subst hT; kernel_rfl
 have e10:caT T "NoLetters"=C10:=by subst hT; kernel_rfl
 have e11:caT T "NoText"=C11:=by subst hT; kernel_rfl
 have e12:caT T "Nothing"=C12:=by subst hT; kernel_rfl
 have eF0:caT T "read_worths"=F0:=by subst hT; kernel_rfl
 have eF1:caT T "worths_text"=F1:=by subst hT; kernel_rfl
 have hm:CS.map (caT T)=[C0,C1,C2,C3,C4,C5,C6,C7,C8,C9,C10,C11,C12]:=by
  unfold CS
  simp only [List.map_cons,List.map_nil,e0,e1,e2,e3,e4,e5,e6,e7,e8,e9,e10,e11,e12]
 have hin:∀ c∈CS,caT T c∈[C0,C1,C2,C3,C4,C5,C6,C7,C8,C9,C10,C11,C12]:=fun c hc=>hm ▸ List.mem_map.mpr ⟨c,hc,rfl⟩
 refine ⟨⟨⟨fun c hc=>rfl,fun c hc=>?_,fun c hc=>(al _ (hin c hc)).1,fun c hc d hd=>(al _ (hin c hc)).2.2.2.2 _ (hin d hd),fun c hc=>(al _ (hin c hc)).2.2.1⟩,fun c hc=>?_,fun c hc=>(al _ (hin c hc)).2.2.2.1,fun x hx=>?fr,?_,mg_none_of X G z_ValueError,mg_none_of X G z_all,mg_none_of X G z_bool,mg_none_of X G z_int,mg_none_of X G z_isinstance,mg_none_of X G z_len,mg_none_of X G z_list,mg_none_of X G z_range,mg_none_of X G z_set,mg_none_of X G z_sorted,mg_none_of X G z_str,mg_none_of X G z_tuple,⟨_,mg_of X G c_MOST_ROOM⟩⟩,fun x hx y hy e=>?_⟩
 case fr=>
  rcases mem_FS hx with rfl | rfl
  ·rw [eF0]; exact mg_of X G r0
  ·rw [eF1]; exact mg_of X G r1
 ·show PySem.W.exmOne K (.ref (caT T c)) (.ref (caT T "WordError"))=some true
  rw [eW]
  exact (al _ (hin c hc)).2.1
 ·rcases mem_CS hc with rfl | rfl | rfl | rfl | rfl | rfl | rfl | rfl | rfl | rfl | rfl | rfl | rfl
  ·rw [e0]; exact mg_of X G a0
  ·rw [e1]; exact mg_of X G a1
  ·rw [e2]; exact mg_of X G a2
  ·rw [e3]; exact mg_of X G a3
  ·rw [e4]; exact mg_of X G a4
  ·rw [e5]; exact mg_of X G a5
  ·rw [e6]; exact mg_of X G a6
  ·rw [e7]; exact mg_of X G a7
  ·rw [e8]; exact mg_of X G a8
  ·rw [e9]; exact mg_of X G a9
  ·rw [e10]; exact mg_of X G a10
  ·rw [e11]; exact mg_of X G a11
  ·rw [e12]; exact mg_of X G a12
 ·show mg "WordError"=some (.ref (caT T "WordError"))
  rw [eW]
  exact mg_of X G aW
 ·rw [<-hm] at nd
  exact nodup_inj nd hx hy e
structure Tx (K:Frag) (mg:Str->Option Value):Prop where
 x_is_between:Text K mg "is_between" s_is_between ["thing", "least", "most"]
 x_check_room:Text K mg "check_room" s_check_room ["thing"]
 x_is_letter:Text K mg "is_letter" s_is_letter ["thing"]
 x_is_worth:Text K mg "is_worth" s_is_worth ["thing", "room"]
 x_is_worths:Text K mg "is_worths" s_is_worths ["thing", "room"]
 x_check_worths:Text K mg "check_worths" s_check_worths ["thing", "room"]
 x_worths_text:Text K mg "worths_text" s_worths_text ["worths", "room"]
 x_check_text:Text K mg "check_text" s_check_text ["thing"]
 x_number_in:Text K mg "number_in" s_number_in ["text", "least", "most"]
 x_worth_in:Text K mg "worth_in" s_worth_in ["text", "room"]
 x_read_worths:Text K mg "read_worths" s_read_worths ["text", "room"]
 x_Lcell_at:Text K mg "_law_cell_at" s_Lcell_at ["_law_script", "_law_k"]
 x_Lmixed:Text K mg "_law_mixed" s_Lmixed ["_law_script", "_law_k", "_law_many"]
 x_Ldraw:Text K mg "_law_draw" s_Ldraw ["_law_script", "_law_town", "_law_many"]
 x_Lpick:Text K mg "_law_pick" s_Lpick ["_law_script", "_law_town", "_law_some"]
 x_Lwhich:Text K mg "_law_which" s_Lwhich ["_law_e"]
 x_Lask:Text K mg "_law_ask" s_Lask ["_law_what", "_law_thing", "_law_room"]
theorem ok_all {P:Program} {w:World} {K:Frag} {mg:Str->Option Value} {base:Heap} {cv:Str->Value} {ca:Str->Addr} {f:Addr} {fd:FuncData} (Z:Zt K mg cv ca) (T:Tx K mg) (F:Fun K "law" "law" s_law f fd):FnOk P w K mg base (CXk P w) 7 f fd ["_law_script"] (spD K cv [.val] .sh (g_law ca)):=by
 have o_is_between:=mk_is_between (P:=P) (w:=w) (base:=base) Z T.x_is_between 
 have o_check_room:=mk_check_room (P:=P) (w:=w) (base:=base) Z T.x_check_room o_is_between
 have o_is_letter:=mk_is_letter (P:=P) (w:=w) (base:=base) Z T.x_is_letter 
 have o_is_worth:=mk_is_worth (P:=P) (w:=w) (base:=base) Z T.x_is_worth o_is_between o_is_letter
 have o_is_worths:=mk_is_worths (P:=P) (w:=w) (base:=base) Z T.x_is_worths o_is_worth
 have o_check_worths:=mk_check_worths (P:=P) (w:=w) (base:=base) Z T.x_check_worths o_is_worths
 have o_worths_text:=mk_worths_text (P:=P) (w:=w) (base:=base) Z T.x_worths_text o_check_room o_check_worths
 have o_check_text:=mk_check_text (P:=P) (w:=w) (base:=base) Z T.x_check_text 
 have o_number_in:=mk_number_in (P:=P) (w:=w) (base:=base) Z T.x_number_in 
 have o_worth_in:=mk_worth_in (P:=P) (w:=w) (base:=base) Z T.x_worth_in o_number_in
 have o_read_worths:=mk_read_worths (P:=P) (w:=w) (base:=base) Z T.x_read_worths o_is_worths o_check_room o_check_text o_worth_in
 have o_Lcell_at:=mk_Lcell_at (P:=P) (w:=w) (base:=base) Z T.x_Lcell_at 
 have o_Lmixed:=mk_Lmixed (P:=P) (w:=w) (base:=base) Z T.x_Lmixed o_Lcell_at
 have o_Ldraw:=mk_Ldraw (P:=P) (w:=w) (base:=base) Z T.x_Ldraw o_Lmixed
 have o_Lpick:=mk_Lpick (P:=P) (w:=w) (base:=base) Z T.x_Lpick o_Ldraw
 have o_Lwhich:=mk_Lwhich (P:=P) (w:=w) (base:=base) Z T.x_Lwhich 
 have o_Lask:=mk_Lask (P:=P) (w:=w) (base:=base) Z T.x_Lask o_worths_text o_read_worths o_Lwhich
 exact fn_law Z F o_worths_text o_read_worths o_Ldraw o_Lpick o_Lask
def spLaw (K:Frag):Sp:=fun vs H Q _=>∃ (a:Addr) (ns:List Int),vs=[.ref a]/\SqL K H a (ns.map V.int)/\∀ H',Q (.bl true) H'
theorem isL_ints {K:Frag} {F:Hp}:∀ ns:List Int,IsL K F (ns.map V.int) (ns.map D.int)
 | []=>.nil
 | n::ns=>.cons (.int n) (isL_ints ns)
theorem sp_of {K:Frag} {cv:Str->Value} {ca:Str->Addr} (h:CaOk ca) (vs:List V) (H:Hp) (Q:VK) (E:XK) (q:spLaw K vs H Q E):spD K cv [.val] .sh (g_law ca) vs H Q E:=by
 obtain ⟨a,ns,rfl,hs,hq⟩:=q
 refine ⟨H,[scr ns],Same.refl _,⟨.lst hs (isL_ints ns),trivial⟩,List.nodup_nil,?_⟩
 rw [law_is h ns]
 intro v F' H' a1 a2 a3 a4
 have a4:Is K F' v (.bl true):=a4
 cases a4
 exact hq H'
abbrev NsX (K:Frag) (x:Str) (f:Addr):Prop:=nsIn K mainGlobals x=some (some (.ref f))
abbrev LkX (K:Frag) (x:Str) (st:Stmt) (f:Addr) (oc:Value) (od an:Option Addr) (sl:Array (Option Value)) (kV dc pm cd ct:Value):Prop:=K.lookup f=some ⟨oc,od,.func (PySem.W.fnOf x x (defArgs st) (defBody st) (defScope st) .none kV dc pm an cd ct),sl⟩
theorem all_mk {l:PySem.W.OpenLaw} {w:World} {K:Frag} {h:Heap} {mg:Str->Option Value} {fa:Addr} (X:K.In h) (G:h.Ns mainGlobals mg) (hfa:mg "law"=some (.ref fa)) {CW C0 C1 C2 C3 C4 C5 C6 C7 C8 C9 C10 C11 C12:Addr} {t_MOST_ROOM:Tok} {f0:Addr} {v0:Value} {o0 p0:Option Addr} {s0:Array (Option Value)} {g0 h0 i0 j0 m0:Value} {f1:Addr} {v1:Value} {o1 p1:Option Addr} {s1:Array (Option Value)} {g1 h1 i1 j1 m1:Value} {f2:Addr} {v2:Value} {o2 p2:Option Addr} {s2:Array (Option Value)} {g2 h2 i2 j2 m2:Value} {f3:Addr} {v3:Value} {o3 p3:Option Addr} {s3:Array (Option Value)} {g3 h3 i3 j3 m3:Value} {f4:Addr} {v4:Value} {o4 p4:Option Addr} {s4:Array (Option Value)} {g4 h4 i4 j4 m4:Value} {f5:Addr} {v5:Value} {o5 p5:Option Addr} {s5:Array (Option Value)} {g5 h5 i5 j5 m5:Value} {f6:Addr} {v6:Value} {o6 p6:Option Addr} {s6:Array (Option Value)} {g6 h6 i6 j6 m6:Value} {f7:Addr} {v7:Value} {o7 p7:Option Addr} {s7:Array (Option Value)} {g7 h7 i7 j7 m7:Value} {f8:Addr} {v8:Value} {o8 p8:Option Addr} {s8:Array (Option Value)} {g8 h8 i8 j8 m8:Value} {f9:Addr} {v9:Value} {o9 p9:Option Addr} {s9:Array (Option Value)} {g9 h9 i9 j9 m9:Value} {f10:Addr} {v10:Value} {o10 p10:Option Addr} {s10:Array (Option Value)} {g10 h10 i10 j10 m10:Value} {f11:Addr} {v11:Value} {o11 p11:Option Addr} {s11:Array (Option Value)} {g11 h11 i11 j11 m11:Value} {f12:Addr} {v12:Value} {o12 p12:Option Addr} {s12:Array (Option Value)} {g12 h12 i12 j12 m12:Value} {f13:Addr} {v13:Value} {o13 p13:Option Addr} {s13:Array (Option Value)} {g13 h13 i13 j13 m13:Value} {f14:Addr} {v14:Value} {o14 p14:Option Addr} {s14:Array (Option Value)} {g14 h14 i14 j14 m14:Value} {f15:Addr} {v15:Value} {o15 p15:Option Addr} {s15:Array (Option Value)} {g15 h15 i15 j15 m15:Value} {f16:Addr} {v16:Value} {o16 p16:Option Addr} {s16:Array (Option Value)} {g16 h16 i16 j16 m16:Value} {f17:Addr} {v17:Value} {o17 p17:Option Addr} {s17:Array (Option Value)} {g17 h17 i17 j17 m17:Value}
  (aW:nsIn K mainGlobals "WordError"=some (some (.ref CW)))
  (a0:nsIn K mainGlobals "NoWords"=some (some (.ref C0)))
  (a1:nsIn K mainGlobals "NoLook"=some (some (.ref C1)))
  (a2:nsIn K mainGlobals "NoNumbers"=some (some (.ref C2)))
  (a3:nsIn K mainGlobals "NoRoom"=some (some (.ref C3)))
  (a4:nsIn K mainGlobals "NoWord"=some (some (.ref C4)))
  (a5:nsIn K mainGlobals "NoWorths"=some (some (.ref C5)))
  (a6:nsIn K mainGlobals "Never"=some (some (.ref C6)))
  (a7:nsIn K mainGlobals "Full"=some (some (.ref C7)))
  (a8:nsIn K mainGlobals "Known"=some (some (.ref C8)))
  (a9:nsIn K mainGlobals "NoPlace"=some (some (.ref C9)))
  (a10:nsIn K mainGlobals "NoLetters"=some (some (.ref C10)))
  (a11:nsIn K mainGlobals "NoText"=some (some (.ref C11)))
  (a12:nsIn K mainGlobals "Nothing"=some (some (.ref C12)))
  (z_ValueError:nsIn K mainGlobals "ValueError"=some none)
  (z_all:nsIn K mainGlobals "all"=some none)
  (z_bool:nsIn K mainGlobals "bool"=some none)
  (z_int:nsIn K mainGlobals "int"=some none)
  (z_isinstance:nsIn K mainGlobals "isinstance"=some none)
  (z_len:nsIn K mainGlobals "len"=some none)
  (z_list:nsIn K mainGlobals "list"=some none)
  (z_range:nsIn K mainGlobals "range"=some none)
  (z_set:nsIn K mainGlobals "set"=some none)
  (z_sorted:nsIn K mainGlobals "sorted"=some none)
  (z_str:nsIn K mainGlobals "str"=some none)
  (z_tuple:nsIn K mainGlobals "tuple"=some none)
  (c_MOST_ROOM:nsIn K mainGlobals "MOST_ROOM"=some (some (.int 99 t_MOST_ROOM)))
  (ex:exAll K [C0,C1,C2,C3,C4,C5,C6,C7,C8,C9,C10,C11,C12] CW=true)
  (b_0:NsX K "is_between" f0) (l_0:LkX K "is_between" s_is_between f0 v0 o0 p0 s0 g0 h0 i0 j0 m0) (d_0:codeIn K j0 "is_between"=true) (k_0:keepIn K (.ref f0)=true)
  (b_1:NsX K "check_room" f1) (l_1:LkX K "check_room" s_check_room f1 v1 o1 p1 s1 g1 h1 i1 j1 m1) (d_1:codeIn K j1 "check_room"=true) (k_1:keepIn K (.ref f1)=true)
  (b_2:NsX K "is_letter" f2) (l_2:LkX K "is_letter" s_is_letter f2 v2 o2 p2 s2 g2 h2 i2 j2 m2) (d_2:codeIn K j2 "is_letter"=true) (k_2:keepIn K (.ref f2)=true)
  (b_3:NsX K "is_worth" f3) (l_3:LkX K "is_worth" s_is_worth f3 v3 o3 p3 s3 g3 h3 i3 j3 m3) (d_3:codeIn K j3 "is_worth"=true) (k_3:keepIn K (.ref f3)=true)
  (b_4:NsX K "is_worths" f4) (l_4:LkX K "is_worths" s_is_worths f4 v4 o4 p4 s4 g4 h4 i4 j4 m4) (d_4:codeIn K j4 "is_worths"=true) (k_4:keepIn K (.ref f4)=true)
  (b_5:NsX K "check_worths" f5) (l_5:LkX K "check_worths" s_check_worths f5 v5 o5 p5 s5 g5 h5 i5 j5 m5) (d_5:codeIn K j5 "check_worths"=true) (k_5:keepIn K (.ref f5)=true)
  (b_6:NsX K "worths_text" f6) (l_6:LkX K "worths_text" s_worths_text f6 v6 o6 p6 s6 g6 h6 i6 j6 m6) (d_6:codeIn K j6 "worths_text"=true) (k_6:keepIn K (.ref f6)=true)
  (b_7:NsX K "check_text" f7) (l_7:LkX K "check_text" s_check_text f7 v7 o7 p7 s7 g7 h7 i7 j7 m7) (d_7:codeIn K j7 "check_text"=true) (k_7:keepIn K (.ref f7)=true)
  (b_8:NsX K "number_in" f8) (l_8:LkX K "number_in" s_number_in f8 v8 o8 p8 s8 g8 h8 i8 j8 m8) (d_8:codeIn K j8 "number_in"=true) (k_8:keepIn K (.ref f8)=true)
  (b_9:NsX K "worth_in" f9) (l_9:LkX K "worth_in" s_worth_in f9 v9 o9 p9 s9 g9 h9 i9 j9 m9) (d_9:codeIn K j9 "worth_in"=true) (k_9:keepIn K (.ref f9)=true)
  (b_10:NsX K "read_worths" f10) (l_10:LkX K "read_worths" s_read_worths f10 v10 o10 p10 s10 g10 h10 i10 j10 m10) (d_10:codeIn K j10 "read_worths"=true) (k_10:keepIn K (.ref f10)=true)
  (b_11:NsX K "_law_cell_at" f11) (l_11:LkX K "_law_cell_at" s_Lcell_at f11 v11 o11 p11 s11 g11 h11 i11 j11 m11) (d_11:codeIn K j11 "_law_cell_at"=true) (k_11:keepIn K (.ref f11)=true)
  (b_12:NsX K "_law_mixed" f12) (l_12:LkX K "_law_mixed" s_Lmixed f12 v12 o12 p12 s12 g12 h12 i12 j12 m12) (d_12:codeIn K j12 "_law_mixed"=true) (k_12:keepIn K (.ref f12)=true)
  (b_13:NsX K "_law_draw" f13) (l_13:LkX K "_law_draw" s_Ldraw f13 v13 o13 p13 s13 g13 h13 i13 j13 m13) (d_13:codeIn K j13 "_law_draw"=true) (k_13:keepIn K (.ref f13)=true)
  (b_14:NsX K "_law_pick" f14) (l_14:LkX K "_law_pick" s_Lpick f14 v14 o14 p14 s14 g14 h14 i14 j14 m14) (d_14:codeIn K j14 "_law_pick"=true) (k_14:keepIn K (.ref f14)=true)
  (b_15:NsX K "_law_which" f15) (l_15:LkX K "_law_which" s_Lwhich f15 v15 o15 p15 s15 g15 h15 i15 j15 m15) (d_15:codeIn K j15 "_law_which"=true) (k_15:keepIn K (.ref f15)=true)
  (b_16:NsX K "_law_ask" f16) (l_16:LkX K "_law_ask" s_Lask f16 v16 o16 p16 s16 g16 h16 i16 j16 m16) (d_16:codeIn K j16 "_law_ask"=true) (k_16:keepIn K (.ref f16)=true)
  (b_17:NsX K "law" f17) (l_17:LkX K "law" s_law f17 v17 o17 p17 s17 g17 h17 i17 j17 m17) (d_17:codeIn K j17 "law"=true) (k_17:keepIn K (.ref f17)=true) :
  ∃ fd:FuncData,(∀ (s:Shared) (v:Value),BindsTo s fd ⟨[v],[]⟩ [("_law_script",v)])/\∀ base:Heap,K.In base->base.Ns mainGlobals mg->FnOk l.prog w K mg base (CXk l.prog w) 7 fa fd ["_law_script"] (spLaw K):=by
 have e:=hfa.symm.trans (mg_of X G b_17)
 cases e
 obtain ⟨Z,cok⟩:=zt_mk X G aW a0 a1 a2 a3 a4 a5 a6 a7 a8 a9 a10 a11 a12 z_ValueError z_all z_bool z_int z_isinstance z_len z_list z_range z_set z_sorted z_str z_tuple c_MOST_ROOM ex b_10 b_6
 have T:Tx K mg:=⟨text_mk X G (fun _ _ _ _ _ _ us hl=>by revert hl; refine fun hl=>len3 (P:=fun us=>bindArgs _ ⟨us,[]⟩=pure (List.zip _ us)) hl ?_; intros; rfl) b_0 l_0 d_0 k_0,text_mk X G (fun _ _ _ _ _ _ us hl=>by revert hl; refine fun hl=>len1 (P:=fun us=>bindArgs _ ⟨us,[]⟩=pure (List.zip _ us)) hl ?_; intros; rfl) b_1 l_1 d_1 k_1,text_mk X G (fun _ _ _ _ _ _ us hl=>by revert hl; refine fun hl=>len1 (P:=fun us=>bindArgs _ ⟨us,[]⟩=pure (List.zip _ us)) hl ?_; intros; rfl) b_2 l_2 d_2 k_2,text_mk X G (fun _ _ _ _ _ _ us hl=>by revert hl; refine fun hl=>len2 (P:=fun us=>bindArgs _ ⟨us,[]⟩=pure (List.zip _ us)) hl ?_; intros; rfl) b_3 l_3 d_3 k_3,text_mk X G (fun _ _ _ _ _ _ us hl=>by revert hl; refine fun hl=>len2 (P:=fun us=>bindArgs _ ⟨us,[]⟩=pure (List.zip _ us)) hl ?_; intros; rfl) b_4 l_4 d_4 k_4,text_mk X G (fun _ _ _ _ _ _ us hl=>by revert hl; refine fun hl=>len2 (P:=fun us=>bindArgs _ ⟨us,[]⟩=pure (List.zip _ us)) hl ?_; intros; rfl) b_5 l_5 d_5 k_5,text_mk X G (fun _ _ _ _ _ _ us hl=>by revert hl; refine fun hl=>len2 (P:=fun us=>bindArgs _ ⟨us,[]⟩=pure (List.zip _ us)) hl ?_; intros; rfl) b_6 l_6 d_6 k_6,text_mk X G (fun _ _ _ _ _ _ us hl=>by revert hl; refine fun hl=>len1 (P:=fun us=>bindArgs _ ⟨us,[]⟩=pure (List.zip _ us)) hl ?_; intros; rfl) b_7 l_7 d_7 k_7,text_mk X G (fun _ _ _ _ _ _ us hl=>by revert hl; refine fun hl=>len3 (P:=fun us=>bindArgs _ ⟨us,[]⟩=pure (List.zip _ us)) hl ?_; intros; rfl) b_8 l_8 d_8 k_8,text_mk X G (fun _ _ _ _ _ _ us hl=>by revert hl; refine fun hl=>len2 (P:=fun us=>bindArgs _ ⟨us,[]⟩=pure (List.zip _ us)) hl ?_; intros; rfl) b_9 l_9 d_9 k_9,text_mk X G (fun _ _ _ _ _ _ us hl=>by revert hl; refine fun hl=>len2 (P:=fun us=>bindArgs _ ⟨us,[]⟩=pure (List.zip _ us)) hl ?_; intros; rfl) b_10 l_10 d_10 k_10,text_mk X G (fun _ _ _ _ _ _ us hl=>by revert hl; refine fun hl=>len2 (P:=fun us=>bindArgs _ ⟨us,[]⟩=pure (List.zip _ us)) hl ?_; intros; rfl) b_11 l_11 d_11 k_11,text_mk X G (fun _ _ _ _ _ _ us hl=>by revert hl; refine fun hl=>len3 (P:=fun us=>bindArgs _ ⟨us,[]⟩=pure (List.zip _ us)) hl ?_; intros; rfl) b_12 l_12 d_12 k_12,text_mk X G (fun _ _ _ _ _ _ us hl=>by revert hl; refine fun hl=>len3 (P:=fun us=>bindArgs _ ⟨us,[]⟩=pure (List.zip _ us)) hl ?_; intros; rfl) b_13 l_13 d_13 k_13,text_mk X G (fun _ _ _ _ _ _ us hl=>by revert hl; refine fun hl=>len3 (P:=fun us=>bindArgs _ ⟨us,[]⟩=pure (List.zip _ us)) hl ?_; intros; rfl) b_14 l_14 d_14 k_14,text_mk X G (fun _ _ _ _ _ _ us hl=>by revert hl; refine fun hl=>len1 (P:=fun us=>bindArgs _ ⟨us,[]⟩=pure (List.zip _ us)) hl ?_; intros; rfl) b_15 l_15 d_15 k_15,text_mk X G (fun _ _ _ _ _ _ us hl=>by revert hl; refine fun hl=>len3 (P:=fun us=>bindArgs _ ⟨us,[]⟩=pure (List.zip _ us)) hl ?_; intros; rfl) b_16 l_16 d_16 k_16⟩
 have F:=fun_mk (st:=s_law) l_17 d_17 k_17
 exact ⟨_,fun s v=>.of_eq rfl,fun base _ _=>(ok_all (P:=l.prog) (w:=w) (base:=base) Z T F).imp fun vs H Q E q=>sp_of cok vs H Q E q⟩
theorem walk {l:PySem.W.OpenLaw} {q:Program} {loose:List Str} {XP:(Str->Option Value)->Heap->Prop} {YP:World->Heap->Prop} {d:DefRec} {K:Params->Frag} (hn:l.most=some 63) (hdf:d.params.defaults=[])
  (hY:∀ (w:World) (h:Heap),YP w h->(K w.params).In h)
  (F:∀ (w:World) (mg:Str->Option Value) (fa:Addr) (h:Heap),(K w.params).In h->h.Ns mainGlobals mg->mg d.name=some (.ref fa) ->
   ∃ fd:FuncData,(∀ (s:Shared) (u:Value),BindsTo s fd ⟨[u],[]⟩ [("_law_script",u)])/\∀ base:Heap,(K w.params).In base->base.Ns mainGlobals mg->FnOk l.prog w (K w.params) mg base (CXk l.prog w) 7 fa fd ["_law_script"] (spLaw (K w.params))) :
  PySem.W.WalkO q loose XP YP l.row.toRowW d [] (fun f vs=>PySem.call f vs):=
 L2.walk_of (n:=63) (k:=7) (x := "_law_script") (CX:=fun w=>CXk l.prog w) (sp:=fun w=>spLaw (K w.params)) hn (by decide) hdf ⟨rfl,by decide,by decide⟩ hY F (fun _ _ a ns hl _ hS=>⟨a,ns,rfl,hS,fun _=>rfl⟩) fun w H s e s' z=>by
  obtain ⟨ex,T,C,H',_,_,_,_,_,_,_,_,_,_,q⟩:=z
  exact q.elim
end Kx
open PySem PySem.W PyProof.Rows
set_option maxRecDepth 100000 in
set_option maxHeartbeats 0 in
theorem PySem.Challenge.cw_lookwords_k26_whole_worths_written_holds : PySem.Challenge.rw_lookwords_k26_whole_worths_written.Holds := by
  refine Kx.hd ?_
  k_fill
  refine Kx.walk (l := PySem.Challenge.rw_lookwords_k26_whole_worths_written) rfl rfl (fun w h Y => PySem.W.kIn_of Y) ?F
  case F =>
    intro w mg fa h KX G hmg
    refine' Kx.all_mk KX G hmg ?aW ?a0 ?a1 ?a2 ?a3 ?a4 ?a5 ?a6 ?a7 ?a8 ?a9 ?a10 ?a11 ?a12 ?z_ValueError ?z_all ?z_bool ?z_int ?z_isinstance ?z_len ?z_list ?z_range ?z_set ?z_sorted ?z_str ?z_tuple ?c_MOST_ROOM ?ex ?b_0 ?l_0 ?d_0 ?k_0 ?b_1 ?l_1 ?d_1 ?k_1 ?b_2 ?l_2 ?d_2 ?k_2 ?b_3 ?l_3 ?d_3 ?k_3 ?b_4 ?l_4 ?d_4 ?k_4 ?b_5 ?l_5 ?d_5 ?k_5 ?b_6 ?l_6 ?d_6 ?k_6 ?b_7 ?l_7 ?d_7 ?k_7 ?b_8 ?l_8 ?d_8 ?k_8 ?b_9 ?l_9 ?d_9 ?k_9 ?b_10 ?l_10 ?d_10 ?k_10 ?b_11 ?l_11 ?d_11 ?k_11 ?b_12 ?l_12 ?d_12 ?k_12 ?b_13 ?l_13 ?d_13 ?k_13 ?b_14 ?l_14 ?d_14 ?k_14 ?b_15 ?l_15 ?d_15 ?k_15 ?b_16 ?l_16 ?d_16 ?k_16 ?b_17 ?l_17 ?d_17 ?k_17
    (case aW => k_is)
    (case a0 => k_is)
    (case a1 => k_is)
    (case a2 => k_is)
    (case a3 => k_is)
    (case a4 => k_is)
    (case a5 => k_is)
    (case a6 => k_is)
    (case a7 => k_is)
    (case a8 => k_is)
    (case a9 => k_is)
    (case a10 => k_is)
    (case a11 => k_is)
    (case a12 => k_is)
    (case z_ValueError => k_is)
    (case z_all => k_is)
    (case z_bool => k_is)
    (case z_int => k_is)
    (case z_isinstance => k_is)
    (case z_len => k_is)
    (case z_list => k_is)
    (case z_range => k_is)
    (case z_set => k_is)
    (case z_sorted => k_is)
    (case z_str => k_is)
    (case z_tuple => k_is)
    (case c_MOST_ROOM => k_is)
    (case ex => first | k_is | kernel_rfl)
    (case b_0 => unfold Kx.NsX; k_is)
    (case l_0 => unfold Kx.LkX; k_is)
    (case d_0 => k_is)
    (case k_0 => k_is)
    (case b_1 => unfold Kx.NsX; k_is)
    (case l_1 => unfold Kx.LkX; k_is)
    (case d_1 => k_is)
    (case k_1 => k_is)
    (case b_2 => unfold Kx.NsX; k_is)
    (case l_2 => unfold Kx.LkX; k_is)
    (case d_2 => k_is)
    (case k_2 => k_is)
    (case b_3 => unfold Kx.NsX; k_is)
    (case l_3 => unfold Kx.LkX; k_is)
    (case d_3 => k_is)
    (case k_3 => k_is)
    (case b_4 => unfold Kx.NsX; k_is)
    (case l_4 => unfold Kx.LkX; k_is)
    (case d_4 => k_is)
    (case k_4 => k_is)
    (case b_5 => unfold Kx.NsX; k_is)
    (case l_5 => unfold Kx.LkX; k_is)
    (case d_5 => k_is)
    (case k_5 => k_is)
    (case b_6 => unfold Kx.NsX; k_is)
    (case l_6 => unfold Kx.LkX; k_is)
    (case d_6 => k_is)
    (case k_6 => k_is)
    (case b_7 => unfold Kx.NsX; k_is)
    (case l_7 => unfold Kx.LkX; k_is)
    (case d_7 => k_is)
    (case k_7 => k_is)
    (case b_8 => unfold Kx.NsX; k_is)
    (case l_8 => unfold Kx.LkX; k_is)
    (case d_8 => k_is)
    (case k_8 => k_is)
    (case b_9 => unfold Kx.NsX; k_is)
    (case l_9 => unfold Kx.LkX; k_is)
    (case d_9 => k_is)
    (case k_9 => k_is)
    (case b_10 => unfold Kx.NsX; k_is)
    (case l_10 => unfold Kx.LkX; k_is)
    (case d_10 => k_is)
    (case k_10 => k_is)
    (case b_11 => unfold Kx.NsX; k_is)
    (case l_11 => unfold Kx.LkX; k_is)
    (case d_11 => k_is)
    (case k_11 => k_is)
    (case b_12 => unfold Kx.NsX; k_is)
    (case l_12 => unfold Kx.LkX; k_is)
    (case d_12 => k_is)
    (case k_12 => k_is)
    (case b_13 => unfold Kx.NsX; k_is)
    (case l_13 => unfold Kx.LkX; k_is)
    (case d_13 => k_is)
    (case k_13 => k_is)
    (case b_14 => unfold Kx.NsX; k_is)
    (case l_14 => unfold Kx.LkX; k_is)
    (case d_14 => k_is)
    (case k_14 => k_is)
    (case b_15 => unfold Kx.NsX; k_is)
    (case l_15 => unfold Kx.LkX; k_is)
    (case d_15 => k_is)
    (case k_15 => k_is)
    (case b_16 => unfold Kx.NsX; k_is)
    (case l_16 => unfold Kx.LkX; k_is)
    (case d_16 => k_is)
    (case k_16 => k_is)
    (case b_17 => unfold Kx.NsX; k_is)
    (case l_17 => unfold Kx.LkX; k_is)
    (case d_17 => k_is)
    (case k_17 => k_is)
