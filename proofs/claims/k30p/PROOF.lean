import PyProof.Rows.All
import Wide.All
import OpenK.AllK
import Wide.FinOn
import Lean
import PyProof.EqAt
import PyProof.EqKinds
import PyProof.TupleCall
import PySem.Challenge.RW_lazyhoist_k30_wanted
set_option Elab.async false
set_option linter.all false
set_option maxRecDepth 100000
namespace L2
open PySem PySem.Spec PyProof.Rows
inductive Key where|inl (i:Int)|inr (x:Str)|non
 deriving DecidableEq
noncomputable def FJ:Value→Bool
 |.none=>true
 |_=>false
theorem M6 {v:Value} (h:FJ v=true):v=.none:=by cases v<;>first|rfl|cases h
noncomputable def nJ:Key→Value→Bool
 |.inl k,v=>Value.isInt k v
 |.inr x,v=>Value.isStrOf x v
 |.non,v=>FJ v
noncomputable def Wo (w:World):Key→Int
 |.inl k=>hashInt k
 |.inr x=>hashStr w x
 |.non=>4238894112
theorem jt:∀ {k:Key}{v:Value},nJ k v=true→(∃ i t,k=.inl i∧v=Value.int i t)∨(∃ x t,k=.inr x∧v=Value.str x t)∨(k=.non∧v=.none)
 |.inl i,v,h=>by
  obtain ⟨t,e⟩:=Value.isInt_shape (k:=i) (v:=v) h
  exact .inl ⟨i,t,rfl,e⟩
 |.inr x,v,h=>by
  obtain ⟨t,e⟩:=Value.isStrOf_shape (x:=x) (v:=v) h
  exact .inr (.inl ⟨x,t,rfl,e⟩)
 |.non,v,h=>.inr (.inr ⟨rfl,M6 h⟩)
theorem L8 (i:Int) (t:Tok):nJ (.inl i) (.int i t)=true:=by simp [nJ,Value.isInt]
theorem L9 (x:Str) (t:Tok):nJ (.inr x) (.str x t)=true:=by simp [nJ,Value.isStrOf]
theorem Q8 (a b:Int):decide ((Key.inl a:Key)=.inl b)=(a==b):=by
 by_cases e:a=b
 ·subst e;simp
 ·rw [decide_eq_false fun q=>e (Key.inl.inj q)]
  exact (beq_eq_false_iff_ne.mpr e).symm
theorem Q9 (a b:Str):decide ((Key.inr a:Key)=.inr b)=decide (a=b):=by
 by_cases e:a=b
 ·subst e;simp
 ·rw [decide_eq_false fun q=>e (Key.inr.inj q),decide_eq_false e]
theorem Cq {prog:Program}{w:World}{A:Around}{E:Value→Shared→Prop}{s:Shared}{Q:Int→Shared→Prop} (h:Q 4238894112 { s with toks:=s.toks+1 }):wpAny (model prog w) A (PySem.pyHash .none) Q E s:=by
 unfold PySem.pyHash
 have hv:[Value.none].any Value.onHeap=false:=rfl
 refine wpAny_bind ?_
 rw [cRoomFor,if_neg (by rw [hv];exact Bool.false_ne_true)];refine wpAny_pure ?_
 refine wpAny_bind (wpAny_specialOf (typeIs_none s) PySem.F.slot_NoneType_hash.lookup ?_)
 show wpAny _ _ (if (some (Value.builtin "NoneType.__hash__")==some Value.none)=true then _ else _) Q E s
 rw [if_neg (by rw [beq_builtin_none];exact Bool.false_ne_true)]
 refine wpAny_bind (wpAny_specialOf (typeIs_none s) PySem.F.slot_NoneType_hash.lookup ?_)
 show wpAny _ _ (callSpecialIfBoundUnlessNone? .none "__hash__" _ >>= _) Q E s
 refine wpAny_bind (wpAny_callSpecialIfBoundUnlessNone?_slot (typeIs_none s) PySem.F.slot_NoneType_hash
  (wpAny_call_entry PySem.F.slot_NoneType_hash (typeIs_none s) PySem.F.entry_NoneType_hash
   (show wpAny _ _ (do ret (←mkInt 4238894112)) _ _ s from wpAny_ret_mkInt ?_) (PySem.F.args_NoneType_hash_1 _)))
 exact wpAny_pure h
noncomputable def cn (prog:Program) (w:World):PySem.KeyKind prog w Key where
 is:=nJ
 hash:=Wo w
 inj:=fun v a b ha hb=>by
  rcases jt ha with ⟨i,t,rfl,rfl⟩|⟨x,t,rfl,rfl⟩|⟨rfl,rfl⟩<;>rcases jt hb with ⟨j,u,rfl,e⟩|⟨y,u,rfl,e⟩|⟨rfl,e⟩<;>first|rfl | (injection e with e1 _;rw [e1];done) | (cases e;done)
 byValue:=fun k v h=>by
  rcases jt h with ⟨i,t,rfl,rfl⟩|⟨x,t,rfl,rfl⟩|⟨rfl,rfl⟩<;>rfl
 pyHash:=fun hv h=>by
  rcases jt hv with ⟨i,t,rfl,rfl⟩|⟨x,t,rfl,rfl⟩|⟨rfl,rfl⟩
  ·exact wpAny_pyHash_int h
  ·exact wpAny_pyHash_str h
  ·exact Cq h
 eqBool:=fun hu hv h=>by
  rcases jt hu with ⟨i,t,rfl,rfl⟩|⟨x,t,rfl,rfl⟩|⟨rfl,rfl⟩
  ·rcases jt hv with ⟨j,u,rfl,rfl⟩|⟨y,u,rfl,rfl⟩|⟨rfl,rfl⟩
   ·rw [Q8] at h;exact wpAny_eqBool_int h
   ·exact SeqAt.EqAt.int_str i t y u _ _ _ _ h
   ·exact SeqAt.EqAt.int_none i t _ _ _ _ h
  ·rcases jt hv with ⟨j,u,rfl,rfl⟩|⟨y,u,rfl,rfl⟩|⟨rfl,rfl⟩
   ·exact SeqAt.EqAt.str_int x t j u _ _ _ _ h
   ·rw [Q9] at h;exact wpAny_eqBool_str h
   ·exact SeqAt.EqAt.str_none x t _ _ _ _ h
  ·rcases jt hv with ⟨j,u,rfl,rfl⟩|⟨y,u,rfl,rfl⟩|⟨rfl,rfl⟩
   ·exact SeqAt.EqAt.none_int j u _ _ _ _ h
   ·exact SeqAt.EqAt.none_str y u _ _ _ _ h
   ·exact SeqAt.EqAt.same .none _ _ _ _ h
 «strs»:=fun k x t v h=>by
  rcases jt h with ⟨i,u,rfl,e⟩|⟨y,u,rfl,e⟩|⟨rfl,e⟩
  ·exact nomatch e
  ·injection e with e1 _
   subst e1
   cases v<;>rfl
  ·exact nomatch e
theorem Lc (prog:Program) (w:World) (i:Int) (t:Tok):(cn prog w).is (.inl i) (.int i t)=true:=L8 i t
theorem Ld (prog:Program) (w:World) (x:Str) (t:Tok):(cn prog w).is (.inr x) (.str x t)=true:=L9 x t
theorem Le (prog:Program) (w:World):(cn prog w).is .non .none=true:=rfl
inductive V where
 |non|bl (b:Bool)|int (i:Int)|str (x:Str)|fE (b:Array UInt8)|qQ (b:UInt64)|ref (a:Addr)|ty (n:String)
 deriving DecidableEq
noncomputable def RelV:V→Value→Prop
 |.non,u=>u=Value.none
 |.bl b,u=>u=Value.bool b
 |.int i,u=>∃ t,u=Value.int i t
 |.str x,u=>∃ t,u=Value.str x t
 |.fE b,u=>∃ t,u=Value.bytes b t
 |.qQ b,u=>∃ t,u=Value.float b t
 |.ref a,u=>u=Value.ref a
 |.ty n,u=>u=Value.type n
abbrev Vals:List V→List Value→Prop:=Paired RelV
theorem Vals.length {xs:List V}{us:List Value} (r:Vals xs us):xs.length=us.length:=Paired.length r
theorem Vals.get:∀ {xs:List V}{us:List Value}{i:Nat}{x:V},Vals xs us→xs[i]?=some x→∃ u,us[i]?=some u∧RelV x u
 |_,_,_,_,.nil,e=>by simp at e
 |_,_,0,_,.cons r _,e=>by simp at e;subst e;exact ⟨_,rfl,r⟩
 |_,_,i+1,x,.cons _ t,e=>by
  obtain ⟨u,h1,h2⟩:=Vals.get (i:=i) (x:=x) t (by simpa using e)
  exact ⟨u,by simpa using h1,h2⟩
theorem Vals.set {x:V}{u:Value} (r:RelV x u):∀ {xs:List V}{us:List Value} (i:Nat),Vals xs us→Vals (xs.set i x) (us.set i u)
 |_,_,_,.nil=>.nil
 |_,_,0,.cons _ t=>.cons r t
 |_,_,i+1,.cons q t=>.cons q (Vals.set r i t)
theorem Vals.append:∀ {xs ys:List V}{us ws:List Value},Vals xs us→Vals ys ws→Vals (xs++ys) (us++ws)
 |_,_,_,_,.nil,s=>s
 |_,_,_,_,.cons r t,s=>.cons r (Vals.append t s)
theorem Vals.take:∀ {xs:List V}{us:List Value} (n:Nat),Vals xs us→Vals (xs.take n) (us.take n)
 |_,_,0,_=>.nil
 |_,_,_+1,.nil=>.nil
 |_,_,n+1,.cons r t=>.cons r (Vals.take n t)
theorem Vals.drop:∀ {xs:List V}{us:List Value} (n:Nat),Vals xs us→Vals (xs.drop n) (us.drop n)
 |_,_,0,r=>r
 |_,_,_+1,.nil=>.nil
 |_,_,n+1,.cons _ t=>Vals.drop n t
noncomputable def gP:Option V→Option Value→Prop
 |some v,some u=>RelV v u
 |none,none=>True
 |_,_=>False
def KV {κ:Type}:List (κ×V)→List (κ×Value)→Prop:=Paired fun (p:κ×V) (q:κ×Value)=>p.1=q.1∧RelV p.2 q.2
noncomputable def kV:Key→V
 |.inl i=>.int i
 |.inr x=>.str x
 |.non=>.non
inductive HO where
 |lst (xs:List V)
 |tup (xs:List V)
 |dK (ai:List (Key×V))|dT (ai:List (List Key×V))
 |set (S:Int→Bool) (n:Nat)
 |ins (C dx:Addr) (fs:List (Str×V))
 |own (x:Addr)
 |xd (fs:List (Str×V))
 |met (f x:Addr)
 |bO (lo hi:Int)
 |aX (o:Obj) (u:HO)
 |jT (ps:Array Value)
 |ext (φ:Heap→Prop)
noncomputable abbrev Hp:=Addr→Option HO
noncomputable def upd (H:Hp) (a:Addr) (o:HO):Hp:=fun b=>if b=a then some o else H b
theorem bF {H:Hp}{a:Addr}{o:HO}:upd H a o a=some o:=by unfold upd;rw [if_pos rfl]
theorem aG {H:Hp}{a b:Addr}{o:HO} (h:b≠a):upd H a o b=H b:=by unfold upd;rw [if_neg h]
theorem uF {H:Hp}{a b:Addr}{o u:HO} (h:H a=some o) (h':H b=some u) (d:o≠u):a≠b:=by
 intro e;subst e;rw [h] at h';exact d (Option.some.inj h')
theorem dW {H:Hp}{a b:Addr}{o:HO} (h:H a=some o) (h':H b=none):a≠b:=by
 intro e;subst e;rw [h] at h';cases h'
section
variable (P:Program) (w:World)
noncomputable def b0 (H:Hp) (h:Heap) (a:Addr):HO→Prop
 |.lst xs=>xs.length≤sizeLine∧∃ (its:List Value) (n:Nat),Vals xs its∧h.get? a=some { cls:=.type "list",data:=.seq its.toArray n }
 |.tup xs=>xs.length≤sizeLine∧∃ its:List Value,Vals xs its∧IsTup h a its.toArray
 |.dK ai=>ai.length≤sizeLine∧(a==sysModules)=false∧∃ vs,KV ai vs∧h.DictOf (cn P w) a vs
 |.dT ai=>ai.length≤sizeLine∧(a==sysModules)=false∧∃ xs:List (List Key×Addr×Value),
  Paired (fun (p:List Key×V) (q:List Key×Addr×Value)=>p.1=q.1∧H q.2.1=some (.tup (p.1.map kV))∧RelV p.2 q.2.2) ai xs ∧
  ∃ o es ep,h.get? a=some o∧o.ExactDict∧o.data=.dict es ep∧es.toList=xs.map (entryOfKey (tupleKind (cn P w)))∧(xs.map (·.1)).Nodup
 |.set S n=>h.SetOf (intKind P w) a S n
 |.ins C dx fs=>H dx=some (.own a)∧fs.length≤1000∧dx≠a∧h.get? a=some (PySem.W.instObj C dx) ∧
  ∃ mA,h.Ns1 dx mA∧(∀ f,gP (fs.lookup f) (mA f))∧PySem.Within mA (fs.map (·.1))
 |.own _=>∃ o,h.get? a=some o
 |.xd fs=>∃ mA,h.Ns1 a mA∧∀ f,gP (fs.lookup f) (mA f)
 |.bO lo hi=>∃ t u v,h.get? a=some { cls:=.type "range",data:=.fields #[.int lo t,.int hi u,.int 1 v] }
 |.aX o u=>h.get? a=some o∧b0 H h a u
 |.jT ps=>h.get? a=some { cls:=.none,data:=.fields ps }
 |.met f x=>h.get? a=some (PySem.W.methodObj (.ref f) (.ref x))
 |.ext φ=>φ h∧(∃ o,h.get? a=some o)∧∀ h1 h2:Heap,φ h1→(∀ o,h1.get? a=some o→h2.get? a=some o)→φ h2
def cv (H:Hp) (h:Heap):Prop:=∀ a o,H a=some o→b0 P w H h a o
end
section
variable {P:Program}{w:World}{H H':Hp}{h h':Heap}{a:Addr}{o:HO}
theorem b0.lt (x:b0 P w H h a o):a < h.objs.size:=by
 cases o with
 |lst xs=>obtain ⟨_,_,_,_,e⟩:=x;exact Heap.lt_size e
 |tup xs=>obtain ⟨_,_,_,p⟩:=x;exact p.lt
 |dK ai=>obtain ⟨_,_,_,_,o,_,_,e,_⟩:=x;exact Heap.lt_size e
 |dT ai=>obtain ⟨_,_,_,_,o,_,_,e,_⟩:=x;exact Heap.lt_size e
 |set S n=>obtain ⟨o,_,_,_,e,_⟩:=x;exact Heap.lt_size e
 |ins C dx fs=>obtain ⟨_,_,_,e,_⟩:=x;exact Heap.lt_size e
 |own y=>obtain ⟨_,e⟩:=x;exact Heap.lt_size e
 |xd fs=>obtain ⟨_,⟨_,_,_,e,_⟩,_⟩:=x;exact Heap.lt_size e
 |bO lo hi=>obtain ⟨_,_,_,e⟩:=x;exact Heap.lt_size e
 |aX ob u=>obtain ⟨e,_⟩:=x;exact Heap.lt_size e
 |jT ps=>exact Heap.lt_size (show h.get? a=some _ from x)
 |met f y=>exact Heap.lt_size (show h.get? a=some _ from x)
 |ext φ=>obtain ⟨_,⟨_,e⟩,_⟩:=x;exact Heap.lt_size e
theorem Paired.uX {α β:Type}{F G:α→β→Prop}:∀ {l₁:List α}{l₂:List β},Paired F l₁ l₂→(∀ a b,F a b→G a b)→Paired G l₁ l₂
 |_,_,.nil,_=>.nil
 |_,_,.cons r t,f=>.cons (f _ _ r) (Paired.uX t f)
theorem b0.ky (x:b0 P w H h a o) (k:∀ b u,(b=a∨H b=some (.own a))→h.get? b=some u→h'.get? b=some u)
  (ho:∀ b,H b=some (.own a)→H' b=some (.own a)) (ht:∀ b xs,H b=some (.tup xs)→H' b=some (.tup xs)):b0 P w H' h' a o:=by
 induction o with
 |lst xs=>obtain ⟨z,its,n,r,e⟩:=x;exact ⟨z,its,n,r,k _ _ (.inl rfl) e⟩
 |tup xs=>obtain ⟨z,its,r,ob,e,c⟩:=x;exact ⟨z,its,r,ob,k _ _ (.inl rfl) e,c⟩
 |dK ai=>obtain ⟨z,y,vs,r,ob,es,ep,e,c⟩:=x;exact ⟨z,y,vs,r,ob,es,ep,k _ _ (.inl rfl) e,c⟩
 |dT ai =>
  obtain ⟨z,y,xs,r,ob,es,ep,e,c⟩:=x
  exact ⟨z,y,xs,Paired.uX r fun p q z=>⟨z.1,ht _ _ z.2.1,z.2.2⟩,ob,es,ep,k _ _ (.inl rfl) e,c⟩
 |set S n=>obtain ⟨ob,es,ep,t,e,c⟩:=x;exact ⟨ob,es,ep,t,k _ _ (.inl rfl) e,c⟩
 |ins C dx fs =>
  obtain ⟨d,z,ne,e,mA,⟨od,es,ep,e2,c⟩,r⟩:=x
  exact ⟨ho _ d,z,ne,k _ _ (.inl rfl) e,mA,⟨od,es,ep,k _ _ (.inr d) e2,c⟩,r⟩
 |own y=>obtain ⟨ob,e⟩:=x;exact ⟨ob,k _ _ (.inl rfl) e⟩
 |xd fs=>obtain ⟨mA,⟨od,es,ep,e,c⟩,r⟩:=x;exact ⟨mA,⟨od,es,ep,k _ _ (.inl rfl) e,c⟩,r⟩
 |bO lo hi=>obtain ⟨t,u,v,e⟩:=x;exact ⟨t,u,v,k _ _ (.inl rfl) e⟩
 |aX ob u ih=>obtain ⟨e,q⟩:=x;exact ⟨k _ _ (.inl rfl) e,ih q⟩
 |jT ps =>
  have e:h.get? a=some { cls:=.none,data:=.fields ps }:=x
  show h'.get? a=some { cls:=.none,data:=.fields ps }
  exact k a _ (.inl rfl) e
 |met f y =>
  have e:h.get? a=some (PySem.W.methodObj (.ref f) (.ref y)):=x
  show h'.get? a=some (PySem.W.methodObj (.ref f) (.ref y))
  exact k a _ (.inl rfl) e
 |ext φ=>obtain ⟨p,⟨o,e⟩,st⟩:=x;exact ⟨st _ _ p fun o q=>k _ _ (.inl rfl) q,⟨o,k _ _ (.inl rfl) e⟩,st⟩
theorem cv.lt (x:cv P w H h) (e:H a=some o):a < h.objs.size:=(x a o e).lt
theorem cv.fresh (x:cv P w H h) (e:h.objs.size≤a):H a=none:=by
 cases q:H a with
 |none=>rfl
 |some u=>exact absurd (Nat.lt_of_lt_of_le (x.lt q) e) (Nat.lt_irrefl _)
theorem cv.kept (x:cv P w H h) (k:∀ b u,h.get? b=some u→h'.get? b=some u):cv P w H h':=fun a o e =>
 (x a o e).ky (fun b u _ q=>k b u q) (fun _ q=>q) fun _ _ q=>q
theorem cv.laid (x:cv P w H h) (k:∀ b u,h.get? b=some u→h'.get? b=some u) (hp:h.objs.size≤a) (new:b0 P w (upd H a o) h' a o):cv P w (upd H a o) h':=fun b u e=>by
 have hn:=x.fresh hp
 by_cases hb:b=a
 ·subst hb;rw [bF] at e;cases e;exact new
 ·rw [aG hb] at e
  exact (x b u e).ky (fun c v _ q=>k c v q) (fun c q=>by rw [aG (dW q hn)];exact q) fun c xs q=>by rw [aG (dW q hn)];exact q
end
def Rd (H:Hp) (a:Addr) (u:HO):Prop:=H a=some u∨∃ o,H a=some (.aX o u)
theorem Rd.ok {P:Program}{w:World}{H:Hp}{h:Heap}{a:Addr}{u:HO} (r:Rd H a u) (x:cv P w H h):b0 P w H h a u:=by
 rcases r with r|⟨o,r⟩
 ·exact x a u r
 ·obtain ⟨_,q⟩:=x a _ r
  exact q
noncomputable def qR:Option HO→Prop
 |some (.lst _)=>True
 |some (.dK _)=>True
 |some (.dT _)=>True
 |some (.set _ _)=>True
 |some (.ins _ _ _)=>True
 |some (.ext _)=>True
 |_=>False
section
variable {P:Program}{w:World}{H:Hp}{h h':Heap}{x e:Addr}{o':HO}
theorem cv.write (ok:cv P w H h) (mu:qR (H x)) (he:e=x∨H e=some (.own x)) (k:∀ b u,b≠e→h.get? b=some u→h'.get? b=some u) (ou:∃ u,h'.get? e=some u)
  (new:b0 P w (upd H x o') h' x o'):cv P w (upd H x o') h':=fun b u q=>by
 have Gz:∀ c y,H c=some (.own y)→c≠x:=fun c y r z=>by subst z;rw [r] at mu;exact mu
 have Wq:∀ c xs,H c=some (.tup xs)→c≠x:=fun c xs r z=>by subst z;rw [r] at mu;exact mu
 by_cases hb:b=x
 ·subst hb;rw [bF] at q;cases q;exact new
 ·rw [aG hb] at q
  by_cases iE:b=e
  ·have q':H b=some (.own x):=by
    rcases he with z|z
    ·exact absurd (iE.trans z) hb
    ·rw [iE];exact z
   rw [q] at q';cases q'
   obtain ⟨v,hv⟩:=ou
   exact ⟨v,by rw [iE];exact hv⟩
  ·refine (ok b u q).ky (fun c v hc r=>k c v ?_ r) (fun c r=>by rw [aG (Gz c b r)];exact r) fun c xs r=>by rw [aG (Wq c xs r)];exact r
   rcases hc with rfl|hc
   ·exact iE
   ·rintro rfl
    rcases he with z|z
    ·exact Gz c b hc z
    ·rw [hc] at z;cases z;exact hb rfl
end
structure Un (fs ex:List Addr) (H H':Hp) (h h':Heap):Prop where
 keep:∀ b o,h.get? b=some o→H b=none→b∉fs→b∉ex→h'.get? b=some o
 slot:∀ b o,h.get? b=some o→H b=none→b∈fs→b∉ex→∃ sl,h'.get? b=some { o with slots:=sl }
 free:∀ b o,h.get? b=some o→H b=none→b∉ex→H' b=none
 there:∀ b o,h.get? b=some o→b∉ex→∃ o',h'.get? b=some o'
 jH:∀ b xs,H b=some (.tup xs)→H' b=some (.tup xs)
 iw:∀ b o u,H b=some (.aX o u)→H' b=some (.aX o u)
 jI:∀ b ps,H b=some (.jT ps)→∃ more,H' b=some (.jT (ps++more))
section
variable {fs Xo ex Z1:List Addr}{H H1 H2:Hp}{h h1 h2 h':Heap}{a x e:Addr}{o:HO}
theorem Un.any (u:Un fs ex H H1 h h1) {b:Addr}{ob:Obj} (q:h.get? b=some ob) (n:H b=none) (hx:b∉ex):∃ sl,h1.get? b=some { ob with slots:=sl }:=by
 by_cases hb:b∈fs
 ·exact u.slot b ob q n hb hx
 ·exact ⟨ob.slots,u.keep b ob q n hb hx⟩
theorem Un.kept (k:∀ b u,h.get? b=some u→h'.get? b=some u):Un fs ex H H h h' :=
 ⟨fun b ob q _ _ _=>k b ob q,fun b ob q _ _ _=>⟨ob.slots,k b ob q⟩,fun _ _ _ n _=>n,fun b ob q _=>⟨ob,k b ob q⟩,fun _ _ q=>q,fun _ _ _ q=>q,fun _ ps q=>⟨#[],by rw [q];simp⟩⟩
theorem Un.refl:Un fs ex H H h h:=Un.kept fun _ _ q=>q
theorem Un.laid (k:∀ b u,h.get? b=some u→h'.get? b=some u) (hp:h.objs.size≤a) (hn:H a=none):Un fs ex H (upd H a o) h h' where
 keep:=fun b u q _ _ _=>k b u q
 slot:=fun b u q _ _ _=>⟨u.slots,k b u q⟩
 free:=fun b u q n _=>by rw [aG (Nat.ne_of_lt (Nat.lt_of_lt_of_le (Heap.lt_size q) hp))];exact n
 there:=fun b u q _=>⟨u,k b u q⟩
 jH:=fun b xs q=>by rw [aG (dW q hn)];exact q
 iw:=fun b u xs q=>by rw [aG (dW q hn)];exact q
 jI:=fun b ps q=>⟨#[],by rw [aG (dW q hn),q];simp⟩
theorem Un.write (mu:qR (H x)) (he:e=x∨H e=some (.own x)) (k:∀ b u,b≠e→h.get? b=some u→h'.get? b=some u) (ou:∃ u,h'.get? e=some u):Un fs ex H (upd H x o) h h':=by
 have hx:∀ b,H b=none→b≠x:=fun b n z=>by subst z;rw [n] at mu;exact mu
 have hb:∀ b,H b=none→b≠e:=fun b n z=>by
  subst z
  rcases he with r|r
  ·exact hx b n r
  ·rw [n] at r;cases r
 have hm:∀ b u,H b=some u→¬ qR (some u)→b≠x:=fun b u q nm z=>by subst z;rw [q] at mu;exact nm mu
 refine ⟨fun b u q n _ _=>k b u (hb b n) q,fun b u q n _ _=>⟨u.slots,k b u (hb b n) q⟩,fun b u q n _=>by rw [aG (hx b n)];exact n,fun b u q _=>?_,
  fun b xs q=>by rw [aG (hm b _ q fun z=>z)];exact q,fun b u xs q=>by rw [aG (hm b _ q fun z=>z)];exact q,fun b ps q=>⟨#[],by rw [aG (hm b _ q fun z=>z),q];simp⟩⟩
 by_cases iE:b=e
 ·subst iE;exact ou
 ·exact ⟨u,k b u iE q⟩
end
noncomputable def vv (h:Heap) (H:Hp):List Addr:=(List.range h.objs.size).filter fun a=>(H a).isSome
noncomputable def jJ (h:Heap) (H:Hp):Heap:=PySem.W.hideAll h (vv h H)
theorem Ma (h:Heap) (H:Hp):(jJ h H).objs.size=h.objs.size:=PySem.W.hideAll_size _ _
theorem M7 {h:Heap}{H:Hp}{b:Addr}{o:Obj} (e:h.get? b=some o) (n:H b=none):(jJ h H).get? b=some o :=
 PySem.W.hideAll_get _ e fun hm=>by
  have q:(H b).isSome=true:=(List.mem_filter.mp hm).2
  rw [n] at q;simp at q
theorem OI {h:Heap}{H:Hp}{b:Addr}{o:Obj} (e:(jJ h H).get? b=some o):h.get? b=some o∧H b=none:=by
 have e':h.get? b=some o:=PySem.W.of_hideAll (vv h H) e
 refine ⟨e',?_⟩
 cases q:H b with
 |none=>rfl
 |some x =>
  have hm:b∈vv h H:=List.mem_filter.mpr ⟨List.mem_range.mpr (Heap.lt_size e'),by simp [q]⟩
  have z:(jJ h H).get? b=none:=PySem.W.hideAll_none (vv h H) hm
  rw [z] at e;cases e
noncomputable def OJ (g h:Heap) (L:Addr):List (Addr×Obj):=(List.range h.objs.size).filterMap fun a=>if a=L∨(g.get? a).isSome=true then none else (h.get? a).map fun o=>(a,o)
noncomputable def rest (g h:Heap) (L d:Addr):List (Addr×Obj):=(OJ g h L).filter fun p=>decide (p.1≠d)
structure Mod (K:PySem.W.Frag) (mg:Str→Option Value) (base:Heap):Prop where
 zU:K.In base
 glob:base.Ns mainGlobals mg
 blt:∃ mb,base.Ns builtinsNs mb∧∀ x:Str,x ≠ "__name__" → mb x=bootBuiltins x
 nolimit:base.NoLimit
structure Cx where
 prog:Program
 w:World
 K:PySem.W.Frag
 mg:Str→Option Value
 base:Heap
 A:Around
 N:List Str
 s₀:Shared
 H₀:Hp
 env:Env
 outer:List Env
 stack:List Env
 ex:List Addr
 fn:Str→Bool
 calm:Bool
 pn:List (Addr×Obj)
 xe:Value→Shared→Prop
noncomputable def gW (l:List Env):List Addr:=l.filterMap (·.frame)
noncomputable abbrev Cx.fs (X:Cx):List Addr:=gW X.outer
def vw (sc:Scope) (x:Str):Prop:=sc.names.lookup x=some .local∨sc.names.lookup x=some .cell∨sc.names.lookup x=some .free
def Loc (sc:Scope) (x:Str):Prop:=sc.names.lookup x=some .local∨sc.names.lookup x=some .cell
def Look (env:Env) (h:Heap) (m:Str→Option Value) (x:Str) (u:Value):Prop :=
 (env.kindOf x=some .local∧m x=some u)∨((env.kindOf x=some .cell∨env.kindOf x=some .free)∧∃ c,env.cells.lookup x=some c∧h.IsCell c (some u))
structure Cx.Ok (X:Cx):Prop where
 mod:Mod X.K X.mg X.base
 kind:X.env.scope.kind=.function
 glob:X.env.globals=mainGlobals
 blt:X.env.builtins=builtinsNs
 above:X.s₀.heap.objs.size≤X.env.locals
 inj:∀ x y c,X.env.cells.lookup x=some c→X.env.cells.lookup y=some c→x=y
 has:∀ x,(X.env.kindOf x=some .cell∨X.env.kindOf x=some .free)→∃ c,X.env.cells.lookup x=some c
 qS:∀ x c,X.fn x=true→X.env.cells.lookup x=some c→X.s₀.heap.objs.size≤c
 hd:X.calm=true→X.A.handled=none
 frames:X.A.frames=some X.stack
 vx:X.stack=X.outer∨(X.stack=X.env::X.outer∧X.env.frame=some X.env.locals)
 HX:∀ b∈X.ex,b≠X.env.locals∧∀ x c,X.env.cells.lookup x=some c→c≠b
 bs:∀ b o,X.base.get? b=some o→X.s₀.heap.get? b=some o∧X.H₀ b=none
 jU:X.base.objs.size≤X.s₀.heap.objs.size
 qz:∀ b o,X.base.get? b=some o→b∉X.ex
 uY:∀ b∈X.ex,b∉X.fs
 iy:X.s₀.heap.FunFrames X.base X.outer
 oz:∀ b∈X.fs,X.H₀ b=none
structure Inv (X:Cx) (pins:List (Addr×Obj)) (σ:List (Option V)) (H:Hp) (s:Shared):Prop where
 ok:X.Ok
 os:s.os=X.s₀.os
 bare:AllBare s.gens
 base:Un X.fs X.ex X.H₀ H X.s₀.heap s.heap
 loc:∃ m,s.heap.Ns X.env.locals m∧∀ (i:Nat) (x:Str) (v:V),X.N[i]?=some x→σ[i]?=some (some v)→vw X.env.scope x→∃ u,RelV v u∧Look X.env s.heap m x u
 cell:∀ x c,X.env.cells.lookup x=some c→∃ v,s.heap.IsCell c v
 free:H X.env.locals=none
 gj:∀ x c,X.env.cells.lookup x=some c→H c=none
 pin:∀ p∈X.pn++pins,s.heap.get? p.1=some p.2∧H p.1=none∧p.1≠X.env.locals∧p.1∉X.fs∧∀ v,p.2.data≠.cell v
 aD:cv X.prog X.w H s.heap
 len:σ.length=X.N.length
section
variable {X:Cx}{pins:List (Addr×Obj)}{σ:List (Option V)}{H H':Hp}{s:Shared}{h':Heap}
theorem Cx.Ok.Wr (ok:X.Ok) {b:Addr}{o:Obj} (e:X.base.get? b=some o):b∉X.fs:=fun hb=>by
 have:=(ok.iy.mem hb).1
 rw [e] at this;cases this
theorem Inv.bs (I:Inv X pins σ H s):∀ b o,X.base.get? b=some o→s.heap.get? b=some o∧H b=none:=fun b o e =>
 ⟨I.base.keep b o (I.ok.bs b o e).1 (I.ok.bs b o e).2 (I.ok.Wr e) (I.ok.qz b o e),I.base.free b o (I.ok.bs b o e).1 (I.ok.bs b o e).2 (I.ok.qz b o e)⟩
theorem Inv.bk (I:Inv X pins σ H s):∀ b o,X.base.get? b=some o→s.heap.get? b=some o:=fun b o e=>(I.bs b o e).1
theorem Inv.mod (I:Inv X pins σ H s):Mod X.K X.mg X.base:=I.ok.mod
theorem Inv.fV (I:Inv X pins σ H s):X.K.In s.heap:=I.ok.mod.zU.keeps I.bk
theorem Inv.fr (I:Inv X pins σ H s):∃ m,Fr X.base X.env.locals s.heap m :=
 let ⟨m,hn,_⟩:=I.loc
 ⟨m,hn,I.bk,Nat.le_trans I.ok.jU I.ok.above⟩
theorem Inv.lt (I:Inv X pins σ H s):X.env.locals < s.heap.objs.size:=let ⟨_,hn,_⟩:=I.loc;hn.lt
theorem Inv.sz (I:Inv X pins σ H s):X.s₀.heap.objs.size≤s.heap.objs.size:=Nat.le_trans I.ok.above (Nat.le_of_lt I.lt)
theorem Inv.Ws (I:Inv X pins σ H s) {a:Addr} (h:s.heap.objs.size≤a):a∉X.fs:=fun hb=>by
 obtain ⟨_,o,ho,_⟩:=I.ok.iy.mem hb
 exact absurd (Nat.lt_of_lt_of_le (Heap.lt_size ho) (Nat.le_trans I.sz h)) (Nat.lt_irrefl _)
theorem Inv.ml (I:Inv X pins σ H s):∀ x c,X.env.cells.lookup x=some c→c≠X.env.locals:=fun x c e z=>by
 obtain ⟨v,o,ho,hd⟩:=I.cell x c e
 obtain ⟨m,⟨o',es,ep,fF,gX,_⟩,_⟩:=I.loc
 rw [z,fF] at ho;cases ho;rw [gX] at hd;cases hd
theorem Inv.iy (I:Inv X pins σ H s):s.heap.FunFrames X.base X.outer:=by
 have all:∀ (l:List Env),(∀ b∈gW l,b∈X.fs)→X.s₀.heap.FunFrames X.base l→s.heap.FunFrames X.base l:=by
  intro l
  induction l with
  |nil=>intro _ _;trivial
  |cons env r ih =>
   intro hs hl
   obtain ⟨hk,⟨L,o,hf,hn,ho,hd⟩,hr⟩:=hl
   have hL:L∈X.fs:=hs L (by unfold gW;rw [List.filterMap_cons,hf];exact List.mem_cons_self)
   obtain ⟨sl,e⟩:=I.base.slot L o ho (I.ok.oz L hL) hL fun z=>I.ok.uY L z hL
   exact ⟨hk,⟨L,_,hf,hn,e,hd⟩,ih (fun b hb=>hs b (by unfold gW;rw [List.filterMap_cons,hf];exact List.mem_cons_of_mem _ hb)) hr⟩
 exact all X.outer (fun _ hb=>hb) I.ok.iy
theorem Inv.stack (I:Inv X pins σ H s):s.heap.FunFrames X.base X.stack:=by
 rcases I.ok.vx with e|⟨e,hf⟩
 ·rw [e];exact I.iy
 ·rw [e]
  obtain ⟨m,hn,_⟩:=I.loc
  refine .cons (by rw [I.ok.kind];decide) hf hn ?_ I.iy
  exact Heap.get?_none_of_le (Nat.le_trans I.ok.jU I.ok.above)
theorem Inv.yj (I:Inv X pins σ H s):∀ b∈gW X.stack,b∈X.env.locals::X.fs:=fun b hb=>by
 rcases I.ok.vx with e|⟨e,hf⟩
 ·rw [e] at hb;exact List.mem_cons_of_mem _ hb
 ·rw [e] at hb
  unfold gW at hb
  rw [List.filterMap_cons,hf] at hb
  exact hb
theorem Inv.DJ (I:Inv X pins σ H s):∀ b∈gW X.stack,H b=none:=fun b hb=>by
 rcases List.mem_cons.mp (I.yj b hb) with e|hb
 ·rw [e];exact I.free
 ·obtain ⟨_,o,ho,_⟩:=I.ok.iy.mem hb
  exact I.base.free b o ho (I.ok.oz b hb) fun z=>I.ok.uY b z hb
theorem Inv.step {g':Array GenState}{t':Nat}{d':Drawn}{ch:List Addr} (I:Inv X pins σ H s)
  (i9:∀ b∈ch,(b∈X.ex∨X.s₀.heap.objs.size≤b)∧b≠X.env.locals∧(∀ x c,X.env.cells.lookup x=some c→c≠b)∧∀ p∈X.pn++pins,p.1≠b)
  (keep:∀ b o,b≠X.env.locals→b∉X.fs→b∉ch→s.heap.get? b=some o→H b=none→h'.get? b=some o)
  (slot:∀ b o,b≠X.env.locals→b∈X.fs→b∉ch→s.heap.get? b=some o→H b=none→∃ sl,h'.get? b=some { o with slots:=sl }) (free:∀ b o,b∉ch→s.heap.get? b=some o→H b=none→H' b=none)
  (there:∀ b o,b∉ch→s.heap.get? b=some o→∃ o',h'.get? b=some o')
  (jH:∀ b xs,H b=some (.tup xs)→H' b=some (.tup xs)) (iw:∀ b o u,H b=some (.aX o u)→H' b=some (.aX o u)) (jI:∀ b ps,H b=some (.jT ps)→∃ more,H' b=some (.jT (ps++more)))
  (ns:∀ m,s.heap.Ns X.env.locals m→h'.Ns X.env.locals m) (aD:cv X.prog X.w H' h') (hg:AllBare g') :
  Inv X pins σ H' { s with heap:=h',gens:=g',drawn:=d',toks:=t' }:=by
 have mr:∀ b o,X.s₀.heap.get? b=some o→b≠X.env.locals:=fun b o e=>Nat.ne_of_lt (Nat.lt_of_lt_of_le (Heap.lt_size e) I.ok.above)
 have jW:∀ b o,X.s₀.heap.get? b=some o→b∉X.ex→b∉ch:=fun b o e hx hb=>by
  rcases (i9 b hb).1 with z|z
  ·exact hx z
  ·exact absurd (Nat.lt_of_lt_of_le (Heap.lt_size e) z) (Nat.lt_irrefl _)
 have cellK:∀ x c,X.env.cells.lookup x=some c→∀ v,s.heap.IsCell c v→h'.IsCell c v:=fun x c e v ⟨o,ho,hd⟩=>by
  have qT:c∉ch:=fun z=>(i9 c z).2.2.1 x c e rfl
  by_cases hc:c∈X.fs
  ·obtain ⟨sl,q⟩:=slot c o (I.ml x c e) hc qT ho (I.gj x c e)
   exact ⟨_,q,hd⟩
  ·exact ⟨o,keep c o (I.ml x c e) hc qT ho (I.gj x c e),hd⟩
 refine ⟨I.ok,I.os,hg,⟨fun b o e n hb hx=>?_,fun b o e n hb hx=>?_,fun b o e n hx=>?_,fun b o e hx=>?_,fun b xs e=>jH b xs (I.base.jH b xs e),fun b o xs e=>iw b o xs (I.base.iw b o xs e),fun b ps e=>?_⟩,?_,fun x c e=>?_,?_,fun x c e=>?_,fun p hp=>?_,aD,I.len⟩
 ·exact keep b o (mr b o e) hb (jW b o e hx) (I.base.keep b o e n hb hx) (I.base.free b o e n hx)
 ·obtain ⟨sl,e1⟩:=I.base.slot b o e n hb hx
  obtain ⟨Xp,e2⟩:=slot b _ (mr b o e) hb (jW b o e hx) e1 (I.base.free b o e n hx)
  exact ⟨Xp,e2⟩
 ·obtain ⟨o',e1⟩:=I.base.there b o e hx
  exact free b o' (jW b o e hx) e1 (I.base.free b o e n hx)
 ·obtain ⟨o',e1⟩:=I.base.there b o e hx
  exact there b o' (jW b o e hx) e1
 ·obtain ⟨m1,e1⟩:=I.base.jI b ps e
  obtain ⟨m2,e2⟩:=jI b _ e1
  exact ⟨m1++m2,by rw [e2,Array.append_assoc]⟩
 ·obtain ⟨m,hn,hl⟩:=I.loc
  refine ⟨m,ns m hn,fun i x v e1 e2 e3=>?_⟩
  obtain ⟨u,r,l⟩:=hl i x v e1 e2 e3
  refine ⟨u,r,?_⟩
  rcases l with l|⟨k,c,e,z⟩
  ·exact .inl l
  ·exact .inr ⟨k,c,e,cellK x c e _ z⟩
 ·obtain ⟨v,z⟩:=I.cell x c e
  exact ⟨v,cellK x c e v z⟩
 ·obtain ⟨m,⟨o,_,_,ho,_⟩,_⟩:=I.loc
  exact free _ o (fun z=>(i9 _ z).2.1 rfl) ho I.free
 ·obtain ⟨v,o,ho,hd⟩:=I.cell x c e
  exact free c o (fun z=>(i9 c z).2.2.1 x c e rfl) ho (I.gj x c e)
 ·obtain ⟨e,n,ne,nf,d⟩:=I.pin p hp
  have qT:p.1∉ch:=fun z=>(i9 p.1 z).2.2.2 p hp rfl
  exact ⟨keep p.1 p.2 ne nf qT e n,free p.1 p.2 qT e n,ne,nf,d⟩
theorem Inv.un {t':Nat} (I:Inv X pins σ H s) (u:Un X.fs [] H H' s.heap h') (aD:cv X.prog X.w H' h'):Inv X pins σ H' { s with heap:=h',toks:=t' }:=by
 obtain ⟨m,⟨o,es,ep,ho,r⟩,_⟩:=id I.loc
 obtain ⟨sl,hL⟩:=u.any ho I.free (by simp)
 exact I.step (g':=s.gens) (d':=s.drawn) (ch:=[]) (fun _ z=>nomatch z) (fun b o _ hb _ e n=>u.keep b o e n hb (by simp)) (fun b o _ hb _ e n=>u.slot b o e n hb (by simp)) (fun b o _ e n=>u.free b o e n (by simp)) (fun b o _ e=>u.there b o e (by simp)) u.jH u.iw u.jI (fun m' hm=>by
  obtain ⟨o',kQ,qU,fF,r'⟩:=hm
  rw [ho] at fF;cases fF
  exact ⟨_,kQ,qU,hL,r'⟩) aD I.bare
theorem Inv.call {g':Array GenState}{t':Nat}{d':Drawn}{ch:List Addr} (I:Inv X pins σ H s) (u:Un (gW X.stack) ch H H' s.heap h') (aD:cv X.prog X.w H' h') (hg:AllBare g')
  (i9:∀ b∈ch,(b∈X.ex∨X.s₀.heap.objs.size≤b)∧b≠X.env.locals∧(∀ x c,X.env.cells.lookup x=some c→c≠b)∧∀ p∈X.pn++pins,p.1≠b) :
  Inv X pins σ H' { s with heap:=h',gens:=g',drawn:=d',toks:=t' }:=by
 obtain ⟨m,⟨o,es,ep,ho,r⟩,_⟩:=id I.loc
 obtain ⟨sl,hL⟩:=u.any ho I.free fun z=>(i9 _ z).2.1 rfl
 exact I.step (ch:=ch) i9 (fun b o hL hb hc e n=>u.keep b o e n (fun z=>(List.mem_cons.mp (I.yj b z)).elim hL hb) hc) (fun b o _ _ hc e n=>u.any e n hc) (fun b o hc e n=>u.free b o e n hc) (fun b o hc e=>u.there b o e hc) u.jH u.iw u.jI (fun m' hm=>by
  obtain ⟨o',kQ,qU,fF,r'⟩:=hm
  rw [ho] at fF;cases fF
  exact ⟨_,kQ,qU,hL,r'⟩) aD hg
theorem Inv.turned {t':Nat}{it:Addr} (I:Inv X pins σ H s) (k:∀ b o,b≠it→s.heap.get? b=some o→h'.get? b=some o) (hn:H it=none) (hL:it≠X.env.locals)
  (h1:it∈X.ex∨X.s₀.heap.objs.size≤it) (h2:∀ x c,X.env.cells.lookup x=some c→c≠it) (h3:∀ p∈X.pn++pins,p.1≠it):Inv X pins σ H { s with heap:=h',toks:=t' }:=by
 have kR:∀ b u,H b=some u→b≠it:=fun b u e z=>by rw [z,hn] at e;cases e
 refine I.step (g':=s.gens) (d':=s.drawn) (ch:=[it]) (fun b hb=>?_) (fun b o _ _ hc e _=>k b o (fun z=>hc (by simp [z])) e) (fun b o _ _ hc e _=>⟨o.slots,k b o (fun z=>hc (by simp [z])) e⟩) (fun _ _ _ _ n=>n)
  (fun b o hc e=>⟨o,k b o (fun z=>hc (by simp [z])) e⟩) (fun _ _ e=>e) (fun _ _ _ e=>e) (fun b ps e=>⟨#[],by rw [e];simp⟩) (fun m hm=>?_) (fun b u e=>?_) I.bare
 ·have e:b=it:=by simpa using hb
  subst e
  exact ⟨h1,hL,h2,h3⟩
 ·obtain ⟨o,es,ep,ho,r⟩:=hm
  exact ⟨o,es,ep,k _ o (Ne.symm hL) ho,r⟩
 ·refine (I.aD b u e).ky (fun c v hc q=>k c v ?_ q) (fun _ q=>q) fun _ _ q=>q
  rcases hc with z|z
  ·rw [z];exact kR b u e
  ·exact kR c _ z
theorem Inv.tok (I:Inv X pins σ H s) (t:Nat):Inv X pins σ H { s with toks:=t }:=I.un (h':=s.heap) (t':=t) Un.refl I.aD
theorem Inv.kept {t':Nat} (I:Inv X pins σ H s) (k:∀ b u,s.heap.get? b=some u→h'.get? b=some u):Inv X pins σ H { s with heap:=h',toks:=t' }:=I.un (Un.kept k) (I.aD.kept k)
theorem Inv.laid {a:Addr}{o:HO}{t':Nat} (I:Inv X pins σ H s) (k:∀ b u,s.heap.get? b=some u→h'.get? b=some u) (hp:s.heap.objs.size≤a) (new:b0 X.prog X.w (upd H a o) h' a o) :
 Inv X pins σ (upd H a o) { s with heap:=h',toks:=t' }:=I.un (Un.laid k hp (I.aD.fresh hp)) (I.aD.laid k hp new)
theorem Inv.write {x e:Addr}{o:HO}{t':Nat} (I:Inv X pins σ H s) (mu:qR (H x)) (he:e=x∨H e=some (.own x)) (k:∀ b u,b≠e→s.heap.get? b=some u→h'.get? b=some u) (ou:∃ u,h'.get? e=some u)
 (new:b0 X.prog X.w (upd H x o) h' x o):Inv X pins σ (upd H x o) { s with heap:=h',toks:=t' }:=I.un (Un.write mu he k ou) (I.aD.write mu he k ou new)
theorem Inv.weak {σ':List (Option V)} (I:Inv X pins σ H s) (hl:σ'.length=σ.length) (w:∀ (i:Nat) v,σ'[i]?=some (some v)→σ[i]?=some (some v)):Inv X pins σ' H s :=
 ⟨I.ok,I.os,I.bare,I.base,let ⟨m,hn,Xq⟩:=I.loc;⟨m,hn,fun i x v e1 e2 e3=>Xq i x v e1 (w i v e2) e3⟩,I.cell,I.free,I.gj,I.pin,I.aD,hl.trans I.len⟩
theorem Inv.DK {FK:List (Addr×Obj)} (I:Inv X pins σ H s) (h:∀ p∈FK,s.heap.get? p.1=some p.2∧H p.1=none∧p.1≠X.env.locals∧p.1∉X.fs∧∀ v,p.2.data≠.cell v):Inv X FK σ H s :=
 ⟨I.ok,I.os,I.bare,I.base,I.loc,I.cell,I.free,I.gj,fun p hp=>(List.mem_append.mp hp).elim (fun z=>I.pin p (List.mem_append_left _ z)) (h p),I.aD,I.len⟩
theorem pU {N:List Str} (hN:N.Nodup) {i j:Nat}{x:Str} (a:N[i]?=some x) (b:N[j]?=some x):i=j:=by
 obtain ⟨h1,e1⟩:=List.getElem?_eq_some_iff.mp a
 obtain ⟨h2,e2⟩:=List.getElem?_eq_some_iff.mp b
 exact (List.getElem_inj hN).mp (e1.trans e2.symm)
theorem Cr {M:Model}{A:Around}{E:Value→Shared→Prop}{i:Nat}{x:Str}{v:V}{u:Value}{Q:Unit→Shared→Prop} (I:Inv X pins σ H s) (hN:X.N.Nodup) (hi:X.N[i]?=some x) (hx:Loc X.env.scope x) (r:RelV v u)
  (h:∀ s',Inv X pins (σ.set i (some v)) H s'→(∃ a,Heap.SameBut a s.heap s'.heap∧(a=X.env.locals∨X.env.cells.lookup x=some a))→Q () s') (hf:X.fn x=true∨X.env.scope.names.lookup x=some .local:=by first|exact .inl rfl|exact .inr rfl|assumption):wpAny M A (storeName X.env x u) Q E s:=by
 obtain ⟨m,hn,hl⟩:=id I.loc
 have Wt:(X.env.scope.kind==.class||(X.env.scope.kind==.module&&X.env.locals != X.env.globals))=false:=by rw [I.ok.kind];rfl
 have GA:i < σ.length:=by rw [I.len];exact (List.getElem?_eq_some_iff.mp hi).1
 have ml:=I.ml
 have tracked:∀ {a:Addr}{h':Heap},(∃ o,s.heap.get? a=some o∧H a=none)→Heap.SameBut a s.heap h'→cv X.prog X.w H h':=fun {a h'} ha hs b ob e=>by
  obtain ⟨_,_,uG⟩:=ha
  refine (I.aD b ob e).ky (fun c w' hc q=>(hs.2 c ?_).trans q) (fun _ q=>q) fun _ _ q=>q
  rintro rfl
  rcases hc with rfl|hc
  ·rw [uG] at e;cases e
  ·rw [uG] at hc;cases hc
 rcases hx with hk|hk
 ·refine wpAny_storeName_local hk hn (fun h' oA hs=>?_) Wt
  obtain ⟨oL,_,_,Xr,_⟩:=id hn
  refine h _ ⟨I.ok,I.os,I.bare,⟨fun b o e n hb hx=>?_,fun b o e n hb hx=>?_,I.base.free,fun b o e hx=>?_,I.base.jH,I.base.iw,I.base.jI⟩,⟨_,oA,fun j y v' e1 e2 e3=>?_⟩,fun y c e=>?_,I.free,I.gj,fun p hp=>?_,tracked ⟨oL,Xr,I.free⟩ hs,by simpa using I.len⟩ ⟨_,hs,.inl rfl⟩
  ·exact (hs.2 b (Nat.ne_of_lt (Nat.lt_of_lt_of_le (Heap.lt_size e) I.ok.above))).trans (I.base.keep b o e n hb hx)
  ·obtain ⟨sl,e1⟩:=I.base.slot b o e n hb hx
   exact ⟨sl,(hs.2 b (Nat.ne_of_lt (Nat.lt_of_lt_of_le (Heap.lt_size e) I.ok.above))).trans e1⟩
  ·obtain ⟨o',e1⟩:=I.base.there b o e hx
   exact ⟨o',(hs.2 b (Nat.ne_of_lt (Nat.lt_of_lt_of_le (Heap.lt_size e) I.ok.above))).trans e1⟩
  ·by_cases hj:j=i
   ·subst hj
    rw [hi] at e1;cases e1
    rw [List.getElem?_set_self GA] at e2
    cases e2
    exact ⟨u,r,.inl ⟨hk,by simp⟩⟩
   ·rw [List.getElem?_set_ne (Ne.symm hj)] at e2
    obtain ⟨u',r',q⟩:=hl j y v' e1 e2 e3
    refine ⟨u',r',?_⟩
    rcases q with ⟨k,e⟩|⟨k,c,e,z⟩
    ·refine .inl ⟨k,?_⟩
     have:y≠x:=fun e=>hj (pU hN e1 (e▸hi))
     simp [this,e]
    ·exact .inr ⟨k,c,e,z.sameBut hs (ml y c e)⟩
  ·obtain ⟨w',z⟩:=I.cell y c e
   exact ⟨w',z.sameBut hs (ml y c e)⟩
  ·obtain ⟨e,n,ne,nf,d⟩:=I.pin p hp
   exact ⟨(hs.2 p.1 ne).trans e,n,ne,nf,d⟩
 ·have zV:X.fn x=true:=by
   rcases hf with z|z
   ·exact z
   ·rw [z] at hk;cases hk
  obtain ⟨c,hc⟩:=I.ok.has x (.inl hk)
  obtain ⟨w',z⟩:=I.cell x c hc
  refine wpAny_storeName_cell I.ok.kind hk hc z (fun h' HY hs=>?_)
  obtain ⟨oc,HZ,Wu⟩:=id z
  refine h { s with heap:=h' } ⟨I.ok,I.os,I.bare,⟨fun b o e n hb hx=>?_,fun b o e n hb hx=>?_,I.base.free,fun b o e hx=>?_,I.base.jH,I.base.iw,I.base.jI⟩,⟨m,hn.sameBut hs (Ne.symm (ml x c hc)),fun j y v' e1 e2 e3=>?_⟩,fun y c' e=>?_,I.free,I.gj,fun p hp=>?_,tracked ⟨oc,HZ,I.gj x c hc⟩ hs,by simpa using I.len⟩ ⟨c,hs,.inr hc⟩
  ·exact (hs.2 b (Nat.ne_of_lt (Nat.lt_of_lt_of_le (Heap.lt_size e) (I.ok.qS x c zV hc)))).trans (I.base.keep b o e n hb hx)
  ·obtain ⟨sl,e1⟩:=I.base.slot b o e n hb hx
   exact ⟨sl,(hs.2 b (Nat.ne_of_lt (Nat.lt_of_lt_of_le (Heap.lt_size e) (I.ok.qS x c zV hc)))).trans e1⟩
  ·obtain ⟨o',e1⟩:=I.base.there b o e hx
   exact ⟨o',(hs.2 b (Nat.ne_of_lt (Nat.lt_of_lt_of_le (Heap.lt_size e) (I.ok.qS x c zV hc)))).trans e1⟩
  ·by_cases hj:j=i
   ·subst hj
    rw [hi] at e1;cases e1
    rw [List.getElem?_set_self GA] at e2
    cases e2
    exact ⟨u,r,.inr ⟨.inl hk,c,hc,HY⟩⟩
   ·rw [List.getElem?_set_ne (Ne.symm hj)] at e2
    obtain ⟨u',r',q⟩:=hl j y v' e1 e2 e3
    refine ⟨u',r',?_⟩
    rcases q with q|⟨k,c',e,z'⟩
    ·exact .inl q
    ·refine .inr ⟨k,c',e,z'.sameBut hs ?_⟩
     rintro rfl
     exact hj (pU hN e1 (I.ok.inj _ _ _ e hc▸hi))
  ·by_cases vy:c'=c
   ·subst vy;exact ⟨_,HY⟩
   ·obtain ⟨w2,z2⟩:=I.cell y c' e
    exact ⟨w2,z2.sameBut hs vy⟩
  ·obtain ⟨e,n,ne,nf,d⟩:=I.pin p hp
   refine ⟨(hs.2 p.1 ?_).trans e,n,ne,nf,d⟩
   intro q
   rw [q,HZ] at e
   have q':oc=p.2:=Option.some.inj e
   exact d w' (by rw [←q'];exact Wu)
theorem C0 {M:Model}{A:Around}{E:Value→Shared→Prop}{i:Nat}{x:Str}{v:V}{u:Value}{Q:Unit→Shared→Prop} (I:Inv X pins σ H s) (hN:X.N.Nodup) (hi:X.N[i]?=some x) (hx:Loc X.env.scope x) (r:RelV v u)
  (h:∀ s',Inv X pins (σ.set i (some v)) H s'→Q () s') (hf:X.fn x=true∨X.env.scope.names.lookup x=some .local:=by first|exact .inl rfl|exact .inr rfl|assumption):wpAny M A (storeName X.env x u) Q E s :=
 Cr I hN hi hx r (fun s' I' _=>h s' I') hf
theorem Inv.Uw {s':Shared}{ch:List Addr} (I:Inv X pins σ H s) (ho:s'.os=s.os) (u:Un (gW X.stack) ch H H' s.heap s'.heap) (aD:cv X.prog X.w H' s'.heap) (hg:AllBare s'.gens)
  (i9:∀ b∈ch,(b∈X.ex∨X.s₀.heap.objs.size≤b)∧b≠X.env.locals∧(∀ x c,X.env.cells.lookup x=some c→c≠b)∧∀ p∈X.pn++pins,p.1≠b):Inv X pins σ H' s':=by
 obtain ⟨h',g',d',t',o'⟩:=s'
 have e:o'=s.os:=ho
 subst e
 exact I.call (g':=g') (t':=t') (d':=d') u aD hg i9
end
noncomputable abbrev XK:=Value→Option Addr→Hp→Prop
noncomputable abbrev St:=List (Option V)
noncomputable abbrev VK:=V→Hp→Prop
noncomputable abbrev TE:=St→Hp→VK→Prop
noncomputable abbrev TT:=St→Hp→(Bool→Hp→Prop)→Prop
noncomputable abbrev TA:=St→Hp→(List V→Hp→Prop)→Prop
structure Ends where
 nx:St→Hp→Prop
 rt:VK
 bk:St→Hp→Prop:=fun _ _=>False
 ct:St→Hp→Prop:=fun _ _=>False
noncomputable abbrev TS:=Ends→St→Hp→Prop
def EP (X:Cx) (pins:List (Addr×Obj)) (σ:St) (Q:VK) (u:Value) (s':Shared):Prop:=∃ v H',Inv X pins σ H' s'∧RelV v u∧Q v H'
def TP (X:Cx) (pins:List (Addr×Obj)) (σ:St) (Q:Bool→Hp→Prop) (b:Bool) (s':Shared):Prop:=∃ H',Inv X pins σ H' s'∧Q b H'
def AP (X:Cx) (pins:List (Addr×Obj)) (σ:St) (Q:List V→Hp→Prop) (us:List Value) (s':Shared):Prop:=∃ vs H',Inv X pins σ H' s'∧Vals vs us∧Q vs H'
def SP (X:Cx) (pins:List (Addr×Obj)) (D:Ends) (f:Flow) (s':Shared):Prop :=
 match f with
 |.next=>∃ σ' H',Inv X pins σ' H' s'∧D.nx σ' H'
 |.brk=>∃ σ' H',Inv X pins σ' H' s'∧D.bk σ' H'
 |.cont=>∃ σ' H',Inv X pins σ' H' s'∧D.ct σ' H'
 |.ret u=>∃ v σ' H',Inv X pins σ' H' s'∧RelV v u∧D.rt v H'
def PE (X:Cx) (e:Expr) (t:TE):Prop :=
 ∀ (pins:List (Addr×Obj)) (s:Shared) (σ:St) (H:Hp) (Q:VK),Inv X pins σ H s→t σ H Q→wpAny (model X.prog X.w) X.A (eval e X.env) (EP X pins σ Q) X.xe s
def PT (X:Cx) (e:Expr) (t:TT):Prop :=
 ∀ (pins:List (Addr×Obj)) (s:Shared) (σ:St) (H:Hp) (Q:Bool→Hp→Prop),Inv X pins σ H s→t σ H Q→wpAny (model X.prog X.w) X.A (isTrue e X.env (eval e X.env)) (TP X pins σ Q) X.xe s
def PW (X:Cx) (e:Expr) (t:TT):Prop :=
 ∀ (whole:Sem Value) (pins:List (Addr×Obj)) (s:Shared) (σ:St) (H:Hp) (Q:Bool→Hp→Prop),Inv X pins σ H s→t σ H Q→wpAny (model X.prog X.w) X.A (isTrue e X.env whole) (TP X pins σ Q) X.xe s
theorem PW.pt {X:Cx}{e:Expr}{t:TT} (h:PW X e t):PT X e t:=h _
def PA (X:Cx) (es:List Expr) (t:TA):Prop :=
 ∀ (pos:Pos) (pins:List (Addr×Obj)) (s:Shared) (σ:St) (H:Hp) (Q:List V→Hp→Prop),Inv X pins σ H s→t σ H Q→wpAny (model X.prog X.w) X.A (spliced (backTo pos (starEach es X.env))) (AP X pins σ Q) X.xe s
def PS (X:Cx) (st:Stmt) (t:TS):Prop :=
 ∀ (pins:List (Addr×Obj)) (s:Shared) (σ:St) (H:Hp) (D:Ends),Inv X pins σ H s→t D σ H→wpAny (model X.prog X.w) X.A (exec st X.env) (SP X pins D) X.xe s
def fG (X:Cx) (st:List Stmt) (t:TS):Prop :=
 ∀ (pins:List (Addr×Obj)) (s:Shared) (σ:St) (H:Hp) (D:Ends),Inv X pins σ H s→t D σ H→wpAny (model X.prog X.w) X.A (execs st X.env) (SP X pins D) X.xe s
theorem aF {α:Type}{t:Sem α}{Q Q':α→Shared→Prop}{M:Model}{A:Around}{E:Value→Shared→Prop}{s:Shared} (h:wpAny M A t Q E s) (hQ:∀ a s,Q a s→Q' a s):wpAny M A t Q' E s:=wpAny_mono h hQ fun _ _ x=>x
section
variable {X:Cx}
noncomputable def fQ (i:Nat):TE:=fun σ H Q=>∃ v,σ[i]?=some (some v)∧Q v H
noncomputable def tC (v:V):TE:=fun _ H Q=>Q v H
theorem ED {i:Nat}{x:Str}{pos:Pos} (hN:X.N[i]?=some x) (hv:vw X.env.scope x) (hd:(x==("__debug__" : Str))=false:=by decide) (gx:(x==("__classdict__" : Str))=false:=by decide):PE X (.Name x pos) (fQ i):=by
 intro pins s σ H Q I h
 obtain ⟨v,e,h⟩:=h
 obtain ⟨m,hn,hl⟩:=I.loc
 obtain ⟨u,r,l⟩:=hl i x v hN e hv
 have fin:EP X pins σ Q u s:=⟨v,H,I,r,h⟩
 rcases l with ⟨hk,hm⟩|⟨hk,c,hc,FL⟩
 ·exact wpAny_Name (wpAny_loadName_local I.ok.kind hk hn hm fin) hd
 ·rcases hk with hk|hk
  ·exact wpAny_Name (wpAny_loadName_cell I.ok.kind hk hc FL fin) hd
  ·exact wpAny_Name (wpAny_loadName_free I.ok.kind hk hc FL fin gx) hd
theorem Ra {i j pos}:PE X (.Constant (.int i) j pos) (tC (.int i)):=fun _ _ _ H _ I h=>wpAny_Constant_int ⟨.int i,H,I.tok _,⟨_,rfl⟩,h⟩
theorem Ux {b j pos}:PE X (.Constant (.bool b) j pos) (tC (.bl b)):=fun _ _ _ H _ I h=>Constant_bool ⟨.bl b,H,I,rfl,h⟩
theorem Rb {j pos}:PE X (.Constant .none j pos) (tC .non):=fun _ _ _ H _ I h=>Constant_none ⟨.non,H,I,rfl,h⟩
theorem Rc {x j pos}:PE X (.Constant (.str x) j pos) (tC (.str x)):=fun _ _ _ H _ I h=>Calls.Constant_str ⟨.str x,H,I.tok _,⟨_,rfl⟩,h⟩
def Gl (X:Cx) (x:Str):Prop:=X.env.kindOf x=some .globalImplicit
theorem OL {E:Value→Shared→Prop}{pins:List (Addr×Obj)}{s:Shared}{σ:St}{H:Hp}{x:Str}{u:Value}{pos:Pos}{Q:Value→Shared→Prop} (I:Inv X pins σ H s) (hg:Gl X x) (hm:X.mg x=some u) (h:Q u s)
  (hd:(x==("__debug__" : Str))=false:=by decide):wpAny (model X.prog X.w) X.A (eval (.Name x pos) X.env) Q E s :=
 Calls.Name_function_global I.ok.kind hg (Calls.loadGlobal_global (by rw [I.ok.glob];exact I.mod.glob.keeps I.bk) hm h) hd
theorem kj {E:Value→Shared→Prop}{pins:List (Addr×Obj)}{s:Shared}{σ:St}{H:Hp}{x:Str}{u:Value}{pos:Pos}{Q:Value→Shared→Prop} (I:Inv X pins σ H s) (hg:Gl X x) (hm:X.mg x=none) (hv:bootBuiltins x=some u) (h:Q u s)
  (hn:x ≠ "__name__" := by decide) (hd:(x==("__debug__" : Str))=false:=by decide):wpAny (model X.prog X.w) X.A (eval (.Name x pos) X.env) Q E s:=by
 obtain ⟨mb,h1,h2⟩:=I.mod.blt
 exact Calls.Name_function_global I.ok.kind hg (Calls.loadGlobal_builtin (by rw [I.ok.glob];exact I.mod.glob.keeps I.bk) hm (by rw [I.ok.blt];exact h1.keeps I.bk) ((h2 x hn).trans hv) h) hd
theorem OO {x:Str}{v:V}{u:Value}{pos:Pos} (hg:Gl X x) (hm:X.mg x=none) (hv:bootBuiltins x=some u) (r:RelV v u) (hn:x ≠ "__name__" := by decide) (hd:(x==("__debug__" : Str))=false:=by decide):PE X (.Name x pos) (tC v) :=
 fun _ _ _ H _ I h=>kj I hg hm hv ⟨v,H,I,r,h⟩ hn hd
variable {a b:Expr}{ta tb:TE}{pos:Pos}
def PC (X:Cx) (op:CmpOp) (a b:Expr) (t:TE):Prop :=
 ∀ (pins:List (Addr×Obj)) (s:Shared) (σ:St) (H:Hp) (Q:VK),Inv X pins σ H s→t σ H Q →
  wpAny (model X.prog X.w) X.A (eval a X.env) (fun v s₁=>wpAny (model X.prog X.w) X.A (eval b X.env) (fun u s₂=>wpAny (model X.prog X.w) X.A (compareOp op v u) (EP X pins σ Q) X.xe s₂) X.xe s₁) X.xe s
noncomputable def tB (t:TE):TT:=fun σ H Q=>t σ H fun x H1=>∃ c,x=.bl c∧Q c H1
theorem EE {op:CmpOp}{t:TE} (h:PC X op a b t) (h1:behindInMarks op b=false:=by first|exact ZR _ (by decide) (by decide)|rfl):PT X (.Compare a [op] [b] pos) (tB t):=by
 intro pins s σ H Q I hw
 refine wpAny_isTrue_Compare1 (aF (h pins s σ H _ I hw) fun v s1 h1=>aF h1 fun u s2 h2=>aF h2 fun c s3 ⟨x,H1,I1,r1,q1⟩=>?_) h1
 obtain ⟨d,rfl,q⟩:=q1
 cases r1
 exact wpAny_truthy_bool ⟨H1,I1,q⟩
variable {tA vz:TT}{rest:List Expr}
noncomputable def GB (t u:TT):TT:=fun σ H Q=>t σ H fun c H1=>if c=true then u σ H1 Q else Q false H1
noncomputable def H0 (t u:TT):TT:=fun σ H Q=>t σ H fun c H1=>if c=true then Q true H1 else u σ H1 Q
noncomputable def GC (t:TT):TT:=fun σ H Q=>t σ H fun c H1=>Q (!c) H1
theorem OQ (ha:PT X a tA):PW X (.BoolOp .And [a] pos) tA:=by
 intro wh pins s σ H Q I h
 refine isTrue_and (aF (ha pins s σ H Q I h) fun c s1 e=>?_)
 cases c with
 |true=>exact isTrue_and_nil e
 |false=>exact e
theorem Rf (ha:PT X a tA):PW X (.BoolOp .Or [a] pos) tA:=by
 intro wh pins s σ H Q I h
 refine isTrue_or (aF (ha pins s σ H Q I h) fun c s1 e=>?_)
 cases c with
 |false=>exact isTrue_or_nil e
 |true=>exact e
theorem Rg (ha:PT X a tA) (hb:PW X (.BoolOp .And (b::rest) pos) vz):PW X (.BoolOp .And (a::b::rest) pos) (GB tA vz):=by
 intro wh pins s σ H Q I h
 refine isTrue_and (aF (ha pins s σ H _ I h) fun c s1 ⟨H1,I1,q1⟩=>?_)
 cases c with
 |true=>exact hb wh pins s1 σ H1 Q I1 q1
 |false=>exact ⟨H1,I1,q1⟩
theorem Uy (ha:PT X a tA) (hb:PW X (.BoolOp .Or (b::rest) pos) vz):PW X (.BoolOp .Or (a::b::rest) pos) (H0 tA vz):=by
 intro wh pins s σ H Q I h
 refine isTrue_or (aF (ha pins s σ H _ I h) fun c s1 ⟨H1,I1,q1⟩=>?_)
 cases c with
 |true=>exact ⟨H1,I1,q1⟩
 |false=>exact hb wh pins s1 σ H1 Q I1 q1
theorem Rh (ha:PT X a tA):PT X (.UnaryOp .Not a pos) (GC tA):=by
 intro pins s σ H Q I h
 exact isTrue_not (ha pins s σ H (fun c H1=>Q (!c) H1) I h)
noncomputable def FN (ta tb:TE):TE:=fun σ H Q=>ta σ H fun x H1=>∃ c,x=.bl c∧if c=true then tb σ H1 Q else Q (.bl false) H1
noncomputable def GD (ta tb:TE):TE:=fun σ H Q=>ta σ H fun x H1=>∃ c,x=.bl c∧if c=true then Q (.bl true) H1 else tb σ H1 Q
noncomputable def FP (ta:TE):TE:=fun σ H Q=>ta σ H fun x H1=>∃ c,x=.bl c∧Q (.bl (!c)) H1
theorem EF {op} {t:TE} (h:PE X a t):PE X (.BoolOp op [a] pos) t:=fun pins s σ H Q I hw=>BoolOp_one (h pins s σ H Q I hw)
theorem Ri (ha:PE X a ta) (hb:PE X (.BoolOp .And (b::rest) pos) tb):PE X (.BoolOp .And (a::b::rest) pos) (FN ta tb):=by
 intro pins s σ H Q I h
 refine BoolOp_and (aF (ha pins s σ H _ I h) fun v s1 ⟨x,H1,I1,r1,q1⟩=>?_)
 obtain ⟨c,rfl,q1⟩:=q1
 cases r1
 refine wpAny_truthy_bool ?_
 cases c with
 |true=>exact hb pins s1 σ H1 Q I1 q1
 |false=>exact ⟨.bl false,H1,I1,rfl,q1⟩
theorem Uz (ha:PE X a ta) (hb:PE X (.BoolOp .Or (b::rest) pos) tb):PE X (.BoolOp .Or (a::b::rest) pos) (GD ta tb):=by
 intro pins s σ H Q I h
 refine BoolOp_or (aF (ha pins s σ H _ I h) fun v s1 ⟨x,H1,I1,r1,q1⟩=>?_)
 obtain ⟨c,rfl,q1⟩:=q1
 cases r1
 refine wpAny_truthy_bool ?_
 cases c with
 |false=>exact hb pins s1 σ H1 Q I1 q1
 |true=>exact ⟨.bl true,H1,I1,rfl,q1⟩
theorem Rj (ha:PE X a ta):PE X (.UnaryOp .Not a pos) (FP ta):=by
 intro pins s σ H Q I h
 refine UnaryOp_ (aF (ha pins s σ H _ I h) fun v s1 ⟨x,H1,I1,r1,q1⟩=>?_)
 obtain ⟨c,rfl,q1⟩:=q1
 cases r1
 exact not_of (wpAny_truthy_bool ⟨.bl (!c),H1,I1,rfl,q1⟩)
noncomputable def Ia (t:TT) (ta tb:TE):TE:=fun σ H Q=>t σ H fun c H1=>if c=true then ta σ H1 Q else tb σ H1 Q
theorem M8 {c:Expr} (hc:PT X c tA) (ha:PE X a ta) (hb:PE X b tb):PE X (.IfExp c a b pos) (Ia tA ta tb):=by
 intro pins s σ H Q I h
 refine wpAny_IfExp (aF (hc pins s σ H _ I h) fun d s1 ⟨H1,I1,q1⟩=>?_)
 cases d with
 |true=>exact ha pins s1 σ H1 Q I1 q1
 |false=>exact hb pins s1 σ H1 Q I1 q1
end
def bL (K:PySem.W.Frag) (H:Hp) (a:Addr) (xs:List V):Prop :=
 Rd H a (.lst xs) ∨
  ∃ (o:Obj) (its:Array Value) (n:Nat),K.lookup a=some o∧o.cls=.type "list" ∧ o.dict=none∧o.data=.seq its n∧its.size≤sizeLine∧Vals xs its.toList
def bz (K:PySem.W.Frag) (H:Hp) (a:Addr) (xs:List V):Prop :=
 H a=some (.tup xs) ∨
  ∃ (o:Obj) (its:Array Value) (n:Nat),K.lookup a=some o∧o.cls=.type "tuple" ∧ o.data=.seq its n∧its.size≤sizeLine∧4≤its.size∧Vals xs its.toList
theorem bz.own {K:PySem.W.Frag}{H:Hp}{a:Addr}{xs:List V} (h:bz K H a xs) (hl:xs.length < 4):H a=some (.tup xs):=by
 rcases h with h|⟨_,its,_,_,_,_,_,h4,r⟩
 ·exact h
 ·have:=r.length
  simp only [Array.length_toList] at this
  omega
noncomputable def nW:Value→Option V
 |.none=>some .non
 |.bool b=>some (.bl b)
 |.int i _=>some (.int i)
 |.str x _=>some (.str x)
 |.bytes b _=>some (.fE b)
 |.float b _=>some (.qQ b)
 |.ref a=>some (.ref a)
 |.type n=>some (.ty n)
 |_=>none
theorem RelV.abs {x:V}{u:Value} (r:RelV x u):nW u=some x:=by
 cases x with
 |non=>cases r;rfl
 |bl _=>cases r;rfl
 |int _=>obtain ⟨t,rfl⟩:=r;rfl
 |str _=>obtain ⟨t,rfl⟩:=r;rfl
 |fE _=>obtain ⟨t,rfl⟩:=r;rfl
 |qQ _=>obtain ⟨t,rfl⟩:=r;rfl
 |ref _=>cases r;rfl
 |ty _=>cases r;rfl
theorem RelV.inj {x y:V}{u:Value} (r:RelV x u) (q:RelV y u):x=y:=Option.some.inj (r.abs.symm.trans q.abs)
theorem Vals.inj:∀ {xs ys:List V}{us:List Value},Vals xs us→Vals ys us→xs=ys
 |_,_,_,.nil,.nil=>rfl
 |_,_,_,.cons r t,.cons r' t'=>by rw [r.inj r',Vals.inj t t']
section
variable {X:Cx}{pins:List (Addr×Obj)}{σ:St}{H:Hp}{s:Shared}{a:Addr}{xs ys:List V}
theorem bz.of {K:PySem.W.Frag} (h:H a=some (.tup xs)):bz K H a xs:=.inl h
theorem Inv.list (I:Inv X pins σ H s) (h:bL X.K H a xs):∃ its:List Value,Vals xs its∧PlainL s.heap a its.toArray∧xs.length≤sizeLine:=by
 rcases h with h|⟨o,its,n,hk,hc,hd,hs,hz,r⟩
 ·obtain ⟨z,its,n,r,e⟩:=h.ok I.aD
  exact ⟨its,r,⟨_,n,e,rfl,rfl,rfl⟩,z⟩
 ·refine ⟨its.toList,r,⟨o,n,I.fV a o hk,hc,hd,by simpa using hs⟩,?_⟩
  have e:=r.length
  simp only [Array.length_toList] at e
  omega
theorem Inv.tuple (I:Inv X pins σ H s) (h:bz X.K H a xs):∃ its:List Value,Vals xs its∧IsTup s.heap a its.toArray∧xs.length≤sizeLine:=by
 rcases h with h|⟨o,its,n,hk,hc,hs,hz,_,r⟩
 ·obtain ⟨z,its,r,p⟩:=I.aD _ _ h
  exact ⟨its,r,p,z⟩
 ·refine ⟨its.toList,r,⟨o,I.fV a o hk,hc,n,by simpa using hs⟩,?_⟩
  have e:=r.length
  simp only [Array.length_toList] at e
  omega
theorem Inv.tO (I:Inv X pins σ H s) (h:bL X.K H a xs) (h':bL X.K H a ys):xs=ys:=by
 obtain ⟨its,r,⟨o,n,e,_,_,d⟩,_⟩:=I.list h
 obtain ⟨its',r',⟨o',n',e',_,_,d'⟩,_⟩:=I.list h'
 rw [e] at e';cases e'
 rw [d] at d'
 injection d' with d1 _
 have:its=its':=by simpa using congrArg Array.toList d1
 subst this
 exact r.inj r'
theorem Inv.xx (I:Inv X pins σ H s) (h:bz X.K H a xs) (h':bz X.K H a ys):xs=ys:=by
 obtain ⟨its,r,⟨o,e,_,n,d⟩,_⟩:=I.tuple h
 obtain ⟨its',r',⟨o',e',_,n',d'⟩,_⟩:=I.tuple h'
 rw [e] at e';cases e'
 rw [d] at d'
 injection d' with d1 _
 have:its=its':=by simpa using congrArg Array.toList d1
 subst this
 exact r.inj r'
end
noncomputable abbrev Cx.wish (X:Cx) (E:Value→Shared→Prop):Cx:={ X with xe:=E }
noncomputable abbrev Cx.mv (X:Cx):Cx:=X.wish fun _ _=>False
theorem Cx.Ok.wish {X:Cx} (ok:X.Ok) (E:Value→Shared→Prop):(X.wish E).Ok :=
 ⟨ok.mod,ok.kind,ok.glob,ok.blt,ok.above,ok.inj,ok.has,ok.qS,ok.hd,ok.frames,ok.vx,ok.HX,ok.bs,ok.jU,ok.qz,ok.uY,ok.iy,ok.oz⟩
theorem Cx.Ok.kl {X:Cx}{E:Value→Shared→Prop} (ok:(X.wish E).Ok):X.Ok :=
 ⟨ok.mod,ok.kind,ok.glob,ok.blt,ok.above,ok.inj,ok.has,ok.qS,ok.hd,ok.frames,ok.vx,ok.HX,ok.bs,ok.jU,ok.qz,ok.uY,ok.iy,ok.oz⟩
section
variable {X:Cx}{pins:List (Addr×Obj)}{σ:St}{H:Hp}{s:Shared}{E:Value→Shared→Prop}
theorem Inv.wish (I:Inv X pins σ H s) (E:Value→Shared→Prop):Inv (X.wish E) pins σ H s:=⟨I.ok.wish E,I.os,I.bare,I.base,I.loc,I.cell,I.free,I.gj,I.pin,I.aD,I.len⟩
theorem Inv.kl (I:Inv (X.wish E) pins σ H s):Inv X pins σ H s:=⟨I.ok.kl,I.os,I.bare,I.base,I.loc,I.cell,I.free,I.gj,I.pin,I.aD,I.len⟩
theorem SP.kl {D:Ends}{f:Flow}{s':Shared} (h:SP (X.wish E) pins D f s'):SP X pins D f s':=by
 cases f with
 |next=>obtain ⟨σ',H',I,q⟩:=h;exact ⟨σ',H',I.kl,q⟩
 |brk=>obtain ⟨σ',H',I,q⟩:=h;exact ⟨σ',H',I.kl,q⟩
 |cont=>obtain ⟨σ',H',I,q⟩:=h;exact ⟨σ',H',I.kl,q⟩
 |ret u=>obtain ⟨v,σ',H',I,r,q⟩:=h;exact ⟨v,σ',H',I.kl,r,q⟩
theorem fG.mv {st:List Stmt}{t:TS} (h:fG X.mv st t):fG X st t:=fun pins s σ H D I hw =>
 wpAny_mono (h pins s σ H D (I.wish _) hw) (fun _ _ q=>q.kl) fun _ _ z=>False.elim z
end
section
variable {X:Cx}{st:Stmt}{rest:List Stmt}{t u:TS}{e:Expr}{te:TE}{pos:Pos}
noncomputable def yL:TS:=fun D σ H=>D.nx σ H
noncomputable def y6 (t u:TS):TS:=fun D σ H=>t { D with nx:=u D } σ H
theorem OS:fG X [] yL:=fun _ _ σ H _ I h=>wpAny_execs_nil ⟨σ,H,I,h⟩
theorem M9 (h1:PS X st t) (h2:fG X rest u):fG X (st::rest) (y6 t u):=by
 intro pins s σ H D I h
 refine wpAny_execs_cons (aF (h1 pins s σ H { D with nx:=u D } I h) fun f s1 q=>?_)
 cases f with
 |next =>
  obtain ⟨σ',H',I',q⟩:=q
  exact h2 pins s1 σ' H' D I' q
 |ret v=>exact q
 |brk=>exact q
 |cont=>exact q
theorem OU (h1:PS X st t):fG X [st] t:=by
 intro pins s σ H D I h
 refine wpAny_execs_cons (aF (h1 pins s σ H D I h) fun f s1 q=>?_)
 cases f with
 |next=>exact wpAny_execs_nil q
 |ret v=>exact q
 |brk=>exact q
 |cont=>exact q
noncomputable def yM:TS:=fun D σ H=>D.ct σ H
theorem Lf:PS X (.Continue pos) yM:=fun _ _ σ H _ I h=>wpAny_Continue ⟨σ,H,I,h⟩
theorem Inv.quiet {pins:List (Addr×Obj)}{σ:St}{H:Hp}{s:Shared} (I:Inv X pins σ H s):interactive X.env=false:=by simp [interactive,I.ok.kind]
noncomputable def nL (te:TE):TS:=fun D σ H=>te σ H fun _ H1=>D.nx σ H1
theorem OV (he:PE X e te) (hs:swapsWith e none pos.line X.env=pure false:=by rfl):PS X (.Expr e pos) (nL te):=by
 intro pins s σ H D I h
 exact wpAny_Expr_any (aF (he pins s σ H _ I h) fun v s1 ⟨x,H1,I1,r1,q1⟩=>⟨σ,H1,I1,q1⟩) I.quiet hs
noncomputable def uZ (te:TE):TS:=fun D σ H=>te σ H D.rt
theorem Rk (he:PE X e te):PS X (.Return (some e) pos) (uZ te):=by
 intro pins s σ H D I h
 exact wpAny_Return_some (aF (he pins s σ H _ I h) fun v s1 ⟨x,H1,I1,r1,q1⟩=>⟨x,σ,H1,I1,r1,q1⟩)
noncomputable def y7 (c:TT) (t u:TS):TS:=fun D σ H=>c σ H fun b H1=>if b=true then t D σ H1 else u D σ H1
theorem UA {c:Expr}{a b:List Stmt}{tc:TT} (hc:PT X c tc) (ha:fG X a t) (hb:fG X b u):PS X (.If c a b pos) (y7 tc t u):=by
 intro pins s σ H D I h
 refine wpAny_If (aF (hc pins s σ H _ I h) fun d s1 ⟨H1,I1,q1⟩=>?_)
 cases d with
 |true=>exact ha pins s1 σ H1 D I1 q1
 |false=>exact hb pins s1 σ H1 D I1 q1
end
noncomputable abbrev TG:=V→St→Hp→(St→Hp→Prop)→Prop
noncomputable abbrev gA:=List V→St→Hp→(St→Hp→Prop)→Prop
def PG (X:Cx) (target:Expr) (t:TG):Prop :=
 ∀ (pins:List (Addr×Obj)) (s:Shared) (σ:St) (H:Hp) (v:V) (u:Value) (Q:St→Hp→Prop),Inv X pins σ H s→RelV v u→t v σ H Q →
  wpAny (model X.prog X.w) X.A (assign target X.env u) (fun _ s'=>∃ σ' H',Inv X pins σ' H' s'∧Q σ' H') X.xe s
def oB (X:Cx) (ts:List Expr) (t:gA):Prop :=
 ∀ (pins:List (Addr×Obj)) (s:Shared) (σ:St) (H:Hp) (vs:List V) (us:List Value) (Q:St→Hp→Prop),Inv X pins σ H s→Vals vs us→t vs σ H Q →
  wpAny (model X.prog X.w) X.A (assignInOrder ((assignEach ts X.env).map (·.2)) us) (fun _ s'=>∃ σ' H',Inv X pins σ' H' s'∧Q σ' H') X.xe s
noncomputable abbrev y8:=V→V→V→Hp→(Hp→Prop)→Prop
def GF (X:Cx) (t:y8):Prop :=
 ∀ (pins:List (Addr×Obj)) (s:Shared) (σ:St) (H:Hp) (o i v:V) (ov iv u:Value) (Q:Hp→Prop),Inv X pins σ H s→RelV o ov→RelV i iv→RelV v u→t o i v H Q →
  wpAny (model X.prog X.w) X.A (setItem ov iv u) (fun _ s'=>∃ H',Inv X pins σ H' s'∧Q H') X.xe s
section
variable {X:Cx}{pos:Pos}
noncomputable def iT (i:Nat):TG:=fun v σ H Q=>Q (σ.set i (some v)) H
theorem DL {i:Nat}{x:Str} (hN:X.N.Nodup) (hi:X.N[i]?=some x) (hx:Loc X.env.scope x) (hf:X.fn x=true∨X.env.scope.names.lookup x=some .local:=by first|exact .inl rfl|exact .inr rfl|assumption):PG X (.Name x pos) (iT i):=by
 intro pins s σ H v u Q I r h
 exact wpAny_assign_Name (C0 I hN hi hx r (fun s' I'=>⟨_,H,I',h⟩) hf)
noncomputable def GH:gA:=fun vs σ H Q=>vs=[]∧Q σ H
noncomputable def FQ (t:TG) (u:gA):gA:=fun vs σ H Q=>∃ v r,vs=v::r∧t v σ H fun σ' H'=>u r σ' H' Q
theorem OW:oB X [] GH:=by
 intro pins s σ H vs us Q I r h
 obtain ⟨e,h⟩:=h
 subst e
 cases r
 exact assignInOrder_nil ⟨σ,H,I,h⟩
theorem Nb {e:Expr}{es:List Expr}{t:TG}{u:gA} (h1:PG X e t) (h2:oB X es u)
  (hs:(assignEach (e::es) X.env).map (·.2)=assign e X.env::(assignEach es X.env).map (·.2):=by rfl):oB X (e::es) (FQ t u):=by
 intro pins s σ H vs us Q I r h
 obtain ⟨v,vr,e1,h⟩:=h
 subst e1
 cases r with
 |cons r rr =>
  rw [hs]
  refine assignInOrder_cons (aF (h1 pins s σ H _ _ _ I r h) fun _ s1 ⟨σ1,H1,I1,q1⟩=>?_)
  exact h2 pins s1 σ1 H1 _ _ Q I1 rr q1
noncomputable def GJ (K:PySem.W.Frag) (n:Nat) (t:gA):TG:=fun v σ H Q=>∃ a xs,v=.ref a∧bz K H a xs∧xs.length=n∧t xs σ H Q
theorem Rl {es:List Expr}{k:Nat}{t:gA}{n:Nat} (hc:X.calm=true) (h:oB X es t)
  (hn:(assignEach es X.env).length=n:=by rfl) (oC:(assignEach es X.env).findIdx? (·.1)=none:=by rfl):PG X (.Tuple es k pos) (GJ X.K n t):=by
 intro pins s σ H v u Q I r hw
 obtain ⟨a,xs,e1,hq,hl,hw⟩:=hw
 subst e1
 cases r
 obtain ⟨its,rv,ht,hz⟩:=I.tuple hq
 refine assign_Tuple_tuple (I.ok.hd hc) ht (by simp [hn,←hl,rv.length]) oC fun h' hx=>?_
 have I1:Inv X pins σ H { s with heap:=h' }:=I.kept (t':=s.toks) fun b o e=>hx b o (Nat.ne_of_lt (Heap.lt_size e)) e
 exact h pins _ σ H xs _ Q I1 (by simpa using rv) hw
noncomputable def GK (to ti:TE) (t:y8):TG:=fun v σ H Q=>to σ H fun o H1=>ti σ H1 fun i H2=>t o i v H2 fun H3=>Q σ H3
theorem Rm {o i:Expr}{to ti:TE}{t:y8} (ho:PE X o to) (hi:PE X i ti) (hs:GF X t)
  (ha:∀ v,assign (.Subscript o i pos) X.env v=(do
   let ov ←holding [v] (eval o X.env)
   let iv ←holding [v,ov] (eval i X.env)
   standAt pos
   holding [v,ov,iv] (setItem ov iv v)
   release [v,ov,iv] []):=by intro _;rfl):PG X (.Subscript o i pos) (GK to ti t):=by
 intro pins s σ H v u Q I r h
 rw [ha]
 refine wpAny_bind (wpAny_holding (aF (ho pins s σ H _ I h) fun ov s1 ⟨x,H1,I1,r1,q1⟩=>?_))
 refine wpAny_bind (wpAny_holding (aF (hi pins s1 σ H1 _ I1 q1) fun iv s2 ⟨y,H2,I2,r2,q2⟩=>?_))
 refine wpAny_bind (wpAny_standAt (wpAny_bind (wpAny_holding (aF (hs pins s2 σ H2 x y v ov iv u _ I2 r1 r2 r q2) fun _ s3 ⟨H3,I3,q3⟩=>?_))))
 exact wpAny_release ⟨σ,H3,I3,q3⟩
noncomputable def gQ (te:TE) (g:TG):TS:=fun D σ H=>te σ H fun x H1=>g x σ H1 D.nx
theorem Rn {tg e:Expr}{te:TE}{g:TG} (he:PE X e te) (hg:PG X tg g) (hs:swapsWithSole [tg] e pos.line X.env=pure false:=by rfl) (hw:swappedStores [tg] e X.env=pure none:=by rfl)
  (h1:(assignEach [tg] X.env).map (·.2)=[assign tg X.env]:=by rfl):PS X (.Assign [tg] e pos) (gQ te g):=by
 intro pins s σ H D I h
 refine wpAny_Assign_stores (aF (he pins s σ H _ I h) fun v s1 ⟨x,H1,I1,r1,q1⟩=>?_) hs hw
 rw [h1]
 exact aF (hg pins s1 σ H1 x v _ I1 r1 q1) fun _ s2 q=>q
theorem Ro {i:Nat}{x:Str}{e:Expr}{te:TE}{pos':Pos} (hN:X.N.Nodup) (hi:X.N[i]?=some x) (hx:Loc X.env.scope x) (he:PE X e te) (hs:swapsWith e (some (.Name x pos')) pos.line X.env=pure false:=by rfl) (hf:X.fn x=true∨X.env.scope.names.lookup x=some .local:=by first|exact .inl rfl|exact .inr rfl|assumption) :
  PS X (.Assign [.Name x pos'] e pos) (gQ te (iT i)):=by
 intro pins s σ H D I h
 refine wpAny_Assign_Name (aF (he pins s σ H _ I h) fun v s1 ⟨y,H1,I1,r1,q1⟩=>?_) hs
 exact C0 I1 hN hi hx r1 (fun s2 I2=>⟨_,H1,I2,q1⟩) hf
end
section
variable {X:Cx}{pos:Pos}
noncomputable def yk (c:TT) (tb:TS):TS:=fun D σ H=>∃ W:Nat→St→Hp→Prop,(∃ m,W m σ H)∧∀ m σ H,W m σ H →
 c σ H fun b H1=>if b=true then ∃ N:St→Hp→Prop,(∀ σ' H',N σ' H'→∃ m',m' < m∧W m' σ' H')∧tb { D with nx:=N,ct:=N,bk:=D.nx } σ H1 else D.nx σ H1
theorem Nc {c:Expr}{body:List Stmt}{tc:TT}{tb:TS} (hp:PassesOwn (model X.prog X.w) X.A X.env X.xe) (hc:PT X c tc) (hb:fG X body tb):PS X (.While c body [] pos) (yk tc tb):=by
 intro pins s σ H D I h
 obtain ⟨W,⟨m0,w0⟩,turn⟩:=h
 refine wpAny_While (codeAny_whileLoop (fun n s'=>∃ σ' H',Inv X pins σ' H' s'∧W n σ' H') ?_ m0 ⟨σ,H,I,w0⟩)
 rintro n s1 ⟨σ1,H1,I1,w1⟩
 refine wpAny_passesOwn hp (aF (hc pins s1 σ1 H1 _ I1 (turn n σ1 H1 w1)) fun b s2 ⟨H2,I2,q2⟩=>?_)
 cases b with
 |true =>
  obtain ⟨N,hN,q2⟩:=q2
  rw [if_pos rfl]
  refine wpAny_passesOwn hp (aF (hb pins s2 σ1 H2 _ I2 q2) fun f s3 q3=>?_)
  cases f with
  |next =>
   obtain ⟨σ3,H3,I3,n3⟩:=q3
   obtain ⟨m',hm,w3⟩:=hN σ3 H3 n3
   exact ⟨m',hm,σ3,H3,I3,w3⟩
  |cont =>
   obtain ⟨σ3,H3,I3,n3⟩:=q3
   obtain ⟨m',hm,w3⟩:=hN σ3 H3 n3
   exact ⟨m',hm,σ3,H3,I3,w3⟩
  |brk=>exact q3
  |ret v=>exact q3
 |false =>
  rw [if_neg Bool.false_ne_true]
  exact wpAny_execs_nil ⟨σ1,H2,I2,q2⟩
end
structure It where
 go:Nat→Hp→Prop
 iF:Nat→Hp→V→Hp→Prop
 stop:Nat→Hp→Prop
def iZ (X:Cx) (pins:List (Addr×Obj)) (H:Hp) (b:Addr):Prop :=
 H b=none∧b≠X.env.locals∧b∉X.fs∧(b∈X.ex∨X.s₀.heap.objs.size≤b)∧(∀ x c,X.env.cells.lookup x=some c→c≠b)∧∀ p∈X.pn++pins,p.1≠b
theorem Inv.nX {X:Cx}{pins:List (Addr×Obj)}{σ:St}{H H':Hp}{s:Shared}{b:Addr} (I:Inv X pins σ H s) (hb:s.heap.objs.size≤b) (hn:H' b=none):iZ X pins H' b:=by
 refine ⟨hn,Nat.ne_of_gt (Nat.lt_of_lt_of_le I.lt hb),I.Ws hb,.inr (Nat.le_trans I.sz hb),fun x c e z=>?_,fun p hp z=>?_⟩
 ·obtain ⟨v,q⟩:=I.cell x c e
  exact absurd (Nat.lt_of_lt_of_le q.lt (by rw [z];exact hb)) (Nat.lt_irrefl _)
 ·exact absurd (Nat.lt_of_lt_of_le (Heap.lt_size (I.pin p hp).1) (by rw [z];exact hb)) (Nat.lt_irrefl _)
structure Turn (P:Program) (w:World) (K:PySem.W.Frag) (tg:Expr) (J:It) (fp:List Addr) (it:Addr) (tn:Nat→Heap→Prop):Prop where
 mem:it∈fp
 obj:∀ i h,tn i h→∀ b∈fp,∃ o,h.get? b=some o∧∀ v,o.data≠.cell v
 keep:∀ i h h',tn i h→(∀ b∈fp,∀ o,h.get? b=some o→h'.get? b=some o)→tn i h'
 item:∀ (X:Cx),X.prog=P→X.w=w→X.K=K→X.calm=true→∀ (i:Nat) (pins:List (Addr×Obj)) (s:Shared) (σ:St) (H:Hp) (E:Value→Shared→Prop),Inv X pins σ H s→(∀ b∈fp,iZ X pins H b)→tn i s.heap→J.go i H →
  wpAny (model P w) X.A (pyNext (.ref it)) (fun r s1=>∃ u,r=some u ∧
   wpAny (model P w) X.A (letOwnedTupleGo tg (.ref it) u) (fun _ s2=>∃ x H',Inv X pins σ H' s2∧RelV x u∧J.iF i H x H'∧tn (i+1) s2.heap∧∀ b∈fp,H' b=none) E s1) E s
 done:∀ (X:Cx),X.prog=P→X.w=w→X.K=K→X.calm=true→∀ (i:Nat) (pins:List (Addr×Obj)) (s:Shared) (σ:St) (H:Hp) (E:Value→Shared→Prop),Inv X pins σ H s→(∀ b∈fp,iZ X pins H b)→tn i s.heap→J.stop i H →
  wpAny (model P w) X.A (pyNext (.ref it)) (fun r s1=>r=none∧Inv X pins σ H s1) E s
 self:∀ (A:Around) (i:Nat) (s:Shared) (Q:Value→Shared→Prop) (E:Value→Shared→Prop),tn i s.heap→Q (.ref it) s→wpAny (model P w) A (pyIter (.ref it)) Q E s
noncomputable abbrev TI:=St→Hp→(It→Hp→Prop)→Prop
def Ib (X:Cx) (pins:List (Addr×Obj)) (σ:St) (tg:Expr) (R:It→Hp→Prop) (vA:Value) (s2:Shared):Prop :=
 ∃ (it:Addr) (fp:List Addr) (tn:Nat→Heap→Prop) (J:It) (H':Hp),vA=.ref it∧Inv X pins σ H' s2∧Turn X.prog X.w X.K tg J fp it tn∧tn 0 s2.heap∧(∀ b∈fp,iZ X pins H' b)∧R J H'
def PI (X:Cx) (tg iter:Expr) (wi:TI):Prop :=
 ∀ (pins:List (Addr×Obj)) (s:Shared) (σ:St) (H:Hp) (R:It→Hp→Prop),Inv X pins σ H s→wi σ H R →
  wpAny (model X.prog X.w) X.A (eval iter X.env) (fun v s1=>wpAny (model X.prog X.w) X.A (pyIter v) (Ib X pins σ tg R) X.xe s1) X.xe s
theorem qm {M:Model}{A:Around}{E:Value→Shared→Prop}{s:Shared}{tg:Expr}{it:Addr}{u:Value}{o:Obj}{n:String}{vs:Array Value}{Q:Unit→Shared→Prop} (ho:s.heap.get? it=some o) (hc:o.cls=.type n) (hd:o.data=.fields vs)
    (hn:["enumerate", "zip", "dict_itemiterator", "dict_reverseitemiterator", "odict_iterator", "itertools.zip_longest", "itertools.pairwise"].contains n=false) (hQ:Q () s):wpAny M A (letOwnedTupleGo tg (.ref it) u) Q E s:=by
  unfold letOwnedTupleGo
  cases tg<;>first
    |exact wpAny_pure hQ
    | (cases u<;>first
        |exact wpAny_pure hQ
        | (refine wpAny_bind (wpAny_load ho ?_)
           rw [hc,hd]
           show wpAny M A (if (["enumerate", "zip", "dict_itemiterator", "dict_reverseitemiterator", "odict_iterator", "itertools.zip_longest", "itertools.pairwise"].contains n&&vs[0]?==some (rawInt _))=true then _ else _) Q E s
           rw [if_neg (by intro h;rw [hn,Bool.false_and] at h;cases h)]
           exact wpAny_pure hQ))
noncomputable def zW (K:PySem.W.Frag) (a:Addr):It :=
 ⟨fun i H=>∃ xs x,bL K H a xs∧xs[i]?=some x,fun i H x H'=>H'=H∧∀ xs,bL K H a xs→xs[i]?=some x,fun i H=>∃ xs,bL K H a xs∧xs.length≤i⟩
noncomputable def zX (K:PySem.W.Frag) (a:Addr):It :=
 ⟨fun i H=>∃ xs x,bz K H a xs∧xs[i]?=some x,fun i H x H'=>H'=H∧∀ xs,bz K H a xs→xs[i]?=some x,fun i H=>∃ xs,bz K H a xs∧xs.length≤i⟩
noncomputable def qV (lo:Int) (n:Nat):It:=⟨fun i _=>i < n,fun i H x H'=>H'=H∧x=.int (lo+i),fun i _=>n≤i⟩
theorem Mb {P:Program}{w:World}{K:PySem.W.Frag}{tg:Expr} (a it:Addr):Turn P w K tg (zW K a) [it] it (fun i h=>h.IsListIter it a i) where
 mem:=by simp
 obj:=fun i h st b hb=>by
  have e:b=it:=by simpa using hb
  subst e
  obtain ⟨o,e,c,d⟩:=st
  exact ⟨o,e,fun v z=>by rw [d] at z;cases z⟩
 keep:=fun i h h' st k=>st.at fun o e=>k it (by simp) o e
 item:=by
  intro X hP hw hK hc i pins s σ H E I hf st hg
  subst hP hw hK
  obtain ⟨xs,x,hq,hx⟩:=hg
  obtain ⟨its,rv,p,hz⟩:=I.list hq
  obtain ⟨u,hu,ru⟩:=rv.get hx
  obtain ⟨f0,f1,f2,f3,f4,f5⟩:=hf it (by simp)
  refine wpAny_pyNext_list_item st p.isList (x:=u) (by simpa using hu) fun h' fW sb=>?_
  have I1:Inv X pins σ H { s with heap:=h' }:=I.turned (t':=s.toks) (fun b o hb e=>(sb.2 b hb).trans e) f0 f1 f3 f4 f5
  obtain ⟨o,e,c,d⟩:=id fW
  exact ⟨u,rfl,qm (s:={ s with heap:=h' }) e c d (by decide) ⟨x,H,I1,ru,⟨rfl,fun ys hy=>by rw [I.tO hy hq];exact hx⟩,fW,fun b hb=>(hf b hb).1⟩⟩
 done:=by
  intro X hP hw hK hc i pins s σ H E I hf st hg
  subst hP hw hK
  obtain ⟨xs,hq,hx⟩:=hg
  obtain ⟨its,rv,p,hz⟩:=I.list hq
  obtain ⟨f0,f1,f2,f3,f4,f5⟩:=hf it (by simp)
  have hl:=rv.length
  exact wpAny_pyNext_list_end (I.ok.hd hc) st p.isList (by simp;omega) fun h' eb=>⟨rfl,I.turned (t':=s.toks) (fun b o hb e=>eb b o hb e) f0 f1 f3 f4 f5⟩
 self:=fun _ _ _ _ _ st h=>wpAny_pyIter_listiter st h
theorem Lx {P:Program}{w:World}{K:PySem.W.Frag}{tg:Expr} (a it:Addr):Turn P w K tg (zX K a) [it] it (fun i h=>h.IsTupleIter it a i) where
 mem:=by simp
 obj:=fun i h st b hb=>by
  have e:b=it:=by simpa using hb
  subst e
  obtain ⟨o,e,c,d⟩:=st
  exact ⟨o,e,fun v z=>by rw [d] at z;cases z⟩
 keep:=fun i h h' st k=>st.at fun o e=>k it (by simp) o e
 item:=by
  intro X hP hw hK hc i pins s σ H E I hf st hg
  subst hP hw hK
  obtain ⟨xs,x,hq,hx⟩:=hg
  obtain ⟨its,rv,p,hz⟩:=I.tuple hq
  obtain ⟨u,hu,ru⟩:=rv.get hx
  obtain ⟨f0,f1,f2,f3,f4,f5⟩:=hf it (by simp)
  refine wpAny_pyNext_tuple_item st (show s.heap.IsTuple a its.toArray from p) (x:=u) (by simpa using hu) fun h' fW sb=>?_
  have I1:Inv X pins σ H { s with heap:=h' }:=I.turned (t':=s.toks) (fun b o hb e=>(sb.2 b hb).trans e) f0 f1 f3 f4 f5
  obtain ⟨o,e,c,d⟩:=id fW
  exact ⟨u,rfl,qm (s:={ s with heap:=h' }) e c d (by decide) ⟨x,H,I1,ru,⟨rfl,fun ys hy=>by rw [I.xx hy hq];exact hx⟩,fW,fun b hb=>(hf b hb).1⟩⟩
 done:=by
  intro X hP hw hK hc i pins s σ H E I hf st hg
  subst hP hw hK
  obtain ⟨xs,hq,hx⟩:=hg
  obtain ⟨its,rv,p,hz⟩:=I.tuple hq
  obtain ⟨f0,f1,f2,f3,f4,f5⟩:=hf it (by simp)
  have hl:=rv.length
  exact wpAny_pyNext_tuple_end (I.ok.hd hc) st (show s.heap.IsTuple a its.toArray from p) (by simp;omega) fun h' eb=>⟨rfl,I.turned (t':=s.toks) (fun b o hb e=>eb b o hb e) f0 f1 f3 f4 f5⟩
 self:=fun _ _ _ _ _ st h=>wpAny_pyIter_tupleiter st h
theorem Ly {P:Program}{w:World}{K:PySem.W.Frag}{tg:Expr} (it:Addr) (lo:Int) (n:Nat):Turn P w K tg (qV lo n) [it] it (fun i h=>IsRangeIter h it (lo+(i:Nat)*1) ((n:Int)-(i:Nat)) 1) where
 mem:=by simp
 obj:=fun i h st b hb=>by
  have e:b=it:=by simpa using hb
  subst e
  exact ⟨_,st,fun v z=>by
   have z':Data.fields _=Data.cell v:=z
   cases z'⟩
 keep:=fun i h h' st k=>k it (by simp) _ st
 item:=by
  intro X hP hw hK hc i pins s σ H E I hf st hg
  subst hP hw hK
  obtain ⟨f0,f1,f2,f3,f4,f5⟩:=hf it (by simp)
  have W:=Walks.range (prog:=X.prog) (w:=X.w) (I.ok.hd hc) it lo 1 n
  refine W.item i s _ _ hg st fun v h' tk hv fW kk=>?_
  obtain ⟨t,rfl⟩:=hv
  have I1:Inv X pins σ H { s with heap:=h',toks:=tk }:=I.turned (fun b o hb e=>kk b o (by simpa using hb) e) f0 f1 f3 f4 f5
  refine ⟨_,rfl,qm (s:={ s with heap:=h',toks:=tk }) (n := "range_iterator") fW rfl rfl (by decide) ⟨.int (lo+i),H,I1,⟨t,?_⟩,⟨rfl,rfl⟩,fW,fun b hb=>(hf b hb).1⟩⟩
  rw [Int.mul_one]
 done:=by
  intro X hP hw hK hc i pins s σ H E I hf st hg
  subst hP hw hK
  obtain ⟨f0,f1,f2,f3,f4,f5⟩:=hf it (by simp)
  exact wpAny_pyNext_range_end (I.ok.hd hc) st (by have:n≤i:=hg;omega) fun h' eb=>⟨rfl,I.turned (t':=s.toks) (fun b o hb e=>eb b o hb e) f0 f1 f3 f4 f5⟩
 self:=fun _ _ _ _ _ st h=>wpAny_pyIter_rangeiter st h
section
variable {X:Cx}{tg:Expr}
noncomputable def yN (K:PySem.W.Frag) (tl:TE):TI:=fun σ H R=>tl σ H fun x H1=>∃ a,x=.ref a∧(∃ xs,bL K H1 a xs)∧R (zW K a) H1
noncomputable def y9 (K:PySem.W.Frag) (tl:TE):TI:=fun σ H R=>tl σ H fun x H1=>∃ a,x=.ref a∧(∃ xs,bz K H1 a xs)∧R (zX K a) H1
theorem OX {l:Expr}{tl:TE} (hl:PE X l tl):PI X tg l (yN X.K tl):=by
 intro pins s σ H R I h
 refine aF (hl pins s σ H _ I h) fun v s1 ⟨x,H1,I1,r1,q1⟩=>?_
 obtain ⟨a,e,⟨xs,hq⟩,q⟩:=q1
 subst e
 cases r1
 obtain ⟨its,rv,p,hz⟩:=I1.list hq
 refine wpAny_pyIter_list p.isList ?_
 refine ⟨s1.heap.objs.size,[s1.heap.objs.size],_,_,H1,rfl,I1.kept (t':=s1.toks) fun b o e=>Heap.get?_push_of_some _ e,Mb a _,⟨_,Heap.get?_push_size _ rfl,rfl,rfl⟩,fun b hb=>?_,q⟩
 have e:b=s1.heap.objs.size:=by simpa using hb
 subst e
 exact I1.nX (Nat.le_refl _) (I1.aD.fresh (Nat.le_refl _))
theorem Rq {l:Expr}{tl:TE} (hl:PE X l tl):PI X tg l (y9 X.K tl):=by
 intro pins s σ H R I h
 refine aF (hl pins s σ H _ I h) fun v s1 ⟨x,H1,I1,r1,q1⟩=>?_
 obtain ⟨a,e,⟨xs,hq⟩,q⟩:=q1
 subst e
 cases r1
 obtain ⟨its,rv,p,hz⟩:=I1.tuple hq
 refine wpAny_pyIter_tuple (show s1.heap.IsTuple a its.toArray from p) ?_
 refine ⟨s1.heap.objs.size,[s1.heap.objs.size],_,_,H1,rfl,I1.kept (t':=s1.toks) fun b o e=>Heap.get?_push_of_some _ e,Lx a _,⟨_,Heap.get?_push_size _ rfl,rfl,rfl⟩,fun b hb=>?_,q⟩
 have e:b=s1.heap.objs.size:=by simpa using hb
 subst e
 exact I1.nX (Nat.le_refl _) (I1.aD.fresh (Nat.le_refl _))
theorem C1 {pins:List (Addr×Obj)}{σ:St}{H:Hp}{s:Shared}{R:It→Hp→Prop}{E:Value→Shared→Prop}{lo hi:Int}{t u v:Tok}{tk:Nat} (I:Inv X pins σ H s) (h1:-(2 ^ 62)≤lo) (h2:lo < 2 ^ 62) (h3:-(2 ^ 62)≤hi) (h4:hi < 2 ^ 62)
  (q:R (qV lo (hi-lo).toNat) H):wpAny (model X.prog X.w) X.A (pyIter (.ref s.heap.objs.size)) (Ib X pins σ tg R) E { s with heap:=s.heap.push { cls:=.type "range",data:=.fields #[.int lo t,.int hi u,.int 1 v] },toks:=tk }:=by
 refine wpAny_pyIter_range (IsRange.new ..) (small_one h1 h2 h3 h4) ?_
 have I1:Inv X pins σ H { s with heap:=s.heap.push { cls:=.type "range",data:=.fields #[.int lo t,.int hi u,.int 1 v] },toks:=tk }:=I.kept fun b o e=>Heap.get?_push_of_some _ e
 refine ⟨(s.heap.push { cls:=.type "range",data:=.fields #[.int lo t,.int hi u,.int 1 v] }).objs.size,[(s.heap.push { cls:=.type "range",data:=.fields #[.int lo t,.int hi u,.int 1 v] }).objs.size],_,_,H,rfl,
  I1.kept (t':=tk) fun b o e=>Heap.get?_push_of_some _ e,Ly _ lo (hi-lo).toNat,?_,fun b hb=>?_,q⟩
 ·have e1:lo+((0:Nat):Int)*1=lo:=by simp
  have e2:(((hi-lo).toNat:Nat):Int)-((0:Nat):Int)=Builtin.Range.rangeSize lo hi 1:=by rw [rangeSize_one];split<;>omega
  show IsRangeIter _ _ (lo+((0:Nat):Int)*1) ((((hi-lo).toNat:Nat):Int)-((0:Nat):Int)) 1
  rw [e1,e2]
  exact Heap.get?_push_size _ rfl
 ·have e:b=(s.heap.push { cls:=.type "range",data:=.fields #[.int lo t,.int hi u,.int 1 v] }).objs.size:=by simpa using hb
  subst e
  exact I1.nX (Nat.le_refl _) (I1.aD.fresh (Nat.le_refl _))
noncomputable def FU (ta:TA):TI:=fun σ H R=>ta σ H fun vs H1=>∃ j:Int,vs=[.int j]∧-(2 ^ 62)≤j∧j < 2 ^ 62∧R (qV 0 j.toNat) H1
noncomputable def FV (ta:TA):TI:=fun σ H R=>ta σ H fun vs H1=>∃ i j:Int,vs=[.int i,.int j]∧(-(2 ^ 62)≤i∧i < 2 ^ 62∧-(2 ^ 62)≤j∧j < 2 ^ 62)∧R (qV i (j-i).toNat) H1
theorem Md {a:Expr}{ta:TA}{p pos:Pos} (hg:Gl X "range") (hm:X.mg "range" = none) (ha:PA X [a] ta) (hs:starEach [a] X.env=[(false,eval a X.env)]:=by rfl):PI X tg (.Call (.Name "range" p) [a] [] pos) (FU ta):=by
 intro pins s σ H R I h
 refine Call_ (kj I hg hm boot_range (PyProof.Rows.callWith_type1 (aF (ha pos pins s σ H _ I h) fun us s1 ⟨vs,H1,I1,r1,q1⟩=>?_) hs rfl))
 obtain ⟨j,e,q1,q2,q⟩:=q1
 subst e
 cases r1 with
 |cons r rr =>
  cases rr
  obtain ⟨t,rfl⟩:=r
  exact call_range_1 (C1 I1 (by omega) (by omega) q1 q2 (by simpa using q))
theorem Mf {a b:Expr}{ta:TA}{p pos:Pos} (hg:Gl X "range") (hm:X.mg "range" = none) (ha:PA X [a,b] ta) (hs:starEach [a,b] X.env=[(false,eval a X.env),(false,eval b X.env)]:=by rfl) (Ic:starEach [b] X.env=[(false,eval b X.env)]:=by rfl) :
  PI X tg (.Call (.Name "range" p) [a,b] [] pos) (FV ta):=by
 intro pins s σ H R I h
 refine Call_ (kj I hg hm boot_range (PyProof.Rows.callWith_type1 (aF (ha pos pins s σ H _ I h) fun us s1 ⟨vs,H1,I1,r1,q1⟩=>?_) (by rw [hs,Ic]) (by rw [Ic];rfl)))
 obtain ⟨i,j,e,⟨q1,q2,q3,q4⟩,q⟩:=q1
 subst e
 cases r1 with
 |cons r rr =>
  cases rr with
  |cons r' rr =>
   cases rr
   obtain ⟨t,rfl⟩:=r
   obtain ⟨t',rfl⟩:=r'
   exact call_range_2 (C1 I1 q1 q2 q3 q4 q)
noncomputable def nY (wi:TI) (g:TG) (tb:TS):TS:=fun D σ H=>wi σ H fun J H1=>∃ W:Nat→Nat→St→Hp→Prop,(∃ m,W 0 m σ H1)∧∀ i m σ H,W i m σ H →
 (J.stop i H∧D.nx σ H)∨(J.go i H∧∃ N:St→Hp→Prop,(∀ σ' H',N σ' H'→∃ m',m' < m∧W (i+1) m' σ' H')∧∀ x H',J.iF i H x H'→g x σ H' fun σ2 H2=>tb { D with nx:=N,ct:=N,bk:=D.nx } σ2 H2)
noncomputable def qb (fp:List Addr) (h:Heap):List (Addr×Obj):=fp.filterMap fun b=>(h.get? b).map fun o=>(b,o)
theorem tJ {fp:List Addr}{h:Heap}{b:Addr}{o:Obj} (hb:b∈fp) (e:h.get? b=some o):(b,o)∈qb fp h:=List.mem_filterMap.mpr ⟨b,hb,by rw [e];rfl⟩
theorem Mg {fp:List Addr}{h:Heap}{p:Addr×Obj} (hp:p∈qb fp h):p.1∈fp∧h.get? p.1=some p.2:=by
 obtain ⟨b,hb,e⟩:=List.mem_filterMap.mp hp
 cases q:h.get? b with
 |none=>rw [q] at e;cases e
 |some o =>
  rw [q] at e
  have e':(b,o)=p:=Option.some.inj e
  subst e'
  exact ⟨hb,q⟩
theorem Inv.pinned {pins:List (Addr×Obj)}{σ:St}{H:Hp}{s:Shared}{fp:List Addr} (I:Inv X pins σ H s) (hf:∀ b∈fp,iZ X pins H b) (ho:∀ b∈fp,∃ o,s.heap.get? b=some o∧∀ v,o.data≠.cell v):Inv X (pins++qb fp s.heap) σ H s :=
 I.DK fun p hp=>(List.mem_append.mp hp).elim (fun z=>I.pin p (List.mem_append_right _ z)) fun z=>by
  obtain ⟨hb,e⟩:=Mg z
  obtain ⟨f0,f1,f2,_⟩:=hf p.1 hb
  obtain ⟨o,e',d⟩:=ho p.1 hb
  rw [e] at e';cases e'
  exact ⟨e,f0,f1,f2,d⟩
theorem Inv.tP {pins pl:List (Addr×Obj)}{σ:St}{H:Hp}{s:Shared} (I:Inv X (pins++pl) σ H s):Inv X pins σ H s:=I.DK fun p hp=>I.pin p (List.mem_append_right _ (List.mem_append_left _ hp))
theorem Rr {iter:Expr}{body:List Stmt}{wi:TI}{g:TG}{tb:TS}{pos:Pos} (hp:PassesOwn (model X.prog X.w) X.A X.env X.xe) (hc:X.calm=true) (hi:PI X tg iter wi) (hg:PG X tg g) (hb:fG X body tb)
  (hs:∀ x,foldedSetIterable iter X.env x=pure x:=by intro _;rfl):PS X (.For tg iter body [] pos) (nY wi g tb):=by
 intro pins s σ H D I h
 refine wpAny_For (aF (hi pins s σ H _ I h) fun v s1 h1=>aF h1 fun vA s2 h2=>?_) hs
 obtain ⟨it,fp,tn,J,H2,e,I2,T,bj,f2,W,⟨m0,w0⟩,turn⟩:=h2
 subst e
 have stat:∀ {H':Hp},(∀ b∈fp,H' b=none)→∀ b∈fp,iZ X pins H' b:=fun hn b hb=>⟨hn b hb,(f2 b hb).2⟩
 refine codeAny_forLoop_any (fun n s'=>∃ i σ' H',Inv X pins σ' H' s'∧tn i s'.heap∧(∀ b∈fp,H' b=none)∧W i n σ' H') ?_ m0 ⟨0,σ,H2,I2,bj,fun b hb=>(f2 b hb).1,w0⟩
 rintro n s3 ⟨i,σ3,H3,I3,bt,qW,w3⟩
 rcases turn i n σ3 H3 w3 with ⟨stop,qn⟩|⟨go,N,hN,step⟩
 ·refine wpAny_passesOwn hp (aF (T.done X rfl rfl rfl hc i pins s3 σ3 H3 X.xe I3 (stat qW) bt stop) fun r s4 ⟨hr,I4⟩=>?_)
  subst hr
  exact wpAny_execs_nil ⟨σ3,H3,I4,qn⟩
 ·refine wpAny_passesOwn hp (aF (T.item X rfl rfl rfl hc i pins s3 σ3 H3 X.xe I3 (stat qW) bt go) fun r s4 ⟨u,hr,h4⟩=>?_)
  subst hr
  refine wpAny_passesOwn hp (aF h4 fun _ s5 ⟨x,H5,I5,r5,y5,dN,zY⟩=>?_)
  have zZ:=I5.pinned (stat zY) (T.obj _ _ dN)
  refine wpAny_passesOwn hp (aF (hg _ s5 σ3 H5 x u _ zZ r5 (step x H5 y5)) fun _ s6 ⟨σ6,H6,I6,q6⟩=>?_)
  refine wpAny_passesOwn hp (aF (hb _ s6 σ6 H6 _ I6 q6) fun f s7 q7=>?_)
  have again:∀ {σ7:St}{H7:Hp},Inv X (pins++qb fp s5.heap) σ7 H7 s7→N σ7 H7→∃ m,m < n∧∃ i σ' H',Inv X pins σ' H' s7∧tn i s7.heap∧(∀ b∈fp,H' b=none)∧W i m σ' H':=fun {σ7 H7} I7 n7=>by
   obtain ⟨m',hm,w7⟩:=hN σ7 H7 n7
   refine ⟨m',hm,i+1,σ7,H7,I7.tP,T.keep _ _ _ dN fun b hb o e=>(I7.pin (b,o) (List.mem_append_right _ (List.mem_append_right _ (tJ hb e)))).1,fun b hb=>?_,w7⟩
   obtain ⟨o,e,d⟩:=T.obj _ _ dN b hb
   exact (I7.pin (b,o) (List.mem_append_right _ (List.mem_append_right _ (tJ hb e)))).2.1
  cases f with
  |next=>obtain ⟨σ7,H7,I7,n7⟩:=q7;exact again I7 n7
  |cont=>obtain ⟨σ7,H7,I7,n7⟩:=q7;exact again I7 n7
  |brk=>obtain ⟨σ7,H7,I7,q7⟩:=q7;exact ⟨σ7,H7,I7.tP,q7⟩
  |ret v=>obtain ⟨x7,σ7,H7,I7,r7,q7⟩:=q7;exact ⟨x7,σ7,H7,I7.tP,r7,q7⟩
end
noncomputable abbrev R2:=V→V→Hp→VK→Prop
def bu (X:Cx) (f:Value→Value→Sem Value) (r:R2):Prop :=
 ∀ (pins:List (Addr×Obj)) (s:Shared) (σ:St) (H:Hp) (x y:V) (v u:Value) (Q:VK),Inv X pins σ H s→RelV x v→RelV y u→r x y H Q →
  wpAny (model X.prog X.w) X.A (f v u) (EP X pins σ Q) X.xe s
def qX (X:Cx) (f:Value→Sem Value) (r:V→Hp→VK→Prop):Prop :=
 ∀ (pins:List (Addr×Obj)) (s:Shared) (σ:St) (H:Hp) (x:V) (v:Value) (Q:VK),Inv X pins σ H s→RelV x v→r x H Q →
  wpAny (model X.prog X.w) X.A (f v) (EP X pins σ Q) X.xe s
def gJ (X:Cx) (f:Value) (r:List V→Hp→VK→Prop):Prop :=
 ∀ (pins:List (Addr×Obj)) (s:Shared) (σ:St) (H:Hp) (xs:List V) (us:List Value) (Q:VK),Inv X pins σ H s→Vals xs us→r xs H Q →
  wpAny (model X.prog X.w) X.A (call f us) (EP X pins σ Q) X.xe s
def Wv (X:Cx) (r:V→Hp→(Bool→Hp→Prop)→Prop):Prop :=
 ∀ (pins:List (Addr×Obj)) (s:Shared) (σ:St) (H:Hp) (x:V) (v:Value) (Q:Bool→Hp→Prop),Inv X pins σ H s→RelV x v→r x H Q →
  wpAny (model X.prog X.w) X.A (truthy v) (TP X pins σ Q) X.xe s
noncomputable def oD (r:R2) (ta tb:TE):TE:=fun σ H Q=>ta σ H fun x H1=>tb σ H1 fun y H2=>r x y H2 Q
noncomputable def Ie (r:V→Hp→VK→Prop) (ta:TE):TE:=fun σ H Q=>ta σ H fun x H1=>r x H1 Q
noncomputable def rI (C:Int→Int→Prop) (g:Int→Int→V):R2:=fun x y H Q=>∃ i j,x=.int i∧y=.int j∧C i j∧Q (g i j) H
noncomputable def dO (g:Int→Int→V):R2:=fun x y H Q=>∃ i j,x=.int i∧y=.int j∧Q (g i j) H
def rU (g:Int→V):V→Hp→VK→Prop:=fun x H Q=>∃ i,x=.int i∧Q (g i) H
section
variable {X:Cx}{a b c:Expr}{ta tb tc:TE}{pos:Pos}
theorem za (ha:PE X a ta) (hb:PE X b tb) {pins:List (Addr×Obj)}{s:Shared}{σ:St}{H:Hp}{R:V→V→Hp→Prop} (I:Inv X pins σ H s)
  (h:ta σ H fun x H1=>tb σ H1 fun y H2=>R x y H2) {Q:Value→Shared→Prop}{f:Value→Value→Sem Value}
  (hf:∀ v u s2 x y H2,Inv X pins σ H2 s2→RelV x v→RelV y u→R x y H2→wpAny (model X.prog X.w) X.A (f v u) Q X.xe s2) :
  wpAny (model X.prog X.w) X.A (eval a X.env) (fun v s₁=>wpAny (model X.prog X.w) X.A (eval b X.env) (fun u s₂=>wpAny (model X.prog X.w) X.A (f v u) Q X.xe s₂) X.xe s₁) X.xe s:=by
 refine aF (ha pins s σ H _ I h) fun v s1 ⟨x,H1,I1,r1,q1⟩=>?_
 refine aF (hb pins s1 σ H1 _ I1 q1) fun u s2 ⟨y,H2,I2,r2,q2⟩=>?_
 exact hf v u s2 x y H2 I2 r1 r2 q2
theorem UB {op:Operator}{r:R2} (ho:bu X (binaryOp op) r) (ha:PE X a ta) (hb:PE X b tb):PE X (.BinOp a op b pos) (oD r ta tb):=by
 intro pins s σ H Q I h
 exact wpAny_BinOp (za ha hb I h fun v u s2 x y H2 I2 rx ry q=>ho pins s2 σ H2 x y v u Q I2 rx ry q)
theorem UC {op:UnaryOp}{r:V→Hp→VK→Prop} (ho:qX X (unaryOp op) r) (ha:PE X a ta):PE X (.UnaryOp op a pos) (Ie r ta):=by
 intro pins s σ H Q I h
 exact UnaryOp_ (aF (ha pins s σ H _ I h) fun v s1 ⟨x,H1,I1,r1,q1⟩=>ho pins s1 σ H1 x v Q I1 r1 q1)
theorem qY {f:Value→Value→Sem Value}{C:Int→Int→Prop}{g:Int→Int→Int}
  (rule:∀ (i j:Int) (t u:Tok) (s:Shared) (Q:Value→Shared→Prop) (E:Value→Shared→Prop),C i j→Q (.int (g i j) s.toks) { s with toks:=s.toks+1 }→wpAny (model X.prog X.w) X.A (f (.int i t) (.int j u)) Q E s) :
  bu X f (rI C fun i j=>.int (g i j)):=by
 intro pins s σ H x y v u Q I rx ry h
 obtain ⟨i,j,rfl,rfl,hc,q⟩:=h
 obtain ⟨t,rfl⟩:=rx
 obtain ⟨t',rfl⟩:=ry
 exact rule i j t t' s _ _ hc ⟨.int (g i j),H,I.tok _,⟨_,rfl⟩,q⟩
theorem u5 {f:Value→Value→Sem Value}{g:Int→Int→Int}
  (rule:∀ (i j:Int) (t u:Tok) (s:Shared) (Q:Value→Shared→Prop) (E:Value→Shared→Prop),Q (.int (g i j) s.toks) { s with toks:=s.toks+1 }→wpAny (model X.prog X.w) X.A (f (.int i t) (.int j u)) Q E s) :
  bu X f (dO fun i j=>.int (g i j)):=by
 intro pins s σ H x y v u Q I rx ry h
 obtain ⟨i,j,rfl,rfl,q⟩:=h
 obtain ⟨t,rfl⟩:=rx
 obtain ⟨t',rfl⟩:=ry
 exact rule i j t t' s _ _ ⟨.int (g i j),H,I.tok _,⟨_,rfl⟩,q⟩
theorem zb {f:Value→Value→Sem Value}{g:Int→Int→Bool}
  (rule:∀ (i j:Int) (t u:Tok) (s:Shared) (Q:Value→Shared→Prop) (E:Value→Shared→Prop),Q (.bool (g i j)) s→wpAny (model X.prog X.w) X.A (f (.int i t) (.int j u)) Q E s) :
  bu X f (dO fun i j=>.bl (g i j)):=by
 intro pins s σ H x y v u Q I rx ry h
 obtain ⟨i,j,rfl,rfl,q⟩:=h
 obtain ⟨t,rfl⟩:=rx
 obtain ⟨t',rfl⟩:=ry
 exact rule i j t t' s _ _ ⟨.bl (g i j),H,I,rfl,q⟩
def u6 (i j:Int):Prop:=0≤j∧j≤1000000∧i.natAbs < 2 ^ 64
def qA (i j:Int):Prop:=(-(2 ^ 64) < i∧i < 2 ^ 64)∨(-(2 ^ 64) < j∧j < 2 ^ 64)
theorem qA.ok {i j:Int} (h:qA i j):IntMulOk i j:=by
 rcases h with ⟨h1,h2⟩|⟨h1,h2⟩
 ·exact .of_left (intBits_le_64 h1 h2)
 ·exact .of_right (intBits_le_64 h1 h2)
theorem Ru:bu X (binaryOp .Add) (dO fun i j=>.int (i+j)):=u5 fun _ _ _ _ _ _ _ q=>add_int q
theorem Rv:bu X (binaryOp .Sub) (dO fun i j=>.int (i-j)):=u5 fun _ _ _ _ _ _ _ q=>sub_int q
theorem Rx:bu X (binaryOp .Mult) (rI qA fun i j=>.int (i*j)):=qY fun _ _ _ _ _ _ _ hc q=>mul_int q hc.ok
theorem Ry:bu X (binaryOp .Mod) (rI (fun _ j=>0 < j) fun i j=>.int (i%j)):=qY fun i j _ _ _ _ _ hc q=>by
 have h1:(0:Int) < j:=hc
 exact mod_int' (by omega) (by rw [Int.fmod_eq_emod_of_nonneg i (by omega)];exact q)
theorem Rz:bu X (binaryOp .Pow) (rI u6 fun i j=>.int (i ^ j.toNat)):=qY fun _ _ _ _ _ _ _ hc q=>pow_int_small hc.1 hc.2.1 hc.2.2 q
theorem RA:bu X (binaryOp .LShift) (rI u6 fun i j=>.int (i*2 ^ j.toNat)):=qY fun _ _ _ _ _ _ _ hc q=>lshift_int_small hc.1 hc.2.1 hc.2.2 q
theorem RB:bu X (binaryOp .BitAnd) (dO fun i j=>.int (Builtin.bitAnd i j)):=u5 fun _ _ _ _ _ _ _ q=>and_int q
theorem UD:bu X (binaryOp .BitOr) (dO fun i j=>.int (Builtin.bitOr i j)):=u5 fun _ _ _ _ _ _ _ q=>or_int q
theorem Ig {f:Value→Sem Value}{g:Int→Int}
  (rule:∀ (i:Int) (t:Tok) (s:Shared) (Q:Value→Shared→Prop) (E:Value→Shared→Prop),Q (.int (g i) s.toks) { s with toks:=s.toks+1 }→wpAny (model X.prog X.w) X.A (f (.int i t)) Q E s) :
  qX X f (rU fun i=>.int (g i)):=by
 intro pins s σ H x v Q I rx h
 obtain ⟨i,rfl,q⟩:=h
 obtain ⟨t,rfl⟩:=rx
 exact rule i t s _ _ ⟨.int (g i),H,I.tok _,⟨_,rfl⟩,q⟩
theorem RC:qX X (unaryOp .USub) (rU fun i=>.int (-i)):=Ig fun _ _ _ _ _ q=>neg_int q
theorem RD:qX X (unaryOp .Invert) (rU fun i=>.int (Builtin.bitNot i)):=Ig fun _ _ _ _ _ q=>invert_int q
end
noncomputable def jK:V→V→Bool
 |.non,.non=>true|.non,.int _=>true|.int _,.non=>true|.non,.bl _=>true|.bl _,.non=>true|.non,.str _=>true|.str _,.non=>true
 |.int _,.int _=>true|.bl _,.bl _=>true|.str _,.str _=>true|.fE _,.fE _=>true
 |.int _,.str _=>true|.str _,.int _=>true|.bl _,.str _=>true|.str _,.bl _=>true
 |_,_=>false
noncomputable def Ih:R2:=fun x y H Q=>jK x y=true∧Q (.bl (decide (x=y))) H
noncomputable def Ii:R2:=fun x y H Q=>jK x y=true∧Q (.bl (!decide (x=y))) H
theorem DM {i j:Int}:decide (V.int i=V.int j)=(i==j):=by
 rw [Bool.eq_iff_iff]
 simp
theorem EG {i j:Bool}:decide (V.bl i=V.bl j)=(i==j):=by
 rw [Bool.eq_iff_iff]
 simp
theorem DN {i j:Str}:decide (V.str i=V.str j)=(i==j):=by
 rw [Bool.eq_iff_iff]
 simp
theorem DP {i j:Array UInt8}:decide (V.fE i=V.fE j)=(i.toList==j.toList):=by
 rw [Bool.eq_iff_iff]
 cases i
 cases j
 simp
section
variable {X:Cx}{a b c:Expr}{ta tb tc:TE}{pos:Pos}
theorem bZ {pins:List (Addr×Obj)}{σ:St}{H:Hp}{s:Shared}{Q:VK}{k k':Bool} (I:Inv X pins σ H s) (q:Q (.bl k) H) (e:k=k'):EP X pins σ Q (.bool k') s:=by
 subst e
 exact ⟨.bl k,H,I,rfl,q⟩
theorem UE:bu X (compareOp .Eq) Ih:=by
 intro pins s σ H x y v u Q I rx ry h
 obtain ⟨hs,q⟩:=h
 cases x with
 |non =>
  cases rx
  cases y with
  |non=>cases ry;exact PySem.EqNone.eq_none_none (bZ I q (by simp))
  |bl j=>cases ry;exact PySem.EqNone.eq_none_bool (bZ I q (by simp))
  |int j=>obtain ⟨t',rfl⟩:=ry;exact PySem.EqNone.eq_none_int (bZ I q (by simp))
  |str j=>obtain ⟨t',rfl⟩:=ry;exact PySem.EqNone.eq_none_str (bZ I q (by simp))
  |_=>exact absurd (show false=true from hs) Bool.false_ne_true
 |bl i =>
  cases rx
  cases y with
  |non=>cases ry;exact PySem.EqNone.eq_bool_none (bZ I q (by simp))
  |bl j=>cases ry;exact eq_bool (bZ I q EG)
  |str j=>obtain ⟨t',rfl⟩:=ry;exact PySem.EqMixed.eq_bool_str (bZ I q (by simp))
  |_=>exact absurd (show false=true from hs) Bool.false_ne_true
 |int i =>
  obtain ⟨t,rfl⟩:=rx
  cases y with
  |non=>cases ry;exact PySem.EqNone.eq_int_none (bZ I q (by simp))
  |int j=>obtain ⟨t',rfl⟩:=ry;exact eq_int (bZ I q DM)
  |str j=>obtain ⟨t',rfl⟩:=ry;exact PySem.EqMixed.eq_int_str (bZ I q (by simp))
  |_=>exact absurd (show false=true from hs) Bool.false_ne_true
 |str i =>
  obtain ⟨t,rfl⟩:=rx
  cases y with
  |non=>cases ry;exact PySem.EqNone.eq_str_none (bZ I q (by simp))
  |bl j=>cases ry;exact PySem.EqMixed.eq_str_bool (bZ I q (by simp))
  |int j=>obtain ⟨t',rfl⟩:=ry;exact PySem.EqMixed.eq_str_int (bZ I q (by simp))
  |str j=>obtain ⟨t',rfl⟩:=ry;exact eq_str (bZ I q DN)
  |_=>exact absurd (show false=true from hs) Bool.false_ne_true
 |fE i =>
  obtain ⟨t,rfl⟩:=rx
  cases y with
  |fE j=>obtain ⟨t',rfl⟩:=ry;exact PySem.W.eq_bytes (bZ I q DP)
  |_=>exact absurd (show false=true from hs) Bool.false_ne_true
 |_=>cases y<;>exact absurd (show false=true from hs) Bool.false_ne_true
theorem UG:bu X (compareOp .NotEq) Ii:=by
 intro pins s σ H x y v u Q I rx ry h
 obtain ⟨hs,q⟩:=h
 cases x with
 |non =>
  cases rx
  cases y with
  |non=>cases ry;exact PySem.EqNone.ne_none_none (bZ I q (by simp))
  |bl j=>cases ry;exact PySem.EqNone.ne_none_bool (bZ I q (by simp))
  |int j=>obtain ⟨t',rfl⟩:=ry;exact PySem.EqNone.ne_none_int (bZ I q (by simp))
  |str j=>obtain ⟨t',rfl⟩:=ry;exact PySem.EqNone.ne_none_str (bZ I q (by simp))
  |_=>exact absurd (show false=true from hs) Bool.false_ne_true
 |bl i =>
  cases rx
  cases y with
  |non=>cases ry;exact PySem.EqNone.ne_bool_none (bZ I q (by simp))
  |bl j=>cases ry;exact ne_bool (bZ I q (congrArg not EG))
  |str j=>obtain ⟨t',rfl⟩:=ry;exact PySem.EqMixed.ne_bool_str (bZ I q (by simp))
  |_=>exact absurd (show false=true from hs) Bool.false_ne_true
 |int i =>
  obtain ⟨t,rfl⟩:=rx
  cases y with
  |non=>cases ry;exact PySem.EqNone.ne_int_none (bZ I q (by simp))
  |int j=>obtain ⟨t',rfl⟩:=ry;exact ne_int (bZ I q (congrArg not DM))
  |str j=>obtain ⟨t',rfl⟩:=ry;exact PySem.EqMixed.ne_int_str (bZ I q (by simp))
  |_=>exact absurd (show false=true from hs) Bool.false_ne_true
 |str i =>
  obtain ⟨t,rfl⟩:=rx
  cases y with
  |non=>cases ry;exact PySem.EqNone.ne_str_none (bZ I q (by simp))
  |bl j=>cases ry;exact PySem.EqMixed.ne_str_bool (bZ I q (by simp))
  |int j=>obtain ⟨t',rfl⟩:=ry;exact PySem.EqMixed.ne_str_int (bZ I q (by simp))
  |str j=>obtain ⟨t',rfl⟩:=ry;exact ne_str (bZ I q (congrArg not DN))
  |_=>exact absurd (show false=true from hs) Bool.false_ne_true
 |fE i =>
  obtain ⟨t,rfl⟩:=rx
  cases y with
  |fE j=>obtain ⟨t',rfl⟩:=ry;exact PySem.W.ne_bytes (bZ I q (congrArg not DP))
  |_=>exact absurd (show false=true from hs) Bool.false_ne_true
 |_=>cases y<;>exact absurd (show false=true from hs) Bool.false_ne_true
theorem UH:bu X (compareOp .Lt) (dO fun i j=>.bl (decide (i < j))):=zb fun _ _ _ _ _ _ _ q=>lt_int q
theorem UI:bu X (compareOp .LtE) (dO fun i j=>.bl (decide (i≤j))):=zb fun _ _ _ _ _ _ _ q=>le_int q
theorem UJ:bu X (compareOp .Gt) (dO fun i j=>.bl (decide (j < i))):=zb fun _ _ _ _ _ _ _ q=>gt_int q
theorem OY:bu X (compareOp .IsNot) (fun x y H Q=>y=.non∧Q (.bl (!decide (x=.non))) H):=by
 intro pins s σ H x y v u Q I rx ry h
 obtain ⟨rfl,q⟩:=h
 cases ry
 refine isnot_none_gen (bZ I q ?_)
 cases x<;>first
  | (cases rx;rfl)
  | (obtain ⟨t,rfl⟩:=rx;rfl)
theorem OZ {op:CmpOp}{r:R2} (ho:bu X (compareOp op) r) (ha:PE X a ta) (hb:PE X b tb) (hm:behindInMarks op b=false):PE X (.Compare a [op] [b] pos) (oD r ta tb):=by
 intro pins s σ H Q I h
 exact wpAny_Compare1 (za ha hb I h fun v u s2 x y H2 I2 rx ry q=>ho pins s2 σ H2 x y v u Q I2 rx ry q) hm
noncomputable def yO (t:TE):TT:=fun σ H Q=>t σ H fun x H'=>∃ k,x=.bl k∧Q k H'
theorem O4 {op:CmpOp}{r:R2} (ho:bu X (compareOp op) r) (ha:PE X a ta) (hb:PE X b tb) (hm:behindInMarks op b=false):PT X (.Compare a [op] [b] pos) (yO (oD r ta tb)):=by
 intro pins s σ H Q I h
 refine wpAny_isTrue_Compare1 (aF (ha pins s σ H _ I h) fun v s1 ⟨x,H1,I1,r1,q1⟩=>aF (hb pins s1 σ H1 _ I1 q1) fun u s2 ⟨y,H2,I2,r2,q2⟩ =>
  aF (ho pins s2 σ H2 x y v u _ I2 r1 r2 q2) fun c s3 ⟨z,H3,I3,r3,k,e,q3⟩=>?_) hm
 subst e
 cases r3
 exact wpAny_truthy_bool ⟨H3,I3,q3⟩
noncomputable def EH (r r':R2) (ta tb tc:TE):TE:=fun σ H Q=>ta σ H fun x H1=>tb σ H1 fun y H2=>r x y H2 fun z H3=>∃ k,z=.bl k ∧
 (if k=true then tc σ H3 fun w' H4=>r' y w' H4 Q else Q (.bl false) H3)
theorem Nf {op op':CmpOp}{r r':R2} (ho:bu X (compareOp op) r) (fF:bu X (compareOp op') r') (ha:PE X a ta) (hb:PE X b tb) (hc:PE X c tc)
  (hm:lastMarks [op,op'] [b,c]=false:=by with_unfolding_all rfl):PT X (.Compare a [op,op'] [b,c] pos) (yO (EH r r' ta tb tc)):=by
 intro pins s σ H Q I h
 refine isTrue_chain (aF (ha pins s σ H _ I h) fun v s1 ⟨x,H1,I1,r1,q1⟩=>test_link (aF (hb pins s1 σ H1 _ I1 q1) fun u s2 ⟨y,H2,I2,r2,q2⟩ =>
  aF (ho pins s2 σ H2 x y v u _ I2 r1 r2 q2) fun d s3 ⟨z,H3,I3,r3,k,e,q3⟩=>?_)) hm
 subst e
 cases r3
 refine wpAny_truthy_bool ?_
 cases k with
 |false =>
  obtain ⟨k',e',q'⟩:=q3
  cases e'
  exact ite_ff ⟨H3,I3,q'⟩
 |true =>
  refine ite_tt (test_last (aF (hc pins s3 σ H3 _ I3 q3) fun w' s4 ⟨z',H4,I4,r4,q4⟩=>aF (fF pins s4 σ H4 y z' u w' _ I4 r2 r4 q4) fun d' s5 ⟨z2,H5,I5,r5,k2,e2,q5⟩=>?_))
  subst e2
  cases r5
  exact wpAny_truthy_bool ⟨H5,I5,q5⟩
def u9 (K:PySem.W.Frag) (x:V) (H:Hp) (k:Bool):Prop :=
 match x with
 |.non=>k=false
 |.bl b=>k=b
 |.int i=>k=(i != 0)
 |.str y=>y.length≤sizeLine∧k=((y.length:Int) != 0)
 |.fE y=>y.size≤sizeLine∧k=((y.size:Int) != 0)
 |.ref p=>(∃ xs,bL K H p xs∧k=!xs.isEmpty)∨(∃ xs,bz K H p xs∧k=!xs.isEmpty)∨∃ ai,H p=some (.dK ai)∧k=!ai.isEmpty
 |_=>False
theorem Lz {κ:Type}{ai:List (κ×V)}{vs:List (κ×Value)} (r:KV ai vs):(!vs.isEmpty)=!ai.isEmpty:=by
 cases r<;>rfl
theorem B1 {xs:List V}{its:List Value} (r:Vals xs its):(!its.toArray.isEmpty)=!xs.isEmpty:=by
 cases r<;>simp
theorem nr:(sizeLine:Nat) < 2 ^ 63:=by rw [sizeLine_eq];decide
theorem RH:Wv X (fun x H Q=>∃ k,u9 X.K x H k∧Q k H):=by
 intro pins s σ H x v Q I rx h
 obtain ⟨k,e,q⟩:=h
 have hl:=nr
 have hs:sizeLine=16777216:=sizeLine_eq
 cases x with
 |non =>
  cases rx
  have e':k=false:=e
  subst e'
  exact truthy_none ⟨H,I,q⟩
 |bl b =>
  cases rx
  have e':k=b:=e
  subst e'
  exact wpAny_truthy_bool ⟨H,I,q⟩
 |int i =>
  obtain ⟨t,rfl⟩:=rx
  have e':k=(i != 0):=e
  subst e'
  exact PySem.P.truthy_int ⟨H,I,q⟩
 |str y =>
  obtain ⟨t,rfl⟩:=rx
  obtain ⟨hy,e'⟩:y.length≤sizeLine∧k=((y.length:Int) != 0):=e
  subst e'
  exact PySem.P.truthy_str (by omega) ⟨H,I.tok _,q⟩
 |fE y =>
  obtain ⟨t,rfl⟩:=rx
  obtain ⟨hy,e'⟩:y.size≤sizeLine∧k=((y.size:Int) != 0):=e
  subst e'
  exact PySem.W.truthy_bytes (by omega) ⟨H,I.tok _,q⟩
 |ref p =>
  cases rx
  have e':(∃ xs,bL X.K H p xs∧k=!xs.isEmpty)∨(∃ xs,bz X.K H p xs∧k=!xs.isEmpty)∨∃ ai,H p=some (.dK ai)∧k=!ai.isEmpty:=e
  rcases e' with ⟨xs,hx,e'⟩|⟨xs,hx,e'⟩|⟨ai,hx,e'⟩
  ·subst e'
   obtain ⟨its,r,pl,hz⟩:=I.list hx
   have hlen:=r.length
   exact wpAny_truthy_list pl.isList (by simp only [List.size_toArray];omega) ⟨H,I.tok _,by rw [B1 r];exact q⟩
  ·subst e'
   obtain ⟨its,r,pl,hz⟩:=I.tuple hx
   have hlen:=r.length
   exact truthy_tuple pl (by simp only [List.size_toArray];omega) ⟨H,I.tok _,by rw [B1 r];exact q⟩
  ·subst e'
   obtain ⟨hz,hS,vs,r,m⟩:ai.length≤sizeLine∧(p==sysModules)=false∧∃ vs,KV ai vs∧s.heap.DictOf (cn X.prog X.w) p vs:=I.aD p _ hx
   have hlen:ai.length=vs.length:=Paired.length r
   exact wpAny_truthy_dict hS m (by omega) ⟨H,I.tok _,by rw [Lz r];exact q⟩
 |_=>exact (show False from e).elim
theorem Ng (ha:PE X a ta) (he:∀ whole,isTrue a X.env whole=(do let v ←whole;standAt a.pos;holding [v] (truthy v))) :
  PT X a (fun σ H Q=>ta σ H fun x H'=>∃ k,u9 X.K x H' k∧Q k H'):=by
 intro pins s σ H Q I h
 exact isTrue_plain (aF (ha pins s σ H _ I h) fun v s1 ⟨x,H1,I1,r1,q1⟩=>RH pins s1 σ H1 x v Q I1 r1 q1) (he _)
theorem LC:bu X (binaryOp .Add) (fun x y H Q=>∃ i j,x=.str i∧y=.str j∧i.length+j.length≤sizeLine∧Q (.str (i++j)) H):=by
 intro pins s σ H x y v u Q I rx ry h
 obtain ⟨i,j,rfl,rfl,hz,q⟩:=h
 obtain ⟨t,rfl⟩:=rx
 obtain ⟨t',rfl⟩:=ry
 exact add_str (fun t' tk=>⟨.str (i++j),H,I.tok _,⟨_,rfl⟩,q⟩) hz
theorem vals1 {x:V}{us:List Value} (r:Vals [x] us):∃ u,us=[u]∧RelV x u:=by
 cases r with
 |cons r1 r2=>cases r2;exact ⟨_,rfl,r1⟩
theorem vals2 {x y:V}{us:List Value} (r:Vals [x,y] us):∃ u w',us=[u,w']∧RelV x u∧RelV y w':=by
 cases r with
 |cons r1 r2 =>
  cases r2 with
  |cons r3 r4=>cases r4;exact ⟨_,_,rfl,r1,r3⟩
theorem Mh (hc:X.calm=true):gJ X (.builtin "max") (fun xs H Q=>∃ i j,xs=[.int i,.int j]∧Q (.int (if j > i then j else i)) H):=by
 intro pins s σ H xs us Q I r h
 obtain ⟨i,j,rfl,q⟩:=h
 obtain ⟨u,w',rfl,⟨t,rfl⟩,⟨t',rfl⟩⟩:=vals2 r
 refine max_two_ints (I.ok.hd hc) fun h' tk k=>⟨_,H,I.kept k,?_,q⟩
 by_cases hj:j > i
 ·rw [if_pos hj,if_pos hj];exact ⟨_,rfl⟩
 ·rw [if_neg hj,if_neg hj];exact ⟨_,rfl⟩
theorem Mi:gJ X (.type "int") (fun xs H Q=>(∃ i,xs=[.int i]∧Q (.int i) H)∨∃ k,xs=[.bl k]∧Q (.int (if k then 1 else 0)) H):=by
 intro pins s σ H xs us Q I r h
 rcases h with ⟨i,rfl,q⟩|⟨k,rfl,q⟩
 ·obtain ⟨u,rfl,t,rfl⟩:=vals1 r
  exact call_int_int ⟨.int i,H,I,⟨_,rfl⟩,q⟩
 ·obtain ⟨u,rfl,r1⟩:=vals1 r
  cases r1
  exact call_int_bool ⟨.int (if k then 1 else 0),H,I.tok _,⟨_,rfl⟩,q⟩
def zc (K:PySem.W.Frag) (x:V) (H:Hp) (n:Nat):Prop :=
 match x with
 |.str y=>y.length≤sizeLine∧n=y.length
 |.fE y=>y.size≤sizeLine∧n=y.size
 |.ref p=>(∃ xs,bL K H p xs∧n=xs.length)∨∃ xs,bz K H p xs∧n=xs.length
 |_=>False
theorem Nh:gJ X (.builtin "len") (fun xs H Q=>∃ x n,xs=[x]∧zc X.K x H n∧Q (.int n) H):=by
 intro pins s σ H xs us Q I r h
 obtain ⟨x,n,rfl,e,q⟩:=h
 obtain ⟨u,rfl,rx⟩:=vals1 r
 have hl:=nr
 have hs:sizeLine=16777216:=sizeLine_eq
 cases x with
 |str y =>
  obtain ⟨t,rfl⟩:=rx
  obtain ⟨hy,e'⟩:y.length≤sizeLine∧n=y.length:=e
  subst e'
  exact len_str (by omega) ⟨.int _,H,I.tok _,⟨_,rfl⟩,q⟩
 |fE y =>
  obtain ⟨t,rfl⟩:=rx
  obtain ⟨hy,e'⟩:y.size≤sizeLine∧n=y.size:=e
  subst e'
  exact PySem.W.len_bytes (by omega) ⟨.int _,H,I.tok _,⟨_,rfl⟩,q⟩
 |ref p =>
  cases rx
  have e':(∃ xs,bL X.K H p xs∧n=xs.length)∨∃ xs,bz X.K H p xs∧n=xs.length:=e
  rcases e' with ⟨xs,hx,e'⟩|⟨xs,hx,e'⟩
  ·subst e'
   obtain ⟨its,r',pl,hz⟩:=I.list hx
   have hlen:=r'.length
   exact Calls.call_len_list pl.isList (by simp only [List.size_toArray];omega) ⟨.int xs.length,H,I.tok _,⟨_,by simp only [List.size_toArray];rw [hlen]⟩,q⟩
  ·subst e'
   obtain ⟨its,r',pl,hz⟩:=I.tuple hx
   have hlen:=r'.length
   exact len_tuple pl (by simp only [List.size_toArray];omega) ⟨.int xs.length,H,I.tok _,⟨_,by simp only [List.size_toArray];rw [hlen]⟩,q⟩
 |_=>exact (show False from e).elim
end
structure ZW (h:Heap) (x dx C:Addr) (mA:Str→Option Value):Prop where
 obj:h.get? x=some (PySem.W.instObj C dx)
 ns:h.Ns1 dx mA
 ne:dx≠x
section
variable {prog:Program}{w:World}{A:Around}{E:Value→Shared→Prop}{s:Shared}{K:PySem.W.Frag}{x dx C f:Addr}{mA:Str→Option Value}{name:Str}{v:Value}
end
theorem gP.some_of {v:V}{o:Option Value} (r:gP (some v) o):∃ u,o=some u∧RelV v u:=by
 cases o with
 |none=>exact (show False from r).elim
 |some u=>exact ⟨u,rfl,r⟩
section
variable {P:Program}{w:World}{H H':Hp}{h h':Heap}{a C dx:Addr}{fs Xo:List (Str×V)}
end
structure Xs (K:PySem.W.Frag) (C:Addr):Prop where
 pg:PySem.W.plainGet K C Str.empty=true
 hd:PySem.W.hasDictIn K C=true
 po:PySem.W.plainOver K C=true
 sa:PySem.W.findIn K (.ref C) "__setattr__" = some (some (.builtin "object.__setattr__"))
structure Z2 (K:PySem.W.Frag) (C:Addr) (f:Str) (v:V) (u:Value):Prop where
 at_:PySem.W.findIn K (.ref C) f=some (some u)
 rel:RelV v u
 get:PySem.W.specialIn K u "__get__" = some none
 cp:PySem.W.copiedNames.contains f=false
structure Meth (K:PySem.W.Frag) (C:Addr) (m:Str) (f:Addr):Prop where
 at_:PySem.W.findIn K (.ref C) m=some (some (.ref f))
 fn:PySem.W.isFn K (.ref f)=true
 kp:PySem.W.keepIn K (.ref f)=true
section
variable {X:Cx}{pins:List (Addr×Obj)}{σ:St}{H:Hp}{s:Shared}{a C dx:Addr}{fs:List (Str×V)}{f:Str}{v:V}{A:Around}{E:Value→Shared→Prop}
end
section
variable {X:Cx}{o e value:Expr}{f:Str}{pos pos' Ww:Pos}{ta tv:TE}
def zf:V→V→Hp→VK→Prop:=fun x y H Q=>∃ i j,x=.int i∧y=.int j∧Q (.int (i+j)) H
end
section
variable {X:Cx}{pins:List (Addr×Obj)}{σ:St}{H:Hp}{s:Shared}{A:Around}{E:Value→Shared→Prop}{Q:Value→Shared→Prop}{c:Value}{b:Bool}
inductive iz (K:PySem.W.Frag) (H:Hp):V→Value→Prop where
 |non:iz K H .non (.type "NoneType")
 |bl (x:Bool):iz K H (.bl x) (.type "bool")
 |int (i:Int):iz K H (.int i) (.type "int")
 |str (x:Str):iz K H (.str x) (.type "str")
 |qQ (x:UInt64):iz K H (.qQ x) (.type "float")
 |lst {a:Addr}{xs:List V} (e:H a=some (.lst xs)):iz K H (.ref a) (.type "list")
 |aX {a:Addr}{o:Obj}{xs:List V} (e:H a=some (.aX o (.lst xs))):iz K H (.ref a) (.type "list")
 |tup {a:Addr}{xs:List V} (e:H a=some (.tup xs)):iz K H (.ref a) (.type "tuple")
 |dK {a:Addr}{ai:List (Key×V)} (e:H a=some (.dK ai)):iz K H (.ref a) (.type "dict")
 |dT {a:Addr}{ai:List (List Key×V)} (e:H a=some (.dT ai)):iz K H (.ref a) (.type "dict")
 |ins {a C dx:Addr}{fs:List (Str×V)} (e:H a=some (.ins C dx fs)) (cl:Xs K C) (ha:PySem.W.findIn K (.ref C) "__class__" = some (some (.builtin "object.__class__")))
  (hn:PySem.W.specialIn K (.builtin "object.__class__") "__get__" = some (some (.builtin "getset_descriptor.__get__"))) (Z3:PySem.W.takesIn K (.builtin "object.__class__")=some true)
  (hm:PySem.W.mroIn K C (.type "object")=some true):iz K H (.ref a) (.ref C)
end
structure du (k:Nat) (A:Around):Prop where
 hd:A.handled=none
 dp:A.depth+3*k+5 < recursionLimit
 un:A.units+16*k+200 < cLine
theorem du.mono {j k:Nat}{A:Around} (r:du k A) (h:j≤k):du j A:=⟨r.hd,by have:=r.dp;omega,by have:=r.un;omega⟩
theorem du.deeper {k:Nat}{A:Around} (r:du (k+1) A) (env:Env):du k (A.deeper env) :=
 ⟨r.hd,by have:=r.dp;show A.depth+1+3*k+5 < _;omega,by have:=r.un;show A.units+3+16*k+200 < _;omega⟩
theorem du.depth {k:Nat}{A:Around} (r:du k A):A.depth < recursionLimit:=by have:=r.dp;omega
theorem du.units {k:Nat}{A:Around} (r:du k A):A.units+64 < cLine:=by have:=r.un;omega
noncomputable def kz:TA:=fun _ H Q=>Q [] H
noncomputable def lF (ta:TE) (tr:TA):TA:=fun σ H Q=>ta σ H fun x H1=>tr σ H1 fun xs H2=>Q (x::xs) H2
section
variable {X:Cx}{e:Expr}{es:List Expr}{te:TE}{t:TA}{pos:Pos}
theorem qc:PA X [] kz:=fun _ _ _ _ H Q I h=>Calls.spliced_nil ⟨[],H,I,.nil,h⟩
theorem tX (ha:PE X e te) (hr:PA X es t) (hs:starEach (e::es) X.env=(false,eval e X.env)::starEach es X.env:=by rfl):PA X (e::es) (lF te t):=by
 intro pos pins s σ H Q I h
 rw [hs]
 show wpAny _ _ (spliced ((false,eval e X.env)::backTo pos (starEach es X.env))) _ _ s
 refine Calls.spliced_cons (aF (ha pins s σ H _ I h) fun u s1 ⟨x,H1,I1,r1,q1⟩=>?_)
 exact aF (hr pos pins s1 σ H1 _ I1 q1) fun us s2 ⟨xs,H2,I2,r2,q2⟩=>⟨x::xs,H2,I2,.cons r1 r2,q2⟩
noncomputable def GL (t:TA):TE:=fun σ H Q=>t σ H fun xs H1=>xs.length≤sizeLine∧∀ p,H1 p=none→Q (.ref p) (upd H1 p (.tup xs))
noncomputable def vb (t:TA):TE:=fun σ H Q=>t σ H fun xs H1=>xs.length≤sizeLine∧∀ p,H1 p=none→Q (.ref p) (upd H1 p (.lst xs))
theorem RJ {x1} (h:PA X es t):PE X (.Tuple es x1 pos) (GL t):=by
 intro pins s σ H Q I hq
 refine wpAny_Tuple_spliced (aF (h pos pins s σ H _ I hq) fun us s1 ⟨xs,H1,I1,r,z,q⟩=>⟨by rw [←r.length];exact z,?_⟩)
 have hf:H1 s1.heap.objs.size=none:=I1.aD.fresh (Nat.le_refl _)
 refine ⟨.ref s1.heap.objs.size,upd H1 s1.heap.objs.size (.tup xs),I1.laid (t':=s1.toks) (fun b u e=>Heap.get?_push_of_some _ e) (Nat.le_refl _) ?_,rfl,q _ hf⟩
 exact ⟨z,us,r,⟨_,Heap.get?_push_size _ rfl,rfl,_,rfl⟩⟩
theorem yl (h:PA X es t):PE X (.List es pos) (vb t):=by
 intro pins s σ H Q I hq
 refine wpAny_List_spliced (aF (h pos pins s σ H _ I hq) fun us s1 ⟨xs,H1,I1,r,z,q⟩=>⟨by rw [←r.length];exact z,?_⟩)
 have hf:H1 s1.heap.objs.size=none:=I1.aD.fresh (Nat.le_refl _)
 refine ⟨.ref s1.heap.objs.size,upd H1 s1.heap.objs.size (.lst xs),I1.laid (t':=s1.toks) (fun b u e=>Heap.get?_push_of_some _ e) (Nat.le_refl _) ?_,rfl,q _ hf⟩
 exact ⟨z,us,0,r,Heap.get?_push_size _ rfl⟩
end
noncomputable abbrev Sp:=List V→Hp→VK→XK→Prop
noncomputable abbrev iG:=List Env→Hp→Shared→XK→Value→Shared→Prop
structure vd (P:Program) (w:World) (K:PySem.W.Frag) (mg:Str→Option Value) (base:Heap) (A:Around) (outer:List Env) (s:Shared) (H:Hp):Prop where
 frames:A.frames=some outer
 mod:Mod K mg base
 bs:∀ b o,base.get? b=some o→s.heap.get? b=some o∧H b=none
 jU:base.objs.size≤s.heap.objs.size
 iy:s.heap.FunFrames base outer
 oz:∀ b∈gW outer,H b=none
 aD:cv P w H s.heap
 bare:AllBare s.gens
def CE (outer:List Env) (P:Program) (w:World) (H:Hp) (s:Shared) (Q:VK) (u:Value) (s':Shared):Prop :=
 ∃ v H',s'.os=s.os∧AllBare s'.gens∧Un (gW outer) [] H H' s.heap s'.heap∧cv P w H' s'.heap∧RelV v u∧Q v H'
def CR (CX:iG) (outer:List Env) (P:Program) (w:World) (H:Hp) (s:Shared) (Q:VK) (E:XK) (r:Result) (s':Shared):Prop :=
 match r with
 |.ok (.ret u)=>CE outer P w H s Q u s'
 |.ok _=>False
 |.error e=>CX outer H s E e s'
structure jL (P:Program) (w:World) (K:PySem.W.Frag) (mg:Str→Option Value) (base:Heap) (CX:iG) (k:Nat) (f:Addr) (fd:FuncData) (ps:List Str) (sp:Sp):Prop where
 len:∀ vs H Q E,sp vs H Q E→vs.length=ps.length
 run:∀ (A:Around) (outer:List Env) (s:Shared) (H:Hp) (args:Args) (us:List Value) (vs:List V) (Q:VK) (E:XK),du k A→vd P w K mg base A outer s H→BindsTo s fd args (ps.zip us)→Vals vs us→sp vs H Q E →
  codeAny (model P w) A (.call (.ref f) args) (CR CX outer P w H s Q E) s
section
variable {X:Cx}{pins:List (Addr×Obj)}{σ:St}{H:Hp}{s s':Shared}
theorem Inv.Wx (I:Inv X pins σ H s):vd X.prog X.w X.K X.mg X.base X.A X.stack s H :=
 ⟨I.ok.frames,I.ok.mod,I.bs,Nat.le_trans I.ok.jU I.sz,I.stack,I.DJ,I.aD,I.bare⟩
theorem Inv.after {Q:VK}{u:Value} (I:Inv X pins σ H s) (h:CE X.stack X.prog X.w H s Q u s'):EP X pins σ Q u s':=by
 obtain ⟨v,H',os,bare,un,aD,r,q⟩:=h
 obtain ⟨hh,g,d,t,Xt⟩:=s'
 obtain rfl:Xt=s.os:=os
 exact ⟨v,H',I.call (h':=hh) (g':=g) (d':=d) (t':=t) (ch:=[]) un aD bare (fun b z=>absurd z (by simp)),r,q⟩
end
noncomputable def qo (sp:Sp) (kU:List V) (E:XK) (t:TA):TE:=fun σ H Q=>t σ H fun vs H1=>sp (vs++kU) H1 Q E
def Binds (K:PySem.W.Frag) (fd:FuncData) (ps:List Str) (ds:List Value):Prop :=
 ∀ (s:Shared) (us:List Value),K.In s.heap→(us++ds).length=ps.length→BindsTo s fd ⟨us,[]⟩ (ps.zip (us++ds))
theorem Binds.all {K:PySem.W.Frag}{fd:FuncData}{ps:List Str} (h:∀ us:List Value,us.length=ps.length→bindArgs fd ⟨us,[]⟩=pure (ps.zip us)):Binds K fd ps []:=fun s us _ hl=>by
 rw [List.append_nil] at hl ⊢
 exact .of_eq (h us hl)
def Passes (CX:iG) (X:Cx) (E:XK):Prop:=∀ (pins:List (Addr×Obj)) (σ:St) (H:Hp) (s:Shared) (e:Value) (s':Shared),Inv X pins σ H s→CX X.stack H s E e s'→X.xe e s'
section
variable {X:Cx}{CX:iG}{k:Nat}{f C:Addr}{fd:FuncData}{ps:List Str}{sp:Sp}{kU:List V}{ds:List Value}{E:XK}{x m:Str}{p pos apos:Pos}{e o:Expr}{es:List Expr}{ta:TE}{t:TA}
theorem RK {pins:List (Addr×Obj)}{σ:St}{H:Hp}{s:Shared}{Q:VK}{us:List Value}{vs:List V} (F:jL X.prog X.w X.K X.mg X.base CX k f fd ps sp) (hr:du k X.A) (hb:Binds X.K fd ps ds) (hd:Vals kU ds) (hx:Passes CX X E)
  (I:Inv X pins σ H s) (r:Vals vs us) (h:sp (vs++kU) H Q E):wpAny (model X.prog X.w) X.A (call (.ref f) us) (EP X pins σ Q) X.xe s:=by
 have r2:Vals (vs++kU) (us++ds):=r.append hd
 have hl:(us++ds).length=ps.length:=by rw [←r2.length];exact F.len _ _ _ _ h
 refine wpAny_call (codeAny_mono (F.run X.A X.stack s H ⟨us,[]⟩ (us++ds) (vs++kU) Q E hr I.Wx (hb s us I.fV hl) r2 h) fun r s' hq=>?_)
 cases r with
 |error e=>exact hx pins σ H s e s' I hq
 |ok fl =>
  cases fl with
  |ret u=>exact I.after hq
  |next=>exact False.elim hq
  |brk=>exact False.elim hq
  |cont=>exact False.elim hq
theorem DQ (F:jL X.prog X.w X.K X.mg X.base CX k f fd ps sp) (hr:du k X.A) (hg:Gl X x) (hm:X.mg x=some (.ref f)) (hk:PySem.W.keepIn X.K (.ref f)=true) (hb:Binds X.K fd ps ds) (hd:Vals kU ds) (hx:Passes CX X E)
  (ha:PA X (e::es) t) (jX:(x==("__debug__" : Str))=false:=by decide) (he:starEach (e::es) X.env=(false,eval e X.env)::starEach es X.env:=by rfl) (kW:(backTo pos (starEach es X.env)).any (·.1)=false:=by rfl) :
  PE X (.Call (.Name x p) (e::es) [] pos) (qo sp kU E t):=by
 intro pins s σ H Q I h
 refine wpAny_Call_Name_kw (OL I hg hm ?_ jX)
 refine PySem.W.callWith_K (h₀:=X.base) I.ok.mod.zU hk (aF (ha pos pins s σ H _ I h) fun us s1 ⟨vs,H1,I1,r,q⟩=>⟨I1.fV,?_⟩) he kW
 exact RK F hr hb hd hx I1 r q
structure Mk (K:PySem.W.Frag) (C f:Addr):Prop where
 makes:PySem.W.makesIn K C=true
 init:PySem.W.findIn K (.ref C) "__init__" = some (some (.ref f))
 fn:PySem.W.isFn K (.ref f)=true
 kp:PySem.W.keepIn K (.ref C)=true
end
section
variable {X:Cx}{CX:iG}{k:Nat}{f C:Addr}{fd:FuncData}{ps ks:List Str}{sp:Sp}{E:XK}{x m:Str}{p pos apos ZX:Pos}{e o:Expr}{es:List Expr}{kws:List Keyword}{te ta:TE}{t tk:TA}{nm:Option Str}
structure ZS (K:PySem.W.Frag) (fd:FuncData) (ps ks:List Str) (g:List Value→List Value→List Value) (gV:List V→List V→List V):Prop where
 to:∀ (s:Shared) (us ws:List Value),K.In s.heap→(g us ws).length=ps.length→BindsTo s fd ⟨us,ks.zip ws⟩ (ps.zip (g us ws))
 rel:∀ {vs:List V}{us:List Value}{zs:List V}{ws:List Value},Vals vs us→Vals zs ws→Vals (gV vs zs) (g us ws)
variable {g:List Value→List Value→List Value}{gV:List V→List V→List V}
end
structure pZ (N P:List Str) (sc:Scope):Prop where
 kind:sc.kind=.function
 co:sc.isCoroutine=false
 gen:sc.isGenerator=false
 nd:N.Nodup
 pre:N.take P.length=P
 par:∀ x∈P,sc.names.lookup x=some .local∨sc.names.lookup x=some .cell
 RL:∀ y∈sc.names,y.2≠.free
theorem Ct {kindOf:Str→Option NameKind}{x:Str}:∀ {binds:List (Str×Value)}{m:Str→Option Value},(∀ v,(x,v)∉binds)→bindL kindOf binds m x=m x
  |[],_,_=>rfl
  | (n,v)::r,m,h=>by
    unfold bindL
    rw [Ct fun w hw=>h w (List.mem_cons_of_mem _ hw)]
    split
    · have:x≠n:=by rintro rfl;exact h v List.mem_cons_self
      simp [this]
    · rfl
theorem Cu {kindOf:Str→Option NameKind}{x:Str}:∀ {binds:List (Str×Value)}{m:Str→Option Value},(∀ v,(x,v)∉binds)→bindC kindOf binds m x=m x
  |[],_,_=>rfl
  | (n,v)::r,m,h=>by
    unfold bindC
    rw [Cu fun w hw=>h w (List.mem_cons_of_mem _ hw)]
    split
    · rfl
    · have:x≠n:=by rintro rfl;exact h v List.mem_cons_self
      simp [this]
theorem Cv {kindOf:Str→Option NameKind}{x:Str}{v:Value}:∀ {P:List Str}{vs:List Value}{i:Nat}{m:Str→Option Value},P.Nodup→P[i]?=some x→vs[i]?=some v→kindOf x=some .local →
  bindL kindOf (P.zip vs) m x=some v
 |[],_,_,_,_,h,_,_=>by simp at h
 |_::_,[],_,_,_,_,h,_=>by simp at h
 |p::P,w::vs,0,m,nd,h1,h2,hk=>by
  simp at h1 h2;subst h1;subst h2
  show bindL kindOf ((p,w)::P.zip vs) m p=_
  unfold bindL
  rw [Ct fun v hv=>(List.nodup_cons.mp nd).1 (List.of_mem_zip hv).1,if_pos hk]
  simp
 |p::P,w::vs,i+1,m,nd,h1,h2,hk=>by
  show bindL kindOf ((p,w)::P.zip vs) m x=_
  unfold bindL
  exact Cv (i:=i) (List.nodup_cons.mp nd).2 (by simpa using h1) (by simpa using h2) hk
theorem Cw {kindOf:Str→Option NameKind}{x:Str}{v:Value}:∀ {P:List Str}{vs:List Value}{i:Nat}{m:Str→Option Value},P.Nodup→P[i]?=some x→vs[i]?=some v→kindOf x≠some .local →
  bindC kindOf (P.zip vs) m x=some v
 |[],_,_,_,_,h,_,_=>by simp at h
 |_::_,[],_,_,_,_,h,_=>by simp at h
 |p::P,w::vs,0,m,nd,h1,h2,hk=>by
  simp at h1 h2;subst h1;subst h2
  show bindC kindOf ((p,w)::P.zip vs) m p=_
  unfold bindC
  rw [Cu fun v hv=>(List.nodup_cons.mp nd).1 (List.of_mem_zip hv).1,if_neg hk]
  simp
 |p::P,w::vs,i+1,m,nd,h1,h2,hk=>by
  show bindC kindOf ((p,w)::P.zip vs) m x=_
  unfold bindC
  exact Cw (i:=i) (List.nodup_cons.mp nd).2 (by simpa using h1) (by simpa using h2) hk
noncomputable def start (N:List Str) (vs:List V):St:=vs.map some++List.replicate (N.length-vs.length) none
noncomputable def kC (CX:iG) (P:Program) (w:World) (K:PySem.W.Frag) (mg:Str→Option Value) (base:Heap) (N:List Str) (qual:Str) (scope:Scope) (f:Addr) (cd:Value) (A:Around) (outer:List Env) (s:Shared) (H:Hp) (E:XK):Cx where
 prog:=P
 w:=w
 K:=K
 mg:=mg
 base:=base
 A:=A.deeper (envOfC qual scope s.heap.objs.size f cd)
 N:=N
 s₀:=s
 H₀:=H
 env:=envOfC qual scope s.heap.objs.size f cd
 outer:=outer
 stack:=envOfC qual scope s.heap.objs.size f cd::outer
 ex:=[]
 calm:=true
 fn:=fun _=>true
 pn:=[]
 xe:=fun e s'=>wpAny (model P w) (A.deeper (envOfC qual scope s.heap.objs.size f cd)) (leaving (envOfC qual scope s.heap.objs.size f cd) e) (fun _ z4=>CX outer H s E e z4) (fun e' z4=>CX outer H s E e' z4) s'
theorem C2 {sc:Scope}{n:Nat}{x:Str} (h:sc.names.lookup x=some .cell):∃ c,(cellsFrom n sc.names []).lookup x=some c:=by
 have q:=PySem.W.cellsFrom_some sc.names n [] (.inl h)
 exact Option.isSome_iff_exists.mp q
theorem Mj {CX:iG}{P:Program}{w:World}{K:PySem.W.Frag}{mg:Str→Option Value}{base:Heap}{N ps:List Str}{qual:Str}{scope:Scope}{f:Addr}{cd:Value}{A:Around}{outer:List Env}{s s1:Shared}{H:Hp}{E:XK}{us:List Value}{vs:List V}
  (S:pZ N ps scope) (hd:A.handled=none) (e0:vd P w K mg base A outer s H) (hl:vs.length=ps.length) (r:Vals vs us)
  (x:InCallC s s.heap.objs.size (bindL (envOfC qual scope s.heap.objs.size f cd).kindOf (ps.zip us) fun _=>none) (cellsFrom (s.heap.objs.size+1) scope.names []) (bindC (envOfC qual scope s.heap.objs.size f cd).kindOf (ps.zip us) fun _=>none) s1) :
  Inv (kC CX P w K mg base N qual scope f cd A outer s H E) [] (start N vs) H s1:=by
 have kW:ps.length≤N.length:=by have:=congrArg List.length S.pre;rw [List.length_take] at this;omega
 obtain ⟨h1,tk,rfl,hk⟩:=x.done
 have qZ:∀ b:Addr,b∉(kC CX P w K mg base N qual scope f cd A outer s H E).ex:=fun b z=>absurd (show b∈([]:List Addr) from z) (by simp)
 refine ⟨⟨e0.mod,S.kind,rfl,rfl,Nat.le_refl _,fun y z c h1 h2=>?_,fun y hy=>?_,fun y c _ h=>?_,fun _=>hd,Around.frames_deeper e0.frames,.inr ⟨rfl,rfl⟩,fun b z=>absurd z (qZ b),e0.bs,e0.jU,fun b _ _=>qZ b,fun b z=>absurd z (qZ b),e0.iy,e0.oz⟩,
  rfl,e0.bare,Un.kept hk,⟨_,x.toInCall.ns,fun i y v h1 h2 h3=>?_⟩,fun y c h=>⟨_,x.cell y c h⟩,e0.aD.fresh (Nat.le_refl _),fun y c h=>?_,fun p hp=>absurd (show p∈([]:List (Addr×Obj)) from hp) (by simp),e0.aD.kept hk,?_⟩
 ·exact name_of_addr x.apart (PySem.mem_of_lookup h1) (PySem.mem_of_lookup h2)
 ·have hy:scope.names.lookup y=some .cell∨scope.names.lookup y=some .free:=hy
  rcases hy with hy|hy
  ·exact C2 hy
  ·exact absurd rfl (S.RL _ (PySem.mem_of_lookup hy))
 ·exact Nat.le_of_lt (x.above y c (PySem.mem_of_lookup h))
 ·have hi:i < vs.length:=by
   unfold start at h2
   by_cases hi:i < vs.length
   ·exact hi
   ·rw [List.getElem?_append_right (by simpa using hi)] at h2
    rw [List.getElem?_replicate] at h2
    split at h2<;>cases h2
  have ha:vs[i]?=some v:=by
   unfold start at h2
   rw [List.getElem?_append_left (by simpa using hi),List.getElem?_map] at h2
   cases e:vs[i]? with
   |none=>rw [e] at h2;cases h2
   |some a=>rw [e] at h2;cases h2;rfl
  obtain ⟨u,hu,rv⟩:=r.get ha
  have hp:ps[i]?=some y:=by
   rw [←S.pre,List.getElem?_take_of_lt (by omega)];exact h1
  have Ij:ps.Nodup:=by rw [←S.pre];exact S.nd.sublist (List.take_sublist _ _)
  refine ⟨u,rv,?_⟩
  rcases S.par y (List.mem_of_getElem? hp) with k|k
  ·exact .inl ⟨k,Cv Ij hp hu k⟩
  ·obtain ⟨c,e⟩:=C2 (n:=s.heap.objs.size+1) k
   refine .inr ⟨.inl k,c,e,?_⟩
   have q:=x.cell y c e
   rw [Cw Ij hp hu (by show scope.names.lookup y≠_;rw [k];decide)] at q
   exact q
 ·exact e0.aD.fresh (Nat.le_of_lt (x.above y c (PySem.mem_of_lookup h)))
 ·unfold start
  show _=N.length
  rw [List.length_append,List.length_map,List.length_replicate]
  omega
theorem FW {CX:iG}{P:Program}{w:World}{K:PySem.W.Frag}{mg:Str→Option Value}{base:Heap}{k:Nat}{f:Addr}{name qual:Str}{params:Arguments}{body:List Stmt}{scope:Scope}{dV kV doc pm bM ct oc:Value}{an od:Option Addr}
  {iH:Array (Option Value)}{N ps:List Str}{sp:Sp} (lk:K.lookup f=some ⟨oc,od,.func (PySem.W.fnOf name qual params body scope dV kV doc pm an bM ct),iH⟩) (gx:PySem.W.codeIn K bM qual=true) (S:pZ N ps scope)
  (len:∀ vs H Q E,sp vs H Q E→vs.length=ps.length)
  (qq:∀ (A:Around) (outer:List Env) (s:Shared) (H:Hp) (vs:List V) (Q:VK) (E:XK),du k (A.deeper (envOfC qual scope s.heap.objs.size f bM))→sp vs H Q E →
   ∃ t,fG (kC CX P w K mg base N qual scope f bM A outer s H E) body t∧t { nx:=fun _ H'=>Q .non H',rt:=Q } (start N vs) H) :
  jL P w K mg base CX (k+1) f (PySem.W.fnOf name qual params body scope dV kV doc pm an bM ct) ps sp:=by
 refine ⟨len,fun A outer s H args us vs Q E hr e0 hb r jc=>?_⟩
 have hl:=len _ _ _ _ jc
 have KX:K.In s.heap:=e0.mod.zU.keeps fun b o e=>(e0.bs b o e).1
 have lim:s.heap.NoLimit:=e0.mod.nolimit.keeps fun b o e=>(e0.bs b o e).1
 have UK:∀ y∈ps.zip us,scope.names.lookup y.1=some .local∨(scope.names.lookup y.1=some .cell∧((cellsFrom (s.heap.objs.size+1) scope.names []).lookup y.1).isSome=true):=fun ⟨n,v⟩ hy=>by
  rcases S.par n (List.of_mem_zip hy).1 with q|q
  ·exact .inl q
  ·exact .inr ⟨q,PySem.W.cellsFrom_some _ _ _ (.inl q)⟩
 refine codeAny_call_function hr.depth (KX _ _ lk) rfl S.co S.gen rfl (PySem.W.codeRec_of KX gx) (hb _ _ _ _ ?_)
 refine wpAny_newFunctionEnv_cells S.kind UK fun env he s1 x=>?_
 subst he
 refine ⟨lim.keeps x.toInCall.keep,codeAny_func ?_⟩
 obtain ⟨t,ht,hq⟩:=qq A outer s H vs Q E (hr.deeper _) jc
 have I:Inv (kC CX P w K mg base N qual scope f bM A outer s H E) [] (start N vs) H s1:=Mj S hr.hd e0 hl r x
 refine wpAny_mono (ht [] s1 (start N vs) H _ I hq) (fun fl s' hs=>?_) fun e s' hs=>hs
 have fin:∀ {σ':St}{H':Hp}{v:V}{u:Value},Inv (kC CX P w K mg base N qual scope f bM A outer s H E) [] σ' H' s'→RelV v u→Q v H'→CE outer P w H s Q u s' :=
  fun {σ' H' v u} J rv q=>⟨v,H',J.os,J.bare,J.base,J.aD,rv,q⟩
 cases fl with
 |ret u =>
  obtain ⟨v,σ',H',J,rv,q⟩:=hs
  exact fin J rv q
 |next =>
  obtain ⟨σ',H',J,q⟩:=hs
  exact fin (v:=V.non) (u:=Value.none) J rfl q
 |brk =>
  obtain ⟨_,_,_,q⟩:=hs
  exact False.elim q
 |cont =>
  obtain ⟨_,_,_,q⟩:=hs
  exact False.elim q
section
variable {X:Cx}{x:Str}{p pos:Pos}{e:Expr}{es:List Expr}{t:TA}{id T:String}{r:List V→Hp→VK→Prop}
noncomputable def vB (r:List V→Hp→VK→Prop) (t:TA):TE:=fun σ H Q=>t σ H fun vs H1=>r vs H1 Q
theorem tQ (hc:gJ X (.builtin id) r) (hg:Gl X x) (hm:X.mg x=none) (hv:bootBuiltins x=some (.builtin id)) (ha:PA X (e::es) t) (hn:x ≠ "__name__" := by decide) (jX:(x==("__debug__" : Str))=false:=by decide)
  (he:starEach (e::es) X.env=(false,eval e X.env)::starEach es X.env:=by rfl) (kW:(backTo pos (starEach es X.env)).any (·.1)=false:=by rfl):PE X (.Call (.Name x p) (e::es) [] pos) (vB r t):=by
 intro pins s σ H Q I h
 refine wpAny_Call_Name_kw (kj I hg hm hv ?_ hn jX)
 exact PyProof.Rows.callWith_builtin1 (aF (ha pos pins s σ H _ I h) fun us s1 ⟨vs,H1,I1,r1,q1⟩=>hc pins s1 σ H1 vs us Q I1 r1 q1) he kW
theorem xA (hc:gJ X (.type T) r) (hg:Gl X x) (hm:X.mg x=none) (hv:bootBuiltins x=some (.type T)) (ha:PA X (e::es) t) (hn:x ≠ "__name__" := by decide) (jX:(x==("__debug__" : Str))=false:=by decide)
  (he:starEach (e::es) X.env=(false,eval e X.env)::starEach es X.env:=by rfl) (kW:(backTo pos (starEach es X.env)).any (·.1)=false:=by rfl):PE X (.Call (.Name x p) (e::es) [] pos) (vB r t):=by
 intro pins s σ H Q I h
 refine wpAny_Call_Name_kw (kj I hg hm hv ?_ hn jX)
 exact PyProof.Rows.callWith_type1 (aF (ha pos pins s σ H _ I h) fun us s1 ⟨vs,H1,I1,r1,q1⟩=>hc pins s1 σ H1 vs us Q I1 r1 q1) he kW
end
end L2
namespace HT
open PySem PyProof.Rows
section
open PySem.SeqAt
open PySem.AutoSeq1 (wpAny_loadPart')
open PySem.MeetsSeq PySem.MeetsSeq2 PySem.MeetsSeq3
end
section
variable {prog:Program}{w:World}{A:Around}{E:Value→Shared→Prop}{s:Shared}
theorem O6 {t b:Addr}{vs ws:List Value}{Q:Value→Shared→Prop} (ht:IsTup s.heap t vs.toArray) (hb:IsTup s.heap b ws.toArray) (hv:vs≠[])
  (h1:ws=[]→Q (.ref t) s) (h2:ws≠[]→Q (.ref s.heap.objs.size) { s with heap:=s.heap.push { cls:=.type "tuple",data:=.seq (vs++ws).toArray } })
  (hsz:vs.length+ws.length≤sizeLine):wpAny (model prog w) A (binaryOp .Add (.ref t) (.ref b)) Q E s:=by
 obtain ⟨⟨cls,dd,data,sl⟩,ho,hc,n,hd⟩:=id ht
 obtain ⟨⟨Wy,vC,data2,oE⟩,gY,fX,n2,hd2⟩:=id hb
 simp only at hc hd fX hd2
 subst hc hd fX hd2
 have e:vs.toArray++ws.toArray=(vs++ws).toArray:=by simp
 by_cases hw:ws=[]
 ·exact concat_meets ⟨_,ho,rfl⟩ ⟨_,gY,rfl⟩ noFill_tuple_add seq_tuple_add PySem.F.slot_tuple_add PySem.F.entry_tuple_add (PySem.F.args_tuple_add_2 _ _)
   (tuple_addW1 t b vs.toArray ws.toArray n n2 dd vC sl oE (by simpa using hv) (by simp [hw])) ⟨ho,gY,h1 hw⟩
 ·refine concat_meets ⟨_,ho,rfl⟩ ⟨_,gY,rfl⟩ noFill_tuple_add seq_tuple_add PySem.F.slot_tuple_add PySem.F.entry_tuple_add (PySem.F.args_tuple_add_2 _ _)
   (tuple_addW2 t b vs.toArray ws.toArray n n2 dd vC sl oE (by simpa using hv) (by simpa using hw) (by rw [List.size_toArray,List.size_toArray];exact hsz)) ⟨ho,gY,?_⟩
  rw [e]
  exact h2 hw
noncomputable def aT (n d:Nat):Option Int→Nat
 |none=>d
 |some v=>if v < 0 then (v+(n:Int)).toNat else min v.toNat n
theorem RM (n d:Nat) (hd:d≤n) (o:Option Int):aT n d o≤n:=by
 cases o with
 |none=>exact hd
 |some v =>
  show (if v < 0 then (v+(n:Int)).toNat else min v.toNat n)≤n
  by_cases hv:v < 0
  ·rw [if_pos hv];omega
  ·rw [if_neg hv];exact Nat.min_le_right _ _
theorem DS (v:Int) (n d:Nat):(if v < 0 then max (v+(n:Int)) 0 else min v (n:Int))=((aT n d (some v):Nat):Int):=by
 show (if v < 0 then max (v+(n:Int)) 0 else min v (n:Int))=(((if v < 0 then (v+(n:Int)).toNat else min v.toNat n):Nat):Int)
 by_cases hv:v < 0
 ·simp only [if_pos hv];omega
 ·simp only [if_neg hv];omega
theorem LD (lo hi:Option Int) (n:Nat):Builtin.Slice.sliceAdjust lo hi 1 (n:Int)=(((aT n 0 lo:Nat):Int),((aT n n hi:Nat):Int)):=by
 have h1:¬ ((1:Int) < 0):=by omega
 unfold Builtin.Slice.sliceAdjust
 simp only [h1,if_false]
 refine Prod.ext ?_ ?_
 ·cases lo with
  |none=>rfl
  |some v=>exact DS v n 0
 ·cases hi with
  |none=>rfl
  |some v=>exact DS v n n
theorem LJ (i j:Nat):Builtin.Slice.slicePlaces (i:Int) (j:Int) 1=j-i:=by
 unfold Builtin.Slice.slicePlaces
 have h1:(1:Int) > 0:=by omega
 simp only [h1,if_true,Int.ediv_one]
 split<;>omega
theorem B2 {v:Value}{o:Option Int}{Q:Option Int→Shared→Prop} (p:IsPart v o) (h:Q o s):wpAny (model prog w) A (Builtin.Slice.slicePartIndex v) Q E s:=by
 cases p with
 |none=>exact slicePart_none h
 |int i t=>exact slicePart_int h
theorem Bj {sl:Addr}{vl vu:Value}{lo hi:Option Int}{n:Nat}{Q:Int×Int×Nat→Shared→Prop} (hs:s.heap.IsSliceOf sl vl vu .none) (pl:IsPart vl lo) (pu:IsPart vu hi)
  (h:Q (((aT n 0 lo:Nat):Int),1,aT n n hi-aT n 0 lo) s):wpAny (model prog w) A (Builtin.Slice.sliceApplied (.ref sl) (pure (n:Int))) Q E s:=by
 obtain ⟨os,mw,gZ,iI⟩:=id hs
 unfold Builtin.Slice.sliceApplied Builtin.Slice.sliceFields
 refine wpAny_bind (wpAny_bind (wpAny_field mw iI (x:=vl) rfl (wpAny_bind (wpAny_field mw iI (x:=vu) rfl (wpAny_bind (wpAny_field mw iI (x:=.none) rfl (wpAny_pure ?_)))))))
 refine wpAny_bind (slicePart_none ?_)
 show wpAny _ _ (if ((1:Int)==0)=true then _ else _) _ _ s
 rw [if_neg (by decide)]
 refine wpAny_bind (B2 pl (wpAny_bind (B2 pu (wpAny_bind (wpAny_pure ?_)))))
 show wpAny _ _ (match Builtin.Slice.sliceAdjust lo hi 1 (n:Int) with | (lo,hi)=>pure (lo,(1:Int),Builtin.Slice.slicePlaces lo hi 1)) _ _ s
 rw [LD lo hi n]
 show wpAny _ _ (pure (((aT n 0 lo:Nat):Int),(1:Int),Builtin.Slice.slicePlaces ((aT n 0 lo:Nat):Int) ((aT n n hi:Nat):Int) 1)) _ _ s
 rw [LJ]
 exact wpAny_pure h
theorem Ni (xs:Array Value) (i k:Nat):((List.range k).filterMap fun (m:Nat)=>xs[((i:Int)+(m:Int)*1).toNat]?).toArray=((xs.toList.drop i).take k).toArray:=by
 have e:(fun (m:Nat)=>xs[((i:Int)+(m:Int)*1).toNat]?)=fun m=>xs[i+m]?:=by
  funext m
  have:((i:Int)+(m:Int)*1).toNat=i+m:=by omega
  rw [this]
 rw [e]
 have:=pick_run xs i k
 rw [List.filterMap_map] at this
 have e2:((fun x=>xs[x]?)∘fun x=>i+x)=fun m=>xs[i+m]?:=rfl
 rw [e2] at this
 rw [this]
theorem KZ {t sl:Addr}{items:Array Value}{vl vu:Value}{lo hi:Option Int}{Q:Value→Shared→Prop} (ht:IsTup s.heap t items) (hs:s.heap.IsSliceOf sl vl vu .none) (pl:IsPart vl lo) (pu:IsPart vu hi)
  (hw:¬ (aT items.size 0 lo=0∧aT items.size items.size hi=items.size))
  (h:Q (.ref s.heap.objs.size) { s with heap:=s.heap.push { cls:=.type "tuple",data:=.seq ((items.toList.drop (aT items.size 0 lo)).take (aT items.size items.size hi-aT items.size 0 lo)).toArray } })
  (hsz:items.size≤sizeLine):wpAny (model prog w) A (getItem (.ref t) (.ref sl)) Q E s:=by
 have uH:sizeOk (.seq ((items.toList.drop (aT items.size 0 lo)).take (aT items.size items.size hi-aT items.size 0 lo)).toArray):=by
  show ((items.toList.drop (aT items.size 0 lo)).take (aT items.size items.size hi-aT items.size 0 lo)).toArray.size≤sizeLine
  rw [List.size_toArray,List.length_take,List.length_drop,Array.length_toList]
  omega
 have hj:aT items.size items.size hi≤items.size:=RM _ _ (Nat.le_refl _) hi
 obtain ⟨os,mw,gZ,iI⟩:=id hs
 have z5:s.TypeIs (.ref sl) "slice" := ⟨os,mw,gZ⟩
 unfold getItem
 try with_reducible refine wpAny_holding ?_
 first|refine wpAny_bind (wpAny_pure ?_)|skip
 refine wpAny_bind (wpAny_sequenceKey ht.typeIs (by decide) ?_)
 refine wpAny_bind (wpAny_callSpecial?_slot (name:=Str.ofString "__getitem__") ht.typeIs PyProof.Rows.slot_tuple_getitem
  (wpAny_call_entry PyProof.Rows.slot_tuple_getitem ht.typeIs entry_tuple_getitem ?_ (args_tuple_getitem _ _)))
 show wpAny _ _ (Builtin.Tuple.tupleItemsOf (.ref t) >>= _) _ _ s
 refine wpAny_bind (tupleItemsOf_ ht ?_)
 refine wpAny_bind (wpAny_typeOf z5 ?_)
 rw [if_pos (by decide)]
 refine wpAny_bind (Bj hs pl pu ?_)
 have oF:¬ ((((aT items.size 0 lo:Nat):Int)==0&&(1:Int)==1&&(aT items.size items.size hi-aT items.size 0 lo)==items.size)=true):=by
  intro q
  rw [Bool.and_eq_true,Bool.and_eq_true] at q
  have q1:((aT items.size 0 lo:Nat):Int)=0:=eq_of_beq q.1.1
  have q2:aT items.size items.size hi-aT items.size 0 lo=items.size:=eq_of_beq q.2
  exact hw ⟨by omega,by omega⟩
 show wpAny _ _ (if (((aT items.size 0 lo:Nat):Int)==0&&(1:Int)==1&&(aT items.size items.size hi-aT items.size 0 lo)==items.size)=true then _ else _) _ _ s
 rw [if_neg oF,Ni]
 first
  |exact wpAny_bind (m:=Builtin.Tuple.tupleExact _) (wpAny_newObj_type (wpAny_pure ⟨_,rfl,wpAny_pure h⟩) uH)
  |exact wpAny_bind (m:=Builtin.Tuple.tupleExact _) (wpAny_newObj_type (wpAny_bind (wpAny_pure (wpAny_pure ⟨_,rfl,wpAny_pure h⟩))) uH)
  |exact wpAny_bind (wpAny_bind (m:=Builtin.Tuple.tupleExact _) (wpAny_newObj_type (wpAny_pure (wpAny_pure ⟨_,rfl,wpAny_pure h⟩)) uH))
  |exact wpAny_bind (wpAny_bind (m:=Builtin.Tuple.tupleExact _) (wpAny_newObj_type (wpAny_pure ⟨_,rfl,wpAny_pure h⟩) uH))
end
end HT
namespace L2
open PySem PySem.Spec PyProof.Rows
noncomputable abbrev TO:=St→Hp→(Option Int→Hp→Prop)→Prop
def PO (X:Cx) (e:Option Expr) (t:TO):Prop :=
 ∀ (pins:List (Addr×Obj)) (s:Shared) (σ:St) (H:Hp) (Q:Option Int→Hp→Prop),Inv X pins σ H s→t σ H Q →
  wpAny (model X.prog X.w) X.A (evalPart e X.env) (fun u s'=>∃ o H',Inv X pins σ H' s'∧IsPart u o∧Q o H') X.xe s
noncomputable def DT:TO:=fun _ H Q=>Q none H
noncomputable def FX (t:TE):TO:=fun σ H Q=>t σ H fun x H1=>∃ i,x=.int i∧Q (some i) H1
section
variable {X:Cx}{e:Expr}{te:TE}{lo hi:Option Expr}{tl th:TO}{pos p2:Pos}
theorem O7:PO X none DT:=by
 intro pins s σ H Q I h
 rw [evalPart_none]
 exact wpAny_pure ⟨none,H,I,.none,h⟩
theorem O8 (h:PE X e te):PO X (some e) (FX te):=by
 intro pins s σ H Q I hw
 rw [evalPart_some]
 refine aF (h pins s σ H _ I hw) fun u s1 ⟨x,H1,I1,r1,q1⟩=>?_
 obtain ⟨i,rfl,q⟩:=q1
 obtain ⟨t,rfl⟩:=r1
 exact ⟨some i,H1,I1,.int i t,q⟩
def jY (X:Cx) (r:V→Option Int→Option Int→Hp→VK→Prop):Prop :=
 ∀ (pins:List (Addr×Obj)) (s:Shared) (σ:St) (H:Hp) (x:V) (v vl vu:Value) (lo hi:Option Int) (sl:Addr) (Q:VK),Inv X pins σ H s→RelV x v→s.heap.IsSliceOf sl vl vu .none→IsPart vl lo→IsPart vu hi→r x lo hi H Q →
  ∃ T id,typeLookup (.type T) "__getitem__" = pure (some (.builtin id))∧s.TypeIs v T∧wpAny (model X.prog X.w) X.A (getItem v (.ref sl)) (EP X pins σ Q) X.xe s
noncomputable def Ik (r:V→Option Int→Option Int→Hp→VK→Prop) (te:TE) (tl th:TO):TE:=fun σ H Q=>te σ H fun x H1=>tl σ H1 fun l H2=>th σ H2 fun u H3=>r x l u H3 Q
theorem Nj {r:V→Option Int→Option Int→Hp→VK→Prop} (hr:jY X r) (he:PE X e te) (hl:PO X lo tl) (hu:PO X hi th):PE X (.Subscript e (.Slice lo hi none p2) pos) (Ik r te tl th):=by
 intro pins s σ H Q I h
 refine Subscript_ (aF (he pins s σ H _ I h) fun v s1 ⟨x,H1,I1,r1,q1⟩=>?_)
 refine wpAny_Slice (aF (hl pins s1 σ H1 _ I1 q1) fun vl s2 ⟨l,H2,I2,pl,q2⟩=>aF (hu pins s2 σ H2 _ I2 q2) fun vu s3 ⟨u,H3,I3,pu,q3⟩=>?_)
 rw [evalPart_none]
 refine wpAny_pure ?_
 have I4:Inv X pins σ H3 { s3 with heap:=s3.heap.push { cls:=.type "slice",data:=.fields #[vl,vu,.none] } }:=I3.kept (t':=s3.toks) fun b ob q=>Heap.get?_push_of_some _ q
 obtain ⟨T,id,hT,ht,hg⟩:=hr pins { s3 with heap:=s3.heap.push { cls:=.type "slice",data:=.fields #[vl,vu,.none] } } σ H3 x v vl vu l u s3.heap.objs.size Q I4 r1 (Heap.IsSliceOf.new ..) pl pu q3
 show wpAny (model X.prog X.w) X.A (subscriptTail e (.Slice lo hi none p2) v (.ref s3.heap.objs.size)) (EP X pins σ Q) X.xe { s3 with heap:=s3.heap.push { cls:=.type "slice",data:=.fields #[vl,vu,.none] } }
 exact tail_any (ops:=[.ref s3.heap.objs.size,v]) ht hT hg (by with_unfolding_all rfl)
noncomputable def iA (xs:List V) (lo hi:Option Int):List V:=(xs.drop (HT.aT xs.length 0 lo)).take (HT.aT xs.length xs.length hi-HT.aT xs.length 0 lo)
theorem BM (xs:List V) (lo hi:Option Int):(iA xs lo hi).length≤xs.length:=by
 unfold iA
 rw [List.length_take,List.length_drop]
 omega
def Wz (K:PySem.W.Frag):V→Option Int→Option Int→Hp→VK→Prop:=fun x lo hi H Q=>∃ a xs,x=.ref a∧bz K H a xs ∧
 ¬ (HT.aT xs.length 0 lo=0∧HT.aT xs.length xs.length hi=xs.length)∧∀ p,H p=none→Q (.ref p) (upd H p (.tup (iA xs lo hi)))
theorem RN:jY X (Wz X.K):=by
 intro pins s σ H x v vl vu lo hi sl Q I rx hs pl pu h
 obtain ⟨a,xs,rfl,hx,hw,q⟩:=h
 cases rx
 obtain ⟨its,r,ht,hz⟩:=I.tuple hx
 have hlen:its.toArray.size=xs.length:=by rw [List.size_toArray];exact r.length.symm
 refine ⟨"tuple",_,PyProof.Rows.slot_tuple_getitem.lookup,ht.typeIs,?_⟩
 refine HT.KZ ht hs pl pu (by rw [hlen];exact hw) ?_ (by rw [hlen];exact hz)
 rw [hlen]
 refine ⟨.ref s.heap.objs.size,_,I.laid (t':=s.toks) (o:=.tup (iA xs lo hi)) (fun b ob q=>Heap.get?_push_of_some _ q) (Nat.le_refl _) ?_,rfl,q _ (I.aD.fresh (Nat.le_refl _))⟩
 exact ⟨Nat.le_trans (BM xs lo hi) hz,_,(r.drop (HT.aT xs.length 0 lo)).take (HT.aT xs.length xs.length hi-HT.aT xs.length 0 lo),IsTup.new _ _⟩
noncomputable def UL (K:PySem.W.Frag):R2:=fun x y H Q=>∃ a b xs ys,x=.ref a∧y=.ref b∧bz K H a xs∧bz K H b ys∧xs≠[]∧xs.length+ys.length≤sizeLine ∧
 (ys=[]→Q (.ref a) H)∧(ys≠[]→∀ p,H p=none→Q (.ref p) (upd H p (.tup (xs++ys))))
theorem Vals.xT {xs:List V}{us:List Value} (r:Vals xs us):us=[]↔xs=[]:=by
 cases r with
 |nil=>simp
 |cons _ _=>simp
theorem O9:bu X (binaryOp .Add) (UL X.K):=by
 intro pins s σ H x y v u Q I rx ry h
 obtain ⟨a,b,xs,ys,rfl,rfl,ha,hb,hx,hz,q1,q2⟩:=h
 cases rx
 cases ry
 obtain ⟨its,r1,p1,_⟩:=I.tuple ha
 obtain ⟨qB,r2,p2,_⟩:=I.tuple hb
 refine HT.O6 p1 p2 (fun z=>hx (r1.xT.mp z)) (fun z=>⟨.ref a,H,I,rfl,q1 (r2.xT.mp z)⟩) (fun z=>?_) (by rw [←r1.length,←r2.length];exact hz)
 refine ⟨.ref s.heap.objs.size,_,I.laid (t':=s.toks) (o:=.tup (xs++ys)) (fun b ob q=>Heap.get?_push_of_some _ q) (Nat.le_refl _) ?_,rfl,q2 (fun w=>z (r2.xT.mpr w)) _ (I.aD.fresh (Nat.le_refl _))⟩
 exact ⟨by rw [List.length_append];exact hz,_,r1.append r2,IsTup.new _ _⟩
end
noncomputable def df (n:Nat) (i:Int):Option Nat:=if 0≤i then (if i < n then some i.toNat else none) else if -(n:Int)≤i then some (i+n).toNat else none
noncomputable def bw {α:Type} (xs:List α) (i:Int):Option α:=(df xs.length i).bind fun j=>xs[j]?
theorem DU {n:Nat}{i:Int}{j:Nat} (h:df n i=some j):seqIndex? i n=some j∧j < n∧-(n:Int)≤i∧i < n:=by
 unfold df at h
 by_cases h0:0≤i
 ·rw [if_pos h0] at h
  by_cases h1:i < n
  ·rw [if_pos h1] at h
   have e:i.toNat=j:=Option.some.inj h
   exact ⟨by rw [seqIndex_of h0 h1,e],by omega,by omega,h1⟩
  ·rw [if_neg h1] at h;cases h
 ·rw [if_neg h0] at h
  by_cases h1:-(n:Int)≤i
  ·rw [if_pos h1] at h
   have e:(i+n).toNat=j:=Option.some.inj h
   exact ⟨by rw [seqIndex_neg (by omega) h1,e],by omega,h1,by omega⟩
  ·rw [if_neg h1] at h;cases h
theorem gF {α:Type}{xs:List α}{i:Int}{v:α} (h:bw xs i=some v):∃ j,seqIndex? i xs.length=some j∧xs[j]?=some v∧j < xs.length∧-(xs.length:Int)≤i∧i < xs.length:=by
 unfold bw at h
 cases e:df xs.length i with
 |none=>rw [e] at h;cases h
 |some j =>
  rw [e] at h
  obtain ⟨h1,h2,h3,h4⟩:=DU e
  exact ⟨j,h1,h,h2,h3,h4⟩
theorem lA {α:Type}{xs:List α}{j:Nat}{v:α} (h:xs[j]?=some v):bw xs (j:Int)=some v:=by
 have hj:j < xs.length:=(List.getElem?_eq_some_iff.mp h).1
 have e:df xs.length (j:Int)=some j:=by
  unfold df
  rw [if_pos (by omega),if_pos (by omega)];simp
 unfold bw;rw [e];exact h
def DV (b:Expr):Prop:=∀ o i,subscripted b false o i=operate [o,i] (getItem o i)
def jf (X:Cx) (r:R2):Prop :=
 ∀ (value slice:Expr) (pins:List (Addr×Obj)) (s:Shared) (σ:St) (H:Hp) (x y:V) (v u:Value) (Q:VK),Inv X pins σ H s→RelV x v→RelV y u→r x y H Q →
  subscripted slice false v u=operate [v,u] (getItem v u)→wpAny (model X.prog X.w) X.A (subscriptTail value slice v u) (EP X pins σ Q) X.xe s
def vD (X:Cx) (id:String) (r:V→List V→Hp→VK→Prop):Prop :=
 ∀ (pins:List (Addr×Obj)) (s:Shared) (σ:St) (H:Hp) (x:V) (xs:List V) (v:Value) (us:List Value) (Q:VK),Inv X pins σ H s→RelV x v→Vals xs us→r x xs H Q →
  wpAny (model X.prog X.w) X.A (call (.builtin id) (v::us)) (EP X pins σ Q) X.xe s
section
variable {X:Cx}{a b:Expr}{ta tb:TE}{pos:Pos}
theorem jf.or {r r':R2} (h:jf X r) (h':jf X r'):jf X (fun x y H Q=>r x y H Q∨r' x y H Q):=by
 intro value slice pins s σ H x y v u Q I rx ry q hs
 rcases q with q|q
 ·exact h value slice pins s σ H x y v u Q I rx ry q hs
 ·exact h' value slice pins s σ H x y v u Q I rx ry q hs
theorem FY {r:R2} (hr:jf X r) (ha:PE X a ta) (hb:PE X b tb) (hs:DV b):PE X (.Subscript a b pos) (oD r ta tb):=by
 intro pins s σ H Q I h
 exact Subscript_ (za ha hb I h fun v u s2 x y H2 I2 rx ry q=>hr a b pins s2 σ H2 x y v u Q I2 rx ry q (hs _ _))
noncomputable def GN (K:PySem.W.Frag):R2:=fun x y H Q=>∃ p xs i v,x=.ref p∧y=.int i∧bL K H p xs∧bw xs i=some v∧Q v H
noncomputable def GO (K:PySem.W.Frag):R2:=fun x y H Q=>∃ p xs i v,x=.ref p∧y=.int i∧bz K H p xs∧bw xs i=some v∧Q v H
noncomputable def GP:R2:=fun x y H Q=>∃ z i c,x=.str z∧y=.int i∧z.length≤sizeLine∧bw z.cps.toList i=some c∧Q (.str ⟨#[c]⟩) H
theorem Pa:jf X (GN X.K):=by
 intro value slice pins s σ H x y v u Q I rx ry h hs
 obtain ⟨p,xs,i,z,rfl,rfl,hq,he,q⟩:=h
 cases rx
 obtain ⟨t,rfl⟩:=ry
 obtain ⟨its,r,pl,hz⟩:=I.list hq
 obtain ⟨j,h1,h2,h3,h4,h5⟩:=gF he
 obtain ⟨w,ew,iJ⟩:=r.get h2
 have hl:=r.length
 have hn:=nr
 have fin:EP X pins σ Q w s:=⟨z,H,I,iJ,q⟩
 by_cases h0:0≤i
 ·have hj:i.toNat=j:=by
   rw [seqIndex_of h0 h5] at h1
   exact Option.some.inj h1
  exact item_listR pl.isList h0 (by omega) (by rw [hj];simpa using ew) fin hs
 ·have hj:(i+(its.toArray.size:Int)).toNat=j:=by
   rw [seqIndex_neg (by omega) h4] at h1
   rw [List.size_toArray,←hl]
   exact Option.some.inj h1
  exact subscriptTail_builtinR (x:=w) pl.isList.typeIs slot_list_getitem.lookup
   (wpAny_getItem_list_neg (Q:=fun r s'=>r=w∧EP X pins σ Q r s') pl.isList (by omega) (by rw [List.size_toArray]<;>omega) (by omega) (by rw [hj];simpa using ew) ⟨rfl,fin⟩) hs
theorem RP:jf X (GO X.K):=by
 intro value slice pins s σ H x y v u Q I rx ry h hs
 obtain ⟨p,xs,i,z,rfl,rfl,hq,he,q⟩:=h
 cases rx
 obtain ⟨t,rfl⟩:=ry
 obtain ⟨its,r,pl,hz⟩:=I.tuple hq
 obtain ⟨j,h1,h2,h3,h4,h5⟩:=gF he
 obtain ⟨w,ew,iJ⟩:=r.get h2
 have hl:=r.length
 have hn:=nr
 have fin:EP X pins σ Q w s:=⟨z,H,I,iJ,q⟩
 exact subscriptTail_builtinR (x:=w) pl.typeIs slot_tuple_getitem.lookup
  (getItem_tuple (j:=j) (Q:=fun r s'=>r=w∧EP X pins σ Q r s') pl (by omega) (by omega) (by rw [List.size_toArray,←hl];exact h1) (by simpa using ew) ⟨rfl,fin⟩) hs
theorem RQ:jf X GP:=by
 intro value slice pins s σ H x y v u Q I rx ry h hs
 obtain ⟨z,i,c,rfl,rfl,hz,he,q⟩:=h
 obtain ⟨t,rfl⟩:=rx
 obtain ⟨t',rfl⟩:=ry
 obtain ⟨j,h1,h2,h3,h4,h5⟩:=gF he
 have hl:z.cps.toList.length=z.length:=by simp [Str.length]
 rw [hl] at h1 h4 h5
 have hn:=nr
 exact tail_any (typeIs_str s z t) slot_str_getitem.lookup (getItem_str (c:=c) (by
  have e1:decide (i < -(2 ^ 63:Int))=false:=decide_eq_false (by omega)
  have e2:decide (i≥2 ^ 63)=false:=decide_eq_false (by omega)
  rw [e1,e2,Bool.or_false]) (by rw [h1];simpa using h2) ⟨.str ⟨#[c]⟩,H,I.tok _,⟨_,rfl⟩,q⟩) hs
noncomputable def vE (K:PySem.W.Frag):R2:=fun x y H Q=>GN K x y H Q∨GO K x y H Q∨GP x y H Q
theorem RT:jf X (vE X.K):=Pa.or (RP.or RQ)
theorem LK (its:List Value) (n j:Nat) (u:Value):Obj.mapSeq (·.setIfInBounds j u) { cls:=.type "list",data:=.seq its.toArray n }={ cls:=.type "list",data:=.seq (its.set j u).toArray n }:=by
 simp [Obj.mapSeq]
theorem Inv.lst {pins:List (Addr×Obj)}{σ:St}{H:Hp}{s:Shared}{p:Addr}{xs:List V} (I:Inv X pins σ H s) (h:H p=some (.lst xs)) :
  ∃ (its:List Value) (n:Nat),Vals xs its∧s.heap.get? p=some { cls:=.type "list",data:=.seq its.toArray n }∧xs.length≤sizeLine:=by
 obtain ⟨z,its,n,r,e⟩:=I.aD p _ h
 exact ⟨its,n,r,e,z⟩
theorem Inv.RV {pins:List (Addr×Obj)}{σ:St}{H:Hp}{s:Shared}{p:Addr}{xs ys:List V}{its its':List Value}{n n':Nat}{f:Obj→Obj} (I:Inv X pins σ H s) (h:H p=some (.lst xs))
  (ho:s.heap.get? p=some { cls:=.type "list",data:=.seq its.toArray n }) (hf:f { cls:=.type "list",data:=.seq its.toArray n }={ cls:=.type "list",data:=.seq its'.toArray n' }) (r:Vals ys its') (hz:ys.length≤sizeLine) (t:Nat) :
  Inv X pins σ (upd H p (.lst ys)) { s with heap:=s.heap.update p f,toks:=t }:=by
 have e:(s.heap.update p f).get? p=some { cls:=.type "list",data:=.seq its'.toArray n' }:=by
  rw [Heap.get?_update_self f ho (by rw [hf]<;>rfl),hf]
 refine I.write (x:=p) (e:=p) (by rw [h];trivial) (.inl rfl) (fun b u hb q=>(Heap.get?_update_other _ _ (Ne.symm hb)).trans q) ⟨_,e⟩ ?_
 exact ⟨hz,its',n',r,e⟩
def FZ:V→V→V→Hp→(Hp→Prop)→Prop:=fun o i v H Q=>∃ p xs k j,o=.ref p∧i=.int k∧H p=some (.lst xs)∧df xs.length k=some j∧Q (upd H p (.lst (xs.set j v)))
theorem set_list:GF X FZ:=by
 intro pins s σ H o i v ov iv u Q I ro ri rv h
 obtain ⟨p,xs,k,j,rfl,rfl,hp,hj,q⟩:=h
 cases ro
 obtain ⟨t,rfl⟩:=ri
 obtain ⟨its,n,r,ho,hz⟩:=I.lst hp
 obtain ⟨h1,h2,h3,h4⟩:=DU hj
 have hl:=r.length
 have hn:=nr
 have I':Inv X pins σ (upd H p (.lst (xs.set j v))) { s with heap:=s.heap.update p (Obj.mapSeq (·.setIfInBounds j u)) } :=
  I.RV hp ho (LK its n j u) (r.set rv j) (by rw [List.length_set];exact hz) s.toks
 by_cases h0:0≤k
 ·have hk:k.toNat=j:=by
   rw [seqIndex_of h0 h4] at h1
   exact Option.some.inj h1
  exact PySem.W.ki_setAt ho h0 (by omega) (by rw [List.size_toArray,←hl];exact h4) (by rw [hk];exact ⟨_,I',q⟩)
 ·have hk:(k+(its.toArray.size:Int)).toNat=j:=by
   rw [seqIndex_neg (by omega) h3] at h1
   rw [List.size_toArray,←hl]
   exact Option.some.inj h1
  exact PySem.W.ki_setBack ho (by omega) (by rw [List.size_toArray,←hl];exact h3) (by omega) (by rw [hk];exact ⟨_,I',q⟩)
theorem K6 (lo hi:Option Int) (n:Nat):(sliceBounds lo hi none n).1=((HT.aT n 0 lo:Nat):Int)∧(sliceBounds lo hi none n).2.1=((HT.aT n n hi:Nat):Int)∧(sliceBounds lo hi none n).2.2=1:=by
 refine ⟨?_,?_,rfl⟩
 ·cases lo with
  |none=>simp [sliceBounds,HT.aT]
  |some i =>
   simp only [sliceBounds,HT.aT,Option.getD_none,show (1:Int) > 0 by decide,if_true]
   by_cases h:i < 0
   ·simp only [h,if_true]<;>omega
   ·simp only [h,if_false]<;>omega
 ·cases hi with
  |none=>simp [sliceBounds,HT.aT]
  |some i =>
   simp only [sliceBounds,HT.aT,Option.getD_none,show (1:Int) > 0 by decide,if_true]
   by_cases h:i < 0
   ·simp only [h,if_true]<;>omega
   ·simp only [h,if_false]<;>omega
theorem K3 (its:List Value) (lo hi:Option Int):slicePick its.toArray lo hi none=((its.drop (HT.aT its.length 0 lo)).take (HT.aT its.length its.length hi-HT.aT its.length 0 lo)).toArray:=by
 obtain ⟨h1,h2,h3⟩:=K6 lo hi its.toArray.size
 unfold slicePick
 rw [h1,h2,h3]
 simp only [sliceRange_one,pick_run,List.size_toArray]<;>rfl
def zg (K:PySem.W.Frag):V→Option Int→Option Int→Hp→VK→Prop:=fun x lo hi H Q=>∃ a xs,x=.ref a∧bL K H a xs∧∀ p,H p=none→Q (.ref p) (upd H p (.lst (iA xs lo hi)))
theorem Pb:jY X (zg X.K):=by
 intro pins s σ H x v vl vu lo hi sl Q I rx hs pl pu h
 obtain ⟨a,xs,rfl,hx,q⟩:=h
 cases rx
 obtain ⟨its,r,ht,hz⟩:=I.list hx
 have hlen:=r.length
 refine ⟨"list",_,slot_list_getitem.lookup,ht.isList.typeIs,?_⟩
 refine wpAny_getItem_list_slice ht.isList hs pl pu .none (by simp) ?_ (by rw [List.size_toArray]<;>omega)
 rw [K3,←hlen]
 refine ⟨.ref s.heap.objs.size,_,I.laid (t':=s.toks) (o:=.lst (iA xs lo hi)) (fun b ob q=>Heap.get?_push_of_some _ q) (Nat.le_refl _) ?_,rfl,q _ (I.aD.fresh (Nat.le_refl _))⟩
 exact ⟨Nat.le_trans (BM xs lo hi) hz,_,0,(r.drop (HT.aT xs.length 0 lo)).take (HT.aT xs.length xs.length hi-HT.aT xs.length 0 lo),Heap.get?_push_size _ rfl⟩
noncomputable def iU:V→Bool
 |.non=>true
 |.bl _=>true
 |.int _=>true
 |.str _=>true
 |_=>false
noncomputable def jZ:V→V→Bool
 |.non,.non=>true
 |.bl a,.bl b=>a==b
 |.bl a,.int b=>(if a then 1 else 0)==b
 |.int a,.bl b=>a==(if b then 1 else 0)
 |.int a,.int b=>a==b
 |.str a,.str b=>a==b
 |_,_=>false
theorem RW {A:Around}{s:Shared}{y x:V}{u v:Value} (ry:RelV y u) (rx:RelV x v) (fy:iU y=true) (fx:iU x=true):SeqAt.EqAt A s u v (jZ y x):=by
 cases y with
 |non =>
  cases ry
  cases x with
  |non=>cases rx;exact SeqAt.EqAt.same _
  |bl b=>cases rx;exact SeqAt.EqAt.none_bool b
  |int b=>obtain ⟨t,rfl⟩:=rx;exact SeqAt.EqAt.none_int b t
  |str b=>obtain ⟨t,rfl⟩:=rx;exact SeqAt.EqAt.none_str b t
  |_=>exact absurd (show false=true from fx) Bool.false_ne_true
 |bl a =>
  cases ry
  cases x with
  |non=>cases rx;exact SeqAt.EqAt.bool_none a
  |bl b=>cases rx;exact SeqAt.EqAt.bool_bool a b
  |int b=>obtain ⟨t,rfl⟩:=rx;exact SeqAt.EqAt.bool_int a b t
  |str b=>obtain ⟨t,rfl⟩:=rx;exact SeqAt.EqAt.bool_str a b t
  |_=>exact absurd (show false=true from fx) Bool.false_ne_true
 |int a =>
  obtain ⟨t',rfl⟩:=ry
  cases x with
  |non=>cases rx;exact SeqAt.EqAt.int_none a t'
  |bl b=>cases rx;exact SeqAt.EqAt.int_bool a t' b
  |int b=>obtain ⟨t,rfl⟩:=rx;exact SeqAt.EqAt.int_int a t' b t
  |str b=>obtain ⟨t,rfl⟩:=rx;exact SeqAt.EqAt.int_str a t' b t
  |_=>exact absurd (show false=true from fx) Bool.false_ne_true
 |str a =>
  obtain ⟨t',rfl⟩:=ry
  cases x with
  |non=>cases rx;exact SeqAt.EqAt.str_none a t'
  |bl b=>cases rx;exact SeqAt.EqAt.str_bool a t' b
  |int b=>obtain ⟨t,rfl⟩:=rx;exact SeqAt.EqAt.str_int a t' b t
  |str b=>obtain ⟨t,rfl⟩:=rx;exact SeqAt.EqAt.str_str a t' b t
  |_=>exact absurd (show false=true from fx) Bool.false_ne_true
 |_=>exact absurd (show false=true from fy) Bool.false_ne_true
noncomputable def fH (x:V) (u:Value):Bool:=match u with
 |.none=>jZ .non x
 |.bool b=>jZ (.bl b) x
 |.int i _=>jZ (.int i) x
 |.str z _=>jZ (.str z) x
 |_=>false
theorem EI {x y:V}{u:Value} (r:RelV y u) (f:iU y=true):fH x u=jZ y x:=by
 cases y with
 |non=>cases r;rfl
 |bl b=>cases r;rfl
 |int i=>obtain ⟨t,rfl⟩:=r;rfl
 |str z=>obtain ⟨t,rfl⟩:=r;rfl
 |_=>exact absurd (show false=true from f) Bool.false_ne_true
theorem p5 {x:V}:∀ {xs:List V}{us:List Value},Vals xs us→xs.all iU=true→us.any (fH x)=xs.any fun y=>jZ y x
 |_,_,.nil,_=>rfl
 |y::xs,u::us,.cons r t,f=>by
  rw [List.all_cons,Bool.and_eq_true] at f
  rw [List.any_cons,List.any_cons,EI r f.1,p5 t f.2]
theorem pV {A:Around}{s:Shared}{x:V}{v:Value} (rx:RelV x v) (fx:iU x=true):∀ {xs:List V}{us:List Value},Vals xs us→xs.all iU=true→∀ u∈us,SeqAt.EqAt A s u v (fH x u)
 |_,_,.nil,_=>fun u hu=>by cases hu
 |y::xs,u::us,.cons r t,f=>fun u' hu=>by
  rw [List.all_cons,Bool.and_eq_true] at f
  rcases List.mem_cons.mp hu with rfl|hu
  ·rw [EI r f.1];exact RW r rx f.1 fx
  ·exact pV rx fx t f.2 u' hu
noncomputable def dH (x:V) (xs:List V):Bool:=xs.any fun y=>jZ y x
noncomputable def q8 (K:PySem.W.Frag) (neg:Bool):R2:=fun x y H Q=>∃ p xs,y=.ref p∧(bL K H p xs∨bz K H p xs)∧iU x=true∧xs.all iU=true∧Q (.bl (if neg then !dH x xs else dH x xs)) H
theorem Ml:bu X (compareOp .In) (q8 X.K false):=by
 intro pins s σ H x y v u Q I rx ry h
 obtain ⟨p,xs,rfl,hq,fx,fs,q⟩:=h
 cases ry
 rcases hq with hq|hq
 ·obtain ⟨its,r,pl,hz⟩:=I.list hq
  refine SeqAt.in_listAt (fH x) pl.isList (fun w hw=>pV rx fx r fs w (by simpa using hw)) ⟨.bl _,H,I,rfl,?_⟩
  rw [show its.toArray.any (fH x)=its.any (fH x) by simp,p5 r fs]
  exact q
 ·obtain ⟨its,r,pl,hz⟩:=I.tuple hq
  refine SeqAt.in_tupleAt (fH x) pl (fun w hw=>pV rx fx r fs w (by simpa using hw)) ⟨.bl _,H,I,rfl,?_⟩
  rw [show its.toArray.any (fH x)=its.any (fH x) by simp,p5 r fs]
  exact q
theorem K7:bu X (compareOp .NotIn) (q8 X.K true):=by
 intro pins s σ H x y v u Q I rx ry h
 obtain ⟨p,xs,rfl,hq,fx,fs,q⟩:=h
 cases ry
 rcases hq with hq|hq
 ·obtain ⟨its,r,pl,hz⟩:=I.list hq
  refine SeqAt.notIn_listAt (fH x) pl.isList (fun w hw=>pV rx fx r fs w (by simpa using hw)) ⟨.bl _,H,I,rfl,?_⟩
  rw [show its.toArray.any (fH x)=its.any (fH x) by simp,p5 r fs]
  exact q
 ·obtain ⟨its,r,pl,hz⟩:=I.tuple hq
  refine SeqAt.notIn_tupleAt (fH x) pl (fun w hw=>pV rx fx r fs w (by simpa using hw)) ⟨.bl _,H,I,rfl,?_⟩
  rw [show its.toArray.any (fH x)=its.any (fH x) by simp,p5 r fs]
  exact q
theorem K8:gJ X (.type "list") (fun xs H Q=>∃ p ys,xs=[.ref p]∧(bL X.K H p ys∨bz X.K H p ys)∧∀ l,H l=none→Q (.ref l) (upd H l (.lst ys))):=by
 intro pins s σ H xs us Q I r h
 obtain ⟨p,ys,rfl,hq,q⟩:=h
 obtain ⟨u,rfl,rx⟩:=vals1 r
 cases rx
 have fin:∀ (its:List Value),Vals ys its→ys.length≤sizeLine→∀ (h':Heap) (c':Nat),(∀ b o',s.heap.get? b=some o'→h'.get? b=some o') →
   h'.get? s.heap.objs.size=some { cls:=.type "list",dict:=none,data:=.seq its.toArray c',slots:=#[] }→EP X pins σ Q (.ref s.heap.objs.size) { s with heap:=h' }:=fun its r' hz h' c' kp e =>
  ⟨.ref s.heap.objs.size,_,I.laid (t':=s.toks) kp (Nat.le_refl _) (show b0 X.prog X.w _ h' _ (.lst ys) from ⟨hz,its,c',r',e⟩),rfl,q _ (I.aD.fresh (Nat.le_refl _))⟩
 rcases hq with hq|hq
 ·obtain ⟨its,r',pl,hz⟩:=I.list hq
  have hlen:=r'.length
  obtain ⟨o,ho,hc,n,hd⟩:=pl.isList
  exact call_list_seq p (.inl rfl) ho hc hd (fun h' c' kp e=>fin its r' hz h' c' kp e) (by simp only [List.size_toArray]<;>omega)
 ·obtain ⟨its,r',pl,hz⟩:=I.tuple hq
  have hlen:=r'.length
  obtain ⟨o,ho,hc,n,hd⟩:=pl
  exact call_list_seq p (.inr rfl) ho hc hd (fun h' c' kp e=>fin its r' hz h' c' kp e) (by simp only [List.size_toArray]<;>omega)
def z6 (K:PySem.W.Frag) (T:String) (x:V) (H:Hp):Prop:=match x with
 |.str _=>T = "str"
 |.int _=>T = "int"
 |.ref p=>(T = "list" ∧ ∃ xs,bL K H p xs)∨(T = "tuple" ∧ ∃ o,K.lookup p=some o∧o.cls=.type "tuple" ∧ o.dict=none) ∨
  (T = "dict" ∧ ((∃ ai,H p=some (.dK ai))∨∃ ai,H p=some (.dT ai)))∨(T = "set" ∧ ∃ S n,H p=some (.set S n))
 |_=>False
theorem EJ {pins:List (Addr×Obj)}{σ:St}{H:Hp}{s:Shared}{T:String}{x:V}{v:Value} (I:Inv X pins σ H s) (r:RelV x v) (ty:z6 X.K T x H) :
  s.TypeIs v T∧∀ a,v=.ref a→∃ ob,s.heap.get? a=some ob∧ob.dict=none:=by
 cases x with
 |str z =>
  obtain ⟨t,rfl⟩:=r
  cases (show T = "str" from ty)
  exact ⟨typeIs_str s z t,fun _ e=>nomatch e⟩
 |int i =>
  obtain ⟨t,rfl⟩:=r
  cases (show T = "int" from ty)
  exact ⟨typeIs_int s i t,fun _ e=>nomatch e⟩
 |ref p =>
  cases r
  rcases ty with ⟨rfl,xs,hq⟩|⟨rfl,o,hk,hc,hd⟩|⟨rfl,hk⟩|⟨rfl,S,n,hk⟩
  ·obtain ⟨its,_,pl,_⟩:=I.list hq
   refine ⟨pl.isList.typeIs,fun a e=>?_⟩
   cases e
   obtain ⟨o,n,e,c,hd,_⟩:=pl
   exact ⟨o,e,hd⟩
  ·refine ⟨⟨o,I.fV p o hk,hc⟩,fun a e=>?_⟩
   cases e
   exact ⟨o,I.fV _ o hk,hd⟩
  ·have z:∃ o,s.heap.get? p=some o∧o.ExactDict:=by
    rcases hk with ⟨ai,hk⟩|⟨ai,hk⟩
    ·obtain ⟨_,_,_,_,o,_,_,e,ex,_⟩:=I.aD p _ hk
     exact ⟨o,e,ex⟩
    ·obtain ⟨_,_,_,_,o,_,_,e,ex,_⟩:=I.aD p _ hk
     exact ⟨o,e,ex⟩
   obtain ⟨o,e,ex⟩:=z
   refine ⟨⟨o,e,ex.1⟩,fun a e2=>?_⟩
   cases e2
   exact ⟨o,e,ex.2.1⟩
  ·obtain ⟨o,_,_,_,e,ex,_⟩:=I.aD p _ hk
   refine ⟨⟨o,e,ex.1⟩,fun a e2=>?_⟩
   cases e2
   exact ⟨o,e,ex.2.1⟩
 |_=>exact False.elim ty
noncomputable def qC (K:PySem.W.Frag) (T:String) (r:V→List V→Hp→VK→Prop) (to:TE):TE:=fun σ H Q=>to σ H fun x H1=>z6 K T x H1∧r x [] H1 Q
noncomputable def vF (K:PySem.W.Frag) (T:String) (r:V→List V→Hp→VK→Prop) (to:TE) (t:TA):TE:=fun σ H Q=>to σ H fun x H1=>z6 K T x H1∧t σ H1 fun xs H2=>r x xs H2 Q
variable {o e:Expr}{es:List Expr}{to:TE}{t:TA}{name:Str}{apos cq:Pos}{T id:String}{r:V→List V→Hp→VK→Prop}
theorem EK (pa:PlainAttrs T) (slot:Slot T name id) (fY:typeOf (.builtin id)=pure (.type "method_descriptor")) (hm:vD X id r) (ho:PE X o to)
  (qt:attributeBase o name X.env (eval o X.env)=eval o X.env:=by rfl) (hline:(apos.endLine==cq.line)=true:=by rfl):PE X (.Call (.Attribute o name apos) [] [] cq) (qC X.K T r to):=by
 intro pins s σ H Q I h
 refine wpAny_Call_method0_late qt hline (aF (ho pins s σ H _ I h) fun v s1 ⟨x,H1,I1,r1,ty,q1⟩=>?_)
 obtain ⟨h1,h2⟩:=EJ I1 r1 ty
 exact ⟨T,id,pa,slot,fY,h1,h2,Calls.callWith_builtin rfl (PySem.evalArgs_none (hm pins s1 σ H1 x [] v [] Q I1 r1 .nil q1))⟩
theorem UM (pa:PlainAttrs T) (slot:Slot T name id) (fY:typeOf (.builtin id)=pure (.type "method_descriptor")) (hm:vD X id r) (ho:PE X o to) (ha:PA X (e::es) t)
  (qt:attributeBase o name X.env (eval o X.env)=eval o X.env:=by rfl)
  (WB:((backTo cq (starEach (e::es) X.env)).all (fun x=>!x.1)&&(backToKw cq (keywordEach [] X.env)).all (fun x=>x.1.isSome)
   && decide ((e::es).length+([]:List Keyword).length+(if ([]:List Keyword).isEmpty then 0 else 1) < 30))=true:=by rfl)
  (hline:(apos.endLine==cq.line)=true:=by rfl) (hs:starEach (e::es) X.env=(false,eval e X.env)::starEach es X.env:=by rfl) (RX:(backTo cq (starEach es X.env)).any (·.1)=false:=by rfl) :
  PE X (.Call (.Attribute o name apos) (e::es) [] cq) (vF X.K T r to t):=by
 intro pins s σ H Q I h
 refine wpAny_Call_method_late qt WB hline rfl (aF (ho pins s σ H _ I h) fun v s1 ⟨x,H1,I1,r1,ty,q1⟩=>?_)
 obtain ⟨h1,h2⟩:=EJ I1 r1 ty
 refine ⟨T,id,pa,slot,fY,h1,h2,?_⟩
 have hA:=ha cq pins s1 σ H1 _ I1 q1
 rw [hs] at hA ⊢
 refine Calls.callWith_builtin (by show (false||(backTo cq (starEach es X.env)).any (·.1))=false;rw [RX]<;>rfl) (Calls.evalArgs_plain ?_)
 exact aF hA fun us s2 ⟨vs,H2,I2,r2,q2⟩=>hm pins s2 σ H2 x vs v us Q I2 r1 r2 q2
end
def z7 (X:Cx) (id:String) (r:V→List V→Hp→VK→Prop):Prop :=
 ∀ (pins:List (Addr×Obj)) (s:Shared) (σ:St) (H:Hp) (x:V) (xs:List V) (v:Value) (us:List Value) (Q:VK),Inv X pins σ H s→RelV x v→Vals xs us→r x xs H Q →
  wpAny (model X.prog X.w) X.A (call (.builtin id) (v::us)) (EP X pins σ Q) X.xe s
theorem Vals.zero {us:List Value} (h:Vals [] us):us=[]:=by cases h;rfl
theorem Vals.one {x:V}{us:List Value} (h:Vals [x] us):∃ u,us=[u]∧RelV x u:=by
 cases h with|cons r t=>cases t;exact ⟨_,rfl,r⟩
theorem Vals.dropLast {xs:List V}{us:List Value} (h:Vals xs us):Vals xs.dropLast us.dropLast:=by
 induction h with
 |nil=>exact .nil
 |cons r t ih =>
  cases t with
  |nil=>exact .nil
  |cons q t'=>exact .cons r ih
theorem Vals.reverse {xs:List V}{us:List Value} (h:Vals xs us):Vals xs.reverse us.reverse:=by
 induction h with
 |nil=>exact .nil
 |cons r t ih=>rw [List.reverse_cons,List.reverse_cons];exact Vals.append ih (.cons r .nil)
theorem Vals.rep {xs:List V}{us:List Value} (h:Vals xs us):∀ k:Nat,Vals (List.replicate k xs).flatten (List.replicate k us).flatten
 |0=>.nil
 |k+1=>by
  rw [List.replicate_succ,List.replicate_succ,List.flatten_cons,List.flatten_cons]
  exact Vals.append h (Vals.rep h k)
theorem LN {α:Type} (l:List α):l.eraseIdx (l.length-1)=l.dropLast:=by
 induction l with
 |nil=>rfl
 |cons a r ih =>
  cases r with
  |nil=>rfl
  |cons b r =>
   have e:(a::b::r).length-1=((b::r).length-1)+1:=by
    have h1:(a::b::r).length=r.length+2:=rfl
    have h2:(b::r).length=r.length+1:=rfl
    omega
   rw [e,List.eraseIdx_cons_succ,ih]
   all_goals rfl
section
variable {X:Cx}{pins:List (Addr×Obj)}{σ:St}{H:Hp}{s:Shared}{l b:Addr}{xs ys zs:List V}
theorem Inv.zh {its its':List Value}{n:Nat}{f:Array Value→Array Value}{t':Nat} (I:Inv X pins σ H s) (hH:H l=some (.lst xs))
  (e:s.heap.get? l=some { cls:=.type "list",data:=.seq its.toArray n }) (hf:f its.toArray=its'.toArray) (hv:Vals ys its') (hz:ys.length≤sizeLine) :
  Inv X pins σ (upd H l (.lst ys)) { s with heap:=s.heap.update l (Obj.mapSeq f),toks:=t' }:=by
 have q:=PySem.IsL.update e f
 rw [hf] at q
 refine I.write (x:=l) (e:=l) (by rw [hH];exact trivial) (.inl rfl) (fun b' u hb hu=>(Heap.get?_update_other s.heap (Obj.mapSeq f) (Ne.symm hb)).trans hu) ⟨_,q⟩ ?_
 exact ⟨hz,its',_,hv,q⟩
theorem Inv.WC {its:List Value}{t':Nat} (I:Inv X pins σ H s) (hv:Vals ys its) (hz:ys.length≤sizeLine) :
  Inv X pins σ (upd H s.heap.objs.size (.lst ys)) { s with heap:=s.heap.push { cls:=.type "list",data:=.seq its.toArray },toks:=t' } :=
 I.laid (fun _ _ q=>Heap.get?_push_of_some _ q) (Nat.le_refl _) ⟨hz,its,0,hv,Heap.get?_push_size _ rfl⟩
theorem Inv.fresh (I:Inv X pins σ H s):H s.heap.objs.size=none:=I.aD.fresh (Nat.le_refl _)
theorem Inv.zi (I:Inv X pins σ H s) (hH:H l=some (.lst xs)):xs.length≤sizeLine∧∃ (its:List Value) (n:Nat),Vals xs its∧xs.length=its.length∧s.heap.get? l=some { cls:=.type "list",data:=.seq its.toArray n }:=by
 obtain ⟨z,its,n,r,e⟩:=I.aD l _ hH
 exact ⟨z,its,n,r,r.length,e⟩
end
section
variable {X:Cx}
def tY:V→List V→Hp→VK→Prop:=fun x vs H Q=>∃ l xs y,x=.ref l∧vs=[y]∧H l=some (.lst xs)∧xs.length < sizeLine∧Q .non (upd H l (.lst (xs++[y])))
theorem Cy:z7 X "list.append" tY:=by
 intro pins s σ H x vs v us Q I rx rv h
 obtain ⟨l,xs,y,rfl,rfl,hH,hz,q⟩:=h
 cases rx
 obtain ⟨u,rfl,ru⟩:=rv.one
 obtain ⟨z,its,n,r,hl,e⟩:=I.zi hH
 refine call_meets F.slot_list_append ⟨_,e,rfl⟩ F.entry_list_append (F.args_list_append_2 _ _) (PySem.list_append l its.toArray n u (by rw [List.size_toArray];omega)) ⟨e,?_⟩
 refine ⟨.non,_,I.zh (its':=its++[u]) hH e (by simp) (r.append (.cons ru .nil)) ?_,rfl,q⟩
 rw [List.length_append,List.length_singleton]
 omega
def GQ:V→List V→Hp→VK→Prop:=fun x vs H Q=>∃ l xs y,x=.ref l∧vs=[]∧H l=some (.lst xs)∧xs[xs.length-1]?=some y∧Q y (upd H l (.lst xs.dropLast))
theorem RZ:z7 X "list.pop" GQ:=by
 intro pins s σ H x vs v us Q I rx rv h
 obtain ⟨l,xs,y,rfl,rfl,hH,hy,q⟩:=h
 cases rx
 have z8:=rv.zero
 subst z8
 obtain ⟨z,its,n,r,hl,e⟩:=I.zi hH
 obtain ⟨u,hu,ru⟩:=r.get hy
 have z9:its.toArray[its.toArray.size-1]?=some u:=by
  show its.toArray[its.length-1]?=some u
  rw [←Array.getElem?_toList,←hl]
  exact hu
 refine call_meets F.slot_list_pop ⟨_,e,rfl⟩ F.entry_list_pop (F.args_list_pop_1 _) (MeetsSeq.list_pop_last l its.toArray n u z9 (by rw [List.size_toArray];omega)) ⟨e,?_⟩
 refine ⟨y,_,I.zh (its':=its.dropLast) hH e ?_ r.dropLast ?_,ru,q⟩
 ·show its.toArray.eraseIdxIfInBounds (its.toArray.size-1)=its.dropLast.toArray
  rw [List.size_toArray,List.eraseIdxIfInBounds_toArray,LN]
 ·rw [List.length_dropLast]
  omega
def EL:V→List V→Hp→VK→Prop:=fun x vs H Q=>∃ l xs,x=.ref l∧vs=[]∧H l=some (.lst xs)∧Q .non (upd H l (.lst []))
theorem Nk:z7 X "list.clear" EL:=by
 intro pins s σ H x vs v us Q I rx rv h
 obtain ⟨l,xs,rfl,rfl,hH,q⟩:=h
 cases rx
 have z8:=rv.zero
 subst z8
 obtain ⟨z,its,n,r,hl,e⟩:=I.zi hH
 refine call_meets F.slot_list_clear ⟨_,e,rfl⟩ F.entry_list_clear (F.args_list_clear_1 _) (AutoSeq1.list_clear_list_0 l its.toArray n (by rw [List.size_toArray];omega)) ⟨e,?_⟩
 exact ⟨.non,_,I.zh (its':=[]) (ys:=[]) hH e rfl .nil (Nat.zero_le _),rfl,q⟩
end
section
variable {prog:Program}{w:World}{A:Around}{E:Value→Shared→Prop}{s:Shared}
end
section
variable {X:Cx}
end
section
variable {κ:Type} [DecidableEq κ]
noncomputable def dY (ai:List (κ×V)) (k:κ):Option V:=(ai.find? fun kv=>decide (kv.1=k)).map (·.2)
noncomputable def putK (ai:List (κ×V)) (k:κ) (v:V):List (κ×V) :=
 if (ai.any fun kv=>decide (kv.1=k))=true then ai.map (fun kv=>if kv.1=k then (kv.1,v) else kv) else ai++[(k,v)]
noncomputable def ZU (ai:List (κ×V)) (k:κ):List (κ×V):=ai.filter fun kv=>decide (kv.1≠k)
theorem tR {p:κ×V}{r:List (κ×V)}{k:κ} (e:p.1=k):dY (p::r) k=some p.2:=by simp [dY,List.find?_cons,e]
theorem tS {p:κ×V}{r:List (κ×V)}{k:κ} (e:¬ p.1=k):dY (p::r) k=dY r k:=by simp [dY,List.find?_cons,e]
theorem C3 (k:κ):∀ ai:List (κ×V),(ai.any fun kv=>decide (kv.1=k))=(dY ai k).isSome
 |[]=>rfl
 |p::r=>by
  rw [List.any_cons]
  by_cases e:p.1=k
  ·simp only [tR e,decide_eq_true e,Bool.true_or,Option.isSome_some]
  ·rw [tS e,decide_eq_false e,Bool.false_or];exact C3 k r
theorem xr (ai:List (κ×V)) (k:κ) (v:V):(putK ai k v).length≤ai.length+1:=by
 unfold putK
 split
 ·rw [List.length_map];omega
 ·rw [List.length_append,List.length_cons,List.length_nil];omega
theorem gP.pP {o:Option V}{u:Option Value} (r:gP o u):o.isSome=u.isSome:=by
 cases o with
 |none=>cases u with
  |none=>rfl
  |some _=>exact (show False from r).elim
 |some _=>cases u with
  |none=>exact (show False from r).elim
  |some _=>rfl
theorem gP.getD {o:Option V}{u:Option Value}{d:V}{d':Value} (r:gP o u) (rd:RelV d d'):RelV (o.getD d) (u.getD d'):=by
 cases o with
 |none=>cases u with
  |none=>exact rd
  |some _=>exact (show False from r).elim
 |some _=>cases u with
  |none=>exact (show False from r).elim
  |some _=>exact r
theorem KV.val {ai:List (κ×V)}{vs:List (κ×Value)} (r:KV ai vs) (k:κ):gP (dY ai k) (valueAt vs k):=by
 unfold KV at r
 induction r with
 |nil=>exact True.intro
 |@cons p q ps qs h t ih =>
  obtain ⟨h1,h2⟩:=h
  by_cases e:p.1=k
  ·have e':q.1=k:=h1.symm.trans e
   have b:valueAt (q::qs) k=some q.2:=by simp [valueAt,List.find?_cons,e']
   rw [tR e,b];exact h2
  ·have e':¬ q.1=k:=fun z=>e (h1.trans z)
   have b:valueAt (q::qs) k=valueAt qs k:=by simp [valueAt,List.find?_cons,e']
   rw [tS e,b];exact ih
theorem KV.any {ai:List (κ×V)}{vs:List (κ×Value)} (r:KV ai vs) (k:κ):(ai.any fun kv=>decide (kv.1=k))=vs.any fun kv=>decide (kv.1=k):=by
 unfold KV at r
 induction r with
 |nil=>rfl
 |cons h t ih=>rw [List.any_cons,List.any_cons,ih,h.1]
theorem KV.repl {ai:List (κ×V)}{vs:List (κ×Value)} (r:KV ai vs) (k:κ) {y:V}{u:Value} (ry:RelV y u) :
  KV (ai.map fun kv=>if kv.1=k then (kv.1,y) else kv) (vs.map fun kv=>if kv.1=k then (kv.1,u) else kv):=by
 unfold KV at r ⊢
 induction r with
 |nil=>exact .nil
 |@cons p q ps qs h t ih =>
  rw [List.map_cons,List.map_cons]
  refine .cons ?_ ih
  obtain ⟨h1,h2⟩:=h
  by_cases e:p.1=k
  ·rw [if_pos e,if_pos (h1.symm.trans e)];exact ⟨h1,ry⟩
  ·rw [if_neg e,if_neg (fun z=>e (h1.trans z))];exact ⟨h1,h2⟩
theorem KV.put {ai:List (κ×V)}{vs:List (κ×Value)} (r:KV ai vs) (k:κ) {y:V}{u:Value} (ry:RelV y u):KV (putK ai k y) (stored vs k u):=by
 unfold putK stored
 rw [r.any k]
 by_cases e:(vs.any fun kv=>decide (kv.1=k))=true
 ·rw [if_pos e,if_pos e];exact r.repl k ry
 ·rw [if_neg e,if_neg e];exact Paired.snoc r ⟨rfl,ry⟩
theorem KV.length {ai:List (κ×V)}{vs:List (κ×Value)} (r:KV ai vs):ai.length=vs.length:=Paired.length r
end
theorem lG {P:Program}{w:World}{k:Key}{u:Value} (r:RelV (kV k) u):(cn P w).is k u=true:=by
 cases k with
 |inl i=>obtain ⟨t,e⟩:=(show ∃ t,u=Value.int i t from r);subst e;exact Lc P w i t
 |inr x=>obtain ⟨t,e⟩:=(show ∃ t,u=Value.str x t from r);subst e;exact Ld P w x t
 |non=>rw [show u=Value.none from r];exact Le P w
theorem Cz {P:Program}{w:World}:∀ {ks:List Key}{us:List Value},Vals (ks.map kV) us→ItemsAre (cn P w) ks us
 |[],_,r=>by rw [List.map_nil] at r;cases r;exact .nil
 |k::ks,_,r=>by
  rw [List.map_cons] at r
  cases r with
  |cons h t=>exact .cons (lG h) (Cz t)
abbrev KT (H:Hp):List (List Key×V)→List (List Key×Addr×Value)→Prop:=Paired fun p q=>p.1=q.1∧H q.2.1=some (.tup (p.1.map kV))∧RelV p.2 q.2.2
theorem KT.val {H:Hp}{ai:List (List Key×V)}{xs:List (List Key×Addr×Value)} (r:KT H ai xs) (k:List Key):gP (dY ai k) ((atKey xs k).map (·.2)):=by
 induction r with
 |nil=>exact True.intro
 |@cons p q ps qs h t ih =>
  obtain ⟨h1,_,h2⟩:=h
  by_cases e:p.1=k
  ·have e':q.1=k:=h1.symm.trans e
   have b:atKey (q::qs) k=some q.2:=by simp [atKey,List.find?_cons,e']
   rw [tR e,b];exact h2
  ·have e':¬ q.1=k:=fun z=>e (h1.trans z)
   have b:atKey (q::qs) k=atKey qs k:=by simp [atKey,List.find?_cons,e']
   rw [tS e,b];exact ih
theorem KT.repl {H:Hp}{ai:List (List Key×V)}{xs:List (List Key×Addr×Value)} (r:KT H ai xs) (k:List Key) {y:V}{u:Value} (ry:RelV y u) :
  KT H (ai.map fun kv=>if kv.1=k then (kv.1,y) else kv) (xs.map (putAt k u)):=by
 induction r with
 |nil=>exact .nil
 |@cons p q ps qs h t ih =>
  rw [List.map_cons,List.map_cons]
  refine .cons ?_ ih
  obtain ⟨h1,h2,h3⟩:=h
  unfold putAt
  by_cases e:p.1=k
  ·rw [if_pos e,if_pos (h1.symm.trans e)];exact ⟨h1,h2,ry⟩
  ·rw [if_neg e,if_neg (fun z=>e (h1.trans z))];exact ⟨h1,h2,h3⟩
theorem KT.put {H:Hp}{ai:List (List Key×V)}{xs:List (List Key×Addr×Value)} (r:KT H ai xs) (k:List Key) {b:Addr}{y:V}{u:Value} (hb:H b=some (.tup (k.map kV))) (ry:RelV y u) :
  KT H (putK ai k y) (storedH xs k b u):=by
 have e:(ai.any fun kv=>decide (kv.1=k))=(atKey xs k).isSome:=by
  rw [C3,(r.val k).pP,Option.isSome_map]
 unfold putK storedH
 rw [e]
 by_cases q:(atKey xs k).isSome=true
 ·rw [if_pos q,if_pos q];exact r.repl k ry
 ·rw [if_neg q,if_neg q];exact Paired.snoc r ⟨rfl,hb,ry⟩
theorem KT.keeps {H H':Hp}{ai:List (List Key×V)}{xs:List (List Key×Addr×Value)} (r:KT H ai xs) (ht:∀ b ys,H b=some (.tup ys)→H' b=some (.tup ys)):KT H' ai xs :=
 Paired.uX r fun _ _ z=>⟨z.1,ht _ _ z.2.1,z.2.2⟩
section
variable {P:Program}{w:World}{H:Hp}{h:Heap}{a:Addr}
theorem F0 {u:HO} (ok:cv P w H h) (e:Rd H a u):b0 P w H h a u:=e.ok ok
theorem lH {ai:List (Key×V)} (ok:cv P w H h) (e:Rd H a (.dK ai)):ai.length≤sizeLine∧(a==sysModules)=false∧∃ vs,KV ai vs∧h.DictOf (cn P w) a vs :=
 show b0 P w H h a (.dK ai) from F0 ok e
theorem F1 {ai:List (Key×V)} (ok:cv P w H h) (e:H a=some (.dK ai)):ai.length≤sizeLine∧(a==sysModules)=false∧∃ vs,KV ai vs∧h.DictOf (cn P w) a vs:=lH ok (.inl e)
theorem ny {ks:List Key} (ok:cv P w H h) (e:H a=some (.tup (ks.map kV))):(tupleKind (cn P w)).is h ks a:=by
 obtain ⟨_,its,r,o,h1,h2,n,h3⟩:=(show b0 P w H h a (.tup (ks.map kV)) from ok a _ e)
 exact ⟨o,its.toArray,n,h1,h2,h3,by simpa using Cz r⟩
theorem iV {ai:List (List Key×V)} (ok:cv P w H h) (e:Rd H a (.dT ai)):ai.length≤sizeLine∧(a==sysModules)=false ∧
  ∃ xs,KT H ai xs∧h.DictOfH (tupleKind (cn P w)) a xs:=by
 obtain ⟨z,y,xs,r,o,es,ep,h1,h2,h3,h4,h5⟩:=(show b0 P w H h a (.dT ai) from F0 ok e)
 refine ⟨z,y,xs,r,o,es,ep,h1,h2,h3,h4,fun x hx=>?_,h5⟩
 have all:∀ {l:List (List Key×V)}{m:List (List Key×Addr×Value)},KT H l m→∀ x∈m,(tupleKind (cn P w)).is h x.1 x.2.1:=by
  intro l m q
  induction q with
  |nil=>intro x hx;exact nomatch hx
  |@cons p q ps qs hq t ih =>
   intro x hx
   rcases List.mem_cons.mp hx with e|hx
   ·subst e
    exact ny ok (by rw [←hq.1];exact hq.2.1)
   ·exact ih x hx
 exact all r x hx
theorem UN {ai:List (List Key×V)} (ok:cv P w H h) (e:H a=some (.dT ai)):ai.length≤sizeLine∧(a==sysModules)=false ∧
 ∃ xs,KT H ai xs∧h.DictOfH (tupleKind (cn P w)) a xs:=iV ok (.inl e)
end
def gk (H:Hp) (a:Addr) (y:V) (r:Option V):Prop :=
 (∃ ai k,Rd H a (.dK ai)∧y=kV k∧r=dY ai k)∨∃ ai k b,Rd H a (.dT ai)∧y=.ref b∧H b=some (.tup (k.map kV))∧r=dY ai k
def nZ (H:Hp) (a:Addr) (y v:V) (H':Hp):Prop :=
 (∃ ai k,H a=some (.dK ai)∧y=kV k∧ai.length < sizeLine∧H'=upd H a (.dK (putK ai k v))) ∨
 ∃ ai k b,H a=some (.dT ai)∧y=.ref b∧H b=some (.tup (k.map kV))∧ai.length < sizeLine∧H'=upd H a (.dT (putK ai k v))
theorem gk.k {H:Hp}{a:Addr}{ai:List (Key×V)}{k:Key} (e:H a=some (.dK ai)):gk H a (kV k) (dY ai k):=.inl ⟨ai,k,.inl e,rfl,rfl⟩
theorem gk.t {H:Hp}{a b:Addr}{ai:List (List Key×V)}{k:List Key} (e:H a=some (.dT ai)) (eb:H b=some (.tup (k.map kV))):gk H a (.ref b) (dY ai k):=.inr ⟨ai,k,b,.inl e,rfl,eb,rfl⟩
theorem nZ.k {H:Hp}{a:Addr}{ai:List (Key×V)}{k:Key}{v:V} (e:H a=some (.dK ai)) (hl:ai.length < sizeLine):nZ H a (kV k) v (upd H a (.dK (putK ai k v))):=.inl ⟨ai,k,e,rfl,hl,rfl⟩
theorem nZ.t {H:Hp}{a b:Addr}{ai:List (List Key×V)}{k:List Key}{v:V} (e:H a=some (.dT ai)) (eb:H b=some (.tup (k.map kV))) (hl:ai.length < sizeLine) :
 nZ H a (.ref b) v (upd H a (.dT (putK ai k v))):=.inr ⟨ai,k,b,e,rfl,eb,hl,rfl⟩
section
variable {X:Cx}{pins:List (Addr×Obj)}{σ:St}{H:Hp}{s:Shared}{a:Addr}{y v:V}{u r:Value}{o:Option V}{A:Around}{E:Value→Shared→Prop}
theorem Inv.big (I:Inv X pins σ H s):sysModules < s.heap.objs.size:=by
 have h:mainGlobals < s.heap.objs.size:=(I.mod.glob.keeps I.bk).lt
 exact Nat.lt_trans (by decide) h
theorem Mm {Q:Value→Shared→Prop} (hu:A.units+1 < cLine) (I:Inv X pins σ H s) (g:gk H a y (some v)) (ry:RelV y u) (h:∀ w' s',Inv X pins σ H s'→RelV v w'→Q w' s') :
  wpAny (model X.prog X.w) A (getItem (.ref a) u) Q E s:=by
 rcases g with ⟨ai,k,e,ey,l⟩|⟨ai,k,b,e,ey,eb,l⟩
 ·subst ey
  obtain ⟨z,hd,vs,rel,dd⟩:=lH I.aD e
  obtain ⟨w',hw,iJ⟩:=gP.some_of (v:=v) (o:=valueAt vs k) (by rw [l];exact rel.val k)
  exact wpAny_getItem_of (lG ry) dd.mapOf hw (h w' _ (I.tok _) iJ)
 ·subst ey
  cases (show u=Value.ref b from ry)
  obtain ⟨z,hd,xs,rel,dd⟩:=iV I.aD e
  obtain ⟨w',hw,iJ⟩:=gP.some_of (v:=v) (o:=(atKey xs k).map (·.2)) (by rw [l];exact rel.val k)
  obtain ⟨p,hp,my⟩:=Option.map_eq_some_iff.mp hw
  refine wpAny_getItem_heap (tupleKind_room_in1 hu) (ny I.aD eb) dd hp ?_
  rw [my]
  exact h w' _ (I.tok _) iJ
theorem WD {Q:Value→Shared→Prop} (hu:A.units+1 < cLine) (I:Inv X pins σ H s) (g:gk H a y o) (ry:RelV y u) (h:∀ s',Inv X pins σ H s'→Q (.bool o.isSome) s') :
  wpAny (model X.prog X.w) A (compareOp .In u (.ref a)) Q E s:=by
 rcases g with ⟨ai,k,e,ey,l⟩|⟨ai,k,b,e,ey,eb,l⟩
 ·subst ey
  obtain ⟨z,hd,vs,rel,dd⟩:=lH I.aD e
  refine wpAny_in_of (lG ry) hd dd.mapOf ?_
  rw [←(rel.val k).pP,←l]
  exact h _ (I.tok _)
 ·subst ey
  cases (show u=Value.ref b from ry)
  obtain ⟨z,hd,xs,rel,dd⟩:=iV I.aD e
  refine wpAny_in_heap (tupleKind_room_in1 hu) (ny I.aD eb) hd dd ?_
  have q:=(rel.val k).pP
  rw [Option.isSome_map] at q
  rw [←q,←l]
  exact h _ (I.tok _)
theorem Pg {Q:Value→Shared→Prop} (hu:A.units+1 < cLine) (I:Inv X pins σ H s) (g:gk H a y o) (ry:RelV y u) (h:∀ s',Inv X pins σ H s'→Q (.bool (!o.isSome)) s') :
  wpAny (model X.prog X.w) A (compareOp .NotIn u (.ref a)) Q E s:=by
 rcases g with ⟨ai,k,e,ey,l⟩|⟨ai,k,b,e,ey,eb,l⟩
 ·subst ey
  obtain ⟨z,hd,vs,rel,dd⟩:=lH I.aD e
  refine wpAny_notIn_of (lG ry) hd dd.mapOf ?_
  rw [←(rel.val k).pP,←l]
  exact h _ (I.tok _)
 ·subst ey
  cases (show u=Value.ref b from ry)
  obtain ⟨z,hd,xs,rel,dd⟩:=iV I.aD e
  refine wpAny_notIn_heap (tupleKind_room_in1 hu) (ny I.aD eb) hd dd ?_
  have q:=(rel.val k).pP
  rw [Option.isSome_map] at q
  rw [←q,←l]
  exact h _ (I.tok _)
theorem tZ {h':Heap}{t':Nat}{ob:HO} (I:Inv X pins σ H s) (mu:qR (H a)) (hs:Heap.SameBut a s.heap h') (he:∃ q,h'.get? a=some q) (new:b0 X.prog X.w (upd H a ob) h' a ob) :
  Inv X pins σ (upd H a ob) { s with heap:=h',toks:=t' } :=
 I.write (x:=a) (e:=a) mu (.inl rfl) (fun b q hb z=>(hs.2 b hb).trans z) he new
theorem ER {P:Program}{w:World}{H':Hp}{h':Heap}{ai:List (Key×V)}{vs:List (Key×Value)} (z:ai.length≤sizeLine) (hd:(a==sysModules)=false) (rel:KV ai vs) (dd:h'.DictOf (cn P w) a vs) :
 b0 P w H' h' a (.dK ai):=⟨z,hd,vs,rel,dd⟩
theorem Mp {H':Hp}{Q:Unit→Shared→Prop} (hu:A.units+1 < cLine) (I:Inv X pins σ H s) (g:nZ H a y v H') (ry:RelV y u) (rv:RelV v r) (h:∀ s',Inv X pins σ H' s'→Q () s') :
  wpAny (model X.prog X.w) A (setItem (.ref a) u r) Q E s:=by
 rcases g with ⟨ai,k,e,ey,l,eH⟩|⟨ai,k,b,e,ey,eb,l,eH⟩
 ·subst ey eH
  obtain ⟨z,hd,vs,rel,dd⟩:=F1 I.aD e
  have hz:vs.length≤sizeLine:=by rw [←rel.length];exact z
  have hl:(putK ai k v).length≤sizeLine:=by have:=xr ai k v;omega
  refine wpAny_setItem_pairs (hsz:=hz) (lG ry) dd fun h' mz hs=>h _ ?_
  have he:∃ q,h'.get? a=some q:=let ⟨q,_,_,hq,_⟩:=mz;⟨q,hq⟩
  exact tZ I (by rw [e];exact True.intro) hs he (ER hl hd (rel.put k rv) mz)
 ·subst ey eH
  cases (show u=Value.ref b from ry)
  obtain ⟨z,hd,xs,rel,dd⟩:=UN I.aD e
  have hz:xs.length≤sizeLine:=by rw [←Paired.length rel];exact z
  have hl:(putK ai k v).length≤sizeLine:=by have:=xr ai k v;omega
  refine wpAny_setItem_heap (hsz:=hz) (tupleKind_room_in1 hu) (ny I.aD eb) dd fun h' mz hs=>h _ ?_
  obtain ⟨q,es,ep,hq,h2,h3,h4,_,h5⟩:=mz
  refine tZ I (by rw [e];exact True.intro) hs ⟨q,hq⟩ ⟨hl,hd,_,(rel.put k eb rv).keeps fun c ys ec=>?_,q,es,ep,hq,h2,h3,h4,h5⟩
  rw [aG (uF ec e (fun z=>nomatch z))]
  exact ec
end
section
variable {X:Cx}{pins:List (Addr×Obj)}{σ:St}{H:Hp}{s:Shared}{a:Addr}{ai:List (Key×V)}{k:Key}{u:Value}{A:Around}{E:Value→Shared→Prop}
end
def zj (i:Expr):Prop:=∀ ov iv,subscripted i false ov iv=operate [ov,iv] (getItem ov iv)
theorem Ph {prog:Program}{w:World}{A:Around}{E:Value→Shared→Prop}{s:Shared}{env:Env}{value slice:Expr}{pos:Pos}{T id:String}{Q:Value→Shared→Prop}
  (hl:typeLookup (.type T) "__getitem__" = pure (some (.builtin id))) (hs:zj slice)
  (h:wpAny (model prog w) A (eval value env) (fun o s₁=>wpAny (model prog w) A (eval slice env) (fun i s₂=>s₂.TypeIs o T∧wpAny (model prog w) A (getItem o i) Q E s₂) E s₁) E s) :
  wpAny (model prog w) A (eval (.Subscript value slice pos) env) Q E s:=by
 refine Subscript_ (wpAny_mono h (fun o s₁ h₁=>wpAny_mono h₁ (fun i s₂ h₂=>?_) fun _ _ x=>x) fun _ _ x=>x)
 obtain ⟨hT,h₂⟩:=h₂
 unfold subscriptTail
 refine wpAny_bind ?_
 rw [getitemInPython_of_ne hT.not_modules]
 refine wpAny_bind (wpAny_specialOf hT hl ?_)
 have fin:wpAny (model prog w) A (subscripted slice false o i) (fun r s₃=>wpAny (model prog w) A (letTemporaryGo value o r >>= fun _=>pure r) Q E s₃) E s₂:=by
  rw [hs o i]
  exact wpAny_operating (wpAny_mono h₂ (fun r s₃ h₃=>wpAny_bind (wpAny_letTemporaryGo (wpAny_pure h₃))) fun _ _ x=>x)
 first
  |exact wpAny_pure (wpAny_bind fin)
  |exact wpAny_bind (wpAny_pure (wpAny_bind fin))
  |exact wpAny_bind fin
theorem Lg {X:Cx}{pins:List (Addr×Obj)}{σ:St}{H:Hp}{s:Shared}{a:Addr}{y:V}{o:Option V} (I:Inv X pins σ H s) (g:gk H a y o):s.TypeIs (.ref a) "dict" := by
 rcases g with ⟨ai,k,e,_,_⟩|⟨ai,k,b,e,_,_,_⟩
 ·obtain ⟨_,_,vs,_,dd⟩:=lH I.aD e
  exact dd.typeIs
 ·obtain ⟨_,_,xs,_,dd⟩:=iV I.aD e
  exact dd.typeIs
noncomputable def F2 (td ty:TE):TE:=fun σ H Q=>td σ H fun x H1=>ty σ H1 fun y H2=>∃ a v,x=.ref a∧gk H2 a y (some v)∧Q v H2
noncomputable def GR (ty td:TE):TE:=fun σ H Q=>ty σ H fun y H1=>td σ H1 fun x H2=>∃ a o,x=.ref a∧gk H2 a y o∧Q (.bl o.isSome) H2
noncomputable def DW (ty td:TE):TE:=fun σ H Q=>ty σ H fun y H1=>td σ H1 fun x H2=>∃ a o,x=.ref a∧gk H2 a y o∧Q (.bl (!o.isSome)) H2
noncomputable def uI (td ty tv:TE):TS:=fun D σ H=>tv σ H fun v H1=>td σ H1 fun x H2=>ty σ H2 fun y H3=>∃ a H4,x=.ref a∧nZ H3 a y v H4∧D.nx σ H4
section
variable {X:Cx}{o i e value:Expr}{pos pos' Ww:Pos}{td ty tv:TE}
theorem Pj (hu:X.A.units+1 < cLine) (ho:PE X o td) (hi:PE X i ty) (hs:zj i):PE X (.Subscript o i pos) (F2 td ty):=by
 intro pins s σ H Q I h
 refine Ph PySem.F.slot_dict_getitem.lookup hs (aF (ho pins s σ H _ I h) fun u s1 ⟨x,H1,I1,rx,q1⟩=>aF (hi pins s1 σ H1 _ I1 q1) fun iv s2 ⟨y,H2,I2,ry,a,v,ex,g,q2⟩=>?_)
 subst ex
 obtain rfl:u=Value.ref a:=rx
 exact ⟨Lg I2 g,Mm hu I2 g ry fun w' s3 I3 iJ=>⟨v,H2,I3,iJ,q2⟩⟩
theorem R0 (hu:X.A.units+1 < cLine) (hi:PE X i ty) (ho:PE X o td):PC X .In i o (GR ty td):=by
 intro pins s σ H Q I h
 refine aF (hi pins s σ H _ I h) fun iv s1 ⟨y,H1,I1,ry,q1⟩=>aF (ho pins s1 σ H1 _ I1 q1) fun u s2 ⟨x,H2,I2,rx,a,ov,ex,g,q2⟩=>?_
 subst ex
 obtain rfl:u=Value.ref a:=rx
 exact WD hu I2 g ry fun s3 I3=>⟨.bl ov.isSome,H2,I3,rfl,q2⟩
theorem Mq (hu:X.A.units+1 < cLine) (hi:PE X i ty) (ho:PE X o td):PC X .NotIn i o (DW ty td):=by
 intro pins s σ H Q I h
 refine aF (hi pins s σ H _ I h) fun iv s1 ⟨y,H1,I1,ry,q1⟩=>aF (ho pins s1 σ H1 _ I1 q1) fun u s2 ⟨x,H2,I2,rx,a,ov,ex,g,q2⟩=>?_
 subst ex
 obtain rfl:u=Value.ref a:=rx
 exact Pg hu I2 g ry fun s3 I3=>⟨.bl (!ov.isSome),H2,I3,rfl,q2⟩
theorem Pk (hu:X.A.units+1 < cLine) (ho:PE X o td) (hi:PE X i ty) (hv:PE X value tv) (hs:swapsWith value (some (.Subscript o i pos')) pos.line X.env=pure false) :
  PS X (.Assign [.Subscript o i pos'] value pos) (uI td ty tv):=by
 intro pins s σ H D I h
 refine wpAny_Assign_Subscript (aF (hv pins s σ H _ I h) fun r s1 ⟨v,H1,I1,rv,q1⟩=>aF (ho pins s1 σ H1 _ I1 q1) fun u s2 ⟨x,H2,I2,rx,q2⟩=>aF (hi pins s2 σ H2 _ I2 q2) fun iv s3 ⟨y,H3,I3,ry,a,H4,ex,g,q3⟩=>?_) hs
 subst ex
 obtain rfl:u=Value.ref a:=rx
 exact Mp hu I3 g ry rv fun s4 I4=>⟨σ,H4,I4,q3⟩
end
theorem C4 {P:Program}{w:World}{H:Hp} (h:Heap) (hb:sysModules < h.objs.size):b0 P w H (h.push { cls:=.type "dict",data:=.dict #[] }) h.objs.size (.dK []) :=
 ⟨Nat.zero_le _,beq_eq_false_iff_ne.mpr (Ne.symm (Nat.ne_of_lt hb)),[],.nil,Heap.DictOf.new h⟩
theorem Nm {P:Program}{w:World}{H:Hp} (h:Heap) (hb:sysModules < h.objs.size):b0 P w H (h.push { cls:=.type "dict",data:=.dict #[] }) h.objs.size (.dT []) :=
 ⟨Nat.zero_le _,beq_eq_false_iff_ne.mpr (Ne.symm (Nat.ne_of_lt hb)),[],.nil,_,#[],0,Heap.get?_push_size _ rfl,⟨rfl,rfl,rfl⟩,rfl,rfl,List.nodup_nil⟩
noncomputable def EV:TE:=fun _ H Q=>∀ p,H p=none→Q (.ref p) (upd H p (.dK []))
noncomputable def EW:TE:=fun _ H Q=>∀ p,H p=none→Q (.ref p) (upd H p (.dT []))
section
variable {X:Cx}{pos:Pos}
theorem Nn:PE X (.Dict [] [] pos) EV:=fun pins s σ H Q I h =>
 wpAny_Dict_empty ⟨.ref s.heap.objs.size,_,I.laid (a:=s.heap.objs.size) (o:=.dK []) (t':=s.toks) (fun _ _ q=>Heap.get?_push_of_some _ q) (Nat.le_refl _) (C4 s.heap I.big),rfl,h _ (I.aD.fresh (Nat.le_refl _))⟩
theorem Np:PE X (.Dict [] [] pos) EW:=fun pins s σ H Q I h =>
 wpAny_Dict_empty ⟨.ref s.heap.objs.size,_,I.laid (a:=s.heap.objs.size) (o:=.dT []) (t':=s.toks) (fun _ _ q=>Heap.get?_push_of_some _ q) (Nat.le_refl _) (Nm s.heap I.big),rfl,h _ (I.aD.fresh (Nat.le_refl _))⟩
end
noncomputable def ym:List (TE×TE)→St→Hp→(List (V×V)→Hp→Prop)→Prop
 |[],_,H,Q=>Q [] H
 | (tk,tv)::r,σ,H,Q=>tk σ H fun x H1=>tv σ H1 fun y H2=>ym r σ H2 fun ps H3=>Q ((x,y)::ps) H3
abbrev VV:List (V×V)→List (Value×Value)→Prop:=Paired fun p q=>RelV p.1 q.1∧RelV p.2 q.2
def vG (X:Cx) (pos:Pos) (keys:List (Option Expr)) (values:List Expr) (j0:List (TE×TE)):Prop :=
 ∀ (pins:List (Addr×Obj)) (s:Shared) (σ:St) (H:Hp) (Q:List (V×V)→Hp→Prop),Inv X pins σ H s→ym j0 σ H Q →
  wpAny (model X.prog X.w) X.A (evalPairs (pairTrees keys values X.env pos)) (fun vs s'=>∃ ps H',Inv X pins σ H' s'∧VV ps vs∧Q ps H') X.xe s
theorem Pl {X:Cx}{pos:Pos}:vG X pos [] [] []:=fun pins s σ H Q I h=>pairTrees_nil_walk ⟨[],H,I,.nil,h⟩
theorem Nq {X:Cx}{pos:Pos}{k v:Expr}{ks:List (Option Expr)}{vs:List Expr}{tk tv:TE}{j0:List (TE×TE)} (hk:PE X k tk) (hv:PE X v tv) (hr:vG X pos ks vs j0) :
  vG X pos (some k::ks) (v::vs) ((tk,tv)::j0):=fun pins s σ H Q I h =>
 pairTrees_cons_walk (aF (hk pins s σ H _ I h) fun u s1 ⟨x,H1,I1,rx,q1⟩=>aF (hv pins s1 σ H1 _ I1 q1) fun w2 s2 ⟨y,H2,I2,ry,q2⟩ =>
  aF (hr pins s2 σ H2 _ I2 q2) fun ws s3 ⟨ps,H3,I3,rel,q3⟩=>⟨(x,y)::ps,H3,I3,.cons ⟨rx,ry⟩ rel,q3⟩)
noncomputable def nA (ai more:List (Key×V)):List (Key×V):=more.foldl (fun acc kv=>putK acc kv.1 kv.2) ai
theorem KV.merge:∀ {more:List (Key×V)}{rs:List (Key×Value)}{ai:List (Key×V)}{vs:List (Key×Value)},KV more rs→KV ai vs→KV (nA ai more) (merged vs rs):=by
 intro more rs ai vs r
 unfold KV at r
 induction r generalizing ai vs with
 |nil=>intro q;exact q
 |@cons p q ps qs h t ih =>
  intro r0
  have e:KV (putK ai p.1 p.2) (stored vs q.1 q.2):=by
   have:=r0.put p.1 h.2
   rw [←h.1];exact this
  exact ih e
theorem Bv:∀ (more ai:List (Key×V)),(nA ai more).length≤ai.length+more.length
 |[],ai=>by show ai.length≤ai.length+0;omega
 |p::r,ai=>by
  have h1:=Bv r (putK ai p.1 p.2)
  have h2:=xr ai p.1 p.2
  show (nA (putK ai p.1 p.2) r).length≤_
  rw [List.length_cons];omega
theorem B3 {P:Program}{w:World}:∀ {ai:List (Key×V)}{ws:List (Value×Value)},VV (ai.map fun kv=>(kV kv.1,kv.2)) ws→∃ rs,Carries (cn P w) ws rs∧KV ai rs
 |[],_,r=>by rw [List.map_nil] at r;cases r;exact ⟨[],True.intro,.nil⟩
 |p::ai,_,r=>by
  rw [List.map_cons] at r
  cases r with
  |@cons a b as bs h t =>
   obtain ⟨rs,c,q⟩:=B3 (P:=P) (w:=w) t
   obtain ⟨b1,b2⟩:=b
   exact ⟨(p.1,b2)::rs,⟨lG h.1,rfl,c⟩,.cons ⟨rfl,h.2⟩ q⟩
noncomputable def F3 (j0:List (TE×TE)):TE:=fun σ H Q=>∀ p,H p=none→ym j0 σ (upd H p (.dK [])) fun ps H2=>H2 p=some (.dK [])∧∃ ai:List (Key×V),ps=ai.map (fun kv=>(kV kv.1,kv.2))∧ai.length≤15∧Q (.ref p) (upd H2 p (.dK (nA [] ai)))
theorem Pm {X:Cx}{pos:Pos}{keys:List (Option Expr)}{values:List Expr}{j0:List (TE×TE)} (h:vG X pos keys values j0) (zk:keys.all (·.isSome)=true) (hl:keys.length=values.length) (h0:keys≠[])
  (Xu:keys.length≤15):PE X (.Dict keys values pos) (F3 j0):=by
 intro pins s σ H Q I q
 have hn:=I.aD.fresh (Nat.le_refl s.heap.objs.size)
 have I1:=I.laid (a:=s.heap.objs.size) (o:=.dK []) (h':=s.heap.push { cls:=.type "dict",data:=.dict #[] }) (t':=s.toks) (fun _ _ q=>Heap.get?_push_of_some _ q) (Nat.le_refl _) (C4 s.heap I.big)
 refine wpAny_Dict_walk (knd:=cn X.prog X.w) zk hl h0 Xu (aF (h pins _ σ _ _ I1 (q _ hn)) fun ws s2 ⟨ps,H2,I2,rel,e,ai,ep,lk,q2⟩=>?_)
 subst ep
 obtain ⟨rs,c,rk⟩:=B3 (P:=X.prog) (w:=X.w) rel
 obtain ⟨z,hd,Z4,r0,dd⟩:=F1 I2.aD e
 cases r0
 refine ⟨rs,c,dd,fun h' mz hs=>⟨.ref s.heap.objs.size,_,?_,rfl,q2⟩⟩
 have hz:(nA [] ai).length≤sizeLine:=by
  have h1:=Bv ai []
  rw [List.length_nil] at h1
  rw [sizeLine_eq];omega
 have he:∃ q,h'.get? s.heap.objs.size=some q:=let ⟨q,_,_,hq,_⟩:=mz;⟨q,hq⟩
 exact tZ I2 (by rw [e];exact True.intro) hs he (ER hz hd (rk.merge .nil) mz)
structure M1 (X:Cx) (o:Expr) (m:Str) (apos:Pos) (e:Expr) (cq:Pos):Prop where
 base:attributeBase o m X.env (eval o X.env)=eval o X.env
 few:((backTo cq (starEach [e] X.env)).all (fun x=>!x.1)&&(backToKw cq (keywordEach [] X.env)).all (fun x=>x.1.isSome)
  && decide (([e]:List Expr).length+([]:List Keyword).length+(if ([]:List Keyword).isEmpty then 0 else 1) < 30))=true
 line:(apos.endLine==cq.line)=true
 trees:backTo cq (starEach [e] X.env)=[(false,eval e X.env)]
structure M2 (X:Cx) (o:Expr) (m:Str) (apos:Pos) (e f:Expr) (cq:Pos):Prop where
 base:attributeBase o m X.env (eval o X.env)=eval o X.env
 few:((backTo cq (starEach [e,f] X.env)).all (fun x=>!x.1)&&(backToKw cq (keywordEach [] X.env)).all (fun x=>x.1.isSome)
  && decide (([e,f]:List Expr).length+([]:List Keyword).length+(if ([]:List Keyword).isEmpty then 0 else 1) < 30))=true
 line:(apos.endLine==cq.line)=true
 trees:backTo cq (starEach [e,f] X.env)=[(false,eval e X.env),(false,eval f X.env)]
def Il (H:Hp) (a:Addr):Prop:=(∃ ai,Rd H a (.dK ai))∨∃ ai,Rd H a (.dT ai)
theorem R6 {X:Cx}{pins:List (Addr×Obj)}{σ:St}{H:Hp}{s:Shared}{a:Addr} (I:Inv X pins σ H s) (d:Il H a) :
  s.TypeIs (.ref a) "dict" ∧ (∀ b,Value.ref a=.ref b→∃ ob,s.heap.get? b=some ob∧ob.dict=none)∧(a==sysModules)=false:=by
 rcases d with ⟨ai,e⟩|⟨ai,e⟩
 ·obtain ⟨_,hd,vs,_,dd⟩:=lH I.aD e
  refine ⟨dd.typeIs,fun b q=>?_,hd⟩
  cases q
  obtain ⟨ob,_,_,h1,h2,_⟩:=dd
  exact ⟨ob,h1,h2.2.1⟩
 ·obtain ⟨_,hd,xs,_,dd⟩:=iV I.aD e
  refine ⟨dd.typeIs,fun b q=>?_,hd⟩
  cases q
  obtain ⟨ob,_,_,h1,h2,_⟩:=dd
  exact ⟨ob,h1,h2.2.1⟩
section
variable {X:Cx}{pins:List (Addr×Obj)}{σ:St}{H:Hp}{s:Shared}{a:Addr}{y d:V}{u r:Value}{o:Option V}{A:Around}{E:Value→Shared→Prop}
theorem R7 {Q:Value→Shared→Prop} (hu:A.units+1 < cLine) (I:Inv X pins σ H s) (g:gk H a y o) (ry:RelV y u) (rd:RelV d r) (h:∀ w' s',Inv X pins σ H s'→RelV (o.getD d) w'→Q w' s') :
  wpAny (model X.prog X.w) A (call (.builtin "dict.get") [.ref a,u,r]) Q E s:=by
 rcases g with ⟨ai,k,e,ey,l⟩|⟨ai,k,b,e,ey,eb,l⟩
 ·subst ey
  obtain ⟨z,hd,vs,rel,dd⟩:=lH I.aD e
  refine call_meetsIn PySem.F.slot_dict_get dd.typeIs PySem.F.entry_dict_get (PySem.F.args_dict_get_3 _ _ _) (meets_dict_get_default (cn X.prog X.w) a (lG ry) hd r) ⟨_,dd.mapOf,h _ _ (I.tok _) ?_⟩
  rw [l]
  exact (rel.val k).getD rd
 ·subst ey
  cases (show u=Value.ref b from ry)
  obtain ⟨z,hd,xs,rel,dd⟩:=iV I.aD e
  refine call_meetsIn PySem.F.slot_dict_get dd.typeIs PySem.F.entry_dict_get (PySem.F.args_dict_get_3 _ _ _) (meetsH_dict_get_default (tupleKind (cn X.prog X.w)) a b hd r) ⟨tupleKind_room_in1 hu,k,xs,ny I.aD eb,dd,h _ _ (I.tok _) ?_⟩
  rw [l]
  exact (rel.val k).getD rd
end
section
variable {X:Cx}{o e f:Expr}{apos cq:Pos}{td ty tx:TE}
end
section
variable {X:Cx}{pins:List (Addr×Obj)}{σ:St}{H:Hp}{s:Shared}{a:Addr}{ai:List (Key×V)}{A:Around}{E:Value→Shared→Prop}
end
section
variable {X:Cx}{pins:List (Addr×Obj)}{σ:St}{H:Hp}{s:Shared}{a:Addr}{y:V}{u:Value}{A:Around}{E:Value→Shared→Prop}
end
end L2
namespace Im
open PySem PySem.W PySem.Calls PyProof.Rows
theorem K1 {P:Params}{h:Heap}:∀ (ns:List Int) (vs:List Value),WellAll P h vs (ns.map WData.int)→IntsAre vs ns:=by
 intro ns
 induction ns with
 |nil =>
  intro vs w
  rw [List.map_nil] at w
  cases w
  exact .nil
 |cons n ns ih =>
  intro vs w
  rw [List.map_cons] at w
  cases w with
  |cons a b =>
   cases a
   exact .cons _ _ (ih _ b)
theorem Mr {l:OpenLaw}{n:Nat} (hn:l.most=some n) {P:Params}{h:Heap}{args:List WData}{vals:List Value}
  (iB:l.row.toRowW.claim.pre args=true) (rg:WellAll P h vals args) :
  ∃ a vs ns,vals=[Value.ref a]∧args=[WData.list (ns.map WData.int)]∧h.get? a=some { cls:=.type "list",data:=.seq vs.toArray }∧IntsAre vs ns∧ns.length≤n:=by
 have Xv:WShape.hasAll [] args [.list .int]=true:=(pre_splitW iB).1
 have hc:l.pre.holds [] { args:=args }=true:=(pre_splitW iB).2
 obtain ⟨d,r,rfl,h1,h2⟩:=hasAllW_cons Xv
 obtain rfl:=hasAllW_nil h2
 obtain ⟨xs,rfl,h3⟩:=hasW_list h1
 obtain ⟨ns,rfl⟩:=items_int h3
 have hlen:ns.length≤n:=by
  unfold OpenLaw.pre at hc
  have h4:(WTm.not (.lt (.lit (.int (n:Int))) (.len (.arg 0)))).holds [] { args:=[.list (ns.map .int)] }=true:=by
   have h4:=(holds_andW hc).1
   rw [hn] at h4
   exact h4
  have h5:=condW_of h4 (w_not (w_lt w_lit (w_len_list (w_arg rfl))))
  rw [List.length_map] at h5
  refine Nat.le_of_not_lt fun q=>?_
  have q':(n:Int) < ((ns.length:Nat):Int):=by omega
  first
   | (rw [decide_eq_true q'] at h5;exact absurd h5 (by decide))
   | (simp at h5;omega)
 cases rg with
 |cons w1 w2 =>
  cases w2
  cases w1 with
  |list ho zk=>exact ⟨_,_,ns,rfl,rfl,ho,K1 ns _ zk,hlen⟩
theorem Ms (l:OpenLaw) (args:List WData):l.row.toRowW.claim.post args (.bool true) args=true :=
 postW_of (r:=l.row.toRowW) (X:=(true==true))
  (show WShape.has [] (.bool true) .bool=true by first|rfl|decide|simp [WShape.has,WShape.arms,WShape.armsAll])
  (show (WTm.eq .res (.lit (.bool true))).value [] { args:=args,res:=some (.bool true),after:=args }=some (.bool (true==true)) from w_eq_bool (w_res rfl) w_lit) rfl
theorem Lh {l:OpenLaw}{n:Nat}{q:Program}{loose:List Str}{XP:(Str→Option Value)→Heap→Prop}{YP:World→Heap→Prop}{d:DefRec}
  (hn:l.most=some n) (rh:d.params.defaults=[])
  (call:∀ (w:World) (s₀ s₁:Shared) (mg mb:Str→Option Value) (fa:Addr) (o:Obj) (pm cd doc:Value) (a:Addr) (vs:List Value) (ns:List Int),
   Ground q loose [] XP w s₀ mg mb s₁.heap→YP w s₁.heap →
   s₁.heap.get? fa=some o→o.data=.func (docDef d.name d.params d.body d.scope pm cd doc)→s₁.heap.CodeRec cd d.name→mg d.name=some (.ref fa) →
   s₁.heap.get? a=some { cls:=.type "list",data:=.seq vs.toArray }→IntsAre vs ns→ns.length≤n→s₁.gens=#[] →
   codeAny (model l.prog w) callerA (.call (.ref fa) ⟨[.ref a],[]⟩) (fun r s'=>r=.ok (.ret (.bool true))∧OldK s₁.heap s'.heap∧s'.os=s₁.os∧AllBare s'.gens) s₁) :
  WalkO q loose XP YP l.row.toRowW d [] (fun f vs=>PySem.call f vs):=by
 intro w s₀ s₁ mg mb G Y fa o pm cd doc dV kV ho hd gx hD Aa hg args vals as iB hlay Z5 rg Z6
 obtain rfl:dV=.none:=Dflts.none hD rh
 obtain rfl:kV=.none:=Dflts.noKw hD
 obtain ⟨a,vs,ns,rfl,rfl,zl,hints,hlen⟩:=Mr hn iB rg
 refine enter_call (codeAny_mono (call w s₀ s₁ mg mb fa o pm cd doc a vs ns G Y ho (fd_plain hd) gx Aa zl hints hlen hg) fun r s' hq=>?_)
 obtain ⟨rfl,h2,h3,h4⟩:=hq
 exact ⟨.inl ⟨.bool true,.bool true,[],rfl,fun _=>rfl,.bool true,Ms l _,fun _=>⟨List.Pairwise.nil,fun _ hm=>(nomatch hm)⟩⟩,h2,h3,h4⟩
section
variable {prog:Program}{w:World}{A:Around}{E:Value→Shared→Prop}{s:Shared}{K:Frag}
end
end Im
namespace L2
open PySem PySem.Spec PyProof.Rows
theorem pQ:∀ {vs:List Value}{ns:List Int},IntsAre vs ns→Vals (ns.map V.int) vs
 |_,_,.nil=>.nil
 |_,_,.cons n t h=>.cons ⟨t,rfl⟩ (pQ h)
def Only (H:Hp):Prop:=∀ b,H b=none∨∃ o xs,H b=some (.aX o (.lst xs))
theorem Nr {P:Program}{w:World}{K:PySem.W.Frag}{mg mb:Str→Option Value}{CX:iG}{k:Nat}{fa a:Addr}{fd:FuncData}{x:Str}{sp:Sp}{s₁:Shared}{vs:List Value}{ns:List Int}
  (KX:K.In s₁.heap) (oG:s₁.heap.Ns mainGlobals mg) (hb:s₁.heap.Ns builtinsNs mb) (j3:∀ x:Str,x ≠ "__name__" → mb x=bootBuiltins x) (WG:s₁.heap.NoLimit) (hg:s₁.gens=#[])
  (ha:s₁.heap.get? a=some { cls:=.type "list",data:=.seq vs.toArray }) (hi:IntsAre vs ns) (hl:ns.length≤sizeLine) (hr:du k callerA)
  (F:∀ base:Heap,K.In base→base.Ns mainGlobals mg→jL P w K mg base CX k fa fd [x] sp) (UO:∀ (s:Shared) (u:Value),BindsTo s fd ⟨[u],[]⟩ [(x,u)])
  (jc:∀ H:Hp,Only H→bL K H a (ns.map V.int)→sp [.ref a] H (fun v _=>v=.bl true) fun _ _ _=>False)
  (Ab:∀ H e s',CX [] H s₁ (fun _ _ _=>False) e s'→False) :
  codeAny (model P w) callerA (.call (.ref fa) ⟨[.ref a],[]⟩) (fun r s'=>r=.ok (.ret (.bool true))∧OldK s₁.heap s'.heap∧s'.os=s₁.os∧AllBare s'.gens) s₁:=by
 have rv:=pQ hi
 have WH:=hi.length
 have core:∀ H:Hp,Only H→bL K H a (ns.map V.int)→cv P w H s₁.heap→(∀ b,H b≠none→b=a)→(H a≠none→K.lookup a=none) →
   codeAny (model P w) callerA (.call (.ref fa) ⟨[.ref a],[]⟩) (fun r s'=>r=.ok (.ret (.bool true))∧OldK s₁.heap s'.heap∧s'.os=s₁.os∧AllBare s'.gens) s₁:=by
  intro H hO hS aD hA hK
  have DX:∀ {b:Addr}{o:Obj},s₁.heap.get? b=some o→H b=none→(jJ s₁.heap H).get? b=some o:=fun e n=>M7 e n
  have qZ:∀ {b:Addr}{o:Obj}{es:Array DictEntry}{ep:Nat},s₁.heap.get? b=some o→o.data=.dict es ep→H b=none:=fun {b o es ep} e d=>by
   cases q:H b with
   |none=>rfl
   |some u =>
    have e':b=a:=hA b (by rw [q];simp)
    subst e'
    rw [ha] at e;cases e
    have d':Data.seq vs.toArray _=Data.dict es ep:=d
    cases d'
  have vH:∀ {b:Addr}{m:Str→Option Value},s₁.heap.Ns b m→(jJ s₁.heap H).Ns b m:=fun {b m} ⟨o,es,ep,e,d,r⟩=>⟨o,es,ep,DX e (qZ e d),d,r⟩
  have Io:K.In (jJ s₁.heap H):=fun b o e=>DX (KX b o e) (by
   cases q:H b with
   |none=>rfl
   |some u =>
    have e':b=a:=hA b (by rw [q];simp)
    subst e'
    rw [hK (by rw [q];simp)] at e;cases e)
  have hM:Mod K mg (jJ s₁.heap H):=⟨Io,vH oG,⟨mb,vH hb,j3⟩,let ⟨mc,h1,h2⟩:=WG;⟨mc,vH h1,h2⟩⟩
  have e0:vd P w K mg (jJ s₁.heap H) callerA [] s₁ H:=⟨rfl,hM,fun b o e=>OI e,Nat.le_of_eq (Ma _ _),trivial,fun b hb=>absurd (show b∈([]:List Addr) from hb) (by simp),aD,.of_eq hg⟩
  refine codeAny_mono ((F _ Io (vH oG)).run callerA [] s₁ H ⟨[.ref a],[]⟩ [.ref a] [.ref a] _ _ hr e0 (UO s₁ (.ref a)) (.cons rfl .nil) (jc H hO hS)) fun r s' h=>?_
  cases r with
  |error e=>exact (Ab H e s' h).elim
  |ok fl =>
   cases fl with
   |next=>exact False.elim h
   |brk=>exact False.elim h
   |cont=>exact False.elim h
   |ret u =>
    obtain ⟨v,H',os,bare,un,WK,r',q⟩:=h
    have q':v=.bl true:=q
    subst q'
    obtain rfl:u=Value.bool true:=r'
    refine ⟨rfl,OldK.of_keep fun b o e=>?_,os,bare⟩
    cases q:H b with
    |none=>exact un.keep b o e q (by intro z;exact absurd (show b∈([]:List Addr) from z) (by simp)) (by simp)
    |some u =>
     rcases hO b with z|⟨ob,xs,z⟩
     ·rw [q] at z;cases z
     ·have z2:=un.iw b ob _ z
      obtain ⟨e1,_⟩:=aD b _ z
      obtain ⟨e2,_⟩:=WK b _ z2
      rw [e] at e1;cases e1
      exact e2
 cases hk:K.lookup a with
 |some o =>
  have e:=KX a o hk
  rw [ha] at e
  cases e
  refine core (fun _=>none) (fun _=>.inl rfl) (.inr ⟨_,vs.toArray,_,hk,rfl,rfl,rfl,by rw [List.size_toArray,WH];exact hl,by simpa using rv⟩) (fun b u z=>by have z':(none:Option HO)=some u:=z;cases z') (fun b z=>absurd rfl z) fun z=>absurd rfl z
 |none =>
  refine core (fun b=>if b=a then some (.aX { cls:=.type "list",data:=.seq vs.toArray } (.lst (ns.map V.int))) else none) (fun b=>?_) (.inl (.inr ⟨{ cls:=.type "list",data:=.seq vs.toArray },if_pos rfl⟩)) (fun b u z=>?_) (fun b z=>?_) fun _=>hk
  ·by_cases hb:b=a
   ·exact .inr ⟨_,_,if_pos hb⟩
   ·exact .inl (if_neg hb)
  ·by_cases hb:b=a
   ·have z':=(if_pos hb).symm.trans z
    cases z'
    subst hb
    exact ⟨ha,by rw [List.length_map];exact hl,vs,_,rv,ha⟩
   ·have z':=(if_neg hb).symm.trans z
    cases z'
  ·by_cases hb:b=a
   ·exact hb
   ·exact absurd (if_neg hb) z
theorem Pn {l:PySem.W.OpenLaw}{n k:Nat}{q:Program}{loose:List Str}{XP:(Str→Option Value)→Heap→Prop}{YP:World→Heap→Prop}{d:DefRec}{K:Params→PySem.W.Frag}{CX:World→iG}{sp:World→Sp}{x:Str}
  (hn:l.most=some n) (Ac:n≤sizeLine) (rh:d.params.defaults=[]) (hr:du k callerA)
  (hY:∀ (w:World) (h:Heap),YP w h→(K w.params).In h)
  (F:∀ (w:World) (mg:Str→Option Value) (fa:Addr) (h:Heap),(K w.params).In h→h.Ns mainGlobals mg→mg d.name=some (.ref fa) →
   ∃ fd:FuncData,(∀ (s:Shared) (u:Value),BindsTo s fd ⟨[u],[]⟩ [(x,u)]) ∧
    ∀ base:Heap,(K w.params).In base→base.Ns mainGlobals mg→jL l.prog w (K w.params) mg base (CX w) k fa fd [x] (sp w))
  (jc:∀ (w:World) (H:Hp) (a:Addr) (ns:List Int),ns.length≤n→Only H→bL (K w.params) H a (ns.map V.int)→sp w [.ref a] H (fun v _=>v=.bl true) fun _ _ _=>False)
  (Ab:∀ (w:World) (H:Hp) (s:Shared) (e:Value) (s':Shared),CX w [] H s (fun _ _ _=>False) e s'→False) :
  PySem.W.WalkO q loose XP YP l.row.toRowW d [] (fun f vs=>PySem.call f vs):=by
 refine Im.Lh hn rh fun w s₀ s₁ mg mb fa o pm cd doc a vs ns G Y ho hd gx Aa zl hints hlen hg=>?_
 have KX:=hY w _ Y
 obtain ⟨fd,hb,hF⟩:=F w mg fa _ KX G.T.g Aa
 exact Nr KX G.T.g G.T.b G.T.builtins G.T.nolimit hg zl hints (Nat.le_trans hlen Ac) hr hF hb (fun H hO hS=>jc w H a ns hlen hO hS) fun H e s'=>Ab w H s₁ e s'
noncomputable def fM (s:Stmt):Arguments:=match s with
 |.FunctionDef _ a _ _ _ _ _ _ _ _=>a
 |_=>{ posonlyargs:=[],args:=[],vararg:=none,kwonlyargs:=[],kw_defaults:=[],kwarg:=none,defaults:=[] }
noncomputable def eU (s:Stmt):List Stmt:=match s with
 |.FunctionDef _ _ b _ _ _ _ _ _ _=>b
 |_=>[]
noncomputable def bY (s:Stmt):Scope:=match s with
 |.FunctionDef _ _ _ _ _ _ sc _ _ _=>sc
 |_=>{ kind:=.function,names:=[],isGenerator:=false,isCoroutine:=false }
noncomputable abbrev j4:iG:=fun _ _ _ _ _ _=>False
noncomputable abbrev E0:XK:=fun _ _ _=>False
theorem F4 {X:Cx}:Passes j4 X E0:=fun _ _ _ _ _ _ _ h=>h.elim
structure oH (K:PySem.W.Frag) (x qual:Str) (st:Stmt) (f:Addr) (fd:FuncData):Prop where
 ex:∃ (oc:Value) (od:Option Addr) (kV doc pm:Value) (an:Option Addr) (bM ct:Value) (iH:Array (Option Value)),
  fd=PySem.W.fnOf x qual (fM st) (eU st) (bY st) .none kV doc pm an bM ct∧K.lookup f=some ⟨oc,od,.func fd,iH⟩∧PySem.W.codeIn K bM qual=true
 kp:PySem.W.keepIn K (.ref f)=true
section
variable {P:Program}{w:World}{K:PySem.W.Frag}{mg:Str→Option Value}{base:Heap}
theorem oH.ok {x qual:Str}{st:Stmt}{f:Addr}{fd:FuncData}{N ps:List Str}{k:Nat}{sp:Sp} (F:oH K x qual st f fd) (S:pZ N ps (bY st)) (len:∀ vs H Q E,sp vs H Q E→vs.length=ps.length)
  (qq:∀ (bM:Value) (A:Around) (outer:List Env) (s:Shared) (H:Hp) (vs:List V) (Q:VK) (E:XK),du k (A.deeper (envOfC qual (bY st) s.heap.objs.size f bM))→sp vs H Q E →
   ∃ t,fG (kC j4 P w K mg base N qual (bY st) f bM A outer s H E).mv (eU st) t∧t { nx:=fun _ H'=>Q .non H',rt:=Q } (start N vs) H):jL P w K mg base j4 (k+1) f fd ps sp:=by
 obtain ⟨oc,od,kV,doc,pm,an,bM,ct,iH,rfl,lk,gx⟩:=F.ex
 refine FW lk gx S len fun A outer s H vs Q E hr jc=>?_
 obtain ⟨t,h,q⟩:=qq bM A outer s H vs Q E hr jc
 exact ⟨t,h.mv,q⟩
theorem oH.binds {x qual:Str}{st:Stmt}{f:Addr}{fd:FuncData}{ps:List Str} (F:oH K x qual st f fd)
  (h:∀ (kV doc pm:Value) (an:Option Addr) (bM ct:Value) (us:List Value),us.length=ps.length→bindArgs (PySem.W.fnOf x qual (fM st) (eU st) (bY st) .none kV doc pm an bM ct) ⟨us,[]⟩=pure (ps.zip us)):Binds K fd ps []:=by
 obtain ⟨oc,od,kV,doc,pm,an,bM,ct,iH,rfl,lk,gx⟩:=F.ex
 exact .all (h kV doc pm an bM ct)
theorem yn {x qual:Str}{st:Stmt}{f:Addr}{oc:Value}{od an:Option Addr}{iH:Array (Option Value)}{kV doc pm bM ct:Value} (l:K.lookup f=some ⟨oc,od,.func (PySem.W.fnOf x qual (fM st) (eU st) (bY st) .none kV doc pm an bM ct),iH⟩)
 (c:PySem.W.codeIn K bM qual=true) (k:PySem.W.keepIn K (.ref f)=true):oH K x qual st f (PySem.W.fnOf x qual (fM st) (eU st) (bY st) .none kV doc pm an bM ct):=⟨⟨oc,od,kV,doc,pm,an,bM,ct,iH,rfl,l,c⟩,k⟩
end
theorem nM {A:Around}{k:Nat} (hr:du k A):A.units+1 < cLine:=Nat.lt_of_le_of_lt (Nat.add_le_add_left (by decide:1≤64) _) hr.units
section
variable {X:Cx}
end
theorem WL {A B:Prop} (h:A):if true=true then A else B:=by
 rw [if_pos rfl]
 exact h
def aH (H H':Hp):Prop:=∀ b o,H b=some o→H' b=some o
theorem aH.refl (H:Hp):aH H H:=fun _ _ h=>h
theorem aH.trans {H H1 H2:Hp} (a:aH H H1) (b:aH H1 H2):aH H H2:=fun c o h=>b c o (a c o h)
theorem aH.free {H H':Hp} (e:aH H H') {l:Addr} (h:H' l=Option.none):H l=Option.none:=by
 cases q:H l with
 |none=>rfl
 |some o =>
  rw [e l o q] at h
  cases h
section
variable {κ:Type} [DecidableEq κ]
end
theorem K9 {α β:Type}{l:List α}{f:α→β→Sem (ForInStep β)} (g:α→β→β):∀ (c:β),(∀ x∈l,∀ c,f x c=pure (.yield (g x c)))→forIn l c f=pure (l.foldl (fun c x=>g x c) c):=by
 induction l with
 |nil=>intro c _;rfl
 |cons x l ih =>
  intro c h
  rw [List.forIn_cons,h x List.mem_cons_self,pure_bind]
  exact ih (g x c) fun y hy=>h y (List.mem_cons_of_mem _ hy)
noncomputable def gH (env:Env) (x:Str×NameKind) (cs:List (Str×Addr)):List (Str×Addr):=if (x.2==NameKind.free)=true then (x.1,(env.cells.lookup x.1).getD 0)::cs else cs
noncomputable def lR (sc:Scope) (env:Env):List (Str×Addr):=sc.names.foldl (fun cs x=>gH env x cs) []
theorem BE {sc:Scope}{env:Env} (h:∀ x∈sc.names,x.2=.free→∃ c,env.cells.lookup x.1=some c):closureFor sc env=pure (lR sc env):=by
 simp only [closureFor]
 rw [K9 (gH env) [] (fun x hx c=>?_)]
 ·rfl
 ·obtain ⟨n,kind⟩:=x
  cases hk:kind==NameKind.free with
  |false=>simp [gH,hk]
  |true =>
   obtain ⟨a,ha⟩:=h (n,kind) hx (by simpa using hk)
   have Xw:env.cells.lookup n=some a:=ha
   simp [gH,hk,cellOf,Xw]
theorem EX (env:Env) (hh:∀ (x:Str×NameKind),x.2=.free→True):∀ (names:List (Str×NameKind)) (acc:List (Str×Addr)),(∀ x∈names,x.2=.free→∃ c,env.cells.lookup x.1=some c)→(∀ x c,acc.lookup x=some c→env.cells.lookup x=some c) →
  ∀ x c,(names.foldl (fun cs x=>gH env x cs) acc).lookup x=some c→env.cells.lookup x=some c
 |[],acc,_,ha,x,c,h=>ha x c h
 |y::r,acc,hf,ha,x,c,h=>by
  refine EX env hh r (gH env y acc) (fun z hz=>hf z (List.mem_cons_of_mem _ hz)) (fun z d hd=>?_) x c h
  unfold gH at hd
  split at hd
  ·rename_i hk
   obtain ⟨a,e⟩:=hf y List.mem_cons_self (by simpa using hk)
   by_cases q:z=y.1
   ·subst q
    simp [e] at hd
    rw [e,hd]
   ·have q':(z==y.1)=false:=by simpa using q
    rw [List.lookup_cons,q'] at hd
    exact ha z d hd
  ·exact ha z d hd
theorem EY (env:Env):∀ (names:List (Str×NameKind)) (acc:List (Str×Addr)) (x:Str),((∃ c,acc.lookup x=some c)∨(x,NameKind.free)∈names)→∃ c,(names.foldl (fun cs x=>gH env x cs) acc).lookup x=some c
  |[],acc,x,h=>by
    rcases h with h|h
    · exact h
    · exact nomatch h
  |y::r,acc,x,h=>by
    refine EY env r (gH env y acc) x ?_
    by_cases hk:(y.2==NameKind.free)=true
    · by_cases q:x=y.1
      · refine .inl ⟨(env.cells.lookup y.1).getD 0,?_⟩
        unfold gH
        rw [if_pos hk,q]
        simp
      · have q':(x==y.1)=false:=by simpa using q
        rcases h with ⟨c,h⟩|h
        · refine .inl ⟨c,?_⟩
          unfold gH
          rw [if_pos hk,List.lookup_cons,q']
          exact h
        · rcases List.mem_cons.mp h with e|e
          · exact absurd (congrArg (·.1) e) q
          · exact .inr e
    · rcases h with ⟨c,h⟩|h
      · refine .inl ⟨c,?_⟩
        unfold gH
        rw [if_neg hk]
        exact h
      · rcases List.mem_cons.mp h with e|e
        · refine absurd ?_ hk
          rw [←e]
          rfl
        · exact .inr e
theorem sW {env:Env}{x:Str}{k:NameKind}:∀ {names:List (Str×NameKind)},(names.map fun (n,k)=>if (k==NameKind.free&&env.scope.kind==.function&&env.kindOf n==some .cell) then (n,NameKind.cell) else (n,k)).lookup x=some k →
    names.lookup x=some k∨(k=.cell∧names.lookup x=some .free)
  |[],h=>by simp at h
  | (n,j)::r,h=>by
    have ih:=@sW env x k r
    rw [List.map_cons] at h
    cases hx:x==n with
    |true =>
      by_cases hc:(j==NameKind.free&&env.scope.kind==.function&&env.kindOf n==some .cell)=true
      · simp only [hc,if_true] at h
        rw [List.lookup_cons,hx] at h
        have e:NameKind.cell=k:=Option.some.inj h
        refine .inr ⟨e.symm,?_⟩
        rw [List.lookup_cons,hx]
        simp only [Bool.and_eq_true] at hc
        have ej:j=.free:=by simpa using hc.1.1
        rw [ej]
      · simp only [hc,Bool.false_eq_true,if_false] at h
        rw [List.lookup_cons,hx] at h
        exact .inl (by rw [List.lookup_cons,hx];exact h)
    |false =>
      have h':(r.map fun (n,k)=>if (k==NameKind.free&&env.scope.kind==.function&&env.kindOf n==some .cell) then (n,NameKind.cell) else (n,k)).lookup x=some k:=by
        by_cases hc:(j==NameKind.free&&env.scope.kind==.function&&env.kindOf n==some .cell)=true
        · simp only [hc,if_true] at h
          rw [List.lookup_cons,hx] at h
          exact h
        · simp only [hc,Bool.false_eq_true,if_false] at h
          rw [List.lookup_cons,hx] at h
          exact h
      rw [List.lookup_cons,hx]
      exact ih h'
noncomputable def Cx.cw (X:Cx) (N:List Str) (sc:Scope) (C:Addr) (s₂:Shared) (H₂:Hp) (fp:List Addr) (pn:List (Addr×Obj)):Cx where
 prog:=X.prog
 w:=X.w
 K:=X.K
 mg:=X.mg
 base:=X.base
 A:=X.A
 N:=N
 s₀:=s₂
 H₀:=H₂
 env:=compEnvC sc (lR sc X.env) C X.env
 outer:=X.stack
 stack:=X.stack
 ex:=fp
 fn:=fun _=>false
 calm:=X.calm
 pn:=pn
 xe:=fun _ _=>False
def mC (X:Cx) (ifs:List Expr) (t:TT):Prop :=
 ∀ (pins:List (Addr×Obj)) (s:Shared) (σ:St) (H:Hp) (Q:Bool→Hp→Prop),Inv X pins σ H s→t σ H Q →
  wpAny (model X.prog X.w) X.A (forIn ifs true fun c r=>if r=true then do let ok ←isTrue c X.env (eval c X.env);pure (ForInStep.yield ok) else pure (ForInStep.yield r)) (TP X pins σ Q) X.xe s
noncomputable def ve:TT:=fun _ H Q=>Q true H
theorem ua {X:Cx}:mC X [] ve:=fun _ _ _ H _ I h=>wpAny_tests_nil ⟨H,I,h⟩
theorem DY {X:Cx}{c:Expr}{t:TT} (h:PT X c t):mC X [c] t:=fun pins s σ H Q I hq=>wpAny_tests_one (h pins s σ H Q I hq)
noncomputable def eW (σ:St) (ix:List Nat):St:=ix.map fun i=>(σ[i]?).getD none
def yP (J:It) (D:Addr) (H1:Hp) (fr:St) (tc:TT) (te:TE) (Q:Addr→Hp→Prop):Prop :=
 ∃ W:Nat→Nat→Hp→Prop,(∃ m,W 0 m (upd H1 D (.lst [])))∧∀ i m H,W i m H→(J.stop i H∧Q D H) ∨
  (J.go i H∧∀ x H',J.iF i H x H'→tc (some x::fr) H' fun b H3=>if b=true then te (some x::fr) H3 fun y H4=>∃ ys,H4 D=some (.lst ys)∧ys.length < sizeLine∧∃ m',m' < m∧W (i+1) m' (upd H4 D (.lst (ys++[y])))
   else ∃ m',m' < m∧W (i+1) m' H3)
noncomputable def nP (wi:TI) (ix:List Nat) (tc:TT) (te:TE):TE:=fun σ H Q=>wi σ H fun J H1=>∀ D,H1 D=none→yP J D H1 (eW σ ix) tc te fun D H=>Q (.ref D) H
theorem Li {prog:Program}{w:World}{A:Around}{s:Shared}{R:Result→Shared→Prop}{elt target iter:Expr}{ifs:List Expr}{scope:Scope}{pos:Pos}{it acc:Value}{env:Env} (I:Nat→Shared→Prop)
  (turn:∀ n s,I n s→wpAny (model prog w) A (pyNext it) (fun r s₁=>match r with
   |none=>R (.ok .next) s₁
   |some v=>wpAny (model prog w) A (letOwnedTupleGo target it v) (fun _ s₂=>wpAny (model prog w) A (assign target env v) (fun _ s₃ =>
    wpAny (model prog w) A (forIn ifs true fun c r=>if r=true then do let ok ←isTrue c env (eval c env);pure (ForInStep.yield ok) else pure (ForInStep.yield r)) (fun ok s₄ =>
     if ok=true then wpAny (model prog w) A (eval elt env) (fun x s₅ =>
      wpAny (model prog w) A (call (.builtin "list.append") [acc,x]) (fun _ s₆=>∃ m,m < n∧I m s₆) (notedBy (model prog w) A env fun e s'=>R (.error e) s') s₅) (notedBy (model prog w) A env fun e s'=>R (.error e) s') s₄
     else ∃ m,m < n∧I m s₄) (notedBy (model prog w) A env fun e s'=>R (.error e) s') s₃) (notedBy (model prog w) A env fun e s'=>R (.error e) s') s₂) (notedBy (model prog w) A env fun e s'=>R (.error e) s') s₁) (notedBy (model prog w) A env fun e s'=>R (.error e) s') s)
  (n:Nat) (h:I n s) :
  codeAny (model prog w) A (.compLoop (.ListComp elt [⟨target,iter,ifs,0⟩] scope pos) 0 it acc env) R s:=by
 refine codeAny_loop rfl I (fun n s hI=>?_) n h
 show wpAny _ A ((compTurn (.ListComp elt [⟨target,iter,ifs,0⟩] scope pos) 0 it acc env).onRaise (fun x=>do noteFrame x env;theTreesLotGoes x)) _ _ s
 refine wpAny_noted ?_
 rw [compTurn_list]
 refine wpAny_bind (wpAny_standAt (wpAny_bind (wpAny_mono (turn n s hI) (fun r s₁ h₁=>?_) fun _ _ h'=>h')))
 cases r with
 |none=>exact wpAny_pure h₁
 |some v =>
  refine wpAny_bind (wpAny_mono h₁ (fun _ s₂ h₂=>?_) fun _ _ h'=>h')
  refine wpAny_bind (wpAny_mono h₂ (fun _ s₃ h₃=>wpAny_bind (wpAny_mono h₃ (fun ok s₄ h₄=>?_) fun _ _ h'=>h')) fun _ _ h'=>h')
  cases ok with
  |false=>exact wpAny_pure ⟨rfl,h₄⟩
  |true =>
   exact wpAny_bind (wpAny_bind (wpAny_mono h₄ (fun x s₅ h₅=>wpAny_bind (wpAny_mono h₅ (fun _ s₆ h₆=>wpAny_pure (wpAny_pure ⟨rfl,h₆⟩)) fun _ _ h'=>h')) fun _ _ h'=>h'))
structure lC (N N':List Str) (sc aB:Scope) (x:Str) (ix:List Nat):Prop where
 kind:aB.kind=.function
 EZ:∀ y∈aB.names,y.2≠.cell
 names:∀ y∈aB.names,y.2=.local→aB.names.lookup y.1=some .local
 loc:aB.names.lookup x=some .local
 free:∀ y∈aB.names,y.2=.free→sc.names.lookup y.1=some .cell
 nd:N'.Nodup
 hd:N'[0]?=some x
 len:N'.length=ix.length+1
 fr:∀ p∈ix.zip N'.tail,N[p.1]?=some p.2∧sc.names.lookup p.2=some .cell∧aB.names.lookup p.2=some .free
section
variable {X:Cx}{N':List Str}{aB:Scope}{x:Str}{ix:List Nat}{px pos:Pos}{elt iter:Expr}{ifs:List Expr}{wi:TI}{tc:TT}{te:TE}
theorem B4 {pins:List (Addr×Obj)}{σ:St}{H2:Hp}{s2:Shared}{it:Addr}{fp:List Addr}{tn:Nat→Heap→Prop}{J:It}{RR:Value→Addr→Result→Shared→Prop}{E:Value→Shared→Prop}{Qd:Addr→Hp→Prop}
  (ok:lC X.N N' X.env.scope aB x ix) (hc:X.calm=true) (I2:Inv X pins σ H2 s2) (T:Turn X.prog X.w X.K (.Name x px) J fp it tn) (bj:tn 0 s2.heap) (f2:∀ b∈fp,iZ X pins H2 b)
  (gZ:∀ C s₂ H₂ fp pn,mC (X.cw N' aB C s₂ H₂ fp pn) ifs tc) (fZ:∀ C s₂ H₂ fp pn,PE (X.cw N' aB C s₂ H₂ fp pn) elt te)
  (hW:∀ D,H2 D=none→yP J D H2 (eW σ ix) tc te Qd)
  (Xx:∀ D C s4 H4 m,Inv X pins σ H4 s4→s4.heap.Ns C m→(∀ (h':Heap) (t':Nat) (σ':St) (s5:Shared),Inv X pins σ' H4 s5→Heap.SameBut C s5.heap h'→Inv X pins σ' H4 { s5 with heap:=h',toks:=t' })→C≠X.env.locals→(∀ y c,X.env.cells.lookup y=some c→c≠C)→Qd D H4→RR (.ref D) C (.ok .next) s4) :
  wpAny (model X.prog X.w) X.A (newList []) (fun acc s₃=>wpAny (model X.prog X.w) X.A (newFunctionEnv aB X.env.globals (lR aB X.env) [] X.env.qual none .none (some X.env)) (fun GU s₄ =>
   codeAny (model X.prog X.w) X.A (.compStart (.ListComp elt [⟨.Name x px,iter,ifs,0⟩] aB pos) 0 (.ref it) acc { GU with scope:=relabel aB X.env }) (RR acc GU.locals) s₄) E s₃) E s2:=by
 refine wpAny_newObj_type (wpAny_newFunctionEnv ok.EZ (by intro y hy;simp at hy) (fun h₁ hns₁ hsb₁=>?_) ok.kind)
 dsimp only at hns₁ hsb₁ ⊢
 generalize Ad:s2.heap.push { cls:=.type "list",dict:=none,data:=.seq ([]:List Value).toArray }=HP at hns₁ hsb₁ ⊢
 have hC:HP.objs.size=s2.heap.objs.size+1:=by rw [←Ad,Heap.size_push]
 have vI:s2.heap.objs.size≠HP.objs.size:=by rw [hC];exact Nat.ne_of_lt (Nat.lt_succ_self _)
 have qD:s2.heap.objs.size≤HP.objs.size:=by rw [hC];exact Nat.le_succ _
 have below:∀ b,b < s2.heap.objs.size→b≠HP.objs.size∧b≠s2.heap.objs.size:=fun b hb=>⟨by rw [hC];exact Nat.ne_of_lt (Nat.lt_succ_of_lt hb),Nat.ne_of_lt hb⟩
 have old:∀ b o,s2.heap.get? b=some o→h₁.get? b=some o:=fun b o e=>hsb₁.extBut b o (below b (Heap.lt_size e)).1 (Heap.get?_push_of_some _ (Ad▸Heap.get?_push_of_some _ e))
 have n5:h₁.get? s2.heap.objs.size=some { cls:=.type "list",dict:=none,data:=.seq ([]:List Value).toArray }:=hsb₁.extBut _ _ vI (Heap.get?_push_of_some _ (Ad▸Heap.get?_push_size _ rfl))
 have Ae:H2 s2.heap.objs.size=none:=I2.aD.fresh (Nat.le_refl _)
 have Ip:H2 HP.objs.size=none:=I2.aD.fresh qD
 generalize hD:s2.heap.objs.size=D at vI n5 Ae ⊢
 generalize Z7:HP.objs.size=C at hns₁ hsb₁ vI Ip qD below ⊢
 have uG:∀ y∈aB.names,y.2=.free→∃ c,X.env.cells.lookup y.1=some c:=fun y hy e=>I2.ok.has y.1 (.inl (ok.free y hy e))
 have kY:∀ y c,(lR aB X.env).lookup y=some c→X.env.cells.lookup y=some c:=EX X.env (fun _ _=>trivial) aB.names [] uG (fun _ _ z=>by simp at z)
 have Iq:∀ y,(y,NameKind.free)∈aB.names→∃ c,(lR aB X.env).lookup y=some c:=fun y hy=>EY X.env aB.names [] y (.inr hy)
 have E1:∀ y c,X.env.cells.lookup y=some c→c < s2.heap.objs.size:=fun y c e=>by
  obtain ⟨v,o,ho,_⟩:=I2.cell y c e
  exact Heap.lt_size ho
 have zm:∀ b∈fp,b < s2.heap.objs.size:=fun b hb=>by
  obtain ⟨o,e,_⟩:=T.obj 0 _ bj b hb
  exact Heap.lt_size e
 have zo:∀ b,b≠X.env.locals→b∉X.fs→b∉gW X.stack:=fun b h1 h2 z=>(List.mem_cons.mp (I2.yj b z)).elim h1 h2
 have Xy:(X.cw N' aB C s2 H2 fp (X.pn++pins)).Ok:=by
  refine ⟨I2.ok.mod,ok.kind,I2.ok.glob,I2.ok.blt,qD,fun y z c h1 h2=>?_,fun y hy=>?_,fun y c z=>?_,I2.ok.hd,I2.ok.frames,.inl rfl,fun b hb=>?_,I2.bs,Nat.le_trans I2.ok.jU I2.sz,fun b o e hb=>?_,fun b hb=>?_,I2.stack,I2.DJ⟩
  ·exact I2.ok.inj y z c (kY y c h1) (kY z c h2)
  ·have z9:(relabel aB X.env).names.lookup y=some .cell∨(relabel aB X.env).names.lookup y=some .free:=hy
   have hf:aB.names.lookup y=some .free:=by
    rcases z9 with z|z
    ·rcases sW z with q|q
     ·exact absurd rfl (ok.EZ _ (PySem.mem_of_lookup q))
     ·exact q.2
    ·rcases sW z with q|q
     ·exact q
     ·exact absurd q.1 (by decide)
   exact Iq y (PySem.mem_of_lookup hf)
  ·exact nomatch z
  ·exact ⟨(below b (zm b hb)).1,fun y c e=>(f2 b hb).2.2.2.2.1 y c (kY y c e)⟩
  ·rcases (f2 b hb).2.2.2.1 with z|z
   ·exact I2.ok.qz b o e z
   ·exact absurd (Nat.lt_of_lt_of_le (Heap.lt_size e) (Nat.le_trans I2.ok.jU z)) (Nat.lt_irrefl _)
  ·exact zo b (f2 b hb).2.1 (f2 b hb).2.2.1
 have Af:∀ {H':Hp},(∀ b∈fp,H' b=none)→∀ b∈fp,iZ (X.cw N' aB C s2 H2 fp (X.pn++pins)) [] H' b:=fun hn b hb =>
  ⟨hn b hb,(below b (zm b hb)).1,zo b (f2 b hb).2.1 (f2 b hb).2.2.1,.inl hb,fun y c e=>(f2 b hb).2.2.2.2.1 y c (kY y c e),fun p hp=>(f2 b hb).2.2.2.2.2 p (by simpa using (show p∈(X.pn++pins)++[] from hp))⟩
 obtain ⟨mL,Z8,UQ⟩:=id I2.loc
 have IB:Inv (X.cw N' aB C s2 H2 fp (X.pn++pins)) [] (none::eW σ ix) (upd H2 D (.lst [])) { s2 with heap:=h₁,toks:=s2.toks+([]:List (Str×Value)).length }:=by
  refine ⟨Xy,rfl,I2.bare,Un.laid old (Nat.le_of_eq hD) Ae,⟨_,hns₁,fun i y v h1 h2 h3=>?_⟩,fun y c e=>?_,?_,fun y c e=>?_,fun p hp=>?_,I2.aD.laid old (Nat.le_of_eq hD) ⟨Nat.zero_le _,[],_,.nil,n5⟩,?_⟩
  ·cases i with
   |zero=>exact nomatch h2
   |succ j =>
    have oI:(eW σ ix)[j]?=some (some v):=h2
    have Xz:N'[j+1]?=some y:=h1
    unfold eW at oI
    rw [List.getElem?_map] at oI
    cases ei:ix[j]? with
    |none=>rw [ei] at oI;cases oI
    |some i =>
     rw [ei] at oI
     have vf:(σ[i]?).getD none=some v:=Option.some.inj oI
     have hσ:σ[i]?=some (some v):=by
      cases es:σ[i]? with
      |none=>rw [es] at vf;cases vf
      |some q=>rw [es] at vf;exact congrArg some vf
     have WM:N'.tail[j]?=some y:=by rw [List.getElem?_tail];exact Xz
     obtain ⟨n1,n2,n3⟩:=ok.fr (i,y) (List.mem_of_getElem? (i:=j) (by rw [List.getElem?_zip_eq_some];exact ⟨ei,WM⟩))
     obtain ⟨u,ru,lk⟩:=UQ i y v n1 hσ (.inr (.inl n2))
     refine ⟨u,ru,?_⟩
     rcases lk with ⟨k,_⟩|⟨_,c,ec,z⟩
     ·have k':X.env.scope.names.lookup y=some .local:=k
      rw [n2] at k'
      cases k'
     ·obtain ⟨c',Ir⟩:=Iq y (PySem.mem_of_lookup n3)
      have e3:=kY y c' Ir
      rw [ec] at e3
      cases e3
      have kk:(relabel aB X.env).names.lookup y=some .cell∨(relabel aB X.env).names.lookup y=some .free:=by
       rcases h3 with q|q|q
       ·have q':(relabel aB X.env).names.lookup y=some .local:=q
        rcases sW q' with r|r
        ·rw [n3] at r;cases r
        ·exact absurd r.1 (by decide)
       ·exact .inl q
       ·exact .inr q
      exact .inr ⟨kk,c,Ir,z.keeps old⟩
  ·obtain ⟨v,z⟩:=I2.cell y c (kY y c e)
   exact ⟨v,z.keeps old⟩
  ·show upd H2 D (.lst []) C=none
   rw [aG (Ne.symm vI)]
   exact Ip
  ·show upd H2 D (.lst []) c=none
   have l:=E1 y c (kY y c e)
   rw [aG (fun q=>by rw [q,←hD] at l;exact Nat.lt_irrefl _ l)]
   exact I2.gj y c (kY y c e)
  ·have mD:p∈X.pn++pins:=by simpa using (show p∈(X.pn++pins)++[] from hp)
   obtain ⟨e,n,ne,nf,d⟩:=I2.pin p mD
   have l:=Heap.lt_size e
   refine ⟨old _ _ e,?_,(below p.1 l).1,zo p.1 ne nf,d⟩
   rw [aG (fun q=>by rw [q,←hD] at l;exact Nat.lt_irrefl _ l)]
   exact n
  ·show (none::eW σ ix:St).length=N'.length
   rw [ok.len]
   simp [eW]
 have back:∀ {H4:Hp}{s4:Shared}{σ4:St}{ps:List (Addr×Obj)},Inv (X.cw N' aB C s2 H2 fp (X.pn++pins)) ps σ4 H4 s4→Inv X pins σ H4 s4:=fun I4 =>
  I2.Uw I4.os I4.base I4.aD I4.bare fun b hb=>⟨(f2 b hb).2.2.2.1,(f2 b hb).2.1,(f2 b hb).2.2.2.2.1,(f2 b hb).2.2.2.2.2⟩
 have mr:C≠X.env.locals:=fun z=>by
  have l:=I2.lt
  rw [←z] at l
  exact absurd (Nat.lt_of_lt_of_le l qD) (Nat.lt_irrefl _)
 have jW:∀ y c,X.env.cells.lookup y=some c→c≠C:=fun y c e=>(below c (E1 y c e)).1
 have XA:∀ p∈X.pn++pins,p.1≠C:=fun p hp=>(below p.1 (Heap.lt_size (I2.pin p hp).1)).1
 have loop:∀ s₃:Shared,s₃={ s2 with heap:=h₁,toks:=s2.toks+([]:List (Str×Value)).length } →
   codeAny (model X.prog X.w) X.A (.compLoop (.ListComp elt [⟨.Name x px,iter,ifs,0⟩] aB pos) 0 (.ref it) (.ref D) (compEnvC aB (lR aB X.env) C X.env)) (RR (.ref D) C) s₃:=by
  rintro s₃ rfl
  obtain ⟨W,⟨m0,XB⟩,turn⟩:=hW D Ae
  refine Li (fun n s'=>∃ i H',Inv (X.cw N' aB C s2 H2 fp (X.pn++pins)) [] (none::eW σ ix) H' s'∧tn i s'.heap∧(∀ b∈fp,H' b=none)∧W i n H') ?_ m0
   ⟨0,_,IB,T.keep _ _ _ bj fun b _ o e=>old b o e,fun b hb=>?_,XB⟩
  ·rintro n s3 ⟨i,H3,I3,bt,qW,w3⟩
   rcases turn i n H3 w3 with ⟨stop,qn⟩|⟨go,step⟩
   ·refine aF (T.done (X.cw N' aB C s2 H2 fp (X.pn++pins)) rfl rfl rfl hc i [] s3 _ H3 _ I3 (Af qW) bt stop) fun r s4 ⟨hr,I4⟩=>?_
    subst hr
    obtain ⟨m4,XC,_⟩:=id I4.loc
    refine Xx D C s4 H3 m4 (back I4) XC (fun h' t' σ' s5 I5 sb=>I5.turned (it:=C) (fun b o hb e=>(sb.2 b hb).trans e) I4.free mr (.inr (Nat.le_trans I2.sz qD)) jW XA) mr jW qn
   ·refine aF (T.item (X.cw N' aB C s2 H2 fp (X.pn++pins)) rfl rfl rfl hc i [] s3 _ H3 _ I3 (Af qW) bt go) fun r s4 ⟨u,hr,h4⟩=>?_
    subst hr
    refine aF h4 fun _ s5 ⟨v,H5,I5,r5,y5,dN,zY⟩=>?_
    have zZ:=I5.pinned (Af zY) (T.obj _ _ dN)
    have Iu:(compEnvC aB (lR aB X.env) C X.env).scope.names.lookup x=some .local:=lookup_relabel_local ok.loc
    have fin:∀ {H7:Hp}{s7:Shared},Inv (X.cw N' aB C s2 H2 fp (X.pn++pins)) ([]++qb fp s5.heap) (some v::eW σ ix) H7 s7→∀ {m':Nat},m' < n→W (i+1) m' H7 →
      ∃ m,m < n∧∃ i H',Inv (X.cw N' aB C s2 H2 fp (X.pn++pins)) [] (none::eW σ ix) H' s7∧tn i s7.heap∧(∀ b∈fp,H' b=none)∧W i m H':=fun {H7 s7} I7 {m'} hm w7=>by
     refine ⟨m',hm,i+1,H7,I7.tP.weak rfl (fun j q e=>?_),T.keep _ _ _ dN fun b hb o e=>(I7.pin (b,o) (List.mem_append_right _ (List.mem_append_right _ (tJ hb e)))).1,fun b hb=>?_,w7⟩
     ·cases j with
      |zero=>exact nomatch e
      |succ j=>exact e
     ·obtain ⟨o,e,d⟩:=T.obj _ _ dN b hb
      exact (I7.pin (b,o) (List.mem_append_right _ (List.mem_append_right _ (tJ hb e)))).2.1
    refine wpAny_mono (DL (X:=X.cw N' aB C s2 H2 fp (X.pn++pins)) (i:=0) ok.nd ok.hd (.inl Iu) (.inr Iu) _ s5 _ H5 v u (fun σ' H'=>σ'=some v::eW σ ix∧H'=H5) zZ r5 ⟨rfl,rfl⟩) (fun _ s6 ⟨σ6,H6,I6,e1,e2⟩=>?_) fun _ _ z=>z.elim
    subst e1 e2
    refine wpAny_mono (gZ C s2 H2 fp (X.pn++pins) _ s6 _ _ _ I6 (step v _ y5)) (fun b s7 ⟨H7,I7,q7⟩=>?_) fun _ _ z=>z.elim
    cases b with
    |false =>
     rw [if_neg Bool.false_ne_true] at q7 ⊢
     obtain ⟨m',hm,w7⟩:=q7
     exact fin I7 hm w7
    |true =>
     rw [if_pos rfl] at q7 ⊢
     refine wpAny_mono (fZ C s2 H2 fp (X.pn++pins) _ s7 _ _ _ I7 q7) (fun uy s8 ⟨y,H8,I8,r8,ys,mE,hl,m',hm,w8⟩=>?_) fun _ _ z=>z.elim
     refine wpAny_mono (Cy (X:=X.cw N' aB C s2 H2 fp (X.pn++pins)) _ s8 _ H8 (.ref D) [y] (.ref D) [uy] (fun _ H'=>H'=upd H8 D (.lst (ys++[y]))) I8 rfl (.cons r8 .nil) ⟨D,ys,y,rfl,rfl,mE,hl,rfl⟩) (fun _ s9 ⟨z,H9,I9,_,q9⟩=>?_) fun _ _ z=>z.elim
     subst q9
     exact fin I9 hm w8
  ·show upd H2 D (.lst []) b=none
   have l:=zm b hb
   rw [aG (fun q=>by rw [q,←hD] at l;exact Nat.lt_irrefl _ l)]
   exact (f2 b hb).1
 exact codeAny_compStart_list (loop _ rfl) (T.self X.A 0 _ _ _ (T.keep _ _ _ bj fun b _ o e=>old b o e) (loop _ rfl))
theorem ub (ok:lC X.N N' X.env.scope aB x ix) (hc:X.calm=true) (hi:PI X (.Name x px) iter wi) (gZ:∀ C s₂ H₂ fp pn,mC (X.cw N' aB C s₂ H₂ fp pn) ifs tc) (fZ:∀ C s₂ H₂ fp pn,PE (X.cw N' aB C s₂ H₂ fp pn) elt te)
  (hs:∀ x,foldedSetIterable iter X.env x=pure x:=by intro _;rfl):PE X (.ListComp elt [⟨.Name x px,iter,ifs,0⟩] aB pos) (nP wi ix tc te):=by
 intro pins s σ H Q I h
 rw [eval_ListComp]
 refine wpAny_comprehension_free (use:=none) rfl hs (BE fun y hy e=>I.ok.has y.1 (.inl (ok.free y hy e))) ok.kind ok.names (aF (hi pins s σ H _ I h) fun v s1 h1=>aF h1 fun vA s2 h2=>?_)
 obtain ⟨it,fp,tn,J,H2,e,I2,T,bj,f2,hW⟩:=h2
 subst e
 refine B4 (RR:=fun acc C=>compPost (model X.prog X.w) X.A X.xe none (EP X pins σ Q) acc C) (Qd:=fun D H=>Q (.ref D) H) ok hc I2 T bj f2 gZ fZ hW ?_
 intro D C s4 H4 m I4 oG tr _ _ q
 exact ⟨m,oG,fun h' sb=>⟨.ref D,H4,tr h' s4.toks σ s4 I4 sb,rfl,q⟩⟩
theorem LQ {i:Nat}{y:Str}{py qE:Pos} (hN:X.N.Nodup) (Ag:X.N[i]?=some y) (hy:X.env.scope.names.lookup y=some .local) (ok:lC X.N N' X.env.scope aB x ix) (hc:X.calm=true) (hi:PI X (.Name x px) iter wi) (gZ:∀ C s₂ H₂ fp pn,mC (X.cw N' aB C s₂ H₂ fp pn) ifs tc)
  (fZ:∀ C s₂ H₂ fp pn,PE (X.cw N' aB C s₂ H₂ fp pn) elt te) (Ah:swapsWith (.ListComp elt [⟨.Name x px,iter,ifs,0⟩] aB pos) (some (.Name y py)) qE.line X.env=pure true:=by rfl)
  (hs:∀ x,foldedSetIterable iter X.env x=pure x:=by intro _;rfl):PS X (.Assign [.Name y py] (.ListComp elt [⟨.Name x px,iter,ifs,0⟩] aB pos) qE) (gQ (nP wi ix tc te) (iT i)):=by
 intro pins s σ H D I h
 rw [exec_Assign_Name_used _ _ _ _ Ah]
 refine wpAny_bind (wpAny_standAt (wpAny_bind ?_))
 show wpAny _ X.A (do let _ ←comprehension (.ListComp elt [⟨.Name x px,iter,ifs,0⟩] aB pos) aB X.env _ (newList []) false (eval iter X.env) (some (assign (.Name y py) X.env))) _ _ s
 refine wpAny_bind (wpAny_mono (wpAny_comprehension_free (use:=some (assign (.Name y py) X.env)) (Q:=fun _ s'=>SP X pins D .next s') rfl hs (BE fun y hy e=>I.ok.has y.1 (.inl (ok.free y hy e))) ok.kind ok.names
  (aF (hi pins s σ H _ I h) fun v s1 h1=>aF h1 fun vA s2 h2=>?_)) (fun _ s' hq=>wpAny_pure (wpAny_pure hq)) fun _ _ e=>e)
 obtain ⟨it,fp,tn,J,H2,e,I2,T,bj,f2,hW⟩:=h2
 subst e
 refine B4 (RR:=fun acc C=>compPost (model X.prog X.w) X.A X.xe (some (assign (.Name y py) X.env)) (fun _ s'=>SP X pins D .next s') acc C) (Qd:=fun B H=>D.nx (σ.set i (some (.ref B))) H) ok hc I2 T bj f2 gZ fZ hW ?_
 intro B C s4 H4 m I4 oG tr mr jW q
 show wpAny _ X.A (assign (.Name y py) X.env (.ref B)) _ _ s4
 refine wpAny_assign_Name (Cr I4 hN Ag (.inl hy) (show RelV (.ref B) (.ref B) from rfl) (fun s5 I5 ⟨a,sb,ha⟩=>?_) (.inr hy))
 have XD:C≠a:=by
  rcases ha with e|e
  ·rw [e];exact mr
  ·exact Ne.symm (jW y a e)
 exact ⟨m,oG.sameBut sb XD,fun h' XE=>⟨_,H4,tr h' s5.toks _ s5 I5 XE,q⟩⟩
end
def gK (h:Heap) (d:Addr) (es:Array DictEntry) (ep:Nat):Prop:=∃ o,h.get? d=some o∧o.ExactDict∧o.data=.dict es ep
theorem gK.ty {s:Shared}{d:Addr}{es:Array DictEntry}{ep:Nat} (x:gK s.heap d es ep):s.TypeIs (.ref d) "dict" := let ⟨o,ho,hc,_⟩:=x;⟨o,ho,hc.1⟩
theorem gK.at {h h':Heap}{d:Addr}{es:Array DictEntry}{ep:Nat} (x:gK h d es ep) (e:∀ o,h.get? d=some o→h'.get? d=some o):gK h' d es ep:=let ⟨o,ho,r⟩:=x;⟨o,e _ ho,r⟩
theorem gK.lt {h:Heap}{d:Addr}{es:Array DictEntry}{ep:Nat} (x:gK h d es ep):d < h.objs.size:=let ⟨_,ho,_⟩:=x;Heap.lt_size ho
section
variable {prog:Program}{w:World}{A:Around}{E:Value→Shared→Prop}{s:Shared}{d it:Addr}{es:Array DictEntry}{i ep:Nat}
theorem LR {Q:Value→Shared→Prop} (hd:(d==sysModules)=false) (hm:gK s.heap d es ep)
  (hQ:Q (.ref s.heap.objs.size) { s with heap:=s.heap.push { cls:=.type "dict_keyiterator",data:=.fields #[.ref d,.int 0 0,.int es.size 0,.int ep 0] } }):wpAny (model prog w) A (pyIter (.ref d)) Q E s:=by
 obtain ⟨o,ho,hc,jM⟩:=id hm
 have hT:=hm.ty
 refine wpAny_pyIter_slot hT F.slot_dict_iter (wpAny_call_entry F.slot_dict_iter hT F.entry_dict_iter ?_ (F.args_dict_iter_1 _));unfold Builtin.«dict.__iter__»
 refine wpAny_bind ?_;unfold Builtin.Dict.dictSlotNone;refine wpAny_bind (wpAny_notOrdered_dict hT ?_)
 show wpAny _ _ (pure (Value.ref d)) _ _ s;refine wpAny_pure ?_
 show wpAny _ _ (Builtin.Dict.showsAll d >>= _) _ _ s;unfold Builtin.Dict.showsAll
 rw [if_neg (by rw [hd];exact Bool.false_ne_true)];refine wpAny_bind (wpAny_pure ?_)
 refine wpAny_bind (wpAny_dictEntries ho jM ?_);refine wpAny_bind (wpAny_dictEpoch ho jM ?_)
 refine wpAny_bind (wpAny_newObj_type (wpAny_pure ⟨_,rfl, "dict_keyiterator",_,⟨_,Heap.get?_push_size _ rfl,rfl⟩,F.slot_dict_keyiterator_next.lookup,?_⟩));simpa [rawInt] using hQ
theorem LV {e:DictEntry}{Q:Option Value→Shared→Prop} (hit:s.heap.IsKeyIter it d i es.size ep) (hm:gK s.heap d es ep) (hx:es[i]?=some e)
  (hQ:∀ h',h'.IsKeyIter it d (i+1) es.size ep→Heap.SameBut it s.heap h'→Q (some e.key) { s with heap:=h' }):wpAny (model prog w) A (pyNext (.ref it)) Q E s:=by
 obtain ⟨o,ho,hc,hd⟩:=id hit;obtain ⟨od,kZ,gx,k5⟩:=id hm
 unfold pyNext;refine wpAny_bind (wpAny_attempt (wpAny_callSpecial?_slot (name:=Str.ofString "__next__") hit.typeIs F.slot_dict_keyiterator_next (wpAny_call_entry F.slot_dict_keyiterator_next hit.typeIs F.entry_dict_keyiterator_next ?_ (F.args_dict_keyiterator_next_1 _))))
 refine wpAny_bind (wpAny_pure ?_);refine wpAny_bind ?_;refine wpAny_bind ?_
 (first|refine wpAny_bind (wpAny_typeNameOfWhole_keyiter hit.typeIs (wpAny_pure ?_))|refine wpAny_bind (wpAny_typeNameOf_keyiter hit.typeIs (wpAny_pure ?_)));refine wpAny_bind (wpAny_fieldsOf ho hd ?_)
 have zp:Builtin.Dict_items.ownsTuple "dict_keyiterator" = false:=by decide +kernel
 simp only [zp,Bool.false_eq_true,if_false];show wpAny _ _ (if (Value.ref d==Value.none)=true then _ else _) _ _ s
 rw [if_neg (show ¬ ((Value.ref d==Value.none)=true) from Bool.false_ne_true)];refine wpAny_bind (wpAny_pure ?_)
 refine wpAny_bind (wpAny_dictEntries kZ k5 ?_);rw [if_neg (by simp)];refine wpAny_bind (wpAny_pure ?_)
 refine wpAny_bind (wpAny_dictEpoch kZ k5 ?_);rw [if_neg (by simp)];refine wpAny_pure ?_
 have aU:i < es.size:=(Array.getElem?_eq_some_iff.mp hx).1
 have jh:es[i]=e:=(Array.getElem?_eq_some_iff.mp hx).2
 simp only [show ¬ ((i:Int) < 0) from by omega,if_false,Int.toNat_natCast,Array.getElem?_eq_getElem aU];refine wpAny_bind ?_
 (first|refine wpAny_bind (wpAny_typeNameOfWhole_keyiter hit.typeIs (wpAny_pure ?_))|refine wpAny_bind (wpAny_typeNameOf_keyiter hit.typeIs (wpAny_pure ?_)));refine wpAny_bind (wpAny_isOneOf_keyiter hit.typeIs ?_)
 show wpAny _ _ (setField (.ref it) 1 (rawInt ((i:Int)+1)) >>= _) _ _ s;refine wpAny_bind (wpAny_setField ho hd (by simp) ?_)
 have kE:(s.heap.update it (Obj.mapFields (·.setIfInBounds 1 (rawInt ((i:Int)+1))))).IsKeyIter it d (i+1) es.size ep:=⟨_,Heap.get?_update_self _ ho (Obj.isFreed_of_fields (Obj.data_mapFields hd _)),(Obj.cls_mapFields ..).trans hc,by rw [Obj.data_mapFields hd];simp [rawInt]⟩
 refine wpAny_bind (wpAny_holding ?_);refine wpAny_bind (wpAny_isOneOf_keyiter (s:={ s with heap:=s.heap.update it (Obj.mapFields (·.setIfInBounds 1 (rawInt ((i:Int)+1)))) }) kE.typeIs ?_)
 show wpAny _ _ (pure es[i].key) _ _ _;rw [jh]
 exact wpAny_pure (wpAny_pure ⟨_,rfl,wpAny_pure (hQ _ kE (Heap.SameBut.update ..))⟩)
theorem Mt {Q:Option Value→Shared→Prop} (hh:A.handled=none) (hit:s.heap.IsKeyIter it d i es.size ep) (hm:gK s.heap d es ep) (hx:es.size≤i)
  (hQ:∀ h',Heap.ExtBut it s.heap h'→Q none { s with heap:=h' }):wpAny (model prog w) A (pyNext (.ref it)) Q E s:=by
 obtain ⟨o,ho,hc,hd⟩:=id hit;obtain ⟨od,kZ,gx,k5⟩:=id hm
 unfold pyNext;refine wpAny_bind (wpAny_attempt (wpAny_callSpecial?_slot (name:=Str.ofString "__next__") hit.typeIs F.slot_dict_keyiterator_next (wpAny_call_entry F.slot_dict_keyiterator_next hit.typeIs F.entry_dict_keyiterator_next ?_ (F.args_dict_keyiterator_next_1 _))))
 refine wpAny_bind (wpAny_pure ?_);refine wpAny_bind ?_;refine wpAny_bind ?_
 (first|refine wpAny_bind (wpAny_typeNameOfWhole_keyiter hit.typeIs (wpAny_pure ?_))|refine wpAny_bind (wpAny_typeNameOf_keyiter hit.typeIs (wpAny_pure ?_)));refine wpAny_bind (wpAny_fieldsOf ho hd ?_)
 have zp:Builtin.Dict_items.ownsTuple "dict_keyiterator" = false:=by decide +kernel
 simp only [zp,Bool.false_eq_true,if_false];show wpAny _ _ (if (Value.ref d==Value.none)=true then _ else _) _ _ s
 rw [if_neg (show ¬ ((Value.ref d==Value.none)=true) from Bool.false_ne_true)];refine wpAny_bind (wpAny_pure ?_)
 refine wpAny_bind (wpAny_dictEntries kZ k5 ?_);rw [if_neg (by simp)];refine wpAny_bind (wpAny_pure ?_)
 refine wpAny_bind (wpAny_dictEpoch kZ k5 ?_);rw [if_neg (by simp)];refine wpAny_pure ?_
 simp only [show ¬ ((i:Int) < 0) from by omega,if_false,Int.toNat_natCast,Array.getElem?_eq_none hx];refine wpAny_bind ?_
 (first|refine wpAny_bind (wpAny_typeNameOfWhole_keyiter hit.typeIs (wpAny_pure ?_))|refine wpAny_bind (wpAny_typeNameOf_keyiter hit.typeIs (wpAny_pure ?_)));show wpAny _ _ (setField (.ref it) 0 .none >>= _) _ _ s
 refine wpAny_bind (wpAny_setField ho hd (by simp) ?_);show wpAny _ _ (newExc (.type "StopIteration") [] >>= _) _ _ _
 refine wpAny_bind ?_;simp only [newExc,newTuple];refine wpAny_bind (wpAny_newObj_type ?_ (by size_fits))
 refine wpAny_bind (m:=firstArgMember _ _) (wpAny_of_eq (a:=Value.none) (by first|rfl | (simp only [firstArgMember];rfl)) ?_);refine wpAny_newObj_type ?_ (by size_fits)
 simp only [raiseNew];refine wpAny_bind (wpAny_handled ?_);rw [show A.in1.handled=none from hh]
 refine wpAny_bind (wpAny_pure (wpAny_throw ?_));refine wpAny_bind (wpAny_isInstance (T := "StopIteration") (b:=true) ⟨_,Heap.get?_push_size _ rfl,rfl⟩ isSubtype_stop ?_)
 exact wpAny_pure (hQ _ (((Heap.SameBut.update ..).extBut.push _).push _))
theorem Lj (hh:A.handled=none) (I d:Addr) (eE:d≠I) (es:Array DictEntry) (ep:Nat) :
  Walks prog w A I [I,d] [I] es.size (fun i v=>∃ e,es[i]?=some e∧v=e.key) (fun i h=>h.IsKeyIter I d i es.size ep∧gK h d es ep) where
 sub:=fun b hb=>by
  have e:b=I:=by simpa using hb
  rw [e];exact List.mem_cons_self
 frame:=fun _ _ _ st hk=>⟨st.1.at fun o e=>hk I List.mem_cons_self o e,st.2.at fun o e=>hk d (List.mem_cons_of_mem _ List.mem_cons_self) o e⟩
 item:=fun i s Q E hi st hQ=>LV st.1 st.2 (e:=es[i]) (by simp [hi]) fun h' kE oJ=>hQ _ h' s.toks ⟨es[i],by simp [hi],rfl⟩ ⟨kE,st.2.at fun o e=>oJ.extBut d o eE e⟩ fun b o hb e=>oJ.extBut b o (fun z=>hb (by rw [z];exact List.mem_cons_self)) e
 done:=fun s Q E st hQ=>Mt hh st.1 st.2 (Nat.le_refl _) fun h' XF=>hQ h' s.toks fun b o hb e=>XF b o (fun z=>hb (by rw [z];exact List.mem_cons_self)) e
 self:=fun _ _ _ _ st hQ=>wpAny_pyIter_keyiter st.1 hQ
theorem Mu (lo:(d==sysModules)=false):PySem.W.KdlSrc prog w "dict" d d es.size (fun i v=>∃ e,es[i]?=some e∧v=e.key) (fun h=>gK h d es ep) where
 type:=fun _ hm=>hm.ty
 there:=fun _ hm=>⟨hm.lt,hm.lt⟩
 keep:=fun _ _ hm hk=>hm.at fun o e=>hk d (.inl rfl) o e
 notList:=by decide +kernel
 notTuple:=by decide +kernel
 hint:=fun _ _ _ _ hm hq=>PySem.W.kdl_hint_dict hm.ty hq
 iter:=fun _ _ hh hm=>⟨_,_,(fun _ _ hq=>LR lo hm hq),Lj hh _ d (Nat.ne_of_lt hm.lt) es ep,⟨⟨_,Heap.get?_push_size _ rfl,rfl,rfl⟩,hm.at fun o e=>Heap.get?_push_of_some _ e⟩⟩
end
def qd (H:Hp):List (List Key)→List Addr→Prop:=Paired fun k b=>H b=some (.tup (k.map kV))
section
variable {X:Cx}
theorem Bm:∀ (bs:List Addr),Vals (bs.map V.ref) (bs.map Value.ref)
 |[]=>.nil
 |_::r=>.cons rfl (Bm r)
theorem DZ {H:Hp}:∀ {ai:List (List Key×V)}{xs:List (List Key×Addr×Value)},Paired (fun (p:List Key×V) (q:List Key×Addr×Value)=>p.1=q.1∧H q.2.1=some (.tup (p.1.map kV))∧RelV p.2 q.2.2) ai xs→qd H (ai.map (·.1)) (xs.map (·.2.1))
 |_,_,.nil=>.nil
 |_,_,.cons r t=>.cons r.2.1 (DZ t)
theorem La (hc:X.calm=true):gJ X (.type "list") (fun xs H Q=>∃ d ai,xs=[.ref d]∧H d=some (.dT ai)∧∀ l bs,H l=none→qd H (ai.map (·.1)) bs→Q (.ref l) (upd H l (.lst (bs.map V.ref)))):=by
 intro pins s σ H xs us Q I r h
 obtain ⟨d,ai,rfl,hd,q⟩:=h
 obtain ⟨u,rfl,rx⟩:=vals1 r
 cases rx
 obtain ⟨hz,XG,ys,rel,o,es,ep,ho,hex,jM,fZ,mF⟩:=(show b0 X.prog X.w H s.heap d (.dT ai) from I.aD d _ hd)
 have hlen:es.size=ai.length:=by
  have e1:es.toList.length=ys.length:=by rw [fZ,List.length_map]
  have e2:=Paired.length rel
  simpa [e2] using e1
 refine PySem.W.kdl_call (Mu (es:=es) (ep:=ep) XG) (I.ok.hd hc) ⟨o,ho,hex,jM⟩ (by rw [hlen];exact hz) fun h' tk n6 c' kp e n5=>?_
 have ka:=DZ rel
 have hv:n6.toList=(ys.map (·.2.1)).map Value.ref:=by
  refine List.ext_getElem? fun j=>?_
  rw [List.map_map,List.getElem?_map]
  cases ej:ys[j]? with
  |none =>
   have:ys.length≤j:=List.getElem?_eq_none_iff.mp ej
   have e1:es.size=ys.length:=by rw [hlen,Paired.length rel]
   have e3:n6.size=es.size:=n5.1
   exact List.getElem?_eq_none_iff.mpr (by rw [Array.length_toList];omega)
  |some y =>
   have hj:j < ys.length:=(List.getElem?_eq_some_iff.mp ej).1
   have e1:es.size=ys.length:=by rw [hlen,Paired.length rel]
   have e3:n6.size=es.size:=n5.1
   have Iw:j < n6.size:=by omega
   obtain ⟨en,XH,hk⟩:=n5.2 j n6[j] (by simp [Iw])
   have GW:es[j]?=some (entryOfKey (tupleKind (cn X.prog X.w)) y):=by rw [←Array.getElem?_toList,fZ,List.getElem?_map,ej];rfl
   rw [XH] at GW
   cases GW
   rw [Array.getElem?_toList,Array.getElem?_eq_getElem Iw,hk]
   rfl
 refine ⟨.ref s.heap.objs.size,upd H s.heap.objs.size (.lst ((ys.map (·.2.1)).map V.ref)),I.laid kp (Nat.le_refl _) ?_,rfl,q _ _ (I.aD.fresh (Nat.le_refl _)) ka⟩
 refine (show b0 X.prog X.w _ h' _ (.lst ((ys.map (·.2.1)).map V.ref)) from ⟨?_,n6.toList,c',?_,?_⟩)
 ·rw [List.length_map,List.length_map,←Paired.length rel];exact hz
 ·rw [hv];exact Bm _
 ·rw [Array.toArray_toList];exact e
noncomputable def GX (K:PySem.W.Frag) (n:Nat) (t:gA):TG:=fun v σ H Q=>∃ a xs,v=.ref a∧bL K H a xs∧xs.length=n∧t xs σ H Q
theorem R8 {es:List Expr}{k:Nat}{pos:Pos}{t:gA}{n:Nat} (hc:X.calm=true) (h:oB X es t)
  (hn:(assignEach es X.env).length=n:=by rfl) (oC:(assignEach es X.env).findIdx? (·.1)=none:=by rfl):PG X (.Tuple es k pos) (GX X.K n t):=by
 intro pins s σ H v u Q I r hw
 obtain ⟨a,xs,e1,hq,hl,hw⟩:=hw
 subst e1
 cases r
 obtain ⟨its,rv,pl,hz⟩:=I.list hq
 rw [assign_Tuple]
 refine wpAny_bind (wpAny_standAt ?_)
 unfold unpack
 have hlen:(assignEach es X.env).length=its.toArray.size:=by rw [hn,←hl,rv.length];simp
 rw [hlen,oC]
 refine wpAny_bind (wpAny_holding (PySem.W.kun_itemsOf (I.ok.hd hc) pl.isList fun h' hx=>?_))
 have I1:Inv X pins σ H { s with heap:=h' }:=I.kept (t':=s.toks) fun b o e=>hx b o (Nat.ne_of_lt (Heap.lt_size e)) e
 exact h pins _ σ H xs _ Q I1 (by simpa using rv) hw
mutual
inductive Dn (K:PySem.W.Frag) (H:Hp):V→PyData→Prop
 |non:Dn K H .non .none
 |bl (b:Bool):Dn K H (.bl b) (.bool b)
 |int (i:Int):Dn K H (.int i) (.int i)
 |str (x:Str):Dn K H (.str x) (.str x)
 |lst {a:Addr}{xs:List V}{ds:List PyData}:bL K H a xs→bE K H xs ds→Dn K H (.ref a) (.list ds)
 |tup {a:Addr}{xs:List V}{ds:List PyData}:bz K H a xs→bE K H xs ds→Dn K H (.ref a) (.tuple ds)
inductive bE (K:PySem.W.Frag) (H:Hp):List V→List PyData→Prop
 |nil:bE K H [] []
 |cons {v:V}{d:PyData}{vs:List V}{ds:List PyData}:Dn K H v d→bE K H vs ds→bE K H (v::vs) (d::ds)
end
noncomputable def dV:V→PyData
 |.non=>.none
 |.bl b=>.bool b
 |.int i=>.int i
 |.str x=>.str x
 |_=>.none
theorem Inv.D0 {pins:List (Addr×Obj)}{σ:St}{H:Hp}{s:Shared}{a:Addr}{xs ys:List V} (I:Inv X pins σ H s) (h:bL X.K H a xs) (h':bz X.K H a ys):False:=by
 obtain ⟨_,_,⟨o,n,e1,e2,_⟩,_⟩:=I.list h
 obtain ⟨_,_,⟨o',k1,k2,_⟩,_⟩:=I.tuple h'
 rw [e1] at k1;cases k1;rw [e2] at k2;exact absurd k2 (by simp)
mutual
theorem Dn.unique {pins:List (Addr×Obj)}{σ:St}{H:Hp}{s:Shared} (I:Inv X pins σ H s):∀ {v:V}{d d':PyData},Dn X.K H v d→Dn X.K H v d'→d=d'
 |_,_,_,.non,h=>by cases h;rfl
 |_,_,_,.bl _,h=>by cases h;rfl
 |_,_,_,.int _,h=>by cases h;rfl
 |_,_,_,.str _,h=>by cases h;rfl
 |_,_,_,.lst hq hs,h=>by
  cases h with
  |lst kq ks=>cases I.tO hq kq;rw [bE.unique I hs ks]
  |tup kq ks=>exact (I.D0 hq kq).elim
 |_,_,_,.tup hq hs,h=>by
  cases h with
  |tup kq ks=>cases I.xx hq kq;rw [bE.unique I hs ks]
  |lst kq ks=>exact (I.D0 kq hq).elim
theorem bE.unique {pins:List (Addr×Obj)}{σ:St}{H:Hp}{s:Shared} (I:Inv X pins σ H s):∀ {vs:List V}{ds dP:List PyData},bE X.K H vs ds→bE X.K H vs dP→ds=dP
 |_,_,_,.nil,h=>by cases h;rfl
 |_,_,_,.cons h t,k=>by
  cases k with
  |cons h' t'=>rw [Dn.unique I h h',bE.unique I t t']
end
mutual
theorem Dn.refl {K:PySem.W.Frag}{H:Hp}:∀ {v:V}{d:PyData},Dn K H v d→PyData.eqv d d=true
 |_,_,.non=>by simp [PyData.eqv]
 |_,_,.bl _=>by simp [PyData.eqv]
 |_,_,.int _=>by simp [PyData.eqv]
 |_,_,.str _=>by simp [PyData.eqv]
 |_,_,.lst _ hs=>by simp only [PyData.eqv];exact bE.refl hs
 |_,_,.tup _ hs=>by simp only [PyData.eqv];exact bE.refl hs
theorem bE.refl {K:PySem.W.Frag}{H:Hp}:∀ {vs:List V}{ds:List PyData},bE K H vs ds→PyData.eqvAll ds ds=true
 |_,_,.nil=>by simp [PyData.eqvAll]
 |_,_,.cons h t=>by rw [PyData.eqvAll,Dn.refl h,bE.refl t];rfl
end
theorem bE.length {K:PySem.W.Frag}{H:Hp}:∀ {vs:List V}{ds:List PyData},bE K H vs ds→vs.length=ds.length
 |_,_,.nil=>rfl
 |_,_,.cons _ t=>by simp [bE.length t]
mutual
theorem Dn.kH {pins:List (Addr×Obj)}{σ:St}{H:Hp}{s:Shared} (I:Inv X pins σ H s):∀ {v:V}{d:PyData},Dn X.K H v d→∀ {v':V}{d':PyData},Dn X.K H v' d'→∀ {u u':Value},RelV v u→RelV v' u'→∀ {A:Around},A.units+min d.depth d'.depth < cLine→SeqAt.EqAt A s u u' (PyData.eqv d d')
 |_,_,.non,_,_,h',_,_,r,r',A,hu=>by
  cases (show _=Value.none from r)
  cases h' with
  |non=>cases (show _=Value.none from r');exact SeqAt.EqAt.same _
  |bl y=>cases (show _=Value.bool y from r');exact SeqAt.EqAt.none_bool y
  |int y=>obtain ⟨t,e⟩:=(show ∃ t,_=Value.int y t from r');subst e;exact SeqAt.EqAt.none_int y t
  |str y=>obtain ⟨t,e⟩:=(show ∃ t,_=Value.str y t from r');subst e;exact SeqAt.EqAt.none_str y t
  |@lst a xs ds q hs=>cases (show _=Value.ref a from r');obtain ⟨its,rv,pl,_⟩:=I.list q;exact SeqAt.EqAt.none_list pl.isList (SeqAt.room_here hu)
  |@tup a xs ds q hs=>cases (show _=Value.ref a from r');obtain ⟨its,rv,pl,_⟩:=I.tuple q;exact SeqAt.EqAt.none_tuple pl (SeqAt.room_here hu)
 |_,_,.bl x,_,_,h',_,_,r,r',A,hu=>by
  cases (show _=Value.bool x from r)
  cases h' with
  |non=>cases (show _=Value.none from r');exact SeqAt.EqAt.bool_none x
  |bl y=>cases (show _=Value.bool y from r');exact SeqAt.EqAt.bool_bool x y
  |int y=>obtain ⟨t,e⟩:=(show ∃ t,_=Value.int y t from r');subst e;exact SeqAt.EqAt.bool_int x y t
  |str y=>obtain ⟨t,e⟩:=(show ∃ t,_=Value.str y t from r');subst e;exact SeqAt.EqAt.bool_str x y t
  |@lst a xs ds q hs=>cases (show _=Value.ref a from r');obtain ⟨its,rv,pl,_⟩:=I.list q;exact SeqAt.EqAt.bool_list x pl.isList (SeqAt.room_here hu)
  |@tup a xs ds q hs=>cases (show _=Value.ref a from r');obtain ⟨its,rv,pl,_⟩:=I.tuple q;exact SeqAt.EqAt.bool_tuple x pl (SeqAt.room_here hu)
 |_,_,.int x,_,_,h',_,_,r,r',A,hu=>by
  obtain ⟨tx,ex⟩:=(show ∃ t,_=Value.int x t from r);subst ex
  cases h' with
  |non=>cases (show _=Value.none from r');exact SeqAt.EqAt.int_none x tx
  |bl y=>cases (show _=Value.bool y from r');exact SeqAt.EqAt.int_bool x tx y
  |int y=>obtain ⟨t,e⟩:=(show ∃ t,_=Value.int y t from r');subst e;exact SeqAt.EqAt.int_int x tx y t
  |str y=>obtain ⟨t,e⟩:=(show ∃ t,_=Value.str y t from r');subst e;exact SeqAt.EqAt.int_str x tx y t
  |@lst a xs ds q hs=>cases (show _=Value.ref a from r');obtain ⟨its,rv,pl,_⟩:=I.list q;exact SeqAt.EqAt.int_list x tx pl.isList (SeqAt.room_here hu)
  |@tup a xs ds q hs=>cases (show _=Value.ref a from r');obtain ⟨its,rv,pl,_⟩:=I.tuple q;exact SeqAt.EqAt.int_tuple x tx pl (SeqAt.room_here hu)
 |_,_,.str x,_,_,h',_,_,r,r',A,hu=>by
  obtain ⟨tx,ex⟩:=(show ∃ t,_=Value.str x t from r);subst ex
  cases h' with
  |non=>cases (show _=Value.none from r');exact SeqAt.EqAt.str_none x tx
  |bl y=>cases (show _=Value.bool y from r');exact SeqAt.EqAt.str_bool x tx y
  |int y=>obtain ⟨t,e⟩:=(show ∃ t,_=Value.int y t from r');subst e;exact SeqAt.EqAt.str_int x tx y t
  |str y=>obtain ⟨t,e⟩:=(show ∃ t,_=Value.str y t from r');subst e;exact SeqAt.EqAt.str_str x tx y t
  |@lst a xs ds q hs=>cases (show _=Value.ref a from r');obtain ⟨its,rv,pl,_⟩:=I.list q;exact SeqAt.EqAt.str_list x tx pl.isList (SeqAt.room_here hu)
  |@tup a xs ds q hs=>cases (show _=Value.ref a from r');obtain ⟨its,rv,pl,_⟩:=I.tuple q;exact SeqAt.EqAt.str_tuple x tx pl (SeqAt.room_here hu)
 |_,_,.lst (a:=b) hq hs,_,_,h',_,_,r,r',A,hu=>by
  cases (show _=Value.ref b from r)
  obtain ⟨fI,rb,dh,_⟩:=I.list hq
  cases h' with
  |non=>cases (show _=Value.none from r');exact SeqAt.EqAt.list_none dh.isList (SeqAt.room_here hu)
  |bl y=>cases (show _=Value.bool y from r');exact SeqAt.EqAt.list_bool y dh.isList (SeqAt.room_here hu)
  |int y=>obtain ⟨t,e⟩:=(show ∃ t,_=Value.int y t from r');subst e;exact SeqAt.EqAt.list_int y t dh.isList (SeqAt.room_here hu)
  |str y=>obtain ⟨t,e⟩:=(show ∃ t,_=Value.str y t from r');subst e;exact SeqAt.EqAt.list_str y t dh.isList (SeqAt.room_here hu)
  |@tup a xs ds q ks=>cases (show _=Value.ref a from r');obtain ⟨its,rv,pl,_⟩:=I.tuple q;exact SeqAt.EqAt.list_tuple dh.isList pl (SeqAt.room_here hu)
  |@lst a xs ds q ks =>
   cases (show _=Value.ref a from r')
   by_cases e:b=a
   ·subst e
    cases I.tO hq q
    rw [bE.unique I ks hs]
    simp only [PyData.eqv];rw [bE.refl hs];exact SeqAt.EqAt.same _
   ·obtain ⟨its,rv,pl,_⟩:=I.list q
    have n1:=rb.length;have n2:=rv.length;have n3:=bE.length hs;have n4:=bE.length ks
    simp only [PyData.eqv]
    have he:∀ j (j1:j < fI.toArray.size) (j2:j < its.toArray.size),SeqAt.EqAt A.in1 s fI.toArray[j] its.toArray[j] (SeqAt.pairEq _ _ j):=fun j j1 j2=>by
     have z:=bE.kH I hs ks rb rv (A:=A.in1) (SeqAt.room_in hu) j (by simpa using j1) (by simpa using j2)
     simpa using z
    refine SeqAt.EqAt.of_refs e ?_
    by_cases hsz:fI.toArray.size=its.toArray.size
    ·rw [←SeqAt.eqvAll_same_length (by simp at hsz;omega),show List.length _=fI.toArray.size by simp;omega]
     exact SeqAt.RcAt.lists dh.isList pl.isList hsz (SeqAt.room_here hu) he
    ·rw [SeqAt.eqvAll_other_length (by simp at hsz;omega)]
     exact SeqAt.RcAt.lists_lengths dh.isList pl.isList (by simpa using hsz) (SeqAt.room_here hu)
 |_,_,.tup (a:=b) hq hs,_,_,h',_,_,r,r',A,hu=>by
  cases (show _=Value.ref b from r)
  obtain ⟨fI,rb,dh,_⟩:=I.tuple hq
  cases h' with
  |non=>cases (show _=Value.none from r');exact SeqAt.EqAt.tuple_none dh (SeqAt.room_here hu)
  |bl y=>cases (show _=Value.bool y from r');exact SeqAt.EqAt.tuple_bool y dh (SeqAt.room_here hu)
  |int y=>obtain ⟨t,e⟩:=(show ∃ t,_=Value.int y t from r');subst e;exact SeqAt.EqAt.tuple_int y t dh (SeqAt.room_here hu)
  |str y=>obtain ⟨t,e⟩:=(show ∃ t,_=Value.str y t from r');subst e;exact SeqAt.EqAt.tuple_str y t dh (SeqAt.room_here hu)
  |@lst a xs ds q ks=>cases (show _=Value.ref a from r');obtain ⟨its,rv,pl,_⟩:=I.list q;exact SeqAt.EqAt.tuple_list dh pl.isList (SeqAt.room_here hu)
  |@tup a xs ds q ks =>
   cases (show _=Value.ref a from r')
   by_cases e:b=a
   ·subst e
    cases I.xx hq q
    rw [bE.unique I ks hs]
    simp only [PyData.eqv];rw [bE.refl hs];exact SeqAt.EqAt.same _
   ·obtain ⟨its,rv,pl,_⟩:=I.tuple q
    have n1:=rb.length;have n2:=rv.length;have n3:=bE.length hs;have n4:=bE.length ks
    simp only [PyData.eqv]
    have he:∀ j (j1:j < fI.toArray.size) (j2:j < its.toArray.size),SeqAt.EqAt A.in1 s fI.toArray[j] its.toArray[j] (SeqAt.pairEq _ _ j):=fun j j1 j2=>by
     have z:=bE.kH I hs ks rb rv (A:=A.in1) (SeqAt.room_in hu) j (by simpa using j1) (by simpa using j2)
     simpa using z
    refine SeqAt.EqAt.of_refs e ?_
    rw [←SeqAt.eqvAll_eq,←n3,←n4,n1,n2]
    have z:=SeqAt.RcAt.tuples dh pl (SeqAt.room_here hu) he
    simpa using z
theorem bE.kH {pins:List (Addr×Obj)}{σ:St}{H:Hp}{s:Shared} (I:Inv X pins σ H s):∀ {vs:List V}{ds:List PyData},bE X.K H vs ds→∀ {Iy:List V}{dP:List PyData},bE X.K H Iy dP→∀ {us Ai:List Value},Vals vs us→Vals Iy Ai→∀ {A:Around},A.units+min (PyData.depthAll ds) (PyData.depthAll dP) < cLine →
  ∀ j (h1:j < us.length) (h2:j < Ai.length),SeqAt.EqAt A s us[j] Ai[j] (SeqAt.pairEq ds dP j)
 |_,_,.nil,_,_,_,_,_,.nil,_,_,_,j,h1,_=>absurd h1 (Nat.not_lt_zero _)
 |_,_,.cons _ _,_,_,.nil,_,_,_,.nil,_,_,j,_,h2=>absurd h2 (Nat.not_lt_zero _)
 |_,_,.cons h t,_,_,.cons h' t',_,_,.cons r q,.cons r' q',A,hu,j,h1,h2=>by
  cases j with
  |zero=>exact Dn.kH I h h' r r' (SeqAt.room_head hu)
  |succ j=>exact bE.kH I t t' q q' (SeqAt.room_tail hu) j (Nat.lt_of_succ_lt_succ h1) (Nat.lt_of_succ_lt_succ h2)
end
inductive lS:PyData→PyData→Prop
 |lst (xs ys:List PyData):lS (.list xs) (.list ys)
 |tup (xs ys:List PyData):lS (.tuple xs) (.tuple ys)
 |non:lS .none .none
noncomputable def zq (K:PySem.W.Frag):R2:=fun x y H Q=>∃ dx dy,Dn K H x dx∧Dn K H y dy∧lS dx dy∧min dx.depth dy.depth≤60∧Q (.bl (PyData.eqv dx dy)) H
noncomputable def zr (K:PySem.W.Frag):R2:=fun x y H Q=>∃ dx dy,Dn K H x dx∧Dn K H y dy∧lS dx dy∧min dx.depth dy.depth≤60∧Q (.bl (!PyData.eqv dx dy)) H
theorem C5 {pins:List (Addr×Obj)}{σ:St}{H:Hp}{s:Shared} (I:Inv X pins σ H s) {A:Around}{x y:V}{u u':Value}{dx dy:PyData} (hx:Dn X.K H x dx) (hy:Dn X.K H y dy) (l:lS dx dy) (rx:RelV x u) (ry:RelV y u') (hu:A.units+min dx.depth dy.depth < cLine) :
  SeqAt.RcAt A s u u' (PyData.eqv dx dy)∧SeqAt.RcNeAt A s u u' (!PyData.eqv dx dy):=by
 cases l with
 |non =>
  cases hx;cases hy
  cases (show u=Value.none from rx)
  cases (show u'=Value.none from ry)
  exact ⟨SeqAt.RcAt.none_none,SeqAt.RcNeAt.none_none⟩
 |lst ds es =>
  cases hx with
  |@lst b _ _ hq hs =>
  cases hy with
  |@lst a _ _ q ks =>
   cases (show u=Value.ref b from rx)
   cases (show u'=Value.ref a from ry)
   obtain ⟨fI,rb,dh,_⟩:=I.list hq
   obtain ⟨its,rv,pl,_⟩:=I.list q
   have n1:=rb.length;have n2:=rv.length;have n3:=bE.length hs;have n4:=bE.length ks
   simp only [PyData.eqv]
   have he:∀ j (j1:j < fI.toArray.size) (j2:j < its.toArray.size),SeqAt.EqAt A.in1 s fI.toArray[j] its.toArray[j] (SeqAt.pairEq ds es j):=fun j j1 j2=>by
    have z:=bE.kH I hs ks rb rv (A:=A.in1) (SeqAt.room_in hu) j (by simpa using j1) (by simpa using j2)
    simpa using z
   by_cases hsz:fI.toArray.size=its.toArray.size
   ·have e:ds.length=fI.toArray.size:=by simp;omega
    rw [←SeqAt.eqvAll_same_length (show ds.length=es.length by simp at hsz;omega),e]
    exact ⟨SeqAt.RcAt.lists dh.isList pl.isList hsz (SeqAt.room_here hu) he,SeqAt.RcNeAt.lists dh.isList pl.isList hsz (SeqAt.room_here hu) he⟩
   ·rw [SeqAt.eqvAll_other_length (show ds.length≠es.length by simp at hsz;omega)]
    exact ⟨SeqAt.RcAt.lists_lengths dh.isList pl.isList (by simpa using hsz) (SeqAt.room_here hu),SeqAt.RcNeAt.lists_lengths dh.isList pl.isList (by simpa using hsz) (SeqAt.room_here hu)⟩
 |tup ds es =>
  cases hx with
  |@tup b _ _ hq hs =>
  cases hy with
  |@tup a _ _ q ks =>
   cases (show u=Value.ref b from rx)
   cases (show u'=Value.ref a from ry)
   obtain ⟨fI,rb,dh,_⟩:=I.tuple hq
   obtain ⟨its,rv,pl,_⟩:=I.tuple q
   have n1:=rb.length;have n2:=rv.length;have n3:=bE.length hs;have n4:=bE.length ks
   simp only [PyData.eqv]
   have he:∀ j (j1:j < fI.toArray.size) (j2:j < its.toArray.size),SeqAt.EqAt A.in1 s fI.toArray[j] its.toArray[j] (SeqAt.pairEq ds es j):=fun j j1 j2=>by
    have z:=bE.kH I hs ks rb rv (A:=A.in1) (SeqAt.room_in hu) j (by simpa using j1) (by simpa using j2)
    simpa using z
   have z1:=SeqAt.RcAt.tuples dh pl (SeqAt.room_here hu) he
   have z2:=SeqAt.RcNeAt.tuples dh pl (SeqAt.room_here hu) he
   rw [←SeqAt.eqvAll_eq ds es,←n3,←n4,n1,n2]
   exact ⟨by simpa using z1,by simpa using z2⟩
theorem R9 (hu:X.A.units+64 < cLine):bu X (compareOp .Eq) (zq X.K):=by
 intro pins s σ H x y v u Q I rx ry h
 obtain ⟨dx,dy,hx,hy,l,hd,q⟩:=h
 exact (C5 I hx hy l rx ry (A:=X.A) (by omega)).1 X.prog X.w X.xe _ ⟨.bl _,H,I,rfl,q⟩
theorem Sb (hu:X.A.units+64 < cLine):bu X (compareOp .NotEq) (zr X.K):=by
 intro pins s σ H x y v u Q I rx ry h
 obtain ⟨dx,dy,hx,hy,l,hd,q⟩:=h
 exact (C5 I hx hy l rx ry (A:=X.A) (by omega)).2 X.prog X.w X.xe _ ⟨.bl _,H,I,rfl,q⟩
noncomputable def zt (K:PySem.W.Frag) (neg:Bool):R2:=fun x y H Q=>∃ p xs ds dx,y=.ref p∧bL K H p xs∧bE K H xs ds∧Dn K H x dx∧dx.depth≤50∧Q (.bl (if neg then !(ds.any fun d=>PyData.eqv d dx) else ds.any fun d=>PyData.eqv d dx)) H
theorem Nt {pins:List (Addr×Obj)}{σ:St}{H:Hp}{s:Shared} (I:Inv X pins σ H s) {A:Around}{x:V}{u:Value}{dx:PyData} (hx:Dn X.K H x dx) (rx:RelV x u) (hu:A.units+dx.depth < cLine):∀ {xs:List V}{ds:List PyData}{its:List Value},bE X.K H xs ds→Vals xs its →
  ∃ e:Value→Bool,(∀ y∈its,SeqAt.EqAt A s y u (e y))∧its.any e=ds.any fun d=>PyData.eqv d dx:=by
 intro xs ds its hs rv
 classical
 refine ⟨fun y=>decide (∃ v d,Dn X.K H v d∧RelV v y∧PyData.eqv d dx=true),fun y hy=>?_,?_⟩
 ·have key:∀ {xs:List V}{ds:List PyData}{its:List Value},bE X.K H xs ds→Vals xs its→y∈its→∃ v d,Dn X.K H v d∧RelV v y:=fun {xs}=>by
   induction xs with
   |nil=>intro ds its hs rv hy;cases rv;exact nomatch hy
   |cons v r ih =>
    intro ds its hs rv hy
    cases rv with
    |cons a b =>
     cases hs with
     |cons c d =>
      rcases List.mem_cons.mp hy with e|e
      ·subst e;exact ⟨_,_,c,a⟩
      ·exact ih d b e
  obtain ⟨v,d,hv,ry⟩:=key hs rv hy
  have z:=Dn.kH I hv hx ry rx (A:=A) (Nat.lt_of_le_of_lt (Nat.add_le_add_left (Nat.min_le_right _ _) _) hu)
  have e:PyData.eqv d dx=decide (∃ v d,Dn X.K H v d∧RelV v y∧PyData.eqv d dx=true):=by
   cases q:PyData.eqv d dx with
   |true=>exact (decide_eq_true ⟨v,d,hv,ry,q⟩).symm
   |false =>
    refine (decide_eq_false ?_).symm
    rintro ⟨v',d',h1,h2,h3⟩
    cases RelV.inj ry h2
    rw [Dn.unique I h1 hv,q] at h3
    cases h3
  rw [e] at z
  exact z
 ·induction xs generalizing ds its with
  |nil=>cases rv;cases hs;rfl
  |cons v r ih =>
   cases rv with
   |cons a b =>
    cases hs with
    |@cons _ d0 _ _ c d =>
     rw [List.any_cons,List.any_cons,ih d b]
     congr 1
     cases q:PyData.eqv d0 dx with
     |true=>exact decide_eq_true ⟨v,d0,c,a,q⟩
     |false =>
      refine decide_eq_false ?_
      rintro ⟨v',d',h1,h2,h3⟩
      cases RelV.inj a h2
      rw [Dn.unique I h1 c,q] at h3
      cases h3
theorem Mv (hu:X.A.units+64 < cLine):bu X (compareOp .NotIn) (zt X.K true):=by
 intro pins s σ H x y v u Q I rx ry h
 obtain ⟨p,xs,ds,dx,rfl,hq,hs,hx,hd,q⟩:=h
 cases ry
 obtain ⟨its,rv,pl,_⟩:=I.list hq
 obtain ⟨e,he,WN⟩:=Nt I hx rx (A:=X.A.in1) (show X.A.units+1+dx.depth < cLine by omega) hs rv
 refine SeqAt.notIn_listAt e pl.isList (fun w hw=>he w (by simpa using hw)) ⟨.bl _,H,I,rfl,?_⟩
 rw [show its.toArray.any e=its.any e by simp,WN]
 exact q
end
def ZV (D:Addr) (H H':Hp):Prop:=∀ b o,b≠D→H b=some o→H' b=some o
section
variable {X:Cx}{K:PySem.W.Frag}
theorem D1 (h:X.K=K):jf X (vE K):=by subst h;exact RT
theorem LW (h:X.K=K):bu X (compareOp .In) (q8 K false):=by subst h;exact Ml
theorem K4 (h:X.K=K):bu X (compareOp .NotIn) (q8 K true):=by subst h;exact K7
theorem Mw (h:X.K=K):gJ X (.builtin "len") (fun xs H Q=>∃ x n,xs=[x]∧zc K x H n∧Q (.int n) H):=by subst h;exact Nh
theorem Mx {a:Expr}{ta:TE} (h:X.K=K) (ha:PE X a ta) (he:∀ whole,isTrue a X.env whole=(do let v ←whole;standAt a.pos;holding [v] (truthy v))):PT X a (fun σ H Q=>ta σ H fun x H'=>∃ k,u9 K x H' k∧Q k H'):=by subst h;exact Ng ha he
theorem Nu {tg l:Expr}{tl:TE} (h:X.K=K) (hl:PE X l tl):PI X tg l (yN K tl):=by subst h;exact OX hl
end
end L2
namespace My
open PySem PySem.Spec PyProof.Rows L2
theorem aH.none {H H':Hp}{p:Addr} (s:aH H H') (h:H' p=none):H p=none:=s.free h
theorem WO {σ:L2.St}{H:Hp}{A B:Hp→Prop} (h:A H):ve σ H fun b H3=>if b=true then A H3 else B H3:=by
 show if true=true then A H else B H
 exact WL h
theorem Paired.at {α β:Type}{F:α→β→Prop}:∀ {l:List α}{m:List β},Paired F l m→∀ {i:Nat}{b:β},m[i]?=some b→∃ a,l[i]?=some a∧F a b
 |_,_,.nil,_,_,h=>by simp at h
 |_,_,.cons r t,0,_,h=>by simp at h;subst h;exact ⟨_,rfl,r⟩
 |_,_,.cons r t,i+1,b,h=>by
  obtain ⟨a,e,q⟩:=Paired.at t (i:=i) (b:=b) (by simpa using h)
  exact ⟨a,by simpa using e,q⟩
inductive Rw where
 |reckon (x s:Str) (a b:Key)|copy (x:Str) (a:Key)|say (a:Key)|go (n:Int)|part (a:Key) (n:Int)|fin
noncomputable def Rw.vs:Rw→List V
 |.reckon x s a b=>[.str "reckon",.str x,.str s,kV a,kV b]
 |.copy x a=>[.str "copy",.str x,kV a]
 |.say a=>[.str "say",kV a]
 |.go n=>[.str "go",.int n]
 |.part a n=>[.str "part",kV a,.int n]
 |.fin=>[.str "end"]
noncomputable def Rw.word:Rw→Str
 |.reckon .. => "reckon" |.copy .. => "copy" |.say _ => "say" |.go _ => "go" |.part .. => "part" |.fin => "end"
noncomputable def Rw.sets:Rw→V
 |.reckon x _ _ _=>.str x|.copy x _=>.str x|_=>.non
noncomputable def Rw.rk:Rw→Option (List Key)
 |.reckon _ s a b=>some [.inr s,a,b]|_=>none
theorem n1:¬ (("copy" : Str) = "reckon"):=by decide +kernel
theorem n2:¬ (("say" : Str) = "reckon"):=by decide +kernel
theorem n3:¬ (("go" : Str) = "reckon"):=by decide +kernel
theorem n4:¬ (("part" : Str) = "reckon"):=by decide +kernel
structure Df (K:PySem.W.Frag) (mg:Str→Option Value) (x:Str) (st:Stmt) (ps:List Str) (f:Addr) (fd:FuncData):Prop where
 mg:mg x=some (.ref f)
 fn:oH K x x st f fd
 bd:Binds K fd ps []
end My
namespace L2
open PySem PySem.Spec PyProof.Rows
noncomputable def vJ (z:Str):It:=⟨fun i _=>i < z.cps.size,fun i H x H'=>H'=H∧∃ c,z.cps[i]?=some c∧x=.str ⟨#[c]⟩,fun i _=>z.cps.size≤i⟩
theorem Nv {P:Program}{w:World}{K:PySem.W.Frag}{tg:Expr} (it:Addr) (x:Str) (t:Tok) (ty:String) (fY:ty = "str_ascii_iterator" ∨ ty = "str_iterator"):Turn P w K tg (vJ x) [it] it (fun i h=>h.IsStrIter it ty x t i) where
 mem:=by simp
 obj:=fun i h st b hb=>by
  have e:b=it:=by simpa using hb
  subst e
  obtain ⟨o,e,c,d⟩:=st
  exact ⟨o,e,fun v z=>by rw [d] at z;cases z⟩
 keep:=fun i h h' st k=>by obtain ⟨o,e,r⟩:=st;exact ⟨o,k it (by simp) o e,r⟩
 item:=by
  intro X hP hw hK hc i pins s σ H E I hf st hg
  subst hP hw hK
  have hi:i < x.cps.size:=hg
  obtain ⟨f0,f1,f2,f3,f4,f5⟩:=hf it (by simp)
  have fin:∀ h',h'.IsStrIter it ty x t (i+1)→Heap.SameBut it s.heap h'→∃ u,some (Value.str ⟨#[x.cps[i]]⟩ s.toks)=some u ∧
    wpAny (model X.prog X.w) X.A (letOwnedTupleGo tg (.ref it) u) (fun _ s2=>∃ y H',Inv X pins σ H' s2∧RelV y u∧(vJ x).iF i H y H'∧s2.heap.IsStrIter it ty x t (i+1)∧∀ b∈[it],H' b=none) E { s with heap:=h',toks:=s.toks+1 }:=fun h' fW sb=>by
   have I1:Inv X pins σ H { s with heap:=h',toks:=s.toks+1 }:=I.turned (fun b o hb e=>(sb.2 b hb).trans e) f0 f1 f3 f4 f5
   obtain ⟨o,e,c,d⟩:=id fW
   refine ⟨_,rfl,qm (s:={ s with heap:=h',toks:=s.toks+1 }) e c d (by rcases fY with q|q<;>(rw [q];decide)) ⟨.str ⟨#[x.cps[i]]⟩,H,I1,⟨_,rfl⟩,⟨rfl,x.cps[i],by simp [hi],rfl⟩,fW,fun b hb=>(hf b hb).1⟩⟩
  rcases fY with q|q
  ·subst q;exact wpAny_pyNext_ascii_item st (c:=x.cps[i]) (by simp [hi]) fin
  ·subst q;exact wpAny_pyNext_wide_item st (c:=x.cps[i]) (by simp [hi]) fin
 done:=by
  intro X hP hw hK hc i pins s σ H E I hf st hg
  subst hP hw hK
  have hi:x.cps.size≤i:=hg
  obtain ⟨f0,f1,f2,f3,f4,f5⟩:=hf it (by simp)
  have fin:∀ h',Heap.ExtBut it s.heap h'→(none:Option Value)=none∧Inv X pins σ H { s with heap:=h' }:=fun h' eb=>⟨rfl,I.turned (t':=s.toks) (fun b o hb e=>eb b o hb e) f0 f1 f3 f4 f5⟩
  rcases fY with q|q
  ·subst q;exact wpAny_pyNext_ascii_end (I.ok.hd hc) st (by simp [hi]) fin
  ·subst q;exact wpAny_pyNext_wide_end (I.ok.hd hc) st (by simp [hi]) fin
 self:=fun _ _ _ _ _ st h=>by
  rcases fY with q|q
  ·subst q;exact wpAny_pyIter_striter_ascii st h
  ·subst q;exact wpAny_pyIter_striter_wide st h
section
variable {X:Cx}{tg:Expr}
noncomputable def GY (tl:TE):TI:=fun σ H R=>tl σ H fun x H1=>∃ z,x=.str z∧R (vJ z) H1
theorem Sd {l:Expr}{tl:TE} (hl:PE X l tl):PI X tg l (GY tl):=by
 intro pins s σ H R I h
 refine aF (hl pins s σ H _ I h) fun v s1 ⟨x,H1,I1,r1,q1⟩=>?_
 obtain ⟨z,e,q⟩:=q1
 subst e
 obtain ⟨t,e⟩:=(show ∃ t,v=Value.str z t from r1)
 subst e
 have fY:strIterType z = "str_ascii_iterator" ∨ strIterType z = "str_iterator" := by unfold strIterType;split<;>simp
 refine wpAny_pyIter_strU ?_
 refine ⟨s1.heap.objs.size,[s1.heap.objs.size],_,_,H1,rfl,I1.kept (t':=s1.toks) fun b o e=>Heap.get?_push_of_some _ e,Nv s1.heap.objs.size z t _ fY,⟨_,Heap.get?_push_size _ rfl,rfl,rfl⟩,fun b hb=>?_,q⟩
 have e:b=s1.heap.objs.size:=by simpa using hb
 subst e
 exact I1.nX (Nat.le_refl _) (I1.aD.fresh (Nat.le_refl _))
theorem Se:jY X (fun x lo hi H Q=>∃ z:Str,x=.str z∧z.length≤sizeLine∧Q (.str (Txt.slice z lo hi)) H):=by
 intro pins s σ H x v vl vu lo hi sl Q I rx hs pl pu h
 obtain ⟨z,rfl,hz,q⟩:=h
 obtain ⟨t,e⟩:=(show ∃ t,v=Value.str z t from rx)
 subst e
 have fin:∀ t' k,EP X pins σ Q (.str (Txt.slice z lo hi) t') { s with toks:=k }:=fun t' k=>⟨.str (Txt.slice z lo hi),H,I.tok k,⟨_,rfl⟩,q⟩
 refine ⟨"str",_,F.slot_str_getitem.lookup,typeIs_str _ _ _,?_⟩
 cases pl with
 |none =>
  cases pu with
  |none=>exact wpAny_getItem_str_slice (l:=none) (u:=none) (st:=none) hs rfl (post_val_or_str ⟨Nat.le_trans (Txt.slice_le z _ _) hz,fin⟩)
  |int j tj=>exact wpAny_getItem_str_slice (l:=none) (u:=some (j,tj)) (st:=none) hs rfl (post_val_or_str ⟨Nat.le_trans (Txt.slice_le z _ _) hz,fin⟩)
 |int i ti =>
  cases pu with
  |none=>exact wpAny_getItem_str_slice (l:=some (i,ti)) (u:=none) (st:=none) hs rfl (post_val_or_str ⟨Nat.le_trans (Txt.slice_le z _ _) hz,fin⟩)
  |int j tj=>exact wpAny_getItem_str_slice (l:=some (i,ti)) (u:=some (j,tj)) (st:=none) hs rfl (post_val_or_str ⟨Nat.le_trans (Txt.slice_le z _ _) hz,fin⟩)
theorem Nw {prog:Program}{w:World}{A:Around}{E:Value→Shared→Prop}{s:Shared}{t b:Addr}{ws:List Value}{Q:Value→Shared→Prop} (ht:IsTup s.heap t ([]:List Value).toArray) (hb:IsTup s.heap b ws.toArray) (h:Q (.ref b) s):wpAny (model prog w) A (binaryOp .Add (.ref t) (.ref b)) Q E s:=by
 obtain ⟨⟨c1,d1,Z9,vK⟩,ho,hc,n,hd⟩:=id ht;obtain ⟨⟨c2,d2,da2,oE⟩,gY,fX,n2,hd2⟩:=id hb
 simp only at hc hd fX hd2;subst hc hd fX hd2
 exact concat_meets ⟨_,ho,rfl⟩ ⟨_,gY,rfl⟩ noFill_tuple_add seq_tuple_add PySem.F.slot_tuple_add PySem.F.entry_tuple_add (PySem.F.args_tuple_add_2 _ _) (tuple_addW0 t b ([]:List Value).toArray ws.toArray n n2 d1 d2 vK oE (by simp)) ⟨ho,gY,h⟩
theorem K0 {prog:Program}{w:World}{A:Around}{E:Value→Shared→Prop}{s:Shared}{t sl:Addr}{items:Array Value}{vl vu:Value}{lo hi:Option Int}{Q:Value→Shared→Prop} (ht:IsTup s.heap t items) (hs:s.heap.IsSliceOf sl vl vu .none) (pl:IsPart vl lo) (pu:IsPart vu hi)
  (h0:HT.aT items.size 0 lo=0) (h1:HT.aT items.size items.size hi=items.size) (h:Q (.ref t) s):wpAny (model prog w) A (getItem (.ref t) (.ref sl)) Q E s:=by
 obtain ⟨os,mw,gZ,iI⟩:=id hs;have z5:s.TypeIs (.ref sl) "slice" := ⟨os,mw,gZ⟩
 unfold getItem;try with_reducible refine wpAny_holding ?_
 first|refine wpAny_bind (wpAny_pure ?_)|skip
 refine wpAny_bind (wpAny_sequenceKey ht.typeIs (by decide) ?_);refine wpAny_bind (wpAny_callSpecial?_slot (name:=Str.ofString "__getitem__") ht.typeIs PyProof.Rows.slot_tuple_getitem (wpAny_call_entry PyProof.Rows.slot_tuple_getitem ht.typeIs entry_tuple_getitem ?_ (args_tuple_getitem _ _)))
 show wpAny _ _ (Builtin.Tuple.tupleItemsOf (.ref t) >>= _) _ _ s;refine wpAny_bind (tupleItemsOf_ ht ?_);refine wpAny_bind (wpAny_typeOf z5 ?_)
 rw [if_pos (by decide)];refine wpAny_bind (HT.Bj hs pl pu ?_)
 show wpAny _ _ (if (((HT.aT items.size 0 lo:Nat):Int)==0&&(1:Int)==1&&(HT.aT items.size items.size hi-HT.aT items.size 0 lo)==items.size)=true then _ else _) _ _ s
 rw [if_pos (by rw [h0,h1];simp)]
 refine wpAny_bind ?_;unfold Builtin.Tuple.tupleIsExact;refine wpAny_bind (wpAny_typeOf ht.typeIs ?_)
 refine wpAny_pure ?_;rw [if_pos (by decide)]
 first
  |exact wpAny_bind (wpAny_rule (wpAny_pure ⟨_,rfl,wpAny_pure h⟩))
  |exact wpAny_bind (wpAny_rule (wpAny_bind (wpAny_pure (wpAny_pure ⟨_,rfl,wpAny_pure h⟩))))
  |exact wpAny_bind (wpAny_bind (wpAny_rule (wpAny_pure (wpAny_pure ⟨_,rfl,wpAny_pure h⟩))))
end
end L2
set_option maxHeartbeats 4000000
namespace J
open PySem L2
inductive D where
 |non|bl (b:Bool)|int (i:Int)|str (x:Str)|ty (n:String)
 |tup (ds:List D)|lst (ds:List D)|dk (ks:List (Key×D))|dt (ks:List (List Key×D))
mutual
noncomputable def D.bR:D→Bool
 |.tup ds=>D.cP ds
 |.lst _=>false
 |.dk _=>false
 |.dt _=>false
 |.non=>true
 |.bl _=>true
 |.int _=>true
 |.str _=>true
 |.ty _=>true
noncomputable def D.cP:List D→Bool
 |[]=>true
 |d::ds=>d.bR&&D.cP ds
end
def vL (K:PySem.W.Frag) (a:Addr) (xs:List V):Prop:=∃ (o:Obj) (its:Array Value) (n:Nat),K.lookup a=some o∧o.cls=.type "list" ∧ o.dict=none∧o.data=.seq its n∧its.size≤sizeLine∧Vals xs its.toList
mutual
inductive Rp (K:PySem.W.Frag) (N:Addr→Prop) (H:Hp):V→D→Prop
 |non:Rp K N H .non .non
 |bl (b:Bool):Rp K N H (.bl b) (.bl b)
 |int (i:Int):Rp K N H (.int i) (.int i)
 |str (x:Str):Rp K N H (.str x) (.str x)
 |ty (n:String):Rp K N H (.ty n) (.ty n)
 |tup {a:Addr}{xs:List V}{ds:List D}:bz K H a xs→ax K N H xs ds→Rp K N H (.ref a) (.tup ds)
 |lst {a:Addr}{xs:List V}{ds:List D}:Rd H a (.lst xs)→N a→ax K N H xs ds→Rp K N H (.ref a) (.lst ds)
 |lstK {a:Addr}{xs:List V}{ds:List D}:vL K a xs→ax K N H xs ds→Rp K N H (.ref a) (.lst ds)
 |dk {a:Addr}{ai:List (Key×V)}{ks:List (Key×D)}:Rd H a (.dK ai)→N a→ai.map (·.1)=ks.map (·.1)→ax K N H (ai.map (·.2)) (ks.map (·.2))→Rp K N H (.ref a) (.dk ks)
 |dt {a:Addr}{ai:List (List Key×V)}{ks:List (List Key×D)}:Rd H a (.dT ai)→N a→ai.map (·.1)=ks.map (·.1)→ax K N H (ai.map (·.2)) (ks.map (·.2))→Rp K N H (.ref a) (.dt ks)
inductive ax (K:PySem.W.Frag) (N:Addr→Prop) (H:Hp):List V→List D→Prop
 |nil:ax K N H [] []
 |cons {v:V}{d:D}{vs:List V}{ds:List D}:Rp K N H v d→ax K N H vs ds→ax K N H (v::vs) (d::ds)
end
noncomputable def hG:HO→Prop
 |.tup _=>True
 |.aX _ (.tup _)=>True
 |_=>False
def Keeps (N:Addr→Prop) (H H':Hp):Prop:=∀ a o,H a=some o→(N a∨hG o)→H' a=some o
section
variable {K:PySem.W.Frag}{N N':Addr→Prop}{H H':Hp}
theorem Keeps.same (s:aH H H'):Keeps N H H':=fun a o e _=>s a o e
theorem Keeps.sq {a:Addr}{xs:List V} (k:Keeps N H H') (h:bz K H a xs):bz K H' a xs:=by
 rcases h with h|h
 ·exact .inl (k _ _ h (.inr trivial))
 ·exact .inr h
theorem Keeps.rd {a:Addr}{u:HO} (k:Keeps N H H') (n:N a) (h:Rd H a u):Rd H' a u:=by
 rcases h with h|⟨o,h⟩
 ·exact .inl (k _ _ h (.inl n))
 ·exact .inr ⟨o,k _ _ h (.inl n)⟩
mutual
theorem Rp.keep (k:Keeps N H H'):∀ {v:V}{d:D},Rp K N H v d→Rp K N H' v d
 |_,_,.non=>.non
 |_,_,.bl b=>.bl b
 |_,_,.int i=>.int i
 |_,_,.str x=>.str x
 |_,_,.ty n=>.ty n
 |_,_,.tup h r=>.tup (k.sq h) (ax.keep k r)
 |_,_,.lst h n r=>.lst (k.rd n h) n (ax.keep k r)
 |_,_,.lstK h r=>.lstK h (ax.keep k r)
 |_,_,.dk h n e r=>.dk (k.rd n h) n e (ax.keep k r)
 |_,_,.dt h n e r=>.dt (k.rd n h) n e (ax.keep k r)
theorem ax.keep (k:Keeps N H H'):∀ {vs:List V}{ds:List D},ax K N H vs ds→ax K N H' vs ds
 |_,_,.nil=>.nil
 |_,_,.cons h r=>.cons (Rp.keep k h) (ax.keep k r)
end
theorem Rd.some {a:Addr}{u:HO} (h:Rd H a u):∃ o,H a=some o:=by
 rcases h with h|⟨o,h⟩
 ·exact ⟨_,h⟩
 ·exact ⟨_,h⟩
mutual
theorem Rp.wk (w:∀ a,N a→(∃ o,H a=some o)→N' a):∀ {v:V}{d:D},Rp K N H v d→Rp K N' H v d
 |_,_,.non=>.non
 |_,_,.bl b=>.bl b
 |_,_,.int i=>.int i
 |_,_,.str x=>.str x
 |_,_,.ty n=>.ty n
 |_,_,.tup h r=>.tup h (ax.wk w r)
 |_,_,.lst h n r=>.lst h (w _ n (Rd.some h)) (ax.wk w r)
 |_,_,.lstK h r=>.lstK h (ax.wk w r)
 |_,_,.dk h n e r=>.dk h (w _ n (Rd.some h)) e (ax.wk w r)
 |_,_,.dt h n e r=>.dt h (w _ n (Rd.some h)) e (ax.wk w r)
theorem ax.wk (w:∀ a,N a→(∃ o,H a=some o)→N' a):∀ {vs:List V}{ds:List D},ax K N H vs ds→ax K N' H vs ds
 |_,_,.nil=>.nil
 |_,_,.cons h r=>.cons (Rp.wk w h) (ax.wk w r)
end
mutual
theorem Rp.im:∀ {v:V}{d:D},d.bR=true→Rp K N H v d→Rp K N' H v d
 |_,_,_,.non=>.non
 |_,_,_,.bl b=>.bl b
 |_,_,_,.int i=>.int i
 |_,_,_,.str x=>.str x
 |_,_,_,.ty n=>.ty n
 |_,.tup ds,e,.tup h r=>.tup h (ax.im (by simpa only [D.bR] using e) r)
 |_,.lst ds,e,.lst h n r=>by simp [D.bR] at e
 |_,.lst ds,e,.lstK h r=>by simp [D.bR] at e
 |_,.dk ds,e,.dk h n _ r=>by simp [D.bR] at e
 |_,.dt ds,e,.dt h n _ r=>by simp [D.bR] at e
theorem ax.im:∀ {vs:List V}{ds:List D},D.cP ds=true→ax K N H vs ds→ax K N' H vs ds
 |_,_,_,.nil=>.nil
 |_,d::ds,e,.cons h r=>by
  have e':d.bR=true∧D.cP ds=true:=by simpa [D.cP] using e
  exact .cons (Rp.im e'.1 h) (ax.im e'.2 r)
end
theorem ax.paired:∀ {vs:List V}{ds:List D},ax K N H vs ds→Paired (fun d v=>Rp K N H v d) ds vs
 |_,_,.nil=>.nil
 |_,_,.cons h r=>.cons h (ax.paired r)
theorem ax.len {vs:List V}{ds:List D} (r:ax K N H vs ds):vs.length=ds.length:=(Paired.length r.paired).symm
theorem ax.get:∀ {vs:List V}{ds:List D}{i:Nat}{d:D},ax K N H vs ds→ds[i]?=some d→∃ v,vs[i]?=some v∧Rp K N H v d
 |_,_,_,_,.nil,e=>by simp at e
 |_,_,0,_,.cons h _,e=>by simp at e;subst e;exact ⟨_,rfl,h⟩
 |_,_,i+1,d,.cons _ r,e=>by
  obtain ⟨v,h1,h2⟩:=ax.get (i:=i) (d:=d) r (by simpa using e)
  exact ⟨v,by simpa using h1,h2⟩
theorem ax.app:∀ {vs ws:List V}{ds es:List D},ax K N H vs ds→ax K N H ws es→ax K N H (vs++ws) (ds++es)
 |_,_,_,_,.nil,s=>s
 |_,_,_,_,.cons h r,s=>.cons h (ax.app r s)
theorem ax.set {v:V}{d:D} (q:Rp K N H v d):∀ {vs:List V}{ds:List D} (i:Nat),ax K N H vs ds→ax K N H (vs.set i v) (ds.set i d)
 |_,_,_,.nil=>.nil
 |_,_,0,.cons _ t=>.cons q t
 |_,_,i+1,.cons h t=>.cons h (ax.set q i t)
theorem ax.take:∀ {vs:List V}{ds:List D} (n:Nat),ax K N H vs ds→ax K N H (vs.take n) (ds.take n)
 |_,_,0,_=>.nil
 |_,_,_+1,.nil=>.nil
 |_,_,n+1,.cons r t=>.cons r (ax.take n t)
theorem ax.drop:∀ {vs:List V}{ds:List D} (n:Nat),ax K N H vs ds→ax K N H (vs.drop n) (ds.drop n)
 |_,_,0,r=>r
 |_,_,_+1,.nil=>.nil
 |_,_,n+1,.cons _ t=>ax.drop n t
theorem ax.rev:∀ {vs:List V}{ds:List D},ax K N H vs ds→ax K N H vs.reverse ds.reverse
 |_,_,.nil=>.nil
 |_,_,.cons h t=>by
  rw [List.reverse_cons,List.reverse_cons]
  exact (ax.rev t).app (.cons h .nil)
theorem ax.dl {vs:List V}{ds:List D} (h:ax K N H vs ds):ax K N H vs.dropLast ds.dropLast:=by
 rw [List.dropLast_eq_take,List.dropLast_eq_take,h.len]
 exact h.take _
theorem ax.bw {vs:List V}{ds:List D}{i:Int}{d:D} (r:ax K N H vs ds) (e:L2.bw ds i=some d):∃ v,L2.bw vs i=some v∧Rp K N H v d:=by
 unfold L2.bw at e ⊢
 rw [r.len]
 cases q:df ds.length i with
 |none=>rw [q] at e;cases e
 |some j =>
  rw [q] at e
  exact r.get e
end
inductive M where|al|fr|un|bo|bi|rb|nb
 deriving DecidableEq
noncomputable abbrev Ev:=List (Option (M×D))
noncomputable def Cell (K:PySem.W.Frag) (N:Addr→Prop) (H:Hp) (p:Addr):D→Prop
 |.lst ds=>∃ xs,H p=some (.lst xs)∧ax K N H xs ds
 |.dk ks=>∃ ai,H p=some (.dK ai)∧ai.map (·.1)=ks.map (·.1)∧ax K N H (ai.map (·.2)) (ks.map (·.2))
 |.dt ks=>∃ ai,H p=some (.dT ai)∧ai.map (·.1)=ks.map (·.1)∧ax K N H (ai.map (·.2)) (ks.map (·.2))
 |_=>False
noncomputable def NM (H₀:Hp) (O:Addr→Prop):M→Addr→Prop
 |.al,a=>¬ O a
 |.rb,a=>H₀ a=none
 |_,a=>¬ O a∧H₀ a=none
def iC (K:PySem.W.Frag) (H₀:Hp) (O:Addr→Prop) (H:Hp) (d:D) (v:V):Prop :=
 ∃ (p:Addr) (qs:List Addr) (aP:List (List D)),v=.ref p∧d=.lst (aP.map D.lst)∧O p∧H₀ p=none∧H p=some (.lst (qs.map V.ref))∧qs.Nodup∧(∀ q∈qs,O q∧H₀ q=none∧q≠p) ∧
  Paired (fun q ds=>∃ xs,H q=some (.lst xs)∧ax K (fun a=>¬ O a∧H₀ a=none) H xs ds) qs aP
noncomputable def Val (K:PySem.W.Frag) (H₀:Hp) (O:Addr→Prop) (Hb H:Hp):M→D→V→Prop
 |.al,d,v=>Rp K (fun a=>¬ O a) H v d
 |.fr,d,v=>Rp K (fun a=>¬ O a∧H₀ a=none) H v d
 |.rb,d,v=>Rp K (fun a=>H₀ a=none) H v d
 |.un,d,v=>∃ p,v=.ref p∧Hb p=none∧H₀ p=none∧¬ O p∧Cell K (fun a=>(¬ O a∧H₀ a=none)∧a≠p) H p d
 |.bo,d,v=>∃ p,v=.ref p∧O p∧H₀ p=none∧Cell K (fun a=>¬ O a∧H₀ a=none) H p d
 |.bi,d,v=>∃ p,v=.ref p∧O p∧Cell K (fun a=>¬ O a∧H₀ a=none) H p d
 |.nb,d,v=>iC K H₀ O H d v
noncomputable def aV:M→M
 |.al=>.al
 |.rb=>.rb
 |.nb=>.rb
 |_=>.fr
noncomputable abbrev HE:Hp:=fun _=>none
section
variable {K:PySem.W.Frag}{N N':Addr→Prop}{H H' H₀ Hb Iz:Hp}{O:Addr→Prop}{m:M}{d:D}{v:V}{p:Addr}
theorem Cell.keep (k:Keeps N H H') (e:H' p=H p) (h:Cell K N H p d):Cell K N H' p d:=by
 cases d<;>simp only [Cell] at h ⊢
 ·obtain ⟨xs,q,r⟩:=h;exact ⟨xs,e.trans q,r.keep k⟩
 ·obtain ⟨xs,q,z,r⟩:=h;exact ⟨xs,e.trans q,z,r.keep k⟩
 ·obtain ⟨xs,q,z,r⟩:=h;exact ⟨xs,e.trans q,z,r.keep k⟩
theorem Cell.some (h:Cell K N H p d):∃ o,H p=some o∧¬ hG o:=by
 cases d<;>simp only [Cell] at h
 ·obtain ⟨xs,q,r⟩:=h;exact ⟨_,q,fun z=>z⟩
 ·obtain ⟨xs,q,z,r⟩:=h;exact ⟨_,q,fun z=>z⟩
 ·obtain ⟨xs,q,z,r⟩:=h;exact ⟨_,q,fun z=>z⟩
theorem Cell.wk (w:∀ a,N a→(∃ o,H a=Option.some o)→N' a) (h:Cell K N H p d):Cell K N' H p d:=by
 cases d<;>simp only [Cell] at h ⊢
 ·obtain ⟨xs,q,r⟩:=h;exact ⟨xs,q,r.wk w⟩
 ·obtain ⟨xs,q,z,r⟩:=h;exact ⟨xs,q,z,r.wk w⟩
 ·obtain ⟨xs,q,z,r⟩:=h;exact ⟨xs,q,z,r.wk w⟩
theorem Cell.rp (n:N p) (h:Cell K N H p d):Rp K N H (.ref p) d:=by
 cases d<;>simp only [Cell] at h
 ·obtain ⟨xs,q,r⟩:=h;exact .lst (.inl q) n r
 ·obtain ⟨xs,q,z,r⟩:=h;exact .dk (.inl q) n z r
 ·obtain ⟨xs,q,z,r⟩:=h;exact .dt (.inl q) n z r
theorem jy {F G:Addr→List D→Prop}:∀ {qs:List Addr}{aP:List (List D)},(∀ q ds,q∈qs→F q ds→G q ds)→Paired F qs aP→Paired G qs aP
 |_,_,_,.nil=>.nil
 |_,_,h,.cons a t=>.cons (h _ _ List.mem_cons_self a) (jy (fun q ds m=>h q ds (List.mem_cons_of_mem _ m)) t)
theorem iC.keep (s:aH H H') (h:iC K H₀ O H d v):iC K H₀ O H' d v:=by
 obtain ⟨p,qs,aP,e1,e2,h1,h2,h3,h4,h5,h6⟩:=h
 exact ⟨p,qs,aP,e1,e2,h1,h2,s _ _ h3,h4,h5,jy (fun q ds _ ⟨xs,a,b⟩=>⟨xs,s _ _ a,b.keep (.same s)⟩) h6⟩
theorem iC.iK {F:Addr→Prop} (w:∀ a,H₀ a=none→F a):∀ {qs:List Addr}{aP:List (List D)},(∀ q∈qs,O q∧H₀ q=none∧q≠p)→Paired (fun q ds=>∃ xs,H q=some (.lst xs)∧ax K (fun a=>¬ O a∧H₀ a=none) H xs ds) qs aP→ax K F H (qs.map V.ref) (aP.map D.lst)
 |_,_,_,.nil=>.nil
 |_,_,h,.cons ⟨xs,a,b⟩ t=>.cons (.lst (.inl a) (w _ (h _ List.mem_cons_self).2.1) (b.wk fun x z _=>w x z.2)) (iC.iK w (fun q m=>h q (List.mem_cons_of_mem _ m)) t)
theorem iC.rp {F:Addr→Prop} (w:∀ a,H₀ a=none→F a) (h:iC K H₀ O H d v):Rp K F H v d:=by
 obtain ⟨p,qs,aP,rfl,rfl,h1,h2,h3,h4,h5,h6⟩:=h
 exact .lst (.inl h3) (w _ h2) (iC.iK w h5 h6)
theorem Val.keep (s:aH H H') (h:Val K H₀ O Hb H m d v):Val K H₀ O Hb H' m d v:=by
 cases m<;>simp only [Val] at h ⊢
 ·exact h.keep (.same s)
 ·exact h.keep (.same s)
 ·obtain ⟨p,e,h1,h2,h3,c⟩:=h
  obtain ⟨o,q,_⟩:=c.some
  exact ⟨p,e,h1,h2,h3,c.keep (.same s) ((s _ _ q).trans q.symm)⟩
 ·obtain ⟨p,e,h1,h2,c⟩:=h
  obtain ⟨o,q,_⟩:=c.some
  exact ⟨p,e,h1,h2,c.keep (.same s) ((s _ _ q).trans q.symm)⟩
 ·obtain ⟨p,e,h1,c⟩:=h
  obtain ⟨o,q,_⟩:=c.some
  exact ⟨p,e,h1,c.keep (.same s) ((s _ _ q).trans q.symm)⟩
 ·exact h.keep (.same s)
 ·exact h.keep s
theorem Val.hb (w:∀ a,Hb a=none→Iz a=none) (h:Val K H₀ O Hb H m d v):Val K H₀ O Iz H m d v:=by
 cases m<;>simp only [Val] at h ⊢
 ·exact h
 ·exact h
 ·obtain ⟨p,e,h1,r⟩:=h;exact ⟨p,e,w _ h1,r⟩
 ·exact h
 ·exact h
 ·exact h
 ·exact h
theorem Val.h0 (h:Val K H₀ O Hb H m d v):Val K H₀ O HE H m d v:=h.hb fun _ _=>rfl
theorem Val.weak (h:Val K H₀ O Hb H m d v):Rp K (fun _=>True) H v d:=by
 cases m<;>simp only [Val] at h
 ·exact h.wk fun _ _ _=>trivial
 ·exact h.wk fun _ _ _=>trivial
 ·obtain ⟨p,rfl,_,_,_,c⟩:=h;exact (c.wk fun _ _ _=>trivial).rp trivial
 ·obtain ⟨p,rfl,_,_,c⟩:=h;exact (c.wk fun _ _ _=>trivial).rp trivial
 ·obtain ⟨p,rfl,_,c⟩:=h;exact (c.wk fun _ _ _=>trivial).rp trivial
 ·exact h.wk fun _ _ _=>trivial
 ·exact h.rp fun _ _=>trivial
theorem Rp.int_inv {i:Int} (h:Rp K N H v (.int i)):v=.int i:=by cases h;rfl
theorem Rp.E2 {b:Bool} (h:Rp K N H v (.bl b)):v=.bl b:=by cases h;rfl
theorem Rp.str_inv {x:Str} (h:Rp K N H v (.str x)):v=.str x:=by cases h;rfl
theorem Rp.D2 (h:Rp K N H v .non):v=.non:=by cases h;rfl
theorem Rp.Sf {n:String} (h:Rp K N H v (.ty n)):v=.ty n:=by cases h;rfl
theorem Val.int {i:Int} (h:Val K H₀ O Hb H m (.int i) v):v=.int i:=h.weak.int_inv
theorem Val.bl {b:Bool} (h:Val K H₀ O Hb H m (.bl b) v):v=.bl b:=h.weak.E2
theorem Val.str {x:Str} (h:Val K H₀ O Hb H m (.str x) v):v=.str x:=h.weak.str_inv
theorem Val.non (h:Val K H₀ O Hb H m .non v):v=.non:=h.weak.D2
theorem Val.ty {x:String} (h:Val K H₀ O Hb H m (.ty x) v):v=.ty x:=h.weak.Sf
theorem Val.lst {ds:List D} (h:Val K H₀ O Hb H m (.lst ds) v):∃ a xs,v=.ref a∧bL K H a xs∧ax K (NM H₀ O (aV m)) H xs ds:=by
 cases m<;>simp only [Val,Cell] at h
 ·cases h with
  |lst r n q=>exact ⟨_,_,rfl,.inl r,q⟩
  |lstK r q=>exact ⟨_,_,rfl,.inr r,q⟩
 ·cases h with
  |lst r n q=>exact ⟨_,_,rfl,.inl r,q⟩
  |lstK r q=>exact ⟨_,_,rfl,.inr r,q⟩
 ·obtain ⟨p,rfl,_,_,_,xs,q,r⟩:=h;exact ⟨_,_,rfl,.inl (.inl q),r.wk fun a h _=>h.1⟩
 ·obtain ⟨p,rfl,_,_,xs,q,r⟩:=h;exact ⟨_,_,rfl,.inl (.inl q),r⟩
 ·obtain ⟨p,rfl,_,xs,q,r⟩:=h;exact ⟨_,_,rfl,.inl (.inl q),r⟩
 ·cases h with
  |lst r n q=>exact ⟨_,_,rfl,.inl r,q⟩
  |lstK r q=>exact ⟨_,_,rfl,.inr r,q⟩
 ·obtain ⟨p,qs,aP,rfl,e2,h1,h2,h3,h4,h5,h6⟩:=h
  cases e2
  exact ⟨p,_,rfl,.inl (.inl h3),iC.iK (fun _ z=>z) h5 h6⟩
theorem Val.tup {ds:List D} (h:Val K H₀ O Hb H m (.tup ds) v):∃ a xs,v=.ref a∧bz K H a xs∧ax K (NM H₀ O (aV m)) H xs ds:=by
 cases m<;>simp only [Val,Cell] at h
 ·cases h with|tup r q=>exact ⟨_,_,rfl,r,q⟩
 ·cases h with|tup r q=>exact ⟨_,_,rfl,r,q⟩
 ·obtain ⟨p,rfl,_,_,_,z⟩:=h;exact z.elim
 ·obtain ⟨p,rfl,_,_,z⟩:=h;exact z.elim
 ·obtain ⟨p,rfl,_,z⟩:=h;exact z.elim
 ·cases h with|tup r q=>exact ⟨_,_,rfl,r,q⟩
 ·obtain ⟨p,qs,aP,rfl,e2,_⟩:=h;cases e2
theorem Val.el {a:V}{e:D} (h:Rp K (NM H₀ O (aV m)) H a e):Val K H₀ O Hb H (aV m) e a:=by
 cases m<;>exact h
noncomputable def cR:M→D→Bool
 |.fr,_=>true
 |.un,_=>true
 |_,d=>d.bR
noncomputable def f6:M→D→Bool
 |.fr,_=>true
 |.un,_=>true
 |.al,_=>true
 |_,d=>d.bR
noncomputable def rj:M→D→Bool
 |.fr,_=>true
 |.un,_=>true
 |.bo,_=>true
 |.rb,_=>true
 |_,d=>d.bR
theorem Val.cR (h:Val K H₀ O Hb H m d v) (e:J.cR m d=true):Rp K (fun a=>¬ O a∧H₀ a=none) H v d:=by
 cases m<;>simp only [J.cR] at e
 ·exact h.weak.im e
 ·exact h
 ·obtain ⟨p,rfl,_,h1,h2,c⟩:=h
  exact (c.wk fun a h _=>h.1).rp ⟨h2,h1⟩
 ·exact h.weak.im e
 ·exact h.weak.im e
 ·exact h.weak.im e
 ·exact Rp.im e h.weak
theorem Val.f6 (h:Val K H₀ O Hb H m d v) (e:J.f6 m d=true):Rp K (fun a=>¬ O a) H v d:=by
 cases m<;>simp only [J.f6] at e
 ·exact h
 ·exact Rp.wk (fun a h _=>h.1) (show Rp K (fun a=>¬ O a∧H₀ a=none) H v d from h)
 ·exact Rp.wk (fun a h _=>h.1) (h.cR rfl)
 ·exact h.weak.im e
 ·exact h.weak.im e
 ·exact h.weak.im e
 ·exact Rp.im e h.weak
theorem Val.rj (h:Val K H₀ O Hb H m d v) (e:J.rj m d=true):Rp K (fun a=>H₀ a=none) H v d:=by
 cases m<;>simp only [J.rj] at e
 ·exact h.weak.im e
 ·exact Rp.wk (fun a h _=>h.2) (show Rp K (fun a=>¬ O a∧H₀ a=none) H v d from h)
 ·exact Rp.wk (fun a h _=>h.2) (h.cR rfl)
 ·obtain ⟨p,rfl,_,h1,c⟩:=h
  exact (c.wk fun a h _=>h.2).rp h1
 ·exact h.weak.im e
 ·exact h
 ·exact Rp.im e h.weak
end
noncomputable def hJ:M→Bool
 |.un=>false
 |.rb=>false
 |_=>true
structure dw (K:PySem.W.Frag) (H₀:Hp) (O:Addr→Prop) (H:Hp) (σ:St) (env:Ev):Prop where
 sl:Paired (fun (e:Option (M×D)) (x:Option V)=>∀ m d,e=some (m,d)→hJ m=true∧∃ v,x=some v∧Val K H₀ O HE H m d v) env σ
 od:∀ a,O a→∃ o,H a=some o
 hd:∀ a o,H₀ a=some o→∃ o',H a=some o'
 on:∀ a o,O a→H a=some o→¬ hG o
def JT (K:PySem.W.Frag) (te:TE) (f:Ev→Option (M×D)):Prop :=
 ∀ H₀ O H σ env Q m d,dw K H₀ O H σ env→f env=some (m,d)→(∀ v H',aH H H'→Val K H₀ O H H' m d v→Q v H')→te σ H Q
def eJ (K:PySem.W.Frag) (tt:TT) (f:Ev→Option Bool):Prop :=
 ∀ H₀ O H σ env Q b,dw K H₀ O H σ env→f env=some b→(∀ H',aH H H'→Q b H')→tt σ H Q
def fC (K:PySem.W.Frag) (H₀:Hp) (O:Addr→Prop) (Hb H:Hp) (aA:List (M×D)) (vs:List V):Prop:=Paired (fun md v=>Val K H₀ O Hb H md.1 md.2 v) aA vs
def hR (K:PySem.W.Frag) (ta:TA) (f:Ev→Option (List (M×D))):Prop :=
 ∀ H₀ O H σ env Q aA,dw K H₀ O H σ env→f env=some aA→(∀ vs H',aH H H'→fC K H₀ O H H' aA vs→Q vs H')→ta σ H Q
section
variable {K:PySem.W.Frag}{H H' H₀:Hp}{O:Addr→Prop}{σ:St}{env:Ev}
theorem kr {α β:Type}{F G:α→β→Prop} (h:∀ a b,F a b→G a b):∀ {l:List α}{r:List β},Paired F l r→Paired G l r
 |_,_,.nil=>.nil
 |_,_,.cons q t=>.cons (h _ _ q) (kr h t)
theorem dw.keep (R:dw K H₀ O H σ env) (s:aH H H'):dw K H₀ O H' σ env :=
 ⟨kr (fun e x h m d q=>⟨(h m d q).1,let ⟨v,e,z⟩:=(h m d q).2;⟨v,e,z.keep s⟩⟩) R.sl,fun a h=>let ⟨o,q⟩:=R.od a h;⟨o,s _ _ q⟩,fun a o h=>let ⟨o,q⟩:=R.hd a o h;⟨o,s _ _ q⟩,fun a o h e=>by
  obtain ⟨o',q⟩:=R.od a h
  have z:=s _ _ q
  rw [e] at z;cases z
  exact R.on a _ h q⟩
theorem GZ {α β:Type}{F:α→β→Prop}:∀ {l:List α}{r:List β}{i:Nat}{a:α},Paired F l r→l[i]?=some a→∃ b,r[i]?=some b∧F a b
 |_,_,_,_,.nil,e=>by simp at e
 |_,_,0,_,.cons h _,e=>by simp at e;subst e;exact ⟨_,rfl,h⟩
 |_,_,i+1,a,.cons _ r,e=>by
  obtain ⟨v,h1,h2⟩:=GZ (i:=i) (a:=a) r (by simpa using e)
  exact ⟨v,by simpa using h1,h2⟩
theorem dw.at {i:Nat}{m:M}{d:D} (R:dw K H₀ O H σ env) (e:env[i]?=some (some (m,d))):∃ v,σ[i]?=some (some v)∧hJ m=true∧Val K H₀ O HE H m d v:=by
 obtain ⟨x,hx,h⟩:=GZ R.sl e
 obtain ⟨h0,v,rfl,hz⟩:=h m d rfl
 exact ⟨v,hx,h0,hz⟩
theorem Val.F5 {m:M}{d:D}{v:V}{Hb:Hp} (n:hJ m=true) (h:Val K H₀ O HE H m d v):Val K H₀ O Hb H m d v:=by
 cases m<;>first|exact h|cases n
noncomputable def jV (i:Nat):Ev→Option (M×D):=fun e=>(e[i]?).bind id
theorem Sg {i:Nat}:JT K (fQ i) (jV i):=by
 intro H₀ O H σ env Q m d R h q
 unfold jV at h
 cases e:env[i]? with
 |none=>rw [e] at h;cases h
 |some x =>
  rw [e] at h
  obtain rfl:x=some (m,d):=h
  obtain ⟨v,hv,n,hm⟩:=R.at e
  exact ⟨v,hv,q v H (aH.refl H) (hm.F5 n)⟩
noncomputable def jC (d:D):Ev→Option (M×D):=fun _=>some (.fr,d)
noncomputable def cD:V→Option D
 |.non=>some .non
 |.bl b=>some (.bl b)
 |.int i=>some (.int i)
 |.str x=>some (.str x)
 |.ty n=>some (.ty n)
 |_=>none
theorem n8 {v:V}{d:D} (e:cD v=some d):JT K (tC v) (jC d):=by
 intro H₀ O H σ env Q m d' R h q
 cases h
 refine q v H (aH.refl H) ?_
 cases v<;>simp only [cD] at e<;>cases e<;>constructor
def JR (K:PySem.W.Frag) (r:R2) (g:M×D→M×D→Option (M×D)):Prop :=
 ∀ H₀ O H x y a b Q m d,(∀ a,O a→∃ o,H a=some o)→(∀ a o,H₀ a=some o→∃ o',H a=some o')→Val K H₀ O HE H (Prod.fst a) a.2 x→Val K H₀ O HE H (Prod.fst b) b.2 y→g a b=some (m,d)→(∀ v H',aH H H'→Val K H₀ O H H' m d v→Q v H')→r x y H Q
noncomputable def ag (g:M×D→M×D→Option (M×D)) (fa fb:Ev→Option (M×D)):Ev→Option (M×D):=fun e=>(fa e).bind fun x=>(fb e).bind fun y=>g x y
theorem uJ {r:R2}{g:M×D→M×D→Option (M×D)}{ta tb:TE}{fa fb:Ev→Option (M×D)} (hr:JR K r g) (ha:JT K ta fa) (hb:JT K tb fb):JT K (oD r ta tb) (ag g fa fb):=by
 intro H₀ O H σ env Q m d R h q
 unfold ag at h
 cases ea:fa env with
 |none=>rw [ea] at h;cases h
 |some a =>
  cases eb:fb env with
  |none=>rw [ea,eb] at h;cases h
  |some b =>
   rw [ea,eb] at h
   refine ha H₀ O H σ env _ a.1 a.2 R ea fun x H1 s1 h1=>?_
   refine hb H₀ O H1 σ env _ b.1 b.2 (R.keep s1) eb fun y H2 s2 h2=>?_
   have R2:=(R.keep s1).keep s2
   refine hr H₀ O H2 x y a b Q m d R2.od R2.hd (h1.keep s2).h0 h2.h0 h fun v H3 s3 h3=>?_
   exact q v H3 ((s1.trans s2).trans s3) (h3.hb fun a z=>(s1.trans s2).free z)
noncomputable def cf (g:M×D→Option (M×D)) (fa:Ev→Option (M×D)):Ev→Option (M×D):=fun e=>(fa e).bind g
def JU (K:PySem.W.Frag) (r:V→Hp→VK→Prop) (g:M×D→Option (M×D)):Prop :=
 ∀ H₀ O H x a Q m d,(∀ a,O a→∃ o,H a=some o)→(∀ a o,H₀ a=some o→∃ o',H a=some o')→Val K H₀ O HE H (Prod.fst a) a.2 x→g a=some (m,d)→(∀ v H',aH H H'→Val K H₀ O H H' m d v→Q v H')→r x H Q
theorem UR {r:V→Hp→VK→Prop}{g:M×D→Option (M×D)}{ta:TE}{fa:Ev→Option (M×D)} (hr:JU K r g) (ha:JT K ta fa):JT K (Ie r ta) (cf g fa):=by
 intro H₀ O H σ env Q m d R h q
 unfold cf at h
 cases ea:fa env with
 |none=>rw [ea] at h;cases h
 |some a =>
  rw [ea] at h
  refine ha H₀ O H σ env _ a.1 a.2 R ea fun x H1 s1 h1=>?_
  have R1:=R.keep s1
  exact hr H₀ O H1 x a Q m d R1.od R1.hd h1.h0 h fun v H3 s3 h3=>q v H3 (s1.trans s3) (h3.hb fun a z=>s1.free z)
theorem iq {H:Hp}{Hb:Hp}{i:Int}:Val K H₀ O Hb H .fr (.int i) (.int i):=Rp.int i
theorem fm {H:Hp}{Hb:Hp}{i:Bool}:Val K H₀ O Hb H .fr (.bl i) (.bl i):=Rp.bl i
theorem yQ {H:Hp}{Hb:Hp}{i:Str}:Val K H₀ O Hb H .fr (.str i) (.str i):=Rp.str i
noncomputable def gI (c:Int→Int→Prop) [∀ i j,Decidable (c i j)] (f:Int→Int→Int):M×D→M×D→Option (M×D)
 | (_,.int i),(_,.int j)=>if c i j then some (.fr,.int (f i j)) else none
 |_,_=>none
noncomputable def rn (f:Int→Int→Int):M×D→M×D→Option (M×D)
 | (_,.int i),(_,.int j)=>some (.fr,.int (f i j))
 |_,_=>none
noncomputable def vM (f:Int→Int→Bool):M×D→M×D→Option (M×D)
 | (_,.int i),(_,.int j)=>some (.fr,.bl (f i j))
 |_,_=>none
theorem qF {C:Int→Int→Prop}{c:Int→Int→Prop} [∀ i j,Decidable (c i j)] {f:Int→Int→Int} (w:∀ i j,c i j→C i j):JR K (rI C fun i j=>.int (f i j)) (gI c f):=by
 intro H₀ O H x y a b Q m d _ _ h1 h2 h q
 obtain ⟨ma,da⟩:=a;obtain ⟨mb,db⟩:=b
 cases da<;>try (cases h;done)
 cases db<;>try (cases h;done)
 rename_i i j
 simp only [gI] at h
 split at h
 ·rename_i hc
  cases h
  exact ⟨i,j,h1.int,h2.int,w i j hc,q _ H (aH.refl H) iq⟩
 ·cases h
theorem uK {f:Int→Int→Int}:JR K (dO fun i j=>.int (f i j)) (rn f):=by
 intro H₀ O H x y a b Q m d _ _ h1 h2 h q
 obtain ⟨ma,da⟩:=a;obtain ⟨mb,db⟩:=b
 cases da<;>try (cases h;done)
 cases db<;>try (cases h;done)
 rename_i i j
 cases h
 exact ⟨i,j,h1.int,h2.int,q _ H (aH.refl H) iq⟩
theorem yR {f:Int→Int→Bool}:JR K (dO fun i j=>.bl (f i j)) (vM f):=by
 intro H₀ O H x y a b Q m d _ _ h1 h2 h q
 obtain ⟨ma,da⟩:=a;obtain ⟨mb,db⟩:=b
 cases da<;>try (cases h;done)
 cases db<;>try (cases h;done)
 rename_i i j
 cases h
 exact ⟨i,j,h1.int,h2.int,q _ H (aH.refl H) fm⟩
noncomputable def G0:=rn (·+·)
noncomputable def gR:=rn (· - ·)
noncomputable def dZ:=gI (fun i j=>(-18446744073709551616 < i∧i < 18446744073709551616)∨(-18446744073709551616 < j∧j < 18446744073709551616)) (· * ·)
noncomputable def aS:=gI (fun _ j=>0 < j) (· % ·)
noncomputable def gn:=gI (fun i j=>0≤j∧j≤1000000∧i.natAbs < 2 ^ 64) (fun i j=>i ^ j.toNat)
noncomputable def lT:=gI (fun i j=>0≤j∧j≤1000000∧i.natAbs < 2 ^ 64) (fun i j=>i*2 ^ j.toNat)
noncomputable def fw:=vM (fun i j=>decide (i < j))
noncomputable def oK:=vM (fun i j=>decide (i≤j))
noncomputable def gB:=vM (fun i j=>decide (j < i))
theorem Sh:JR K (dO fun i j=>.int (i+j)) G0:=uK
theorem Si:JR K (dO fun i j=>.int (i-j)) gR:=uK
theorem XI:(2:Int) ^ 64=18446744073709551616:=by decide
theorem Sj:JR K (rI qA fun i j=>.int (i*j)) dZ:=qF fun i j h=>by
 unfold qA;rw [XI];exact h
theorem Sl:JR K (rI (fun _ j=>0 < j) fun i j=>.int (i%j)) aS:=qF fun _ _ h=>h
theorem Sn:JR K (rI u6 fun i j=>.int (i ^ j.toNat)) gn:=qF fun _ _ h=>h
theorem Sq:JR K (rI u6 fun i j=>.int (i*2 ^ j.toNat)) lT:=qF fun _ _ h=>h
theorem UT:JR K (dO fun i j=>.bl (decide (i < j))) fw:=yR
theorem UU:JR K (dO fun i j=>.bl (decide (i≤j))) oK:=yR
theorem UW:JR K (dO fun i j=>.bl (decide (j < i))) gB:=yR
noncomputable def dA:D→Option V
 |.non=>some .non
 |.bl b=>some (.bl b)
 |.int i=>some (.int i)
 |.str x=>some (.str x)
 |_=>none
theorem nQ {N:Addr→Prop}{d:D}{v w:V} (h:Rp K N H v d) (e:dA d=some w):v=w:=by
 cases h<;>simp only [dA] at e<;>cases e<;>rfl
noncomputable def aN:M×D→M×D→Option (M×D):=fun a b=>(dA a.2).bind fun x=>(dA b.2).bind fun y=>if jK x y=true then some (.fr,.bl (decide (x=y))) else none
noncomputable def hU:M×D→M×D→Option (M×D):=fun a b=>(dA a.2).bind fun x=>(dA b.2).bind fun y=>if jK x y=true then some (.fr,.bl (!decide (x=y))) else none
theorem UX:JR K Ih aN:=by
 intro H₀ O H x y a b Q m d _ _ h1 h2 h q
 unfold aN at h
 cases e1:dA a.2 with
 |none=>rw [e1] at h;cases h
 |some x' =>
  cases e2:dA b.2 with
  |none=>rw [e1,e2] at h;cases h
  |some y' =>
   rw [e1,e2] at h
   obtain rfl:=nQ h1.weak e1
   obtain rfl:=nQ h2.weak e2
   simp only [Option.bind_some] at h
   split at h
   ·rename_i hc
    cases h
    exact ⟨hc,q _ H (aH.refl H) fm⟩
   ·cases h
theorem UY:JR K Ii hU:=by
 intro H₀ O H x y a b Q m d _ _ h1 h2 h q
 unfold hU at h
 cases e1:dA a.2 with
 |none=>rw [e1] at h;cases h
 |some x' =>
  cases e2:dA b.2 with
  |none=>rw [e1,e2] at h;cases h
  |some y' =>
   rw [e1,e2] at h
   obtain rfl:=nQ h1.weak e1
   obtain rfl:=nQ h2.weak e2
   simp only [Option.bind_some] at h
   split at h
   ·rename_i hc
    cases h
    exact ⟨hc,q _ H (aH.refl H) fm⟩
   ·cases h
noncomputable def qu:M×D→M×D→Option (M×D)
 | (_,.non),(_,.non)=>some (.fr,.bl false)
 | (_,_),(_,.non)=>some (.fr,.bl true)
 |_,_=>none
theorem Sr {N:Addr→Prop}{d:D}{v:V} (h:Rp K N H v d):(v=.non↔d=.non):=by
 cases h<;>simp
theorem Pp:JR K (fun x y H Q=>y=.non∧Q (.bl (!decide (x=.non))) H) qu:=by
 intro H₀ O H x y a b Q m d _ _ h1 h2 h q
 obtain ⟨ma,da⟩:=a;obtain ⟨mb,db⟩:=b
 have e:=Sr h1.weak
 cases db<;>try (cases da<;>cases h;done)
 refine ⟨h2.non,?_⟩
 cases da<;>cases h<;>(simp only [e,reduceCtorEq,decide_true,decide_false];exact q _ H (aH.refl H) fm)
noncomputable def ak:M×D→M×D→Option (M×D)
 | (m,.lst ds),(_,.int i)=>(bw ds i).map fun d=>(aV m,d)
 | (m,.tup ds),(_,.int i)=>(bw ds i).map fun d=>(aV m,d)
 | (_,.str z),(_,.int i)=>if z.length≤sizeLine then (bw z.cps.toList i).map fun c=>(.fr,.str ⟨#[c]⟩) else none
 |_,_=>none
theorem UZ:JR K (vE K) ak:=by
 intro H₀ O H x y a b Q m d _ _ h1 h2 h q
 obtain ⟨ma,da⟩:=a;obtain ⟨mb,db⟩:=b
 cases da<;>try (cases db<;>cases h;done)
 ·cases db<;>try (cases h;done)
  rename_i z i
  simp only [ak] at h
  split at h
  ·rename_i hl
   cases e:bw z.cps.toList i with
   |none=>rw [e] at h;cases h
   |some c =>
    rw [e] at h;cases h
    exact .inr (.inr ⟨z,i,c,h1.str,h2.int,hl,e,q _ H (aH.refl H) yQ⟩)
  ·cases h
 ·cases db<;>try (cases h;done)
  rename_i ds i
  simp only [ak] at h
  cases e:bw ds i with
  |none=>rw [e] at h;cases h
  |some c =>
   rw [e] at h;cases h
   obtain ⟨p,xs,rfl,hp,hs⟩:=h1.tup
   obtain ⟨v,hv,r⟩:=hs.bw e
   exact .inr (.inl ⟨p,xs,i,v,rfl,h2.int,hp,hv,q _ H (aH.refl H) (.el r)⟩)
 ·cases db<;>try (cases h;done)
  rename_i ds i
  simp only [ak] at h
  cases e:bw ds i with
  |none=>rw [e] at h;cases h
  |some c =>
   rw [e] at h;cases h
   obtain ⟨p,xs,rfl,hp,hs⟩:=h1.lst
   obtain ⟨v,hv,r⟩:=hs.bw e
   exact .inl ⟨p,xs,i,v,rfl,h2.int,hp,hv,q _ H (aH.refl H) (.el r)⟩
end
section
variable {K:PySem.W.Frag}{H H' H₀:Hp}{O:Addr→Prop}{σ:St}{env:Ev}
noncomputable def k6:M×D→Option Bool
 | (_,.bl b)=>some b
 |_=>none
theorem nB {a:M×D}{b:Bool} (h:k6 a=some b):a.2=.bl b:=by
 obtain ⟨m,d⟩:=a
 cases d<;>simp only [k6] at h<;>first | (cases h;rfl)|cases h
noncomputable def kJ (fa fb:Ev→Option (M×D)):Ev→Option (M×D):=fun e=>(fa e).bind fun x=>(k6 x).bind fun b=>if b=true then fb e else some (.fr,.bl false)
noncomputable def rq (fa fb:Ev→Option (M×D)):Ev→Option (M×D):=fun e=>(fa e).bind fun x=>(k6 x).bind fun b=>if b=true then some (.fr,.bl true) else fb e
noncomputable def zu (fa:Ev→Option (M×D)):Ev→Option (M×D):=fun e=>(fa e).bind fun x=>(k6 x).bind fun b=>some (.fr,.bl (!b))
theorem ay {α β:Type}{x:Option α}{f:α→Option β}{y:β} (h:x.bind f=some y):∃ a,x=some a∧f a=some y:=by
 cases x with
 |none=>cases h
 |some a=>exact ⟨a,rfl,h⟩
theorem Ss {ta tb:TE}{fa fb:Ev→Option (M×D)} (ha:JT K ta fa) (hb:JT K tb fb):JT K (FN ta tb) (kJ fa fb):=by
 intro H₀ O H σ env Q m d R h q
 obtain ⟨a,ea,h⟩:=ay h
 obtain ⟨b,eb,h⟩:=ay h
 refine ha H₀ O H σ env _ a.1 a.2 R ea fun x H1 s1 h1=>?_
 rw [nB eb] at h1
 refine ⟨b,h1.bl,?_⟩
 cases b with
 |true =>
  rw [if_pos rfl] at h ⊢
  exact hb H₀ O H1 σ env _ m d (R.keep s1) h fun v H2 s2 h2=>q v H2 (s1.trans s2) (h2.hb fun a z=>s1.free z)
 |false =>
  rw [if_neg Bool.false_ne_true] at h ⊢
  cases h
  exact q _ H1 s1 fm
theorem U0 {ta tb:TE}{fa fb:Ev→Option (M×D)} (ha:JT K ta fa) (hb:JT K tb fb):JT K (GD ta tb) (rq fa fb):=by
 intro H₀ O H σ env Q m d R h q
 obtain ⟨a,ea,h⟩:=ay h
 obtain ⟨b,eb,h⟩:=ay h
 refine ha H₀ O H σ env _ a.1 a.2 R ea fun x H1 s1 h1=>?_
 rw [nB eb] at h1
 refine ⟨b,h1.bl,?_⟩
 cases b with
 |true =>
  rw [if_pos rfl] at h ⊢
  cases h
  exact q _ H1 s1 fm
 |false =>
  rw [if_neg Bool.false_ne_true] at h ⊢
  exact hb H₀ O H1 σ env _ m d (R.keep s1) h fun v H2 s2 h2=>q v H2 (s1.trans s2) (h2.hb fun a z=>s1.free z)
theorem Sv {ta:TE}{fa:Ev→Option (M×D)} (ha:JT K ta fa):JT K (FP ta) (zu fa):=by
 intro H₀ O H σ env Q m d R h q
 obtain ⟨a,ea,h⟩:=ay h
 obtain ⟨b,eb,h⟩:=ay h
 cases h
 refine ha H₀ O H σ env _ a.1 a.2 R ea fun x H1 s1 h1=>?_
 rw [nB eb] at h1
 exact ⟨b,h1.bl,q _ H1 s1 fm⟩
noncomputable def jB (f:Ev→Option (M×D)):Ev→Option Bool:=fun e=>(f e).bind k6
theorem yS {t:TE}{f:Ev→Option (M×D)} (h:JT K t f):eJ K (tB t) (jB f):=by
 intro H₀ O H σ env Q b R e q
 obtain ⟨a,ea,e⟩:=ay e
 refine h H₀ O H σ env _ a.1 a.2 R ea fun x H1 s1 h1=>?_
 rw [nB e] at h1
 exact ⟨b,h1.bl,q H1 s1⟩
theorem C6 {t:TE}{f:Ev→Option (M×D)} (h:JT K t f):eJ K (yO t) (jB f):=yS h
theorem Mz {t:TE}{f:Ev→Option (M×D)} (h:JT K t f):eJ K (fun σ H Q=>t σ H fun x H'=>∃ k,u9 K x H' k∧Q k H') (jB f):=by
 intro H₀ O H σ env Q b R e q
 obtain ⟨a,ea,e⟩:=ay e
 refine h H₀ O H σ env _ a.1 a.2 R ea fun x H1 s1 h1=>?_
 rw [nB e] at h1
 exact ⟨b,by rw [h1.bl];exact rfl,q H1 s1⟩
noncomputable def cZ (f g:Ev→Option Bool):Ev→Option Bool:=fun e=>(f e).bind fun b=>if b=true then g e else some false
noncomputable def cC (f g:Ev→Option Bool):Ev→Option Bool:=fun e=>(f e).bind fun b=>if b=true then some true else g e
noncomputable def fD (f:Ev→Option Bool):Ev→Option Bool:=fun e=>(f e).bind fun b=>some (!b)
theorem Pq {t u:TT}{f g:Ev→Option Bool} (h:eJ K t f) (h':eJ K u g):eJ K (GB t u) (cZ f g):=by
 intro H₀ O H σ env Q b R e q
 obtain ⟨c,ec,e⟩:=ay e
 refine h H₀ O H σ env _ c R ec fun H1 s1=>?_
 cases c with
 |true =>
  rw [if_pos rfl] at e ⊢
  exact h' H₀ O H1 σ env _ b (R.keep s1) e fun H2 s2=>q H2 (s1.trans s2)
 |false =>
  rw [if_neg Bool.false_ne_true] at e ⊢
  cases e
  exact q H1 s1
theorem Sw {t u:TT}{f g:Ev→Option Bool} (h:eJ K t f) (h':eJ K u g):eJ K (H0 t u) (cC f g):=by
 intro H₀ O H σ env Q b R e q
 obtain ⟨c,ec,e⟩:=ay e
 refine h H₀ O H σ env _ c R ec fun H1 s1=>?_
 cases c with
 |true =>
  rw [if_pos rfl] at e ⊢
  cases e
  exact q H1 s1
 |false =>
  rw [if_neg Bool.false_ne_true] at e ⊢
  exact h' H₀ O H1 σ env _ b (R.keep s1) e fun H2 s2=>q H2 (s1.trans s2)
theorem Pr {t:TT}{f:Ev→Option Bool} (h:eJ K t f):eJ K (GC t) (fD f):=by
 intro H₀ O H σ env Q b R e q
 obtain ⟨c,ec,e⟩:=ay e
 cases e
 exact h H₀ O H σ env _ c R ec fun H1 s1=>q H1 s1
noncomputable def n9 (c:Ev→Option Bool) (fa fb:Ev→Option (M×D)):Ev→Option (M×D):=fun e=>(c e).bind fun b=>if b=true then fa e else fb e
theorem Sx {t:TT}{c:Ev→Option Bool}{ta tb:TE}{fa fb:Ev→Option (M×D)} (hc:eJ K t c) (ha:JT K ta fa) (hb:JT K tb fb):JT K (Ia t ta tb) (n9 c fa fb):=by
 intro H₀ O H σ env Q m d R h q
 obtain ⟨b,eb,h⟩:=ay h
 refine hc H₀ O H σ env _ b R eb fun H1 s1=>?_
 cases b with
 |true =>
  rw [if_pos rfl] at h ⊢
  exact ha H₀ O H1 σ env _ m d (R.keep s1) h fun v H2 s2 h2=>q v H2 (s1.trans s2) (h2.hb fun a z=>s1.free z)
 |false =>
  rw [if_neg Bool.false_ne_true] at h ⊢
  exact hb H₀ O H1 σ env _ m d (R.keep s1) h fun v H2 s2 h2=>q v H2 (s1.trans s2) (h2.hb fun a z=>s1.free z)
noncomputable def nC (g g':M×D→M×D→Option (M×D)) (fa fb fc:Ev→Option (M×D)):Ev→Option (M×D):=fun e=>(fa e).bind fun x=>(fb e).bind fun y=>(g x y).bind fun z=>(k6 z).bind fun k=>if k=true then (fc e).bind fun w=>g' y w else some (.fr,.bl false)
noncomputable def ah:Ev→Option (List (M×D)):=fun _=>some []
noncomputable def ae (f:Ev→Option (M×D)) (g:Ev→Option (List (M×D))):Ev→Option (List (M×D)):=fun e=>(f e).bind fun x=>(g e).bind fun r=>some (x::r)
theorem Pt:hR K kz ah:=by
 intro H₀ O H σ env Q aA R h q
 cases h
 exact q [] H (aH.refl H) .nil
theorem Nx {te:TE}{ta:TA}{f:Ev→Option (M×D)}{g:Ev→Option (List (M×D))} (hf:JT K te f) (hg:hR K ta g):hR K (lF te ta) (ae f g):=by
 intro H₀ O H σ env Q aA R h q
 obtain ⟨x,ex,h⟩:=ay h
 obtain ⟨r,er,h⟩:=ay h
 cases h
 refine hf H₀ O H σ env _ x.1 x.2 R ex fun v H1 s1 h1=>?_
 refine hg H₀ O H1 σ env _ r (R.keep s1) er fun vs H2 s2 h2=>?_
 exact q (v::vs) H2 (s1.trans s2) (.cons (h1.keep s2) (kr (fun _ _ z=>z.hb fun a z=>s1.free z) h2))
theorem fC.iK {N:Addr→Prop}{Hb:Hp}:∀ {aA:List (M×D)}{vs:List V},(∀ md∈aA,∀ v,Val K H₀ O Hb H md.1 md.2 v→Rp K N H v md.2)→fC K H₀ O Hb H aA vs→ax K N H vs (aA.map (·.2))
 |_,_,_,.nil=>.nil
 |md::aA,v::vs,h,.cons a r=>.cons (h md List.mem_cons_self v a) (fC.iK (fun x hx=>h x (List.mem_cons_of_mem _ hx)) r)
theorem cE {p:Addr}{o:HO} (h:H p=none):aH H (upd H p o):=fun b u e=>by rw [aG (dW e h)];exact e
noncomputable def fP (aA:List (M×D)):Option (M×D) :=
 if aA.length≤sizeLine then
  if (aA.all fun md=>cR md.1 md.2)=true then some (.un,.lst (aA.map (·.2)))
  else if (aA.all fun md=>f6 md.1 md.2)=true then some (.al,.lst (aA.map (·.2))) else none
 else none
noncomputable def bA (fs:Ev→Option (List (M×D))):Ev→Option (M×D):=fun e=>(fs e).bind fP
theorem pW {p:Addr}{xs:List V}{ds:List D} (od:∀ a,O a→∃ o,H a=some o) (hd:∀ a o,H₀ a=some o→∃ o',H a=some o') (hp:H p=none) (r:ax K (fun a=>¬ O a∧H₀ a=none) H xs ds):Val K H₀ O H (upd H p (.lst xs)) .un (.lst ds) (.ref p):=by
 refine ⟨p,rfl,hp,?_,?_,xs,bF,?_⟩
 ·cases e:H₀ p with
  |none=>rfl
  |some o=>obtain ⟨o',e'⟩:=hd p o e;rw [hp] at e';cases e'
 ·intro z;obtain ⟨o,e⟩:=od p z;rw [hp] at e;cases e
 ·refine (ax.wk (fun a h ⟨o,e⟩=>⟨h,?_⟩) r).keep (.same (cE hp))
  exact dW e hp
theorem ic {p:Addr} (od:∀ a,O a→∃ o,H a=some o) (hp:H p=none):¬ O p:=by
 intro z;obtain ⟨o,e⟩:=od p z;rw [hp] at e;cases e
theorem kg {p:Addr} (hd:∀ a o,H₀ a=some o→∃ o',H a=some o') (hp:H p=none):H₀ p=none:=by
 cases e:H₀ p with
 |none=>rfl
 |some o=>obtain ⟨o',e'⟩:=hd p o e;rw [hp] at e';cases e'
theorem Sy {ta:TA}{fs:Ev→Option (List (M×D))} (ha:hR K ta fs):JT K (vb ta) (bA fs):=by
 intro H₀ O H σ env Q m d R h q
 obtain ⟨aA,e,h⟩:=ay h
 unfold fP at h
 split at h
 ·rename_i hl
  refine ha H₀ O H σ env _ aA R e fun vs H1 s1 h1=>⟨by rw [←Paired.length h1];exact hl,fun p hp=>?_⟩
  have R1:=R.keep s1
  split at h
  ·rename_i hs
   cases h
   rw [List.all_eq_true] at hs
   exact q _ _ (s1.trans (cE hp)) ((pW R1.od R1.hd hp (h1.iK fun md hm v hv=>hv.cR (hs md hm))).hb fun a z=>s1.free z)
  ·split at h
   ·rename_i hs
    cases h
    rw [List.all_eq_true] at hs
    refine q _ _ (s1.trans (cE hp)) ?_
    exact Rp.lst (.inl bF) (ic R1.od hp) ((h1.iK fun md hm v hv=>hv.f6 (hs md hm)).keep (.same (cE hp)))
   ·cases h
 ·cases h
noncomputable def jG (aA:List (M×D)):Option (M×D) :=
 if aA.length≤sizeLine then
  if (aA.all fun md=>cR md.1 md.2)=true then some (.fr,.tup (aA.map (·.2)))
  else if (aA.all fun md=>f6 md.1 md.2)=true then some (.al,.tup (aA.map (·.2)))
  else if (aA.all fun md=>rj md.1 md.2)=true then some (.rb,.tup (aA.map (·.2))) else none
 else none
noncomputable def aQ (fs:Ev→Option (List (M×D))):Ev→Option (M×D):=fun e=>(fs e).bind jG
theorem Sz {ta:TA}{fs:Ev→Option (List (M×D))} (ha:hR K ta fs):JT K (GL ta) (aQ fs):=by
 intro H₀ O H σ env Q m d R h q
 obtain ⟨aA,e,h⟩:=ay h
 unfold jG at h
 split at h
 ·rename_i hl
  refine ha H₀ O H σ env _ aA R e fun vs H1 s1 h1=>⟨by rw [←Paired.length h1];exact hl,fun p hp=>?_⟩
  split at h
  ·rename_i hs
   cases h
   rw [List.all_eq_true] at hs
   exact q _ _ (s1.trans (cE hp)) (Rp.tup (.inl bF) ((h1.iK fun md hm v hv=>hv.cR (hs md hm)).keep (.same (cE hp))))
  ·split at h
   ·rename_i hs
    cases h
    rw [List.all_eq_true] at hs
    exact q _ _ (s1.trans (cE hp)) (Rp.tup (.inl bF) ((h1.iK fun md hm v hv=>hv.f6 (hs md hm)).keep (.same (cE hp))))
   ·split at h
    ·rename_i hs
     cases h
     rw [List.all_eq_true] at hs
     exact q _ _ (s1.trans (cE hp)) (Rp.tup (.inl bF) ((h1.iK fun md hm v hv=>hv.rj (hs md hm)).keep (.same (cE hp))))
    ·cases h
 ·cases h
noncomputable def eO (m:M) (ds:List D):Option (M×D) :=
 if aV m=.al then (if D.cP ds=true then some (.un,.lst ds) else some (.al,.lst ds)) else if aV m=.rb then (if D.cP ds=true then some (.un,.lst ds) else none) else some (.un,.lst ds)
theorem p6 {p:Addr}{xs:List V}{ds:List D}{m m':M}{d:D} (od:∀ a,O a→∃ o,H a=some o) (hd:∀ a o,H₀ a=some o→∃ o',H a=some o') (hp:H p=none) (r:ax K (NM H₀ O (aV m)) H xs ds) (h:eO m ds=some (m',d)):Val K H₀ O H (upd H p (.lst xs)) m' d (.ref p):=by
 unfold eO at h
 split at h
 ·rename_i e
  rw [e] at r
  split at h
  ·rename_i e;cases h;exact pW od hd hp (ax.im e r)
  ·cases h;exact Rp.lst (.inl bF) (ic od hp) (r.keep (.same (cE hp)))
 ·split at h
  ·split at h
   ·rename_i e;cases h;exact pW od hd hp (ax.im e r)
   ·cases h
  ·rename_i e1 e2
   cases h
   have e:aV m=.fr:=by cases m<;>simp [aV] at e1 e2 ⊢
   rw [e] at r
   exact pW od hd hp r
def j5 (K:PySem.W.Frag) (r:List V→Hp→VK→Prop) (g:List (M×D)→Option (M×D)):Prop :=
 ∀ H₀ O H vs aA Q m d,(∀ a,O a→∃ o,H a=some o)→(∀ a o,H₀ a=some o→∃ o',H a=some o')→fC K H₀ O HE H aA vs→g aA=some (m,d)→(∀ v H',aH H H'→Val K H₀ O H H' m d v→Q v H')→r vs H Q
noncomputable def aJ (g:List (M×D)→Option (M×D)) (fs:Ev→Option (List (M×D))):Ev→Option (M×D):=fun e=>(fs e).bind g
theorem U1 {r:List V→Hp→VK→Prop}{g:List (M×D)→Option (M×D)}{ta:TA}{fs:Ev→Option (List (M×D))} (hr:j5 K r g) (ha:hR K ta fs):JT K (vB r ta) (aJ g fs):=by
 intro H₀ O H σ env Q m d R h q
 obtain ⟨aA,e,h⟩:=ay h
 refine ha H₀ O H σ env _ aA R e fun vs H1 s1 h1=>?_
 have R1:=R.keep s1
 exact hr H₀ O H1 vs aA Q m d R1.od R1.hd (kr (fun _ _ z=>z.h0) h1) h fun v H3 s3 h3=>q v H3 (s1.trans s3) (h3.hb fun a z=>s1.free z)
theorem fC.one {Hb:Hp}{a:M×D}{vs:List V} (h:fC K H₀ O Hb H [a] vs):∃ v,vs=[v]∧Val K H₀ O Hb H a.1 a.2 v:=by
 cases h with|cons q t=>cases t;exact ⟨_,rfl,q⟩
theorem fC.two {Hb:Hp}{a b:M×D}{vs:List V} (h:fC K H₀ O Hb H [a,b] vs):∃ v w,vs=[v,w]∧Val K H₀ O Hb H a.1 a.2 v∧Val K H₀ O Hb H b.1 b.2 w:=by
 cases h with|cons q t=>cases t with|cons q' t=>cases t;exact ⟨_,_,rfl,q,q'⟩
noncomputable def bq:List (M×D)→Option (M×D)
 |[(_,.lst ds)]=>some (.fr,.int ds.length)
 |[(_,.tup ds)]=>some (.fr,.int ds.length)
 |[(_,.str z)]=>if z.length≤sizeLine then some (.fr,.int z.length) else none
 |_=>none
theorem Pu:j5 K (fun xs H Q=>∃ x n,xs=[x]∧zc K x H n∧Q (.int n) H) bq:=by
 intro H₀ O H vs aA Q m d _ _ hv h q
 unfold bq at h
 split at h
 ·cases h
  obtain ⟨v,rfl,hw⟩:=hv.one
  obtain ⟨a,xs,rfl,r,s⟩:=hw.lst
  exact ⟨_,_,rfl,.inl ⟨xs,r,s.len.symm⟩,q _ H (aH.refl H) iq⟩
 ·cases h
  obtain ⟨v,rfl,hw⟩:=hv.one
  obtain ⟨a,xs,rfl,r,s⟩:=hw.tup
  exact ⟨_,_,rfl,.inr ⟨xs,r,s.len.symm⟩,q _ H (aH.refl H) iq⟩
 ·split at h
  ·rename_i hz
   cases h
   obtain ⟨v,rfl,hw⟩:=hv.one
   obtain rfl:=hw.str
   exact ⟨_,_,rfl,⟨hz,rfl⟩,q _ H (aH.refl H) iq⟩
  ·cases h
 ·cases h
noncomputable def kK:List (M×D)→Option (M×D)
 |[(_,.int i)]=>some (.fr,.int i)
 |[(_,.bl k)]=>some (.fr,.int (if k then 1 else 0))
 |_=>none
theorem Pw:j5 K (fun xs H Q=>(∃ i,xs=[.int i]∧Q (.int i) H)∨∃ k,xs=[.bl k]∧Q (.int (if k then 1 else 0)) H) kK:=by
 intro H₀ O H vs aA Q m d _ _ hv h q
 unfold kK at h
 split at h
 ·cases h
  obtain ⟨v,rfl,hw⟩:=hv.one
  obtain rfl:=hw.int
  exact .inl ⟨_,rfl,q _ H (aH.refl H) iq⟩
 ·cases h
  obtain ⟨v,rfl,hw⟩:=hv.one
  obtain rfl:=hw.bl
  exact .inr ⟨_,rfl,q _ H (aH.refl H) iq⟩
 ·cases h
noncomputable def qG:List (M×D)→Option (M×D)
 |[(_,.int i),(_,.int j)]=>some (.fr,.int (if j > i then j else i))
 |_=>none
theorem Px:j5 K (fun xs H Q=>∃ i j,xs=[.int i,.int j]∧Q (.int (if j > i then j else i)) H) qG:=by
 intro H₀ O H vs aA Q m d _ _ hv h q
 unfold qG at h
 split at h
 ·cases h
  obtain ⟨v,w,rfl,hx,hw⟩:=hv.two
  obtain rfl:=hx.int
  obtain rfl:=hw.int
  exact ⟨_,_,rfl,q _ H (aH.refl H) iq⟩
 ·cases h
noncomputable def lI:List (M×D)→Option (M×D)
 |[(m,.lst ds)]=>eO m ds
 |[(m,.tup ds)]=>eO m ds
 |_=>none
theorem Ny:j5 K (fun xs H Q=>∃ p ys,xs=[.ref p]∧(bL K H p ys∨bz K H p ys)∧∀ l,H l=none→Q (.ref l) (upd H l (.lst ys))) lI:=by
 intro H₀ O H vs aA Q m d od hd hv h q
 unfold lI at h
 split at h
 ·obtain ⟨v,rfl,hw⟩:=hv.one
  obtain ⟨a,xs,rfl,r,s⟩:=hw.lst
  exact ⟨_,_,rfl,.inl r,fun l hl=>q _ _ (cE hl) (p6 od hd hl s h)⟩
 ·obtain ⟨v,rfl,hw⟩:=hv.one
  obtain ⟨a,xs,rfl,r,s⟩:=hw.tup
  exact ⟨_,_,rfl,.inr r,fun l hl=>q _ _ (cE hl) (p6 od hd hl s h)⟩
 ·cases h
def oM (K:PySem.W.Frag) (t:TO) (f:Ev→Option (Option Int)):Prop :=
 ∀ H₀ O H σ env Q b,dw K H₀ O H σ env→f env=some b→(∀ H',aH H H'→Q b H')→t σ H Q
noncomputable def gS:Ev→Option (Option Int):=fun _=>some none
noncomputable def lU:M×D→Option Int
 | (_,.int i)=>some i
 |_=>none
theorem xU {a:M×D}{b:Int} (h:lU a=some b):a.2=.int b:=by
 obtain ⟨m,d⟩:=a
 cases d<;>simp only [lU] at h<;>first | (cases h;rfl)|cases h
noncomputable def dJ (f:Ev→Option (M×D)):Ev→Option (Option Int):=fun e=>(f e).bind fun x=>(lU x).map some
theorem Nz:oM K DT gS:=by
 intro H₀ O H σ env Q b R h q
 cases h
 exact q H (aH.refl H)
theorem NB {t:TE}{f:Ev→Option (M×D)} (h:JT K t f):oM K (FX t) (dJ f):=by
 intro H₀ O H σ env Q b R e q
 obtain ⟨a,ea,e⟩:=ay e
 cases ei:lU a with
 |none=>rw [ei] at e;cases e
 |some i =>
  rw [ei] at e;cases e
  refine h H₀ O H σ env _ a.1 a.2 R ea fun x H1 s1 h1=>?_
  rw [xU ei] at h1
  exact ⟨i,h1.int,q H1 s1⟩
def k7 (K:PySem.W.Frag) (r:V→Option Int→Option Int→Hp→VK→Prop) (g:M×D→Option Int→Option Int→Option (M×D)):Prop :=
 ∀ H₀ O H x lo hi a Q m d,(∀ a,O a→∃ o,H a=some o)→(∀ a o,H₀ a=some o→∃ o',H a=some o')→Val K H₀ O HE H (Prod.fst a) a.2 x→g a lo hi=some (m,d)→(∀ v H',aH H H'→Val K H₀ O H H' m d v→Q v H')→r x lo hi H Q
noncomputable def fA (g:M×D→Option Int→Option Int→Option (M×D)) (f:Ev→Option (M×D)) (l u:Ev→Option (Option Int)):Ev→Option (M×D):=fun e=>(f e).bind fun x=>(l e).bind fun lo=>(u e).bind fun hi=>g x lo hi
theorem U2 {r:V→Option Int→Option Int→Hp→VK→Prop}{g:M×D→Option Int→Option Int→Option (M×D)}{te:TE}{tl th:TO}{f:Ev→Option (M×D)}{l u:Ev→Option (Option Int)} (hr:k7 K r g) (he:JT K te f) (hl:oM K tl l) (hu:oM K th u):JT K (Ik r te tl th) (fA g f l u):=by
 intro H₀ O H σ env Q m d R h q
 obtain ⟨x,ex,h⟩:=ay h
 obtain ⟨lo,el,h⟩:=ay h
 obtain ⟨hi,eh,h⟩:=ay h
 refine he H₀ O H σ env _ x.1 x.2 R ex fun v H1 s1 h1=>?_
 refine hl H₀ O H1 σ env _ lo (R.keep s1) el fun H2 s2=>?_
 refine hu H₀ O H2 σ env _ hi ((R.keep s1).keep s2) eh fun H3 s3=>?_
 have R3:=((R.keep s1).keep s2).keep s3
 exact hr H₀ O H3 v lo hi x Q m d R3.od R3.hd ((h1.keep s2).keep s3).h0 h fun v H4 s4 h4=>q v H4 (((s1.trans s2).trans s3).trans s4) (h4.hb fun a z=>((s1.trans s2).trans s3).free z)
noncomputable def cut {α:Type} (xs:List α) (lo hi:Option Int):List α:=(xs.drop (HT.aT xs.length 0 lo)).take (HT.aT xs.length xs.length hi-HT.aT xs.length 0 lo)
noncomputable def zv:M×D→Option Int→Option Int→Option (M×D)
 | (m,.lst ds),lo,hi=>eO m (cut ds lo hi)
 |_,_,_=>none
theorem ax.cut {N:Addr→Prop}{xs:List V}{ds:List D}{lo hi:Option Int} (r:ax K N H xs ds):ax K N H (iA xs lo hi) (J.cut ds lo hi):=by
 unfold iA J.cut
 rw [r.len]
 exact (r.drop _).take _
theorem NC:k7 K (zg K) zv:=by
 intro H₀ O H x lo hi a Q m d od hd h1 h q
 obtain ⟨ma,da⟩:=a
 cases da<;>try (cases h;done)
 obtain ⟨p,xs,rfl,r,s⟩:=h1.lst
 exact ⟨p,xs,rfl,r,fun l hl=>q _ _ (cE hl) (p6 od hd hl s.cut h)⟩
noncomputable def mJ:M→M→M
 |.al,_=>.al
 |_,.al=>.al
 |.rb,_=>.rb
 |_,.rb=>.rb
 |_,_=>.fr
theorem NM.IA {a b:M}{x:Addr} (ha:aV a≠.rb) (hb:aV b≠.rb) (h:NM H₀ O (aV a) x):NM H₀ O (aV (mJ a b)) x:=by
 cases a<;>cases b<;>first|exact h|exact h.1|exact absurd rfl ha|exact absurd rfl hb
theorem NM.IC {a b:M}{x:Addr} (ha:aV a≠.rb) (hb:aV b≠.rb) (h:NM H₀ O (aV b) x):NM H₀ O (aV (mJ a b)) x:=by
 cases a<;>cases b<;>first|exact h|exact h.1|exact absurd rfl ha|exact absurd rfl hb
noncomputable def og:M×D→M×D→Option (M×D)
 | (m,.lst ds),(n,.lst es)=>if aV m=.rb∨aV n=.rb then none else if ds.length+es.length≤sizeLine then eO (mJ m n) (ds++es) else none
 |_,_=>none
noncomputable def uL (K:PySem.W.Frag):R2:=fun x y H Q=>∃ l b xs zs,x=.ref l∧y=.ref b∧bL K H l xs∧bL K H b zs∧xs.length+zs.length≤sizeLine∧∀ p,H p=none→Q (.ref p) (upd H p (.lst (xs++zs)))
theorem SD:JR K (uL K) og:=by
 intro H₀ O H x y a b Q m d od hd h1 h2 h q
 obtain ⟨ma,da⟩:=a;obtain ⟨mb,db⟩:=b
 cases da<;>try (cases db<;>cases h;done)
 cases db<;>try (cases h;done)
 simp only [og] at h
 split at h
 ·cases h
 ·rename_i hn
  split at h
  ·rename_i hl
   obtain ⟨p,xs,rfl,r,s⟩:=h1.lst
   obtain ⟨p',Aj,rfl,r',s'⟩:=h2.lst
   have n1:aV ma≠.rb:=fun z=>hn (.inl z)
   have n2:aV mb≠.rb:=fun z=>hn (.inr z)
   refine ⟨p,p',xs,Aj,rfl,rfl,r,r',by rw [s.len,s'.len];exact hl,fun l hl=>q _ _ (cE hl) (p6 od hd hl (ax.app (s.wk fun _ h _=>NM.IA n1 n2 h) (s'.wk fun _ h _=>NM.IC n1 n2 h)) h)⟩
  ·cases h
end
noncomputable def own:M→Bool
 |.bo=>true
 |.bi=>true
 |_=>false
theorem Py {m:M} (h:own m=true):hJ m=true:=by cases m<;>first|rfl|cases h
theorem lj {α β:Type}{F:α→β→Prop}:∀ {l:List α}{r:List β},l.length=r.length→(∀ (j:Nat) a b,l[j]?=some a→r[j]?=some b→F a b)→Paired F l r
 |[],[],_,_=>.nil
 |a::l,b::r,e,h=>.cons (h 0 a b rfl rfl) (lj (by simpa using e) fun j x y h1 h2=>h (j+1) x y (by simpa using h1) (by simpa using h2))
 |[],_::_,e,_=>by simp at e
 |_::_,[],e,_=>by simp at e
def vN (H:Hp) (σ:St) (env:Ev):Prop :=
 (∀ (i j:Nat) (d d':D),env[i]?=some (some (.nb,d))→env[j]?=some (some (.nb,d'))→i=j) ∧
 ∀ (i j:Nat) (d:D) (x:M×D) (p q:Addr) (xs:List V),env[i]?=some (some (.nb,d))→σ[i]?=some (some (.ref p))→env[j]?=some (some x)→own x.1=true→σ[j]?=some (some (.ref q))→H p=some (.lst xs)→q≠p∧V.ref q∉xs
structure Rel (K:PySem.W.Frag) (H₀:Hp) (I:Nat→Option Addr) (O:Addr→Prop) (H:Hp) (σ:St) (env:Ev):Prop where
 e:dw K H₀ O H σ env
 fr:∀ a o,(∀ i,I i≠some a)→H₀ a=some o→H a=some o
 ow:∀ a,O a→(∃ i,I i=some a)∨H₀ a=none
 ba:∀ (i:Nat) d p,env[i]?=some (some (.bi,d))→σ[i]?=some (some (.ref p))→I i=some p
 dj:∀ (i j:Nat) (x y:M×D) (p:Addr),env[i]?=some (some x)→env[j]?=some (some y)→own x.1=true→own y.1=true→σ[i]?=some (some (.ref p))→σ[j]?=some (some (.ref p))→i=j
 nd:vN H σ env
def aO (O:Addr→Prop) (H:Hp) (O':Addr→Prop) (H':Hp):Prop:=∀ a o,H a=some o→¬ O a→H' a=some o∧¬ O' a
inductive Fl where
 |nx (e:Ev)|bk (e:Ev)|ct (e:Ev)|rt (e:Ev) (m:M) (d:D)
noncomputable def lV (K:PySem.W.Frag) (H₀:Hp) (I:Nat→Option Addr) (O:Addr→Prop) (H:Hp) (Ds:Ends):Fl→Prop
 |.nx e=>∀ O' H' σ',Rel K H₀ I O' H' σ' e→aO O H O' H'→Ds.nx σ' H'
 |.bk e=>∀ O' H' σ',Rel K H₀ I O' H' σ' e→aO O H O' H'→Ds.bk σ' H'
 |.ct e=>∀ O' H' σ',Rel K H₀ I O' H' σ' e→aO O H O' H'→Ds.ct σ' H'
 |.rt e m d=>∀ O' H' σ' v,Rel K H₀ I O' H' σ' e→aO O H O' H'→Val K H₀ O' HE H' m d v→Ds.rt v H'
def JS (K:PySem.W.Frag) (ts:TS) (g:Ev→Option Fl):Prop :=
 ∀ H₀ I O H σ env Ds fl,Rel K H₀ I O H σ env→g env=some fl→lV K H₀ I O H Ds fl→ts Ds σ H
section
variable {K:PySem.W.Frag}{H H' H₀:Hp}{I:Nat→Option Addr}{O O':Addr→Prop}{σ:St}{env:Ev}
theorem aO.refl:aO O H O H:=fun a o h n=>⟨h,n⟩
theorem aO.trans {O1 O2:Addr→Prop}{H1 H2:Hp} (a:aO O H O1 H1) (b:aO O1 H1 O2 H2):aO O H O2 H2:=fun x o h n=>b x o (a x o h n).1 (a x o h n).2
theorem aO.same (s:aH H H'):aO O H O H':=fun a o h n=>⟨s a o h,n⟩
theorem vN.keep (h:vN H σ env) (w:∀ (i:Nat) d p,env[i]?=some (some (.nb,d))→σ[i]?=some (some (.ref p))→H' p=H p):vN H' σ env :=
 ⟨h.1,fun i j d x p q xs h1 h2 h3 h4 h5 h6=>h.2 i j d x p q xs h1 h2 h3 h4 h5 (by rw [←w i d p h1 h2];exact h6)⟩
theorem dw.nest (R:dw K H₀ O H σ env) {i:Nat}{d:D}{p:Addr} (h1:env[i]?=some (some (.nb,d))) (h2:σ[i]?=some (some (.ref p))):∃ (qs:List Addr) (aP:List (List D)),d=.lst (aP.map D.lst)∧O p∧H₀ p=none∧H p=some (.lst (qs.map V.ref))∧qs.Nodup∧(∀ q∈qs,O q∧H₀ q=none∧q≠p) ∧
  Paired (fun q ds=>∃ xs,H q=some (.lst xs)∧ax K (fun a=>¬ O a∧H₀ a=none) H xs ds) qs aP:=by
 obtain ⟨v,hv,_,hm⟩:=R.at h1
 rw [h2] at hv;cases hv
 obtain ⟨p',qs,aP,e,r⟩:=hm
 cases e
 exact ⟨qs,aP,r⟩
theorem Rel.keep (R:Rel K H₀ I O H σ env) (s:aH H H'):Rel K H₀ I O H' σ env:=⟨R.e.keep s,fun a o n h=>s _ _ (R.fr a o n h),R.ow,R.ba,R.dj,R.nd.keep fun i d p h1 h2=>by
 obtain ⟨qs,aP,_,_,_,e,_⟩:=R.e.nest h1 h2
 rw [s _ _ e,e]⟩
noncomputable def IE:M→Bool
 |.al=>true
 |.fr=>true
 |_=>false
theorem Pz {m:M} (h:IE m=true):hJ m=true:=by cases m<;>first|rfl|cases h
theorem lV.pre {O1:Addr→Prop}{H1:Hp}{Ds:Ends}{fl:Fl} (s:aO O H O1 H1) (h:lV K H₀ I O H Ds fl):lV K H₀ I O1 H1 Ds fl:=by
 cases fl<;>simp only [lV] at h ⊢
 ·exact fun O' H' σ' R t=>h O' H' σ' R (s.trans t)
 ·exact fun O' H' σ' R t=>h O' H' σ' R (s.trans t)
 ·exact fun O' H' σ' R t=>h O' H' σ' R (s.trans t)
 ·exact fun O' H' σ' v R t=>h O' H' σ' v R (s.trans t)
noncomputable def aR:Ev→Option Fl:=fun e=>some (.nx e)
theorem PB:JS K yL aR:=by
 intro H₀ I O H σ env Ds fl R h q
 cases h
 exact q O H σ R aO.refl
noncomputable def uM:Ev→Option Fl:=fun e=>some (.ct e)
theorem PD:JS K yM uM:=by
 intro H₀ I O H σ env Ds fl R h q
 cases h
 exact q O H σ R aO.refl
noncomputable def aj (f g:Ev→Option Fl):Ev→Option Fl:=fun e=>(f e).bind fun r=>match r with
 |.nx e'=>g e'
 |.bk e'=>some (.bk e')
 |.ct e'=>some (.ct e')
 |.rt e' m d=>some (.rt e' m d)
theorem SF {t u:TS}{f g:Ev→Option Fl} (ht:JS K t f) (hu:JS K u g):JS K (y6 t u) (aj f g):=by
 intro H₀ I O H σ env Ds fl R h q
 obtain ⟨r,er,h⟩:=ay h
 refine ht H₀ I O H σ env _ r R er ?_
 cases r with
 |nx e'=>exact fun O' H' σ' R' s=>hu H₀ I O' H' σ' e' Ds fl R' h (q.pre s)
 |bk e'=>cases h;exact q
 |ct e'=>cases h;exact q
 |rt e' m d=>cases h;exact q
noncomputable def aI (f:Ev→Option (M×D)):Ev→Option Fl:=fun e=>(f e).bind fun x=>some (.rt e x.1 x.2)
theorem SG {t:TE}{f:Ev→Option (M×D)} (h:JT K t f):JS K (uZ t) (aI f):=by
 intro H₀ I O H σ env Ds fl R e q
 obtain ⟨x,ex,e⟩:=ay e
 cases e
 exact h H₀ O H σ env _ x.1 x.2 R.e ex fun v H1 s1 h1=>q O H1 σ v (R.keep s1) (aO.same s1) h1.h0
noncomputable def aM (c:Ev→Option Bool) (f g:Ev→Option Fl):Ev→Option Fl:=fun e=>(c e).bind fun b=>if b=true then f e else g e
theorem U3 {c:TT}{t u:TS}{fc:Ev→Option Bool}{f g:Ev→Option Fl} (hc:eJ K c fc) (ht:JS K t f) (hu:JS K u g):JS K (y7 c t u) (aM fc f g):=by
 intro H₀ I O H σ env Ds fl R h q
 obtain ⟨b,eb,h⟩:=ay h
 refine hc H₀ O H σ env _ b R.e eb fun H1 s1=>?_
 cases b with
 |true =>
  rw [if_pos rfl] at h ⊢
  exact ht H₀ I O H1 σ env Ds fl (R.keep s1) h (q.pre (aO.same s1))
 |false =>
  rw [if_neg Bool.false_ne_true] at h ⊢
  exact hu H₀ I O H1 σ env Ds fl (R.keep s1) h (q.pre (aO.same s1))
noncomputable def F6:M→Option M
 |.al=>some .al
 |.fr=>some .fr
 |.un=>some .bo
 |_=>none
noncomputable def nD (x:M×D):Option (M×D):=match F6 x.1 with
 |some m=>some (m,x.2)
 |none=>if x.2.bR=true then some (.fr,x.2) else none
theorem zx {α β:Type}{F:α→β→Prop}{a:α}{b:β} (q:F a b):∀ {l:List α}{r:List β} (i:Nat),Paired F l r→Paired F (l.set i a) (r.set i b)
 |_,_,_,.nil=>.nil
 |_,_,0,.cons _ t=>.cons q t
 |_,_,i+1,.cons h t=>.cons h (zx q i t)
theorem get_set {α:Type}{l:List α}{i j:Nat}{a b:α} (h:(l.set i a)[j]?=some b):(j=i∧b=a)∨(j≠i∧l[j]?=some b):=by
 rw [List.getElem?_set] at h
 split at h
 ·rename_i e
  split at h
  ·exact .inl ⟨e.symm,(Option.some.inj h).symm⟩
  ·cases h
 ·rename_i e
  exact .inr ⟨fun z=>e z.symm,h⟩
theorem Rel.lD {i:Nat}{x:M×D}{p:Addr} (R:Rel K H₀ I O H σ env) (hx:env[i]?=some (some x)) (ho:own x.1=true) (hp:σ[i]?=some (some (.ref p))):O p∧Cell K (fun a=>¬ O a∧H₀ a=none) H p x.2:=by
 obtain ⟨m,d⟩:=x
 obtain ⟨v,hv,n,hm⟩:=R.e.at hx
 rw [hp] at hv
 cases hv
 cases m<;>simp only [own] at ho<;>try (cases ho;done)
 ·obtain ⟨p',e,h1,_,c⟩:=hm;cases e;exact ⟨h1,c⟩
 ·obtain ⟨p',e,h1,c⟩:=hm;cases e;exact ⟨h1,c⟩
theorem xH {F:Addr→List D→Prop}:∀ {qs:List Addr}{aP:List (List D)}{q:Addr},Paired F qs aP→q∈qs→∃ ds,F q ds
 |_,_,_,.nil,h=>nomatch h
 |_,_,_,.cons a t,h=>by
  rcases List.mem_cons.mp h with rfl|h
  ·exact ⟨_,a⟩
  ·exact xH t h
theorem Rel.set_plain {i:Nat}{m:M}{d:D}{v:V} (R:Rel K H₀ I O H σ env) (hm:own m=false) (hu:IE m=true) (h:Val K H₀ O HE H m d v):Rel K H₀ I O H (σ.set i (some v)) (env.set i (some (m,d))):=by
 refine ⟨⟨zx (fun m' d' q=>?_) i R.e.sl,R.e.od,R.e.hd,R.e.on⟩,R.fr,R.ow,fun i' d' p h1 p1=>?_,fun i' j x y p h1 h2 o1 o2 p1 p2=>?_,⟨fun i' j d1 d2 h1 h2=>?_,fun i' j d1 x p q xs h1 p1 h2 o2 p2 e=>?_⟩⟩
 ·cases q;exact ⟨Pz hu,v,rfl,h⟩
 ·rcases get_set h1 with ⟨rfl,q⟩|⟨n1,q1⟩
  ·cases q;cases hm
  ·rw [List.getElem?_set_ne (fun z=>n1 z.symm)] at p1
   exact R.ba i' d' p q1 p1
 ·rcases get_set h1 with ⟨rfl,q⟩|⟨n1,q1⟩
  ·cases q;rw [hm] at o1;cases o1
  ·rcases get_set h2 with ⟨rfl,q⟩|⟨n2,q2⟩
   ·cases q;rw [hm] at o2;cases o2
   ·rw [List.getElem?_set_ne (fun z=>n1 z.symm)] at p1
    rw [List.getElem?_set_ne (fun z=>n2 z.symm)] at p2
    exact R.dj i' j x y p q1 q2 o1 o2 p1 p2
 ·rcases get_set h1 with ⟨rfl,q⟩|⟨n1,q1⟩
  ·cases q;cases hu
  ·rcases get_set h2 with ⟨rfl,q⟩|⟨n2,q2⟩
   ·cases q;cases hu
   ·exact R.nd.1 i' j d1 d2 q1 q2
 ·rcases get_set h1 with ⟨rfl,q⟩|⟨n1,q1⟩
  ·cases q;cases hu
  ·rcases get_set h2 with ⟨rfl,q⟩|⟨n2,q2⟩
   ·cases q;rw [hm] at o2;cases o2
   ·rw [List.getElem?_set_ne (fun z=>n1 z.symm)] at p1
    rw [List.getElem?_set_ne (fun z=>n2 z.symm)] at p2
    exact R.nd.2 i' j d1 x p q xs q1 p1 q2 o2 p2 e
theorem Rel.SJ {i:Nat}{d:D}{v:V}{H1:Hp} (R:Rel K H₀ I O H σ env) (s:aH H H1) (h:Val K H₀ O H H1 .un d v):∃ O',Rel K H₀ I O' H1 (σ.set i (some v)) (env.set i (some (.bo,d)))∧aO O H O' H1:=by
 obtain ⟨p,rfl,hp,h0,ho,c⟩:=h
 have np:∀ a,(∃ o,H a=some o)→a≠p:=fun a ⟨o,e⟩=>dW e hp
 have wk:∀ {N:Addr→Prop}{d:D}{v:V},Rp K N H v d→Rp K (fun a=>N a∧a≠p) H1 v d:=fun r=>(r.wk fun a n e=>⟨n,np a e⟩).keep (.same s)
 have rA:∀ {N:Addr→Prop}{d:D}{q:Addr},Cell K N H q d→Cell K (fun a=>N a∧a≠p) H1 q d:=fun {N d q} r=>by
  obtain ⟨o,e,_⟩:=r.some
  exact (r.wk fun a n e=>⟨n,np a e⟩).keep (.same s) ((s _ _ e).trans e.symm)
 obtain ⟨o,eo,XJ⟩:=c.some
 refine ⟨fun a=>O a∨a=p,⟨⟨zx (fun m' d' q=>?_) i (kr (fun e x h m d q=>?_) R.e.sl),?_,?_,?_⟩,?_,?_,?_,?_,?_⟩,?_⟩
 ·cases q
  exact ⟨rfl,_,rfl,p,rfl,.inr rfl,h0,c.wk fun a h _=>⟨fun z=>z.elim h.1.1 h.2,h.1.2⟩⟩
 ·obtain ⟨n,v,rfl,z⟩:=h m d q
  refine ⟨n,v,rfl,?_⟩
  cases m
  ·exact (wk z).wk fun a h _=>fun z=>z.elim h.1 h.2
  ·exact (wk z).wk fun a h _=>⟨fun z=>z.elim h.1.1 h.2,h.1.2⟩
  ·cases n
  ·obtain ⟨q,rfl,h1,h2,c'⟩:=z
   exact ⟨q,rfl,.inl h1,h2,(rA c').wk fun a h _=>⟨fun z=>z.elim h.1.1 h.2,h.1.2⟩⟩
  ·obtain ⟨q,rfl,h1,c'⟩:=z
   exact ⟨q,rfl,.inl h1,(rA c').wk fun a h _=>⟨fun z=>z.elim h.1.1 h.2,h.1.2⟩⟩
  ·cases n
  ·obtain ⟨q,qs,aP,e1,e2,h1,h2,h3,h4,h5,h6⟩:=z
   exact ⟨q,qs,aP,e1,e2,.inl h1,h2,s _ _ h3,h4,fun x hx=>⟨.inl (h5 x hx).1,(h5 x hx).2⟩,jy (fun x ds _ ⟨xs,a,r⟩=>⟨xs,s _ _ a,((r.wk fun a n e=>(⟨n,np a e⟩:(¬ O a∧H₀ a=none)∧a≠p)).keep (.same s)).wk fun a h _=>⟨fun z=>z.elim h.1.1 h.2,h.1.2⟩⟩) h6⟩
 ·intro a ha
  rcases ha with ha|rfl
  ·obtain ⟨o,e⟩:=R.e.od a ha;exact ⟨o,s _ _ e⟩
  ·exact ⟨o,eo⟩
 ·exact fun a o h=>let ⟨o,e⟩:=R.e.hd a o h;⟨o,s _ _ e⟩
 ·intro a u ha e
  rcases ha with ha|rfl
  ·exact (R.e.keep s).on a u ha e
  ·rw [eo] at e;cases e;exact XJ
 ·exact fun a o n h=>s _ _ (R.fr a o n h)
 ·intro a ha
  rcases ha with ha|rfl
  ·exact R.ow a ha
  ·exact .inr h0
 ·intro i' d' p' h1 p1
  rcases get_set h1 with ⟨rfl,q⟩|⟨n1,q1⟩
  ·cases q
  ·rw [List.getElem?_set_ne (fun z=>n1 z.symm)] at p1
   exact R.ba i' d' p' q1 p1
 ·intro i' j x y q h1 h2 o1 o2 p1 p2
  rcases get_set h1 with ⟨rfl,q1⟩|⟨n1,q1⟩
  ·rcases get_set h2 with ⟨rfl,q2⟩|⟨n2,q2⟩
   ·rfl
   ·exfalso
    rw [List.getElem?_set_ne (fun z=>n2 z.symm)] at p2
    rcases get_set p1 with ⟨_,z⟩|⟨z,_⟩
    ·cases z
     obtain ⟨_,c'⟩:=R.lD q2 o2 p2
     obtain ⟨o',e',_⟩:=c'.some
     rw [hp] at e';cases e'
    ·exact z rfl
  ·rcases get_set h2 with ⟨rfl,q2⟩|⟨n2,q2⟩
   ·exfalso
    rw [List.getElem?_set_ne (fun z=>n1 z.symm)] at p1
    rcases get_set p2 with ⟨_,z⟩|⟨z,_⟩
    ·cases z
     obtain ⟨_,c'⟩:=R.lD q1 o1 p1
     obtain ⟨o',e',_⟩:=c'.some
     rw [hp] at e';cases e'
    ·exact z rfl
   ·rw [List.getElem?_set_ne (fun z=>n1 z.symm)] at p1
    rw [List.getElem?_set_ne (fun z=>n2 z.symm)] at p2
    exact R.dj i' j x y q q1 q2 o1 o2 p1 p2
 ·refine ⟨fun i' j d1 d2 h1 h2=>?_,fun i' j d1 x p' q xs h1 p1 h2 o2 p2 e=>?_⟩
  ·rcases get_set h1 with ⟨rfl,z⟩|⟨n1,q1⟩
   ·cases z
   ·rcases get_set h2 with ⟨rfl,z⟩|⟨n2,q2⟩
    ·cases z
    ·exact R.nd.1 i' j d1 d2 q1 q2
  ·rcases get_set h1 with ⟨rfl,z⟩|⟨n1,q1⟩
   ·cases z
   ·rw [List.getElem?_set_ne (fun z=>n1 z.symm)] at p1
    obtain ⟨qs,aP,_,_,_,e3,_,_,h6⟩:=R.e.nest q1 p1
    rw [s _ _ e3] at e;cases e
    rcases get_set h2 with ⟨rfl,z⟩|⟨n2,q2⟩
    ·rcases get_set p2 with ⟨_,z⟩|⟨z,_⟩
     ·cases z
      refine ⟨(fun z=>by rw [z,e3] at hp;cases hp),fun z=>?_⟩
      obtain ⟨a,ha,ea⟩:=List.mem_map.mp z
      cases ea
      obtain ⟨ds,xs,hx,_⟩:=xH h6 ha
      rw [hp] at hx;cases hx
     ·exact absurd rfl z
    ·rw [List.getElem?_set_ne (fun z=>n2 z.symm)] at p2
     exact R.nd.2 i' j d1 x p' q _ q1 p1 q2 o2 p2 e3
 ·intro a o h n
  exact ⟨s a o h,fun z=>z.elim n (np a ⟨o,h⟩)⟩
theorem Rel.give {i:Nat}{x y:M×D}{v:V}{H1:Hp} (R:Rel K H₀ I O H σ env) (s:aH H H1) (h:Val K H₀ O H H1 x.1 x.2 v) (e:nD x=some y):∃ O',Rel K H₀ I O' H1 (σ.set i (some v)) (env.set i (some y))∧aO O H O' H1:=by
 obtain ⟨m,d⟩:=x
 unfold nD at e
 cases m<;>simp only [F6] at e
 ·cases e;exact ⟨O,(R.keep s).set_plain rfl rfl h,.same s⟩
 ·cases e;exact ⟨O,(R.keep s).set_plain rfl rfl h,.same s⟩
 ·cases e;exact R.SJ s h
 ·split at e
  ·rename_i hi;cases e;exact ⟨O,(R.keep s).set_plain rfl rfl (show Rp K _ H1 v d from h.weak.im hi),.same s⟩
  ·cases e
 ·split at e
  ·rename_i hi;cases e;exact ⟨O,(R.keep s).set_plain rfl rfl (show Rp K _ H1 v d from h.weak.im hi),.same s⟩
  ·cases e
 ·split at e
  ·rename_i hi;cases e;exact ⟨O,(R.keep s).set_plain rfl rfl (show Rp K _ H1 v d from h.weak.im hi),.same s⟩
  ·cases e
 ·split at e
  ·rename_i hi;cases e;exact ⟨O,(R.keep s).set_plain rfl rfl (show Rp K _ H1 v d from h.weak.im hi),.same s⟩
  ·cases e
noncomputable def au (i:Nat) (f:Ev→Option (M×D)):Ev→Option Fl:=fun e=>(f e).bind fun x=>(nD x).bind fun y=>some (.nx (e.set i (some y)))
theorem E3 {i:Nat}{t:TE}{f:Ev→Option (M×D)} (h:JT K t f):JS K (gQ t (iT i)) (au i f):=by
 intro H₀ I O H σ env Ds fl R e q
 obtain ⟨x,ex,e⟩:=ay e
 obtain ⟨y,ey,e⟩:=ay e
 cases e
 refine h H₀ O H σ env _ x.1 x.2 R.e ex fun v H1 s1 h1=>?_
 obtain ⟨O',R',st⟩:=R.give (i:=i) s1 h1 ey
 exact q O' H1 _ R' st
theorem Rel.mut {i:Nat}{m:M}{d d':D}{p:Addr}{o:HO} (R:Rel K H₀ I O H σ env) (hx:env[i]?=some (some (m,d))) (ho:own m=true) (hp:σ[i]?=some (some (.ref p)))
  (c:Cell K (fun a=>¬ O a∧H₀ a=none) (upd H p o) p d'):Rel K H₀ I O (upd H p o) σ (env.set i (some (m,d')))∧aO O H O (upd H p o):=by
 obtain ⟨hO,c0⟩:=R.lD hx ho hp
 obtain ⟨o0,e0,nt⟩:=c0.some
 have kp:∀ {N:Addr→Prop},(∀ a,N a→¬ O a)→Keeps N H (upd H p o):=fun w a u h z=>by
  have eE:a≠p:=by
   rintro rfl
   rcases z with z|z
   ·exact w _ z hO
   ·rw [e0] at h;cases h;exact nt z
  rw [aG eE];exact h
 have hi:i < env.length:=by
  rcases Nat.lt_or_ge i env.length with h|h
  ·exact h
  ·rw [List.getElem?_eq_none h] at hx;cases hx
 have hσ:σ=σ.set i (some (.ref p)):=by
  refine List.ext_getElem? fun j=>?_
  rw [List.getElem?_set]
  split
  ·rename_i z;subst z
   have hl:i < σ.length:=by rw [←Paired.length R.e.sl];exact hi
   rw [if_pos hl,hp]
  ·rfl
 refine ⟨⟨⟨?_,?_,?_,?_⟩,?_,R.ow,?_,?_,?_⟩,?_⟩
 ·
  have base:∀ (j:Nat) (e:Option (M×D)) (x:Option V),(env.set i (some (m,d')))[j]?=some e→σ[j]?=some x→∀ m d,e=some (m,d)→hJ m=true∧∃ v,x=some v∧Val K H₀ O HE (upd H p o) m d v:=by
   intro j e x he rB m1 d1 q
   subst q
   rcases get_set he with ⟨rfl,q⟩|⟨nj,q⟩
   ·cases q
    rw [hp] at rB;cases rB
    refine ⟨Py ho,_,rfl,?_⟩
    cases m<;>simp only [own] at ho<;>try (cases ho;done)
    ·obtain ⟨v,hv,n,hm⟩:=R.e.at hx
     rw [hp] at hv;cases hv
     obtain ⟨p',e,h1,h2,_⟩:=hm;cases e
     exact ⟨p,rfl,h1,h2,c⟩
    ·exact ⟨p,rfl,hO,c⟩
   ·obtain ⟨v,hv,n,hm⟩:=R.e.at q
    rw [rB] at hv;cases hv
    refine ⟨n,v,rfl,?_⟩
    have nq:∀ {p':Addr},own m1=true→v=.ref p'→p'≠p:=fun {p'} Ak ev z=>by
     subst ev;subst z
     exact nj (R.dj j i _ _ p' q hx Ak ho rB hp)
    cases m1
    ·exact Rp.keep (kp fun a h=>h) hm
    ·exact Rp.keep (kp fun a h=>h.1) hm
    ·cases n
    ·obtain ⟨p',rfl,h1,h2,c'⟩:=hm
     exact ⟨p',rfl,h1,h2,c'.keep (kp fun a h=>h.1) (aG (nq rfl rfl))⟩
    ·obtain ⟨p',rfl,h1,c'⟩:=hm
     exact ⟨p',rfl,h1,c'.keep (kp fun a h=>h.1) (aG (nq rfl rfl))⟩
    ·cases n
    ·obtain ⟨p',qs,aP,rfl,e2,h1,h2,h3,h4,h5,h6⟩:=hm
     obtain ⟨z1,z2⟩:=R.nd.2 j i d1 (m,d) p' p _ q rB hx ho hp h3
     refine ⟨p',qs,aP,rfl,e2,h1,h2,by rw [aG (fun z=>z1 z.symm)];exact h3,h4,h5,jy (fun x ds hx ⟨xs,a,r⟩=>⟨xs,?_,r.keep (kp fun a h=>h.1)⟩) h6⟩
     rw [aG (fun z=>z2 (List.mem_map.mpr ⟨x,hx,by rw [z]⟩))];exact a
  refine lj ?_ fun j e x h1 h2=>base j e x h1 h2
  rw [List.length_set];exact Paired.length R.e.sl
 ·intro a ha
  by_cases z:a=p
  ·subst z;exact ⟨o,bF⟩
  ·rw [aG z];exact R.e.od a ha
 ·intro a u h
  by_cases z:a=p
  ·subst z;exact ⟨o,bF⟩
  ·rw [aG z];exact R.e.hd a u h
 ·intro a u ha e
  by_cases z:a=p
  ·subst z
   obtain ⟨o1,e1,n1⟩:=c.some
   rw [e] at e1;cases e1;exact n1
  ·rw [aG z] at e;exact R.e.on a u ha e
 ·intro a u n h
  have z:a≠p:=by
   rintro rfl
   rcases R.ow a hO with ⟨i,q⟩|q
   ·exact n i q
   ·rw [h] at q;cases q
  rw [aG z];exact R.fr a u n h
 ·intro i' e' p' h1 p1
  rcases get_set h1 with ⟨rfl,q⟩|⟨n1,q1⟩
  ·cases q;exact R.ba _ d p' hx p1
  ·exact R.ba i' e' p' q1 p1
 ·intro i' j x y q h1 h2 o1 o2 p1 p2
  have f:∀ {k:Nat}{x:M×D},(env.set i (some (m,d')))[k]?=some (some x)→own x.1=true→∃ x',env[k]?=some (some x')∧own x'.1=true:=fun {k x} h o=>by
   rcases get_set h with ⟨rfl,q⟩|⟨_,q⟩
   ·exact ⟨_,hx,ho⟩
   ·exact ⟨x,q,o⟩
  obtain ⟨x',a1,b1⟩:=f h1 o1
  obtain ⟨y',a2,b2⟩:=f h2 o2
  exact R.dj i' j x' y' q a1 a2 b1 b2 p1 p2
 ·have g:∀ {k:Nat}{d1:D},(env.set i (some (m,d')))[k]?=some (some (.nb,d1))→env[k]?=some (some (.nb,d1)):=fun {k d1} h=>by
   rcases get_set h with ⟨rfl,q⟩|⟨_,q⟩
   ·cases q;cases ho
   ·exact q
  refine ⟨fun i' j d1 d2 h1 h2=>R.nd.1 i' j d1 d2 (g h1) (g h2),fun i' j d1 x p' q xs h1 p1 h2 o2 p2 e=>?_⟩
  obtain ⟨qs,aP,_,_,_,e3,_⟩:=R.e.nest (g h1) p1
  obtain ⟨z1,_⟩:=R.nd.2 i' i d1 (m,d) p' p _ (g h1) p1 hx ho hp e3
  rw [aG (fun z=>z1 z.symm)] at e
  rcases get_set h2 with ⟨rfl,z⟩|⟨_,z⟩
  ·cases z;exact R.nd.2 i' j d1 (m,d) p' q xs (g h1) p1 hx ho p2 e
  ·exact R.nd.2 i' j d1 x p' q xs (g h1) p1 z o2 p2 e
 ·intro a u h n
  have z:a≠p:=by rintro rfl;exact n hO
  exact ⟨by rw [aG z];exact h,n⟩
end
section
variable {K:PySem.W.Frag}{H H' H₀:Hp}{I:Nat→Option Addr}{O O':Addr→Prop}{σ:St}{env:Ev}
noncomputable def dE (i:Nat) (e:Ev):Option (M×List D):=match e[i]? with
 |some (some (m,.lst ds))=>if own m=true then some (m,ds) else none
 |_=>none
theorem D3 {i:Nat}{e:Ev}{m:M}{ds:List D} (h:dE i e=some (m,ds)):e[i]?=some (some (m,.lst ds))∧own m=true:=by
 unfold dE at h
 split at h
 ·rename_i e
  split at h
  ·cases h;exact ⟨e,by assumption⟩
  ·cases h
 ·cases h
theorem Rel.lst {i:Nat}{m:M}{ds:List D} (R:Rel K H₀ I O H σ env) (h:dE i env=some (m,ds)):∃ p xs,σ[i]?=some (some (.ref p))∧O p∧H p=some (.lst xs)∧ax K (fun a=>¬ O a∧H₀ a=none) H xs ds:=by
 obtain ⟨e,o⟩:=D3 h
 obtain ⟨v,hv,n,hm⟩:=R.e.at e
 cases m<;>simp only [own] at o<;>try (cases o;done)
 ·obtain ⟨p,rfl,h1,h2,xs,c,r⟩:=hm;exact ⟨p,xs,hv,h1,c,r⟩
 ·obtain ⟨p,rfl,h1,xs,c,r⟩:=hm;exact ⟨p,xs,hv,h1,c,r⟩
theorem ax.upd {xs:List V}{ds:List D}{p:Addr}{o:HO}{o0:HO} (hO:O p) (h0:H p=some o0) (nt:¬ hG o0) (r:ax K (fun a=>¬ O a∧H₀ a=none) H xs ds):ax K (fun a=>¬ O a∧H₀ a=none) (L2.upd H p o) xs ds:=by
 refine r.keep fun a u e z=>?_
 have eE:a≠p:=by
  rintro rfl
  rcases z with z|z
  ·exact z.1 hO
  ·rw [h0] at e;cases e;exact nt z
 rw [aG eE];exact e
theorem Rel.vg {i:Nat}{m:M}{ds:List D}{p:Addr}{xs ys:List V}{es:List D} (R:Rel K H₀ I O H σ env) (h:dE i env=some (m,ds)) (hp:σ[i]?=some (some (.ref p))) (hx:H p=some (.lst xs)) (r:ax K (fun a=>¬ O a∧H₀ a=none) H ys es) :
  Rel K H₀ I O (L2.upd H p (.lst ys)) σ (env.set i (some (m,.lst es)))∧aO O H O (L2.upd H p (.lst ys)):=by
 obtain ⟨e,o⟩:=D3 h
 have hO:=(R.lD e o hp).1
 exact R.mut e o hp ⟨ys,bF,r.upd hO hx (fun z=>z)⟩
noncomputable def cy (i:Nat) (f:Ev→Option (M×D)):Ev→Option Fl:=fun e=>(f e).bind fun x=>if cR x.1 x.2=true then (dE i e).bind fun y=>if y.2.length < sizeLine then some (.nx (e.set i (some (y.1,.lst (y.2++[x.2]))))) else none else none
theorem SK {i:Nat}{t:TE}{f:Ev→Option (M×D)} (h:JT K t f):JS K (nL (vF K "list" tY (fQ i) (lF t kz))) (cy i f):=by
 intro H₀ I O H σ env Ds fl R e q
 obtain ⟨x,ex,e⟩:=ay e
 split at e
 ·rename_i hs
  obtain ⟨⟨m,ds⟩,ey,e⟩:=ay e
  split at e
  ·rename_i hl
   cases e
   obtain ⟨p,xs,hp,hO,hx,r⟩:=R.lst ey
   refine ⟨.ref p,hp,.inl ⟨rfl,xs,.inl (.inl hx)⟩,?_⟩
   refine h H₀ O H σ env _ x.1 x.2 R.e ex fun v H1 s1 h1=>?_
   refine ⟨p,xs,v,rfl,rfl,s1 _ _ hx,by rw [r.len];exact hl,?_⟩
   have R1:=R.keep s1
   obtain ⟨R2,st⟩:=R1.vg (ys:=xs++[v]) (es:=ds++[x.2]) ey hp (s1 _ _ hx) ((r.keep (.same s1)).app (.cons (h1.cR hs) .nil))
   exact q O _ σ R2 ((aO.same s1).trans st)
  ·cases e
 ·cases e
noncomputable def dB (i:Nat) (fk fe:Ev→Option (M×D)):Ev→Option Fl:=fun e=>(fe e).bind fun x=>(fk e).bind fun k=>(lU k).bind fun k=>if cR x.1 x.2=true then (dE i e).bind fun y=>(df y.2.length k).bind fun j=>some (.nx (e.set i (some (y.1,.lst (y.2.set j x.2))))) else none
theorem NF {i:Nat}{t tk:TE}{f fk:Ev→Option (M×D)} (h:JT K t f) (hk:JT K tk fk):JS K (gQ t (GK (fQ i) tk FZ)) (dB i fk f):=by
 intro H₀ I O H σ env Ds fl R e q
 obtain ⟨x,ex,e⟩:=ay e
 obtain ⟨k,ek,e⟩:=ay e
 obtain ⟨k',XM,e⟩:=ay e
 split at e
 ·rename_i hs
  obtain ⟨⟨m,ds⟩,ey,e⟩:=ay e
  obtain ⟨j,ej,e⟩:=ay e
  cases e
  obtain ⟨p,xs,hp,hO,hx,r⟩:=R.lst ey
  refine h H₀ O H σ env _ x.1 x.2 R.e ex fun v H1 s1 h1=>?_
  refine ⟨.ref p,hp,?_⟩
  refine hk H₀ O H1 σ env _ k.1 k.2 (R.keep s1).e ek fun w H2 s2 h2=>?_
  rw [xU XM] at h2
  have s:=s1.trans s2
  refine ⟨p,xs,k',j,rfl,h2.int,s _ _ hx,by rw [r.len];exact ej,?_⟩
  obtain ⟨R2,st⟩:=(R.keep s).vg (ys:=xs.set j v) (es:=ds.set j x.2) ey hp (s _ _ hx) ((r.keep (.same s)).set ((h1.keep s2).cR hs) j)
  exact q O _ σ R2 ((aO.same s).trans st)
 ·cases e
noncomputable def kM (j i:Nat):Ev→Option Fl:=fun e=>(dE i e).bind fun y=>(y.2[y.2.length-1]?).bind fun d=>some (.nx ((e.set i (some (y.1,.lst y.2.dropLast))).set j (some (.fr,d))))
theorem SM {i j:Nat}:JS K (gQ (qC K "list" GQ (fQ i)) (iT j)) (kM j i):=by
 intro H₀ I O H σ env Ds fl R e q
 obtain ⟨⟨m,ds⟩,ey,e⟩:=ay e
 obtain ⟨d,ed,e⟩:=ay e
 cases e
 obtain ⟨p,xs,hp,hO,hx,r⟩:=R.lst ey
 refine ⟨.ref p,hp,.inl ⟨rfl,xs,.inl (.inl hx)⟩,?_⟩
 obtain ⟨v,hv,rv⟩:=r.get ed
 refine ⟨p,xs,v,rfl,rfl,hx,by rw [r.len];exact hv,?_⟩
 obtain ⟨R2,st⟩:=R.vg (ys:=xs.dropLast) (es:=ds.dropLast) ey hp hx r.dl
 have Al:Rp K (fun a=>¬ O a∧H₀ a=none) (L2.upd H p (.lst xs.dropLast)) v d:=by
  have z:=ax.upd (o:=.lst xs.dropLast) hO hx (fun z=>z) (ax.cons rv .nil)
  cases z with|cons a _=>exact a
 exact q O _ _ (R2.set_plain (i:=j) (m:=.fr) rfl rfl Al) st
noncomputable def yo (i:Nat):Ev→Option Fl:=fun e=>(dE i e).bind fun y=>some (.nx (e.set i (some (y.1,.lst []))))
theorem NK {i:Nat}:JS K (nL (qC K "list" EL (fQ i))) (yo i):=by
 intro H₀ I O H σ env Ds fl R e q
 obtain ⟨⟨m,ds⟩,ey,e⟩:=ay e
 cases e
 obtain ⟨p,xs,hp,hO,hx,r⟩:=R.lst ey
 refine ⟨.ref p,hp,.inl ⟨rfl,xs,.inl (.inl hx)⟩,p,xs,rfl,rfl,hx,?_⟩
 obtain ⟨R2,st⟩:=R.vg (ys:=[]) (es:=[]) ey hp hx .nil
 exact q O _ σ R2 st
noncomputable def aX (i:Nat) (e:Ev):Ev:=match e[i]? with
 |some (some (.bo,d))=>e.set i (some (.fr,d))
 |_=>e
noncomputable def cu (i:Nat) (g:Ev→Option Fl):Ev→Option Fl:=fun e=>g (aX i e)
theorem Rel.aX {i:Nat} (R:Rel K H₀ I O H σ env):∃ O',Rel K H₀ I O' H σ (J.aX i env)∧aO O H O' H:=by
 unfold J.aX
 split
 ·rename_i d e
  obtain ⟨v,hv,n,p,rfl,hO,h0,c⟩:=R.e.at e
  have hi:i < env.length:=by
   rcases Nat.lt_or_ge i env.length with h|h
   ·exact h
   ·rw [List.getElem?_eq_none h] at e;cases e
  have W:∀ {a:Addr},¬ O a→¬ (O a∧a≠p):=fun h z=>h z.1
  refine ⟨fun a=>O a∧a≠p,⟨⟨?_,fun a h=>R.e.od a h.1,R.e.hd,fun a o h=>R.e.on a o h.1⟩,R.fr,fun a h=>R.ow a h.1,?_,?_,?_⟩,fun a o h n=>⟨h,W n⟩⟩
  ·have base:∀ (j:Nat) (y:Option (M×D)) (x:Option V),(env.set i (some (.fr,d)))[j]?=some y→σ[j]?=some x→∀ m d,y=some (m,d)→hJ m=true∧∃ v,x=some v∧Val K H₀ (fun a=>O a∧a≠p) HE H m d v:=by
    intro j y x hy hx m1 d1 q
    subst q
    rcases get_set hy with ⟨rfl,q⟩|⟨nj,q⟩
    ·cases q
     rw [hv] at hx;cases hx
     exact ⟨rfl,_,rfl,(c.wk fun a h _=>(⟨W h.1,h.2⟩:¬ (O a∧a≠p)∧H₀ a=none)).rp ⟨fun z=>z.2 rfl,h0⟩⟩
    ·obtain ⟨v,f7,n1,hm⟩:=R.e.at q
     rw [hx] at f7;cases f7
     refine ⟨n1,v,rfl,?_⟩
     have nq:∀ {p':Addr},own m1=true→v=.ref p'→p'≠p:=fun {p'} Ak ev z=>by
      subst ev;subst z
      exact nj (R.dj j i _ _ p' q e Ak rfl hx hv)
     cases m1
     ·exact Rp.wk (fun a h _=>W h) hm
     ·exact Rp.wk (fun a h _=>⟨W h.1,h.2⟩) hm
     ·cases n1
     ·obtain ⟨p',rfl,h1,h2,c'⟩:=hm
      exact ⟨p',rfl,⟨h1,nq rfl rfl⟩,h2,c'.wk fun a h _=>⟨W h.1,h.2⟩⟩
     ·obtain ⟨p',rfl,h1,c'⟩:=hm
      exact ⟨p',rfl,⟨h1,nq rfl rfl⟩,c'.wk fun a h _=>⟨W h.1,h.2⟩⟩
     ·cases n1
     ·obtain ⟨p',qs,aP,rfl,e2,h1,h2,h3,h4,h5,h6⟩:=hm
      obtain ⟨z1,z2⟩:=R.nd.2 j i d1 (.bo,d) p' p _ q hx e rfl hv h3
      exact ⟨p',qs,aP,rfl,e2,⟨h1,fun z=>z1 z.symm⟩,h2,h3,h4,fun x hx=>⟨⟨(h5 x hx).1,fun z=>z2 (List.mem_map.mpr ⟨x,hx,by rw [z]⟩)⟩,(h5 x hx).2⟩,jy (fun x ds _ ⟨xs,a,r⟩=>⟨xs,a,r.wk fun a h _=>⟨W h.1,h.2⟩⟩) h6⟩
   refine lj ?_ fun j e x h1 h2=>base j e x h1 h2
   rw [List.length_set];exact Paired.length R.e.sl
  ·intro i' d' p' h1 p1
   rcases get_set h1 with ⟨rfl,z⟩|⟨_,z1⟩
   ·cases z
   ·exact R.ba i' d' p' z1 p1
  ·intro i' j x y q h1 h2 o1 o2 p1 p2
   rcases get_set h1 with ⟨rfl,z⟩|⟨_,z1⟩
   ·cases z;cases o1
   ·rcases get_set h2 with ⟨rfl,z⟩|⟨_,z2⟩
    ·cases z;cases o2
    ·exact R.dj i' j x y q z1 z2 o1 o2 p1 p2
  ·refine ⟨fun i' j d1 d2 h1 h2=>?_,fun i' j d1 x p' q xs h1 p1 h2 o2 p2 e'=>?_⟩
   ·rcases get_set h1 with ⟨rfl,z⟩|⟨_,z1⟩
    ·cases z
    ·rcases get_set h2 with ⟨rfl,z⟩|⟨_,z2⟩
     ·cases z
     ·exact R.nd.1 i' j d1 d2 z1 z2
   ·rcases get_set h1 with ⟨rfl,z⟩|⟨_,z1⟩
    ·cases z
    ·rcases get_set h2 with ⟨rfl,z⟩|⟨_,z2⟩
     ·cases z;cases o2
     ·exact R.nd.2 i' j d1 x p' q xs z1 p1 z2 o2 p2 e'
 ·exact ⟨O,R,aO.refl⟩
theorem SN {i:Nat}{t:TS}{g:Ev→Option Fl} (h:JS K t g):JS K t (cu i g):=by
 intro H₀ I O H σ env Ds fl R e q
 obtain ⟨O',R',st⟩:=R.aX (i:=i)
 exact h H₀ I O' H σ _ Ds fl R' e (q.pre st)
theorem Rp.XO {N:Addr→Prop}{v:V}{d:D}{O2:Addr→Prop}{H2:Hp} (on:∀ a o,O a→H a=some o→¬ hG o) (st:aO O H O2 H2) (w:∀ a,N a→¬ O a) (r:Rp K N H v d):Rp K (fun a=>N a∧¬ O2 a) H2 v d:=by
 refine (Rp.wk (N':=fun a=>N a∧¬ O2 a) (fun a n ⟨o,e⟩=>⟨n,(st a o e (w a n)).2⟩) r).keep fun a o e z=>?_
 refine (st a o e ?_).1
 rcases z with z|z
 ·exact w a z.1
 ·exact fun h=>on a o h e z
structure jN (K:PySem.W.Frag) (H₀:Hp) (O:Addr→Prop) (J:It) (H:Hp) (m:M) (ds:List D):Prop where
 go:∀ O2 H2 i,aO O H O2 H2→i < ds.length→J.go i H2
 iF:∀ O2 H2 i x H3,aO O H O2 H2→i < ds.length→J.iF i H2 x H3→aH H2 H3∧∃ d,ds[i]?=some d∧Val K H₀ O2 HE H3 m d x
 stop:∀ O2 H2,aO O H O2 H2→J.stop ds.length H2
noncomputable def eC:M→Bool
 |.al=>true
 |.fr=>true
 |_=>false
def JI (K:PySem.W.Frag) (wi:TI) (it:Ev→Option (M×List D)):Prop :=
 ∀ H₀ O H σ env R m ds,dw K H₀ O H σ env→it env=some (m,ds)→(∀ J H',aH H H'→eC m=true→jN K H₀ O J H' m ds→R J H')→wi σ H R
noncomputable def bV:M→Option M
 |.al=>some .al
 |.fr=>some .fr
 |.un=>some .fr
 |_=>none
noncomputable def bP (f:Ev→Option (M×D)):Ev→Option (M×List D):=fun e=>(f e).bind fun x=>match x.2 with
 |.lst ds=>(bV x.1).map fun m=>(m,ds)
 |_=>none
theorem D4 {m n:M}{ds:List D}{v:V}{Hb:Hp} (e:bV m=some n) (h:Val K H₀ O Hb H m (.lst ds) v):eC n=true∧∃ a xs,v=.ref a∧((Rd H a (.lst xs)∧¬ O a)∨vL K a xs)∧ax K (NM H₀ O n) H xs ds:=by
 cases m<;>simp only [bV] at e<;>cases e
 ·cases h with
  |lst r n q=>exact ⟨rfl,_,_,rfl,.inl ⟨r,n⟩,q⟩
  |lstK r q=>exact ⟨rfl,_,_,rfl,.inr r,q⟩
 ·cases h with
  |lst r n q=>exact ⟨rfl,_,_,rfl,.inl ⟨r,n.1⟩,q⟩
  |lstK r q=>exact ⟨rfl,_,_,rfl,.inr r,q⟩
 ·obtain ⟨p,rfl,_,_,h2,xs,q,r⟩:=h;exact ⟨rfl,_,_,rfl,.inl ⟨.inl q,h2⟩,r.wk fun a h _=>h.1⟩
theorem NM.no {n:M}{a:Addr} (e:eC n=true) (h:NM H₀ O n a):¬ O a:=by
 cases n<;>first|exact h|exact h.1|cases e
theorem uc {n:M}{d:D}{v:V}{O2:Addr→Prop}{H2:Hp} (e:eC n=true) (on:∀ a o,O a→H a=some o→¬ hG o) (st:aO O H O2 H2) (r:Rp K (NM H₀ O n) H v d):Val K H₀ O2 HE H2 n d v:=by
 have z:=Rp.XO on st (fun a h=>NM.no e h) r
 cases n
 ·exact z.wk fun a h _=>h.2
 ·exact z.wk fun a h _=>⟨h.2,h.1.2⟩
 ·cases e
 ·cases e
 ·cases e
 ·cases e
 ·cases e
theorem MA {a:Addr}{xs:List V}{ds:List D}{n:M} (e:eC n=true) (on:∀ a o,O a→H a=some o→¬ hG o) (hr:(Rd H a (.lst xs)∧¬ O a)∨vL K a xs) (r:ax K (NM H₀ O n) H xs ds):jN K H₀ O (zW K a) H n ds:=by
 have st:∀ {O2:Addr→Prop}{H2:Hp},aO O H O2 H2→bL K H2 a xs:=fun {O2 H2} s=>by
  rcases hr with ⟨h|⟨o,h⟩,ha⟩|h
  ·exact .inl (.inl (s _ _ h ha).1)
  ·exact .inl (.inr ⟨o,(s _ _ h ha).1⟩)
  ·exact .inr h
 refine ⟨fun O2 H2 i s hi=>?_,fun O2 H2 i x H3 s hi y=>?_,fun O2 H2 s=>⟨xs,st s,by rw [r.len];exact Nat.le_refl _⟩⟩
 ·exact ⟨xs,xs[i]'(by rw [r.len];exact hi),st s,by simp⟩
 ·obtain ⟨rfl,y⟩:=y
  have y:=y xs (st s)
  obtain ⟨v,hv,rv⟩:=r.get (i:=i) (d:=ds[i]) (by simp [hi])
  rw [y] at hv;cases hv
  exact ⟨aH.refl _,ds[i],by simp [hi],uc e on s rv⟩
theorem PF {t:TE}{f:Ev→Option (M×D)} (h:JT K t f):JI K (yN K t) (bP f):=by
 intro H₀ O H σ env R m ds Re e q
 obtain ⟨⟨m0,d0⟩,ex,e⟩:=ay e
 cases d0<;>simp only at e<;>try (cases e;done)
 cases em:bV m0 with
 |none=>rw [em] at e;cases e
 |some n =>
  rw [em] at e;cases e
  refine h H₀ O H σ env _ _ _ Re ex fun v H1 s1 h1=>?_
  obtain ⟨e1,a,xs,rfl,hr,r⟩:=D4 em h1
  exact ⟨a,rfl,⟨xs,hr.elim (fun z=>.inl z.1) .inr⟩,q _ H1 s1 e1 (MA e1 (Re.keep s1).on hr r)⟩
theorem NP {a:Addr}{xs:List V}{ds:List D}{n:M} (e:eC n=true) (on:∀ a o,O a→H a=some o→¬ hG o) (hr:bz K H a xs) (r:ax K (NM H₀ O n) H xs ds):jN K H₀ O (zX K a) H n ds:=by
 have st:∀ {O2:Addr→Prop}{H2:Hp},aO O H O2 H2→bz K H2 a xs:=fun {O2 H2} s=>by
  rcases hr with h|h
  ·exact .inl (s _ _ h fun z=>on _ _ z h trivial).1
  ·exact .inr h
 refine ⟨fun O2 H2 i s hi=>?_,fun O2 H2 i x H3 s hi y=>?_,fun O2 H2 s=>⟨xs,st s,by rw [r.len];exact Nat.le_refl _⟩⟩
 ·exact ⟨xs,xs[i]'(by rw [r.len];exact hi),st s,by simp⟩
 ·obtain ⟨rfl,y⟩:=y
  have y:=y xs (st s)
  obtain ⟨v,hv,rv⟩:=r.get (i:=i) (d:=ds[i]) (by simp [hi])
  rw [y] at hv;cases hv
  exact ⟨aH.refl _,ds[i],by simp [hi],uc e on s rv⟩
noncomputable def IG (f:Ev→Option (M×D)):Ev→Option (M×List D):=fun e=>(f e).bind fun x=>match x.2 with
 |.tup ds=>(bV x.1).map fun m=>(m,ds)
 |_=>none
theorem SQ {t:TE}{f:Ev→Option (M×D)} (h:JT K t f):JI K (y9 K t) (IG f):=by
 intro H₀ O H σ env R m ds Re e q
 obtain ⟨⟨m0,d0⟩,ex,e⟩:=ay e
 cases d0<;>simp only at e<;>try (cases e;done)
 cases em:bV m0 with
 |none=>rw [em] at e;cases e
 |some n =>
  rw [em] at e;cases e
  refine h H₀ O H σ env _ _ _ Re ex fun v H1 s1 h1=>?_
  obtain ⟨a,xs,rfl,hr,r⟩:=h1.tup
  have e1:aV m0=m∧eC m=true:=by clear ex h1 r;cases m0<;>cases em<;>exact ⟨rfl,rfl⟩
  rw [e1.1] at r
  exact ⟨a,rfl,⟨xs,hr⟩,q _ H1 s1 e1.2 (NP e1.2 (Re.keep s1).on hr r)⟩
noncomputable def bO (lo:Int) (n:Nat):List D:=(List.range n).map fun (k:Nat)=>.int (lo+(k:Int))
theorem C7 {lo:Int}{n:Nat}:jN K H₀ O (qV lo n) H .fr (bO lo n):=by
 have l:(bO lo n).length=n:=by simp [bO]
 refine ⟨fun O2 H2 i s hi=>by rw [l] at hi;exact hi,fun O2 H2 i x H3 s hi y=>?_,fun O2 H2 s=>by rw [l];exact Nat.le_refl n⟩
 obtain ⟨rfl,rfl⟩:=y
 rw [l] at hi
 exact ⟨aH.refl _,.int (lo+i),by simp [bO,hi],Rp.int _⟩
theorem vO:(2:Int) ^ 62=4611686018427387904:=by decide
noncomputable def bN (fs:Ev→Option (List (M×D))):Ev→Option (M×List D):=fun e=>(fs e).bind fun l=>match l with
 |[(_,.int j)]=>if -4611686018427387904≤j∧j < 4611686018427387904 then some (.fr,bO 0 j.toNat) else none
 |_=>none
theorem PH {t:TA}{fs:Ev→Option (List (M×D))} (h:hR K t fs):JI K (FU t) (bN fs):=by
 intro H₀ O H σ env R m ds Re e q
 obtain ⟨l,el,e⟩:=ay e
 split at e
 ·split at e
  ·rename_i hj
   cases e
   refine h H₀ O H σ env _ _ Re el fun vs H1 s1 h1=>?_
   obtain ⟨v,rfl,hv⟩:=h1.one
   obtain rfl:=hv.int
   exact ⟨_,rfl,by rw [vO];exact hj.1,by rw [vO];exact hj.2,q _ H1 s1 rfl C7⟩
  ·cases e
 ·cases e
noncomputable def qH (fs:Ev→Option (List (M×D))):Ev→Option (M×List D):=fun e=>(fs e).bind fun l=>match l with
 |[(_,.int i),(_,.int j)]=>if -4611686018427387904≤i∧i < 4611686018427387904∧-4611686018427387904≤j∧j < 4611686018427387904 then some (.fr,bO i (j-i).toNat) else none
 |_=>none
theorem PJ {t:TA}{fs:Ev→Option (List (M×D))} (h:hR K t fs):JI K (FV t) (qH fs):=by
 intro H₀ O H σ env R m ds Re e q
 obtain ⟨l,el,e⟩:=ay e
 split at e
 ·split at e
  ·rename_i hj
   cases e
   refine h H₀ O H σ env _ _ Re el fun vs H1 s1 h1=>?_
   obtain ⟨v,w,rfl,hv,hw⟩:=h1.two
   obtain rfl:=hv.int
   obtain rfl:=hw.int
   exact ⟨_,_,rfl,by rw [vO];exact hj,q _ H1 s1 rfl C7⟩
  ·cases e
 ·cases e
end
section
variable {K:PySem.W.Frag}{H H' H₀:Hp}{I:Nat→Option Addr}{O O':Addr→Prop}{σ:St}{env:Ev}
def JG (K:PySem.W.Frag) (g:TG) (fg:M×D→Ev→Option Ev):Prop :=
 ∀ H₀ I O H σ env x v fq Q,Rel K H₀ I O H σ env→eC (Prod.fst x)=true→Val K H₀ O HE H (Prod.fst x) x.2 v→fg x env=some fq→(∀ σ',Rel K H₀ I O H σ' fq→Q σ' H)→g v σ H Q
def oN (K:PySem.W.Frag) (g:gA) (fg:M→List D→Ev→Option Ev):Prop :=
 ∀ H₀ I O H σ env m ds vs fq Q,Rel K H₀ I O H σ env→eC m=true→ax K (NM H₀ O m) H vs ds→fg m ds env=some fq→(∀ σ',Rel K H₀ I O H σ' fq→Q σ' H)→g vs σ H Q
noncomputable def gN (i:Nat):M×D→Ev→Option Ev:=fun x e=>some (e.set i (some x))
theorem PK {i:Nat}:JG K (iT i) (gN i):=by
 intro H₀ I O H σ env x v fq Q R hm hv e q
 cases e
 obtain ⟨m,d⟩:=x
 exact q _ (R.set_plain (by cases m<;>first|rfl|cases hm) (by cases m<;>first|rfl|cases hm) hv)
noncomputable def cX:M→List D→Ev→Option Ev:=fun _ ds e=>match ds with
 |[]=>some e
 |_=>none
noncomputable def bx (f:M×D→Ev→Option Ev) (g:M→List D→Ev→Option Ev):M→List D→Ev→Option Ev:=fun m ds e=>match ds with
 |d::r=>(f (m,d) e).bind fun e'=>g m r e'
 |[]=>none
theorem PL:oN K GH cX:=by
 intro H₀ I O H σ env m ds vs fq Q R hm hv e q
 cases hv with
 |nil=>cases e;exact ⟨rfl,q _ R⟩
 |cons=>cases e
theorem NQ {g:TG}{gs:gA}{f:M×D→Ev→Option Ev}{fs:M→List D→Ev→Option Ev} (h:JG K g f) (hs:oN K gs fs):oN K (FQ g gs) (bx f fs):=by
 intro H₀ I O H σ env m ds vs fq Q R hm hv e q
 cases hv with
 |nil=>cases e
 |@cons v d vs ds hv r =>
  obtain ⟨e',e1,e⟩:=ay e
  refine ⟨v,vs,rfl,?_⟩
  have f7:Val K H₀ O HE H m d v:=by cases m<;>first|exact hv|cases hm
  exact h H₀ I O H σ env (m,d) v e' _ R hm f7 e1 fun σ' R'=>hs H₀ I O H σ' e' m ds vs fq Q R' hm r e q
noncomputable def gT (n:Nat) (f:M→List D→Ev→Option Ev):M×D→Ev→Option Ev:=fun x e=>match x.2 with
 |.tup ds=>if ds.length=n then f (aV x.1) ds e else none
 |_=>none
theorem SR {n:Nat}{gs:gA}{fs:M→List D→Ev→Option Ev} (hs:oN K gs fs):JG K (GJ K n gs) (gT n fs):=by
 intro H₀ I O H σ env x v fq Q R hm hv e q
 obtain ⟨m,d⟩:=x
 cases d<;>simp only [gT] at e<;>try (cases e;done)
 split at e
 ·rename_i hl
  obtain ⟨a,xs,rfl,oJ,r⟩:=hv.tup
  exact ⟨a,xs,rfl,oJ,by rw [r.len];exact hl,hs H₀ I O H σ env (aV m) _ xs fq Q R (by cases m<;>first|rfl|cases hm) r e q⟩
 ·cases e
noncomputable def gL (n:Nat) (f:M→List D→Ev→Option Ev):M×D→Ev→Option Ev:=fun x e=>match x.2 with
 |.lst ds=>if ds.length=n then f (aV x.1) ds e else none
 |_=>none
noncomputable def zy:M→M
 |.un=>.fr
 |m=>m
noncomputable def lW (fg:M×D→Ev→Option Ev) (f:Ev→Option (M×D)):Ev→Option Fl:=fun e=>(f e).bind fun x=>if eC (zy x.1)=true then (fg (zy x.1,x.2) e).bind fun e'=>some (.nx e') else none
theorem SV {t:TE}{g:TG}{f:Ev→Option (M×D)}{fg:M×D→Ev→Option Ev} (h:JT K t f) (hg:JG K g fg):JS K (gQ t g) (lW fg f):=by
 intro H₀ I O H σ env Ds fl R e q
 obtain ⟨⟨m,d⟩,ex,e⟩:=ay e
 split at e
 ·rename_i hm
  obtain ⟨e',e1,e⟩:=ay e
  cases e
  refine h H₀ O H σ env _ m d R.e ex fun v H1 s1 h1=>?_
  refine hg H₀ I O H1 σ env _ v e' _ (R.keep s1) hm ?_ e1 fun σ' R'=>q O H1 σ' R' (aO.same s1)
  cases m
  ·exact h1
  ·exact h1
  ·exact h1.cR rfl
  ·cases hm
  ·cases hm
  ·cases hm
  ·cases hm
 ·cases e
noncomputable def forL (g:M×D→Ev→Option Ev) (b:Ev→Option Fl) (m:M):List D→Ev→Option Fl
 |[],e=>some (.nx e)
 |d::ds,e=>(g (m,d) e).bind fun e1=>(b e1).bind fun r=>match r with
  |.nx e2=>forL g b m ds e2
  |.ct e2=>forL g b m ds e2
  |.bk e2=>some (.nx e2)
  |.rt e2 m' d'=>some (.rt e2 m' d')
noncomputable def aW (it:Ev→Option (M×List D)) (g:M×D→Ev→Option Ev) (b:Ev→Option Fl):Ev→Option Fl:=fun e=>(it e).bind fun x=>forL g b x.1 x.2 e
theorem SW {wi:TI}{g:TG}{tb:TS}{it:Ev→Option (M×List D)}{fg:M×D→Ev→Option Ev}{b:Ev→Option Fl} (hi:JI K wi it) (hg:JG K g fg) (hb:JS K tb b):JS K (nY wi g tb) (aW it fg b):=by
 intro H₀ I O H σ env Ds fl R e q
 obtain ⟨⟨m,ds⟩,ei,e⟩:=ay e
 refine hi H₀ O H σ env _ m ds R.e ei fun J H1 s1 hm ok=>?_
 have q1:=q.pre (aO.same s1)
 refine ⟨fun i n σ2 H2=>∃ O2 cV,Rel K H₀ I O2 H2 σ2 cV∧aO O H1 O2 H2∧i≤ds.length∧n=ds.length-i∧forL fg b m (ds.drop i) cV=some fl,⟨_,O,env,R.keep s1,aO.refl,Nat.zero_le _,rfl,e⟩,?_⟩
 rintro i n σ2 H2 ⟨O2,cV,R2,st,hle,rfl,ef⟩
 by_cases aU:i < ds.length
 ·refine .inr ⟨ok.go O2 H2 i st aU,fun σ' H'=>∃ O2 cV,Rel K H₀ I O2 H' σ' cV∧aO O H1 O2 H'∧forL fg b m (ds.drop (i+1)) cV=some fl,?_,?_⟩
  ·rintro σ' H' ⟨O3,zA,R3,bt,Am⟩
   exact ⟨ds.length-(i+1),by omega,O3,zA,R3,bt,aU,rfl,Am⟩
  ·intro x H3 y
   obtain ⟨s3,d,hd,hv⟩:=ok.iF O2 H2 i x H3 st aU y
   have rC:ds.drop i=d::ds.drop (i+1):=by
    rw [List.drop_eq_getElem_cons aU]
    rw [List.getElem?_eq_getElem aU] at hd
    cases hd;rfl
   rw [rC] at ef
   simp only [forL] at ef
   obtain ⟨e1,g1,ef⟩:=ay ef
   obtain ⟨r,br,ef⟩:=ay ef
   refine hg H₀ I O2 H3 σ2 cV (m,d) x e1 _ (R2.keep s3) hm hv g1 fun σ4 R4=>?_
   have j6:=st.trans (aO.same (O:=O2) s3)
   refine hb H₀ I O2 H3 σ4 e1 _ r R4 br ?_
   cases r with
   |nx e2=>exact fun O5 H5 σ5 R5 dN=>⟨O5,e2,R5,j6.trans dN,ef⟩
   |ct e2=>exact fun O5 H5 σ5 R5 dN=>⟨O5,e2,R5,j6.trans dN,ef⟩
   |bk e2=>cases ef;exact (q1.pre j6)
   |rt e2 m' d'=>cases ef;exact (q1.pre j6)
 ·have hi:i=ds.length:=by omega
  subst hi
  rw [List.drop_length] at ef
  cases ef
  exact .inl ⟨ok.stop O2 H2 st,q1 O2 H2 σ2 R2 st⟩
noncomputable def cM (c:Ev→Option Bool) (b:Ev→Option Fl):Nat→Ev→Option Fl
 |0,_=>none
 |n+1,e=>(c e).bind fun k=>if k=true then (b e).bind fun r=>(match r with
  |.nx e2=>cM c b n e2
  |.ct e2=>cM c b n e2
  |.bk e2=>some (.nx e2)
  |.rt e2 m' d'=>some (.rt e2 m' d')) else some (.nx e)
theorem tm {c:Ev→Option Bool}{b:Ev→Option Fl}{fl:Fl}:∀ {n k:Nat}{e:Ev},n≤k→cM c b n e=some fl→cM c b k e=some fl
 |0,_,_,_,h=>by cases h
 |n+1,0,_,h,_=>by omega
 |n+1,k+1,e,hk,h=>by
  simp only [cM] at h ⊢
  obtain ⟨x,ex,h⟩:=ay h
  rw [ex,Option.bind_some]
  cases x with
  |false=>exact h
  |true =>
   rw [if_pos rfl] at h ⊢
   obtain ⟨r,er,h⟩:=ay h
   rw [er,Option.bind_some]
   cases r with
   |nx e2=>exact tm (by omega) h
   |ct e2=>exact tm (by omega) h
   |bk e2=>exact h
   |rt e2 m' d'=>exact h
open Classical in
noncomputable def gi (c:Ev→Option Bool) (b:Ev→Option Fl):Ev→Option Fl:=fun e=>if h:∃ n fl,cM c b n e=some fl then some (Classical.choose (Classical.choose_spec h)) else none
theorem xB {c:Ev→Option Bool}{b:Ev→Option Fl}{fl:Fl}{n:Nat}{e:Ev} (h:cM c b n e=some fl):gi c b e=some fl:=by
 have hx:∃ n fl,cM c b n e=some fl:=⟨n,fl,h⟩
 unfold gi
 rw [dif_pos hx]
 have s:=Classical.choose_spec (Classical.choose_spec hx)
 have a:=tm (Nat.le_max_left n (Classical.choose hx)) h
 have b':=tm (Nat.le_max_right n (Classical.choose hx)) s
 rw [a] at b'
 exact b'.symm
theorem LX {c:Ev→Option Bool}{b:Ev→Option Fl}{fl:Fl}{e:Ev} (h:gi c b e=some fl):∃ n,cM c b n e=some fl:=by
 unfold gi at h
 split at h
 ·rename_i hx
  cases h
  exact ⟨_,Classical.choose_spec (Classical.choose_spec hx)⟩
 ·cases h
theorem NR {c:TT}{tb:TS}{fc:Ev→Option Bool}{b:Ev→Option Fl} (hc:eJ K c fc) (hb:JS K tb b):JS K (yk c tb) (gi fc b):=by
 intro H₀ I O H σ env Ds fl R e q
 obtain ⟨n,e⟩:=LX e
 refine ⟨fun n σ2 H2=>∃ O2 cV,Rel K H₀ I O2 H2 σ2 cV∧aO O H O2 H2∧cM fc b n cV=some fl,⟨n,O,env,R,aO.refl,e⟩,?_⟩
 rintro n σ2 H2 ⟨O2,cV,R2,st,ef⟩
 cases n with
 |zero=>cases ef
 |succ n =>
  simp only [cM] at ef
  obtain ⟨k,ek,ef⟩:=ay ef
  refine hc H₀ O2 H2 σ2 cV _ k R2.e ek fun H3 s3=>?_
  have bt:=st.trans (aO.same (O:=O2) s3)
  cases k with
  |false =>
   rw [if_neg Bool.false_ne_true] at ef ⊢
   cases ef
   exact q O2 H3 σ2 (R2.keep s3) bt
  |true =>
   rw [if_pos rfl] at ef ⊢
   obtain ⟨r,er,ef⟩:=ay ef
   refine ⟨fun σ' H'=>∃ O2 cV,Rel K H₀ I O2 H' σ' cV∧aO O H O2 H'∧cM fc b n cV=some fl,fun σ' H' ⟨O3,e3,R3,s3,f3⟩=>⟨n,Nat.lt_succ_self n,O3,e3,R3,s3,f3⟩,?_⟩
   refine hb H₀ I O2 H3 σ2 cV _ r (R2.keep s3) er ?_
   cases r with
   |nx e2=>exact fun O5 H5 σ5 R5 dN=>⟨O5,e2,R5,bt.trans dN,ef⟩
   |ct e2=>exact fun O5 H5 σ5 R5 dN=>⟨O5,e2,R5,bt.trans dN,ef⟩
   |bk e2=>cases ef;exact (q.pre bt)
   |rt e2 m' d'=>cases ef;exact (q.pre bt)
noncomputable def F7 (K:PySem.W.Frag) (H H':Hp):M→D→V→Prop
 |.un,d,v=>∃ p,v=.ref p∧H p=none∧Cell K (fun a=>H a=none∧a≠p) H' p d
 |.fr,d,v=>Rp K (fun a=>H a=none) H' v d
 |_,_,_=>False
noncomputable def mG (K:PySem.W.Frag) (n:Nat) (F:List D→Option (M×D)):Sp:=fun vs H Q _=>vs.length=n∧∃ ds m d,ax K (fun _=>True) H vs ds∧F ds=some (m,d)∧∀ v H',aH H H'→F7 K H H' m d v→Q v H'
noncomputable def out:Fl→Option (M×D)
 |.nx _=>some (.fr,.non)
 |.rt _ .un d=>some (.un,d)
 |.rt _ .bo d=>some (.un,d)
 |.rt _ .fr d=>some (.fr,d)
 |.rt _ .rb d=>some (.fr,d)
 |.rt _ .nb d=>some (.fr,d)
 |.rt _ .al d=>if d.bR=true then some (.fr,d) else none
 |_=>none
noncomputable def fn (L:Nat) (g:Ev→Option Fl):List D→Option (M×D):=fun ds=>(g (ds.map (fun d=>some (.al,d))++List.replicate (L-ds.length) none)).bind out
theorem MB {vs:List V}{ds:List D} (r:ax K (fun _=>True) H vs ds) (k:Nat):Paired (fun (e:Option (M×D)) (x:Option V)=>∀ m d,e=some (m,d)→hJ m=true∧∃ v,x=some v∧Val K H (fun _=>False) HE H m d v) (ds.map (fun d=>some (.al,d))++List.replicate k none) (vs.map some++List.replicate k none):=by
 have rep:∀ k,Paired (fun (e:Option (M×D)) (x:Option V)=>∀ m d,e=some (m,d)→hJ m=true∧∃ v,x=some v∧Val K H (fun _=>False) HE H m d v) (List.replicate k none) (List.replicate k none):=fun k=>by
  induction k with
  |zero=>exact .nil
  |succ k ih=>exact .cons (fun m d e=>nomatch e) ih
 have go:∀ {vs:List V}{ds:List D},ax K (fun _=>True) H vs ds→Paired (fun (e:Option (M×D)) (x:Option V)=>∀ m d,e=some (m,d)→hJ m=true∧∃ v,x=some v∧Val K H (fun _=>False) HE H m d v) (ds.map (fun d=>some (.al,d))++List.replicate k none) (vs.map some++List.replicate k none):=by
  intro vs ds
  induction vs generalizing ds with
  |nil=>intro r;cases r;exact rep k
  |cons v vs ih=>intro r;cases r with|cons h r=>exact .cons (fun m d e=>by cases e;exact ⟨rfl,v,rfl,h.wk fun _ _ _ z=>z⟩) (ih r)
 exact go r
theorem MC {ds:List D}{k i:Nat}{d:D} (h:(ds.map (fun d=>some (M.al,d))++List.replicate k none)[i]?=some (some (M.bi,d))):False:=by
 have hm:=List.mem_of_getElem? h
 rcases List.mem_append.mp hm with z|z
 ·obtain ⟨d,_,e⟩:=List.mem_map.mp z;cases e
 ·have:=List.eq_of_mem_replicate z;cases this
theorem B5 {ds:List D}{k i:Nat}{d:D} (h:(ds.map (fun d=>some (M.al,d))++List.replicate k none)[i]?=some (some (M.nb,d))):False:=by
 have hm:=List.mem_of_getElem? h
 rcases List.mem_append.mp hm with z|z
 ·obtain ⟨d,_,e⟩:=List.mem_map.mp z;cases e
 ·have:=List.eq_of_mem_replicate z;cases this
theorem D5 {ts:TS}{g:Ev→Option Fl}{n:Nat}{N:List Str}{vs:List V}{Q:VK}{E:XK} (h:JS K ts g) (hs:mG K n (fn N.length g) vs H Q E):ts { nx:=fun _ H'=>Q .non H',rt:=Q } (L2.start N vs) H:=by
 obtain ⟨hl,ds,m,d,r,e,q⟩:=hs
 obtain ⟨fl,ef,eo⟩:=ay e
 have R:Rel K H (fun _=>none) (fun _=>False) H (L2.start N vs) (ds.map (fun d=>some (.al,d))++List.replicate (N.length-ds.length) none) :=
  ⟨⟨by unfold L2.start;rw [r.len];exact MB r _,fun _ z=>z.elim,fun a o e=>⟨o,e⟩,fun _ _ z=>z.elim⟩,fun a o _ e=>e,fun _ z=>z.elim,fun i d p h1=>(MC h1).elim,(fun i j x y p h1 h2 o1 o2=>by
   exfalso
   have k:∀ {i:Nat}{x:M×D},(ds.map (fun d=>some (M.al,d))++List.replicate (N.length-ds.length) none)[i]?=some (some x)→x.1=.al:=fun {i x} h=>by
    have hm:=List.mem_of_getElem? h
    rcases List.mem_append.mp hm with z|z
    ·obtain ⟨d,_,e⟩:=List.mem_map.mp z;cases e;rfl
    ·have:=List.eq_of_mem_replicate z;cases this
   rw [k h1] at o1;cases o1),⟨fun i j d d' h1=>(B5 h1).elim,fun i j d x p q xs h1=>(B5 h1).elim⟩⟩
 refine h H (fun _=>none) (fun _=>False) H _ _ _ fl R ef ?_
 cases fl with
 |nx e'=>cases eo;exact fun O' H' σ' R' st=>q .non H' (fun a o e=>R'.fr a o (fun _ z=>nomatch z) e) Rp.non
 |bk e'=>cases eo
 |ct e'=>cases eo
 |rt e' m' d' =>
  intro O' H' σ' v R' st hv
  have sm:aH H H':=fun a o e=>R'.fr a o (fun _ z=>nomatch z) e
  cases m'<;>simp only [out] at eo
  ·split at eo
   ·rename_i hi;cases eo;exact q v H' sm (show Rp K _ H' v d from hv.weak.im hi)
   ·cases eo
  ·cases eo;exact q v H' sm (show Rp K _ H' v d from Rp.wk (fun a h _=>h.2) hv)
  ·cases eo
   obtain ⟨p,rfl,_,h0,_,c⟩:=hv
   exact q _ H' sm ⟨p,rfl,h0,c.wk fun a h _=>⟨h.1.2,h.2⟩⟩
  ·cases eo
   obtain ⟨p,rfl,hO,h0,c⟩:=hv
   exact q _ H' sm ⟨p,rfl,h0,c.wk fun a h _=>⟨h.2,fun z=>h.1 (z▸hO)⟩⟩
  ·cases eo
  ·cases eo;exact q v H' sm (show Rp K _ H' v d from hv)
  ·cases eo;exact q v H' sm (show Rp K _ H' v d from iC.rp (fun _ z=>z) hv)
noncomputable def aw (F:List D→Option (M×D)) (fs:Ev→Option (List (M×D))):Ev→Option (M×D):=fun e=>(fs e).bind fun aA=>F (aA.map (·.2))
theorem PN {m:M}{d:D}{v:V} (od:∀ a,O a→∃ o,H a=some o) (hd:∀ a o,H₀ a=some o→∃ o',H a=some o') (h:F7 K H H' m d v):Val K H₀ O H H' m d v:=by
 cases m<;>try exact h.elim
 ·exact Rp.wk (fun a h _=>⟨ic od h,kg hd h⟩) h
 ·obtain ⟨p,rfl,hp,c⟩:=h
  exact ⟨p,rfl,hp,kg hd hp,ic od hp,c.wk fun a h _=>⟨⟨ic od h.1,kg hd h.1⟩,h.2⟩⟩
theorem PQ {n:Nat}{F:List D→Option (M×D)}{ta:TA}{fs:Ev→Option (List (M×D))}{E:XK} (ha:hR K ta fs) (hl:∀ e aA,fs e=some aA→aA.length=n):JT K (qo (mG K n F) [] E ta) (aw F fs):=by
 intro H₀ O H σ env Q m d R h q
 obtain ⟨aA,e,h⟩:=ay h
 refine ha H₀ O H σ env _ aA R e fun vs H1 s1 h1=>?_
 have R1:=R.keep s1
 rw [List.append_nil]
 refine ⟨by rw [←Paired.length h1];exact hl _ _ e,aA.map (·.2),m,d,h1.iK (fun md hm v hv=>hv.weak),h,fun v H2 s2 h2=>?_⟩
 exact q v H2 (s1.trans s2) ((PN R1.od R1.hd h2).hb fun a z=>s1.free z)
end
section
variable {K:PySem.W.Frag}{H H' H₀:Hp}{O O':Addr→Prop}{σ:St}{env:Ev}
noncomputable def ft:M×D→Option (M×D)
 | (_,.int i)=>some (.fr,.int (-i))
 |_=>none
noncomputable def kN:M×D→Option (M×D)
 | (_,.int i)=>some (.fr,.int (Builtin.bitNot i))
 |_=>none
theorem SX:JU K (rU fun i=>.int (-i)) ft:=by
 intro H₀ O H x a Q m d _ _ h1 h q
 obtain ⟨ma,da⟩:=a
 cases da<;>cases h
 exact ⟨_,h1.int,q _ H (aH.refl H) iq⟩
theorem SY:JU K (rU fun i=>.int (Builtin.bitNot i)) kN:=by
 intro H₀ O H x a Q m d _ _ h1 h q
 obtain ⟨ma,da⟩:=a
 cases da<;>cases h
 exact ⟨_,h1.int,q _ H (aH.refl H) iq⟩
noncomputable def gM:=rn Builtin.bitAnd
noncomputable def lX:=rn Builtin.bitOr
theorem PR:JR K (dO fun i j=>.int (Builtin.bitAnd i j)) gM:=uK
theorem S0:JR K (dO fun i j=>.int (Builtin.bitOr i j)) lX:=uK
def F8 (i j:Int):Prop:=0 < j∧j < 1606938044258990275541962092341162602522202993782792835301376
noncomputable def bW:=gI (fun _ j=>0 < j∧j < 1606938044258990275541962092341162602522202993782792835301376) (· / ·)
theorem PV:JR K (rI F8 fun i j=>.int (i / j)) bW:=qF fun _ _ h=>h
theorem log2_lt {n:Nat} (h:n < 2 ^ 200):n.log2 < 9000:=by
 rcases Nat.eq_zero_or_pos n with rfl|h0
 ·decide
 ·exact Nat.lt_trans ((Nat.log2_lt (by omega)).mpr h) (by decide)
theorem NS {X:Cx}:bu X (binaryOp .FloorDiv) (rI F8 fun i j=>.int (i / j)):=qY fun i j _ _ _ _ _ hc q=>by
 have e:i / j=i.fdiv j:=(Int.fdiv_eq_ediv_of_nonneg i (Int.le_of_lt hc.1)).symm
 rw [e] at q
 have h1:=hc.1
 have h2:=hc.2
 have hl:j.natAbs < 2 ^ 200:=by
  have e2:(2:Nat) ^ 200=1606938044258990275541962092341162602522202993782792835301376:=by decide
  rw [e2];omega
 exact PyProof.Rows.floordiv_int (Int.ne_of_gt hc.1) q (.inl (PyProof.noPylong_of_log2 (log2_lt hl)))
theorem PX {X:Cx}:bu X (binaryOp .Add) (uL X.K):=by
 intro pins s σ H x y v u Q I rx ry h
 obtain ⟨l,b,xs,zs,rfl,rfl,hl,hb,hz,q⟩:=h
 cases (show v=Value.ref l from rx)
 cases (show u=Value.ref b from ry)
 obtain ⟨its,r,pl,_⟩:=I.list hl
 obtain ⟨qB,r2,pm,_⟩:=I.list hb
 obtain ⟨⟨cls,dd,data,sl⟩,ho,hc,n,hd⟩:=pl.isList
 obtain ⟨⟨Wy,vC,data2,oE⟩,gY,fX,n2,hd2⟩:=pm.isList
 simp only at hc hd fX hd2
 subst hc hd fX hd2
 have ea:its.toArray++qB.toArray=(its++qB).toArray:=by simp
 have e1:=r.length
 have e2:=r2.length
 refine concat_meets ⟨_,ho,rfl⟩ ⟨_,gY,rfl⟩ noFill_list_add seq_list_add PySem.F.slot_list_add PySem.F.entry_list_add (PySem.F.args_list_add_2 _ _) (PyProof.Rows.list_addW l b its.toArray qB.toArray n n2 dd vC sl oE (by rw [List.size_toArray,List.size_toArray];omega)) ⟨ho,gY,?_⟩
 rw [ea]
 exact ⟨.ref _,_,I.WC (t':=s.toks) (r.append r2) (by rw [List.length_append];omega),rfl,q _ I.fresh⟩
theorem NT {X:Cx} (h:X.K=K):bu X (binaryOp .Add) (uL K):=by subst h;exact PX
theorem NV {r r':R2}{g g':M×D→M×D→Option (M×D)}{ta tb tc:TE}{fa fb fc:Ev→Option (M×D)} (hr:JR K r g) (gC:JR K r' g') (ha:JT K ta fa) (hb:JT K tb fb) (hc:JT K tc fc):JT K (EH r r' ta tb tc) (nC g g' fa fb fc):=by
 intro H₀ O H σ env Q m d R h q
 obtain ⟨a,ea,h⟩:=ay h
 obtain ⟨b,eb,h⟩:=ay h
 obtain ⟨z,ez,h⟩:=ay h
 obtain ⟨k,ek,h⟩:=ay h
 refine ha H₀ O H σ env _ a.1 a.2 R ea fun x H1 s1 h1=>?_
 refine hb H₀ O H1 σ env _ b.1 b.2 (R.keep s1) eb fun y H2 s2 h2=>?_
 have R2:=(R.keep s1).keep s2
 refine hr H₀ O H2 x y a b _ z.1 z.2 R2.od R2.hd (h1.keep s2).h0 h2.h0 ez fun v H3 s3 h3=>?_
 rw [nB ek] at h3
 refine ⟨k,h3.bl,?_⟩
 cases k with
 |false =>
  rw [if_neg Bool.false_ne_true] at h ⊢
  cases h
  exact q _ H3 ((s1.trans s2).trans s3) fm
 |true =>
  rw [if_pos rfl] at h ⊢
  obtain ⟨c,ec,h⟩:=ay h
  refine hc H₀ O H3 σ env _ c.1 c.2 (R2.keep s3) ec fun w H4 s4 h4=>?_
  have R4:=(R2.keep s3).keep s4
  refine gC H₀ O H4 y w b c Q m d R4.od R4.hd ((h2.keep s3).keep s4).h0 h4.h0 h fun v H5 s5 h5=>?_
  have s:=((s1.trans s2).trans s3).trans s4
  exact q v H5 (s.trans s5) (h5.hb fun a z=>s.free z)
noncomputable def vh:List D→Option (List V)
 |[]=>some []
 |d::ds=>(dA d).bind fun v=>(vh ds).bind fun r=>some (v::r)
theorem D6 {N:Addr→Prop}:∀ {ds:List D}{vs ws:List V},ax K N H vs ds→vh ds=some ws→vs=ws∧ws.all iU=true
 |_,_,_,.nil,e=>by cases e;exact ⟨rfl,rfl⟩
 |d::ds,v::vs,ws,.cons h r,e=>by
  obtain ⟨w,ew,e⟩:=ay e
  obtain ⟨r',er,e⟩:=ay e
  cases e
  obtain ⟨rfl,f⟩:=D6 r er
  obtain rfl:=nQ h ew
  refine ⟨rfl,?_⟩
  rw [List.all_cons,f,Bool.and_true]
  cases h<;>simp only [dA] at ew<;>first|rfl|cases ew
noncomputable def vi:D→Option (List D)
 |.lst ds=>some ds
 |.tup ds=>some ds
 |_=>none
noncomputable def dM (neg:Bool):M×D→M×D→Option (M×D):=fun a b=>(dA a.2).bind fun x=>(vi b.2).bind fun ds=>(vh ds).bind fun vs=>some (.fr,.bl (if neg then !dH x vs else dH x vs))
theorem seq_val {m:M}{d:D}{ds:List D}{v:V}{Hb:Hp} (e:vi d=some ds) (h:Val K H₀ O Hb H m d v):∃ p xs,v=.ref p∧(bL K H p xs∨bz K H p xs)∧ax K (NM H₀ O (aV m)) H xs ds:=by
 cases d<;>simp only [vi] at e<;>cases e
 ·obtain ⟨p,xs,rfl,h,r⟩:=h.tup;exact ⟨p,xs,rfl,.inr h,r⟩
 ·obtain ⟨p,xs,rfl,h,r⟩:=h.lst;exact ⟨p,xs,rfl,.inl h,r⟩
theorem NW {d:D}{x:V} (e:dA d=some x):iU x=true:=by
 cases d<;>simp only [dA] at e<;>cases e<;>rfl
theorem F9 {neg:Bool}:JR K (q8 K neg) (dM neg):=by
 intro H₀ O H x y a b Q m d _ _ h1 h2 h q
 obtain ⟨x',ex,h⟩:=ay h
 obtain ⟨ds,ed,h⟩:=ay h
 obtain ⟨vs,ev,h⟩:=ay h
 cases h
 obtain ⟨p,xs,rfl,hs,r⟩:=seq_val ed h2
 obtain ⟨rfl,f⟩:=D6 r ev
 obtain rfl:=nQ h1.weak ex
 exact ⟨p,_,rfl,hs,NW ex,f,q _ H (aH.refl H) fm⟩
theorem NX {m:M} (h:eC m=true):hJ m=true:=by cases m<;>first|rfl|cases h
noncomputable def dz:Ev→Option Bool:=fun _=>some true
theorem D7:eJ K ve dz:=by
 intro H₀ O H σ env Q b R h q
 cases h
 exact q H (aH.refl H)
noncomputable def eY (e:Ev) (ix:List Nat):Ev:=ix.map fun i=>(e[i]?).getD none
noncomputable def cY (fc:Ev→Option Bool) (fe:Ev→Option (M×D)) (m:M) (fr:Ev):List D→Option (List (M×D))
 |[]=>some []
 |d::ds=>(fc (some (m,d)::fr)).bind fun b=>if b=true then (fe (some (m,d)::fr)).bind fun x=>(cY fc fe m fr ds).bind fun r=>some (x::r) else cY fc fe m fr ds
noncomputable def b9 (it:Ev→Option (M×List D)) (ix:List Nat) (fc:Ev→Option Bool) (fe:Ev→Option (M×D)):Ev→Option (M×D):=fun e=>(it e).bind fun x=>(cY fc fe x.1 (eY e ix) x.2).bind fP
theorem dw.fr {ix:List Nat} (R:dw K H₀ O H σ env):Paired (fun (e:Option (M×D)) (x:Option V)=>∀ m d,e=some (m,d)→hJ m=true∧∃ v,x=some v∧Val K H₀ O HE H m d v) (eY env ix) (eW σ ix):=by
 unfold eY eW
 induction ix with
 |nil=>exact .nil
 |cons i ix ih =>
  refine .cons (fun m d e=>?_) ih
  have e':env[i]?=some (some (m,d)):=by
   have e:(env[i]?).getD none=some (m,d):=e
   cases q:env[i]? with
   |none=>rw [q] at e;cases e
   |some z=>rw [q] at e;exact congrArg some e
  obtain ⟨v,hv,n,h⟩:=R.at e'
  exact ⟨n,v,by show (σ[i]?).getD none=_;rw [hv];rfl,h⟩
theorem dw.more {C:Addr} (R:dw K H₀ O H σ env) (hC:H C=none) {H2:Hp} (s:aH H H2) (ys:List V) (e:H2 C=some (.lst ys)):dw K H₀ (fun a=>O a∨a=C) H2 σ env:=by
 have np:∀ a,(∃ o,H a=some o)→a≠C:=fun a ⟨o,e⟩=>dW e hC
 have w:∀ {N:Addr→Prop}{d:D}{v:V},Rp K N H v d→Rp K (fun a=>N a∧a≠C) H2 v d:=fun r=>(r.wk fun a n e=>⟨n,np a e⟩).keep (.same s)
 have ws:∀ {N:Addr→Prop}{d:D}{q:Addr},Cell K N H q d→Cell K (fun a=>N a∧a≠C) H2 q d:=fun {N d q} r=>by
  obtain ⟨o,e,_⟩:=r.some
  exact (r.wk fun a n e=>⟨n,np a e⟩).keep (.same s) ((s _ _ e).trans e.symm)
 refine ⟨kr (fun e x h m d q=>?_) R.sl,fun a h=>?_,fun a o h=>?_,fun a o h q=>?_⟩
 ·obtain ⟨n,v,rfl,z⟩:=h m d q
  refine ⟨n,v,rfl,?_⟩
  cases m
  ·exact (w z).wk fun a h _=>fun z=>z.elim h.1 h.2
  ·exact (w z).wk fun a h _=>⟨fun z=>z.elim h.1.1 h.2,h.1.2⟩
  ·cases n
  ·obtain ⟨q,rfl,h1,h2,c'⟩:=z
   exact ⟨q,rfl,.inl h1,h2,(ws c').wk fun a h _=>⟨fun z=>z.elim h.1.1 h.2,h.1.2⟩⟩
  ·obtain ⟨q,rfl,h1,c'⟩:=z
   exact ⟨q,rfl,.inl h1,(ws c').wk fun a h _=>⟨fun z=>z.elim h.1.1 h.2,h.1.2⟩⟩
  ·cases n
  ·obtain ⟨q,qs,aP,e1,e2,h1,h2,h3,h4,h5,h6⟩:=z
   exact ⟨q,qs,aP,e1,e2,.inl h1,h2,s _ _ h3,h4,fun x hx=>⟨.inl (h5 x hx).1,(h5 x hx).2⟩,jy (fun x ds _ ⟨xs,a,r⟩=>⟨xs,s _ _ a,((r.wk fun a n e=>(⟨n,np a e⟩:(¬ O a∧H₀ a=none)∧a≠C)).keep (.same s)).wk fun a h _=>⟨fun z=>z.elim h.1.1 h.2,h.1.2⟩⟩) h6⟩
 ·rcases h with h|rfl
  ·obtain ⟨o,q⟩:=R.od a h;exact ⟨o,s _ _ q⟩
  ·exact ⟨_,e⟩
 ·obtain ⟨o',q⟩:=R.hd a o h;exact ⟨o',s _ _ q⟩
 ·rcases h with h|rfl
  ·exact (R.keep s).on a o h q
  ·rw [e] at q;cases q;exact fun z=>z
theorem CB {J:It}{m:M}{ds:List D}{tc:TT}{te:TE}{fc:Ev→Option Bool}{fe:Ev→Option (M×D)}{H1:Hp}{ix:List Nat}{cj:List (M×D)}{bb:Bool}{Q:Addr→Hp→Prop}{C:Addr}
  (R:dw K H₀ O H1 σ env) (hm:eC m=true) (ok:jN K H₀ O J H1 m ds) (hc:eJ K tc fc) (he:JT K te fe) (hl:cj.length≤sizeLine) (et:cY fc fe m (eY env ix) ds=some cj)
  (hs:∀ x∈cj,(if bb then cR x.1 x.2 else f6 x.1 x.2)=true) (hC:H1 C=none)
  (q:∀ ys H',aH H1 H'→H' C=some (.lst ys)→ax K (fun a=>¬ (O a∨a=C)∧(bb=true→H₀ a=none)) H' ys (cj.map (·.2))→Q C H'):yP J C H1 (eW σ ix) tc te Q:=by
 have hN:∀ {N:Addr→Prop}{Ha Hb:Hp},(∀ a,N a→a≠C)→(∀ b o,b≠C→Ha b=some o→Hb b=some o)→(∀ o,Ha C=some o→¬ hG o)→Keeps N Ha Hb:=fun w s nt a o e z=>s a o (by
  rcases z with z|z
  ·exact w a z
  ·rintro rfl;exact nt o e z) e
 refine ⟨fun i n H2=>n=ds.length-i∧i≤ds.length∧aH H1 H2∧∃ ys acc rest,H2 C=some (.lst ys)∧cY fc fe m (eY env ix) (ds.drop i)=some rest∧cj=acc++rest∧ax K (fun a=>¬ (O a∨a=C)∧(bb=true→H₀ a=none)) H2 ys (acc.map (·.2)),⟨_,rfl,Nat.zero_le _,cE hC,[],[],cj,bF,et,rfl,.nil⟩,?_⟩
 rintro i n H2 ⟨rfl,hle,s2,ys,acc,rest,mE,er,oh,rr⟩
 have bj:aO O H1 O H2:=aO.same s2
 by_cases aU:i < ds.length
 ·refine .inr ⟨ok.go O H2 i bj aU,fun x H3 y=>?_⟩
  have WQ:aO O H1 (fun a=>O a∨a=C) H2:=fun a o e n=>⟨s2 a o e,fun z=>z.elim n (dW e hC)⟩
  obtain ⟨s3,d,hd,hv⟩:=ok.iF (fun a=>O a∨a=C) H2 i x H3 WQ aU y
  have R2:=R.more hC s2 ys mE
  have R3:=R2.keep s3
  have II:dw K H₀ (fun a=>O a∨a=C) H3 (some x::eW σ ix) (some (m,d)::eY env ix) :=
   ⟨.cons (fun m' d' e=>by cases e;exact ⟨NX hm,x,rfl,hv⟩) R3.fr,R3.od,R3.hd,R3.on⟩
  have rC:ds.drop i=d::ds.drop (i+1):=by
   rw [List.drop_eq_getElem_cons aU]
   rw [List.getElem?_eq_getElem aU] at hd
   cases hd;rfl
  rw [rC] at er
  simp only [cY] at er
  obtain ⟨b,eb,er⟩:=ay er
  refine hc H₀ _ H3 _ _ _ b II eb fun H4 s4=>?_
  cases b with
  |true =>
   rw [if_pos rfl] at er ⊢
   obtain ⟨z,ez,er⟩:=ay er
   obtain ⟨r',XQ,er⟩:=ay er
   cases er
   refine he H₀ _ H4 _ _ _ z.1 z.2 (II.keep s4) ez fun w H5 s5 h5=>?_
   have vP:aH H2 H5:=(s3.trans s4).trans s5
   have XR:ys.length=acc.length:=by rw [rr.len,List.length_map]
   have hV:acc.length < sizeLine:=by
    have e1:=congrArg List.length oh
    rw [List.length_append,List.length_cons] at e1
    omega
   refine ⟨ys,vP _ _ mE,by rw [XR];exact hV,ds.length-(i+1),by omega,rfl,aU,?_,ys++[w],acc++[z],r',bF,XQ,by rw [oh,List.append_assoc];rfl,?_⟩
   ·intro a o e
    rw [aG (dW e hC)]
    exact vP _ _ (s2 _ _ e)
   ·rw [List.map_append]
    have hz:Rp K (fun a=>¬ (O a∨a=C)∧(bb=true→H₀ a=none)) H5 w z.2:=by
     have h:=hs z (by rw [oh];exact List.mem_append_right _ List.mem_cons_self)
     cases bb with
     |true=>exact (h5.cR h).wk fun a h _=>⟨h.1,fun _=>h.2⟩
     |false=>exact (h5.f6 h).wk fun a h _=>⟨h,fun z=>nomatch z⟩
    have kp:Keeps (fun a=>¬ (O a∨a=C)∧(bb=true→H₀ a=none)) H5 (upd H5 C (.lst (ys++[w]))):=hN (fun a h z=>h.1 (.inr z)) (fun b o ne e=>by rw [aG ne];exact e) (fun o e=>by rw [vP _ _ mE] at e;cases e;exact fun z=>z)
    exact ((rr.keep (.same vP)).keep kp).app (.cons (hz.keep kp) .nil)
  |false =>
   rw [if_neg Bool.false_ne_true] at er ⊢
   have An:=s3.trans s4
   exact ⟨ds.length-(i+1),by omega,rfl,aU,s2.trans An,ys,acc,rest,An _ _ mE,er,oh,rr.keep (.same An)⟩
 ·have hi:i=ds.length:=by omega
  subst hi
  rw [List.drop_length] at er
  cases er
  rw [List.append_nil] at oh
  subst oh
  exact .inl ⟨ok.stop O H2 bj,q ys H2 s2 mE rr⟩
theorem ud {wi:TI}{ix:List Nat}{tc:TT}{te:TE}{it:Ev→Option (M×List D)}{fc:Ev→Option Bool}{fe:Ev→Option (M×D)} (hi:JI K wi it) (hc:eJ K tc fc) (he:JT K te fe):JT K (nP wi ix tc te) (b9 it ix fc fe):=by
 intro H₀ O H σ env Q m d R e q
 obtain ⟨⟨mi,ds⟩,ei,e⟩:=ay e
 obtain ⟨cj,et,e⟩:=ay e
 refine hi H₀ O H σ env _ mi ds R ei fun J H1 s1 hm ok C hC=>?_
 have R1:=R.keep s1
 unfold fP at e
 split at e
 ·rename_i hl
  split at e
  ·rename_i ha
   cases e
   rw [List.all_eq_true] at ha
   refine CB (bb:=true) R1 hm ok hc he hl et (fun x hx=>ha x hx) hC fun ys H' s' hy r=>?_
   refine q _ H' (s1.trans s') ⟨C,rfl,s1.free hC,kg R1.hd hC,ic R1.od hC,ys,hy,r.wk fun a h _=>⟨⟨fun z=>h.1 (.inl z),h.2 rfl⟩,fun z=>h.1 (.inr z)⟩⟩
  ·split at e
   ·rename_i ha
    cases e
    rw [List.all_eq_true] at ha
    refine CB (bb:=false) R1 hm ok hc he hl et (fun x hx=>ha x hx) hC fun ys H' s' hy r=>?_
    exact q _ H' (s1.trans s') (Rp.lst (.inl hy) (ic R1.od hC) (r.wk fun a h _=>fun z=>h.1 (.inl z)))
   ·cases e
 ·cases e
theorem PY:∀ e aA,ah e=some aA→aA.length=0:=fun e aA h=>by cases h;rfl
theorem NZ {n:Nat}{f:Ev→Option (M×D)}{g:Ev→Option (List (M×D))} (h:∀ e aA,g e=some aA→aA.length=n):∀ e aA,ae f g e=some aA→aA.length=n+1:=fun e aA q=>by
 obtain ⟨x,ex,q⟩:=ay q
 obtain ⟨r,er,q⟩:=ay q
 cases q
 rw [List.length_cons,h e r er]
end
section
variable {K:PySem.W.Frag}{H H' H₀:Hp}{O O':Addr→Prop}{σ:L2.St}{env:Ev}
theorem zB {X:Cx}{f:Value→Value→Sem Value}{r r':R2} (h:bu X f r) (h':bu X f r'):bu X f (fun x y H Q=>r x y H Q∨r' x y H Q) :=
 fun pins s σ H x y v u Q I rx ry q=>q.elim (h pins s σ H x y v u Q I rx ry) (h' pins s σ H x y v u Q I rx ry)
noncomputable def mH (g g':M×D→M×D→Option (M×D)):M×D→M×D→Option (M×D):=fun a b=>match g a b with
 |some z=>some z
 |none=>g' a b
theorem yT {r r':R2}{g g':M×D→M×D→Option (M×D)} (h:JR K r g) (h':JR K r' g'):JR K (fun x y H Q=>r x y H Q∨r' x y H Q) (mH g g'):=by
 intro H₀ O H x y a b Q m d od hd h1 h2 e q
 unfold mH at e
 split at e
 ·rename_i z ez;cases e;exact .inl (h H₀ O H x y a b Q m d od hd h1 h2 ez q)
 ·exact .inr (h' H₀ O H x y a b Q m d od hd h1 h2 e q)
noncomputable def nR:M×D→M×D→Option (M×D)
 | (_,.str x),(_,.str y)=>if x.length+y.length≤sizeLine then some (.fr,.str (x++y)) else none
 |_,_=>none
theorem PZ:JR K (fun x y H Q=>∃ i j,x=.str i∧y=.str j∧i.length+j.length≤sizeLine∧Q (.str (i++j)) H) nR:=by
 intro H₀ O H x y a b Q m d _ _ h1 h2 h q
 obtain ⟨ma,da⟩:=a;obtain ⟨mb,db⟩:=b
 cases da<;>try (cases h;done)
 cases db<;>try (cases h;done)
 simp only [nR] at h
 split at h
 ·rename_i hl;cases h
  exact ⟨_,_,h1.str,h2.str,hl,q _ H (aH.refl H) yQ⟩
 ·cases h
noncomputable def uN (K:PySem.W.Frag):R2:=fun x y H Q=>∃ a b xs ys,x=.ref a∧y=.ref b∧bz K H a xs∧bz K H b ys∧xs.length+ys.length≤sizeLine∧∀ p H',aH H H'→bz K H' p (xs++ys)→Q (.ref p) H'
theorem P4 {X:Cx}:bu X (binaryOp .Add) (uN X.K):=by
 intro pins s σ H x y v u Q I rx ry h
 obtain ⟨a,b,xs,ys,rfl,rfl,ha,hb,hz,q⟩:=h
 by_cases e:xs=[]
 ·subst e
  cases rx;cases ry
  obtain ⟨its,r1,p1,_⟩:=I.tuple ha;obtain ⟨qB,r2,p2,_⟩:=I.tuple hb
  cases r1
  exact Nw p1 p2 ⟨.ref b,H,I,rfl,q b H (aH.refl H) hb⟩
 ·refine O9 pins s σ H (.ref a) (.ref b) v u Q I rx ry ⟨a,b,xs,ys,rfl,rfl,ha,hb,e,hz,fun e2=>?_,fun _ p hp=>q p _ (cE hp) (bz.of bF)⟩
  subst e2
  exact q a H (aH.refl H) (by rw [List.append_nil];exact ha)
theorem N0 {X:Cx} (h:X.K=K):bu X (binaryOp .Add) (uN K):=by subst h;exact P4
noncomputable def uO:M×D→M×D→Option (M×D)
 | (m,.tup ds),(n,.tup es)=>if aV m=.rb∨aV n=.rb then none else if ds.length+es.length≤sizeLine then some (aV (mJ m n),.tup (ds++es)) else none
 |_,_=>none
theorem P5:JR K (uN K) uO:=by
 intro H₀ O H x y a b Q m d od hd h1 h2 h q
 obtain ⟨ma,da⟩:=a;obtain ⟨mb,db⟩:=b
 cases da<;>try (cases db<;>cases h;done)
 cases db<;>try (cases h;done)
 simp only [uO] at h
 split at h
 ·cases h
 ·rename_i hn
  split at h
  ·rename_i hl
   cases h
   obtain ⟨p,xs,rfl,r,s⟩:=h1.tup
   obtain ⟨p',Aj,rfl,r',s'⟩:=h2.tup
   have n1:aV ma≠.rb:=fun z=>hn (.inl z)
   have n2:aV mb≠.rb:=fun z=>hn (.inr z)
   refine ⟨p,p',xs,Aj,rfl,rfl,r,r',by rw [s.len,s'.len];exact hl,fun l H' sm hq=>q _ _ sm (Val.el (Rp.tup hq ?_))⟩
   exact (ax.app (s.wk fun _ h _=>NM.IA n1 n2 h) (s'.wk fun _ h _=>NM.IC n1 n2 h)).keep (.same sm)
  ·cases h
def zC (K:PySem.W.Frag):V→Option Int→Option Int→Hp→VK→Prop:=fun x lo hi H Q=>∃ a xs,x=.ref a∧bz K H a xs∧∀ p H',aH H H'→bz K H' p (iA xs lo hi)→Q (.ref p) H'
theorem P6 {X:Cx}:jY X (zC X.K):=by
 intro pins s σ H x v vl vu lo hi sl Q I rx hs pl pu h
 obtain ⟨a,xs,rfl,hx,q⟩:=h
 by_cases e:HT.aT xs.length 0 lo=0∧HT.aT xs.length xs.length hi=xs.length
 ·cases rx
  obtain ⟨its,r,ht,hz⟩:=I.tuple hx
  have hlen:its.toArray.size=xs.length:=by rw [List.size_toArray];exact r.length.symm
  refine ⟨"tuple",_,PyProof.Rows.slot_tuple_getitem.lookup,ht.typeIs,K0 ht hs pl pu (by rw [hlen];exact e.1) (by rw [hlen];exact e.2) ⟨.ref a,H,I,rfl,q a H (aH.refl H) ?_⟩⟩
  have ec:iA xs lo hi=xs:=by unfold iA;rw [e.1,e.2,List.drop_zero,Nat.sub_zero];exact List.take_of_length_le (Nat.le_refl _)
  rw [ec];exact hx
 ·exact RN pins s σ H (.ref a) v vl vu lo hi sl Q I rx hs pl pu ⟨a,xs,rfl,hx,e,fun p hp=>q p _ (cE hp) (bz.of bF)⟩
noncomputable def G3:M×D→Option Int→Option Int→Option (M×D)
 | (m,.tup ds),lo,hi=>some (aV m,.tup (cut ds lo hi))
 |_,_,_=>none
theorem P7:k7 K (zC K) G3:=by
 intro H₀ O H x lo hi a Q m d od hd h1 h q
 obtain ⟨ma,da⟩:=a
 cases da<;>try (cases h;done)
 cases h
 obtain ⟨p,xs,rfl,r,s⟩:=h1.tup
 exact ⟨p,xs,rfl,r,fun l H' sm hq=>q _ _ sm (Val.el (Rp.tup hq (s.cut.keep (.same sm))))⟩
noncomputable def zD:M×D→Option Int→Option Int→Option (M×D)
 | (_,.str z),lo,hi=>if z.length≤sizeLine then some (.fr,.str (Txt.slice z lo hi)) else none
 |_,_,_=>none
theorem P8:k7 K (fun x lo hi H Q=>∃ z:Str,x=.str z∧z.length≤sizeLine∧Q (.str (Txt.slice z lo hi)) H) zD:=by
 intro H₀ O H x lo hi a Q m d od hd h1 h q
 obtain ⟨ma,da⟩:=a
 cases da<;>try (cases h;done)
 simp only [zD] at h
 split at h
 ·rename_i hl;cases h;exact ⟨_,h1.str,hl,q _ H (aH.refl H) yQ⟩
 ·cases h
noncomputable def qI (g g':M×D→Option Int→Option Int→Option (M×D)):M×D→Option Int→Option Int→Option (M×D):=fun a l h=>match g a l h with
 |some z=>some z
 |none=>g' a l h
theorem E4 {r r':V→Option Int→Option Int→Hp→VK→Prop}{g g':M×D→Option Int→Option Int→Option (M×D)} (h:k7 K r g) (h':k7 K r' g'):k7 K (fun x l u H Q=>r x l u H Q∨r' x l u H Q) (qI g g'):=by
 intro H₀ O H x lo hi a Q m d od hd h1 e q
 unfold qI at e
 split at e
 ·rename_i z ez;cases e;exact .inl (h H₀ O H x lo hi a Q m d od hd h1 ez q)
 ·exact .inr (h' H₀ O H x lo hi a Q m d od hd h1 e q)
theorem E5 {X:Cx}{r r':V→Option Int→Option Int→Hp→VK→Prop} (h:jY X r) (h':jY X r'):jY X (fun x l u H Q=>r x l u H Q∨r' x l u H Q) :=
 fun pins s σ H x v vl vu lo hi sl Q I rx hs pl pu q=>q.elim (h pins s σ H x v vl vu lo hi sl Q I rx hs pl pu) (h' pins s σ H x v vl vu lo hi sl Q I rx hs pl pu)
noncomputable abbrev zf (K:PySem.W.Frag):R2:=fun x y H Q=>dO (fun i j=>.int (i+j)) x y H Q∨(fun x y H Q=>(fun x y H Q=>∃ i j,x=.str i∧y=.str j∧i.length+j.length≤sizeLine∧Q (.str (i++j)) H) x y H Q∨(fun x y H Q=>uL K x y H Q∨uN K x y H Q) x y H Q) x y H Q
noncomputable def bB:=mH G0 (mH nR (mH og uO))
theorem P9 {X:Cx} (h:X.K=K):bu X (binaryOp .Add) (zf K):=zB Ru (zB LC (zB (NT h) (N0 h)))
theorem Qa:JR K (zf K) bB:=yT Sh (yT PZ (yT SD P5))
abbrev IJ (K:PySem.W.Frag):V→Option Int→Option Int→Hp→VK→Prop:=fun x l u H Q=>zg K x l u H Q∨(fun x l u H Q=>zC K x l u H Q∨(fun x lo hi H Q=>∃ z:Str,x=.str z∧z.length≤sizeLine∧Q (.str (Txt.slice z lo hi)) H) x l u H Q) x l u H Q
noncomputable def f9:=qI zv (qI G3 zD)
theorem WR {X:Cx} (h:X.K=K):jY X (IJ K):=by subst h;exact E5 Pb (E5 P6 Se)
theorem U4:k7 K (IJ K) f9:=E4 NC (E4 P7 P8)
noncomputable def rD:D→String
 |.non => "NoneType"
 |.bl _ => "bool"
 |.int _ => "int"
 |.str _ => "str"
 |.ty _ => "type"
 |.tup _ => "tuple"
 |.lst _ => "list"
 |.dk _ => "dict"
 |.dt _ => "dict"
noncomputable def jO:List (M×D)→Option (M×D)
 |[(_,d),(_,.ty T)]=>if rD d = "type" then none else if ["bool", "int", "str", "tuple", "list", "dict"].contains T=true then some (.fr,.bl (rD d==T||(rD d == "bool" && T == "int"))) else none
 |_=>none
end
inductive TyJ (K:PySem.W.Frag) (H:Hp):V→String→Prop where
 |non:TyJ K H .non "NoneType"
 |bl (x:Bool):TyJ K H (.bl x) "bool"
 |int (i:Int):TyJ K H (.int i) "int"
 |str (x:Str):TyJ K H (.str x) "str"
 |lst {a:Addr}{xs:List V} (e:bL K H a xs):TyJ K H (.ref a) "list"
 |tup {a:Addr}{xs:List V} (e:bz K H a xs):TyJ K H (.ref a) "tuple"
 |dK {a:Addr}{ai:List (Key×V)} (e:Rd H a (.dK ai)):TyJ K H (.ref a) "dict"
 |dT {a:Addr}{ai:List (List Key×V)} (e:Rd H a (.dT ai)):TyJ K H (.ref a) "dict"
noncomputable def rE (t T:String):Bool:=t==T||(t == "bool" && T == "int")
theorem S1 (K:PySem.W.Frag) {t T:String} (h1:["NoneType", "bool", "int", "str", "tuple", "list", "dict"].contains t=true) (h2:["bool", "int", "str", "tuple", "list", "dict"].contains T=true):PySem.W.kitOne K (.type t) (.type T)=some (rE t T):=by
 simp only [List.contains_cons,List.contains_nil,Bool.or_false,Bool.or_eq_true,beq_iff_eq] at h1 h2
 rcases h1 with rfl|rfl|rfl|rfl|rfl|rfl|rfl<;>rcases h2 with rfl|rfl|rfl|rfl|rfl|rfl<;>rfl
section
variable {K:PySem.W.Frag}{H H' H₀:Hp}{O O':Addr→Prop}{σ:L2.St}{env:Ev}
theorem S2 {x:V}{t:String} (h:TyJ K H x t):["NoneType", "bool", "int", "str", "tuple", "list", "dict"].contains t=true:=by cases h<;>decide
theorem MD {X:Cx} (hK:X.K=K):gJ X (.builtin "isinstance") (fun xs H Q=>∃ x T t,xs=[x,.ty T]∧TyJ K H x t∧["bool", "int", "str", "tuple", "list", "dict"].contains T=true∧Q (.bl (rE t T)) H):=by
 subst hK
 intro pins s σ H xs us Q I r h
 obtain ⟨x,T,t,rfl,ty,hT,q⟩:=h
 obtain ⟨u,u',rfl,rx,ry⟩:=vals2 r
 cases (show u'=Value.type T from ry)
 have e:=S1 X.K (S2 ty) hT
 have fin:∀ tk,EP X pins σ Q (.bool (rE t T)) { s with toks:=tk }:=fun tk=>⟨.bl (rE t T),H,I.tok tk,rfl,q⟩
 cases ty with
 |non=>cases (show u=Value.none from rx);exact PySem.W.kia_one PySem.W.kitx_none I.fV True.intro e (fun z=>nomatch z) fin
 |bl y=>cases (show u=Value.bool y from rx);exact PySem.W.kia_one PySem.W.kitx_bool I.fV True.intro e (fun z=>nomatch z) fin
 |int i=>obtain ⟨t,q⟩:=(show ∃ t,u=Value.int i t from rx);cases q;exact PySem.W.kia_one PySem.W.kitx_int I.fV True.intro e (fun z=>nomatch z) fin
 |str y=>obtain ⟨t,q⟩:=(show ∃ t,u=Value.str y t from rx);cases q;exact PySem.W.kia_one PySem.W.kitx_str I.fV True.intro e (fun z=>nomatch z) fin
 |@lst a xs ea =>
  cases (show u=Value.ref a from rx)
  obtain ⟨its,_,⟨o,n,h1,h2,_⟩,_⟩:=I.list ea
  exact PySem.W.kia_one PySem.W.kitx_list I.fV ⟨o,h1,h2⟩ e (fun z=>nomatch z) fin
 |@tup a xs ea =>
  cases (show u=Value.ref a from rx)
  obtain ⟨its,_,p,_⟩:=I.tuple ea
  obtain ⟨o,h1,h2,_⟩:=p
  exact PySem.W.kia_one PySem.W.kitx_tuple I.fV ⟨o,h1,h2⟩ e (fun z=>nomatch z) fin
 |@dK a ai ea =>
  cases (show u=Value.ref a from rx)
  obtain ⟨_,_,vs,_,p⟩:=ea.ok I.aD
  obtain ⟨o,es,ep,h1,h2,_⟩:=p
  exact PySem.W.kia_one PySem.W.kitx_dict I.fV ⟨o,h1,h2.1⟩ e (fun z=>nomatch z) fin
 |@dT a ai ea =>
  cases (show u=Value.ref a from rx)
  obtain ⟨_,_,vs,_,o,es,ep,h1,h2,_⟩:=ea.ok I.aD
  exact PySem.W.kia_one PySem.W.kitx_dict I.fV ⟨o,h1,h2.1⟩ e (fun z=>nomatch z) fin
theorem S3 {N:Addr→Prop}{v:V}{d:D} (h:Rp K N H v d) (n:rD d ≠ "type"):TyJ K H v (rD d):=by
 cases h with
 |non=>exact .non
 |bl b=>exact .bl b
 |int i=>exact .int i
 |str x=>exact .str x
 |ty x=>exact absurd rfl n
 |tup h _=>exact .tup h
 |lst h _ _=>exact .lst (.inl h)
 |lstK h _=>exact .lst (.inr h)
 |dk h _ _ _=>exact .dK h
 |dt h _ _ _=>exact .dT h
theorem Qb:j5 K (fun xs H Q=>∃ x T t,xs=[x,.ty T]∧TyJ K H x t∧["bool", "int", "str", "tuple", "list", "dict"].contains T=true∧Q (.bl (rE t T)) H) jO:=by
 intro H₀ O H vs aA Q m d _ _ hv h q
 unfold jO at h
 split at h
 ·split at h
  ·cases h
  ·rename_i hn
   split at h
   ·rename_i hT
    cases h
    obtain ⟨v,w,rfl,hx,hw⟩:=hv.two
    obtain rfl:=hw.ty
    exact ⟨v,_,_,rfl,S3 hx.weak hn,hT,q _ H (aH.refl H) fm⟩
   ·cases h
 ·cases h
end
section
variable {K:PySem.W.Frag}{H:Hp}
theorem xV {N:Addr→Prop}:∀ (ns:List Int),ax K N H (ns.map V.int) (ns.map D.int)
 |[]=>.nil
 |n::ns=>.cons (.int n) (xV ns)
theorem S4 {F:List D→Option (M×D)}{a:Addr}{ns:List Int}{E:XK} (h:bL K H a (ns.map V.int)) (e:∃ m,F [.lst (ns.map .int)]=some (m,.bl true)):mG K 1 F [.ref a] H (fun v _=>v=.bl true) E:=by
 obtain ⟨m,e⟩:=e
 refine ⟨rfl,_,m,_,.cons ?_ .nil,e,fun v H' _ r=>?_⟩
 ·rcases h with h|h
  ·exact .lst h trivial (xV ns)
  ·exact .lstK h (xV ns)
 ·cases m<;>try exact r.elim
  ·exact Rp.E2 r
  ·obtain ⟨p,_,_,c⟩:=r;exact c.elim
end
section
variable {m n:M}{i j:Int}{x y:Str}{b c:Bool}{ds es:List D}{d:D}
theorem lJ:aN (m,.int i) (n,.int j)=some (.fr,.bl (decide (i=j))):=by simp [aN,dA,jK]
theorem cT:aN (m,.str x) (n,.str y)=some (.fr,.bl (decide (x=y))):=by simp [aN,dA,jK]
theorem U5:aN (m,.str x) (n,.int j)=some (.fr,.bl false):=by simp [aN,dA,jK]
theorem Ga:hU (m,.int i) (n,.int j)=some (.fr,.bl (!decide (i=j))):=by simp [hU,dA,jK]
theorem Gb:hU (m,.str x) (n,.str y)=some (.fr,.bl (!decide (x=y))):=by simp [hU,dA,jK]
theorem nE:bB (m,.int i) (n,.int j)=some (.fr,.int (i+j)):=rfl
theorem ur (h:x.length+y.length≤sizeLine):bB (m,.str x) (n,.str y)=some (.fr,.str (x++y)):=by
 show (match (none:Option (M×D)) with|some z=>some z|none=>mH nR (mH og uO) (m,.str x) (n,.str y))=_
 show (match nR (m,.str x) (n,.str y) with|some z=>some z|none=>_)=_
 simp only [nR,if_pos h]
theorem yp (hm:aV m≠.rb) (hn:aV n≠.rb) (h:ds.length+es.length≤sizeLine):bB (m,.lst ds) (n,.lst es)=eO (mJ m n) (ds++es):=by
 show (match og (m,.lst ds) (n,.lst es) with|some z=>some z|none=>none)=_
 simp only [og,hm,hn,or_self,if_false,h,if_true]
 cases eO (mJ m n) (ds++es)<;>rfl
theorem yq:gR (m,.int i) (n,.int j)=some (.fr,.int (i-j)):=rfl
theorem mul_r (h:-18446744073709551616 < j∧j < 18446744073709551616):dZ (m,.int i) (n,.int j)=some (.fr,.int (i*j)):=by show (if _ then _ else _)=_;rw [if_pos (.inr h)]
theorem Gd (h:-18446744073709551616 < i∧i < 18446744073709551616):dZ (m,.int i) (n,.int j)=some (.fr,.int (i*j)):=by show (if _ then _ else _)=_;rw [if_pos (.inl h)]
theorem jz (h:0 < j):aS (m,.int i) (n,.int j)=some (.fr,.int (i%j)):=by show (if _ then _ else _)=_;rw [if_pos h]
theorem div_ii (h:0 < j∧j < 1606938044258990275541962092341162602522202993782792835301376):bW (m,.int i) (n,.int j)=some (.fr,.int (i / j)):=by show (if _ then _ else _)=_;rw [if_pos h]
theorem yr (h:0≤j∧j≤1000000∧i.natAbs < 2 ^ 64):gn (m,.int i) (n,.int j)=some (.fr,.int (i ^ j.toNat)):=by show (if _ then _ else _)=_;rw [if_pos h]
theorem S5 (h:0≤j∧j≤1000000∧i.natAbs < 2 ^ 64):lT (m,.int i) (n,.int j)=some (.fr,.int (i*2 ^ j.toNat)):=by show (if _ then _ else _)=_;rw [if_pos h]
theorem U6:gn (m,.int 2) (n,.int 64)=some (.fr,.int 18446744073709551616):=by
 rw [yr (by decide)]
 have:(2:Int) ^ (64:Int).toNat=18446744073709551616:=by decide
 rw [this]
theorem U7:fw (m,.int i) (n,.int j)=some (.fr,.bl (decide (i < j))):=rfl
theorem U8:oK (m,.int i) (n,.int j)=some (.fr,.bl (decide (i≤j))):=rfl
theorem nS:gB (m,.int i) (n,.int j)=some (.fr,.bl (decide (j < i))):=rfl
theorem D8:gM (m,.int i) (n,.int j)=some (.fr,.int (Builtin.bitAnd i j)):=rfl
theorem E6:lX (m,.int i) (n,.int j)=some (.fr,.int (Builtin.bitOr i j)):=rfl
theorem lK:ft (m,.int i)=some (.fr,.int (-i)):=rfl
theorem U9:kN (m,.int i)=some (.fr,.int (Builtin.bitNot i)):=rfl
theorem cN:ak (m,.lst ds) (n,.int i)=(bw ds i).map fun d=>(aV m,d):=rfl
theorem Va (h:x.length≤sizeLine):ak (m,.str x) (n,.int i)=(bw x.cps.toList i).map fun c=>(.fr,.str ⟨#[c]⟩):=by simp [ak,h]
theorem cU:bq [(m,.lst ds)]=some (.fr,.int ds.length):=rfl
theorem Vb:kK [(m,.bl b)]=some (.fr,.int (if b then 1 else 0)):=rfl
theorem bf:k6 (m,.bl b)=some b:=rfl
theorem iR:lU (m,.int i)=some i:=rfl
theorem fN:nD (.fr,d)=some (.fr,d):=rfl
theorem Qc:nD (.al,d)=some (.al,d):=rfl
theorem fO:nD (.un,d)=some (.bo,d):=rfl
theorem nF {e:Ev}:out (.rt e .fr d)=some (.fr,d):=rfl
theorem yt {e:Ev}:out (.rt e .un d)=some (.un,d):=rfl
theorem yu {e:Ev}:out (.rt e .bo d)=some (.un,d):=rfl
theorem E7 {e:Ev} (h:d.bR=true):out (.rt e .al d)=some (.fr,d):=by simp [out,h]
theorem eV:cR .fr d=true:=rfl
theorem uv:cR .al d=d.bR:=rfl
theorem oi:D.bR (.int i)=true:=by simp only [D.bR]
theorem G4:D.bR (.str x)=true:=by simp only [D.bR]
theorem cS:aV .al=.al:=rfl
theorem km:aV .fr=.fr:=rfl
theorem S6:aV .un=.fr:=rfl
theorem jA:aV .bo=.fr:=rfl
theorem S7 (h:D.cP ds=true):eO .al ds=some (.un,.lst ds):=by simp [eO,aV,h]
theorem yv:eO .fr ds=some (.un,.lst ds):=by simp [eO,aV]
theorem S8:eO .bo ds=some (.un,.lst ds):=by simp [eO,aV]
theorem av {f g:Ev→Option Fl}{e e':Ev} (h:f e=some (.nx e')):aj f g e=g e':=by simp [aj,h]
theorem dC {f g:Ev→Option Fl}{e e':Ev} (h:f e=some (.rt e' m d)):aj f g e=some (.rt e' m d):=by simp [aj,h]
theorem bh {c:Ev→Option Bool}{f g:Ev→Option Fl}{e:Ev} (h:c e=some true):aM c f g e=f e:=by simp [aM,h]
theorem bK {c:Ev→Option Bool}{f g:Ev→Option Fl}{e:Ev} (h:c e=some false):aM c f g e=g e:=by simp [aM,h]
theorem xC:∀ ns:List Int,D.cP (ns.map .int)=true
 |[]=>by simp only [List.map_nil,D.cP]
 |n::ns=>by simp only [List.map_cons,D.cP,D.bR,xC ns,Bool.and_self]
theorem lA {α:Type}{l:List α}{k:Nat} (h:k < l.length):L2.bw l (k:Int)=some l[k]:=by
 unfold L2.bw L2.df
 rw [if_pos (Int.natCast_nonneg k),if_pos (by omega)]
 simp [h]
theorem gF {α:Type}{l:List α}{k:Int} (h0:0≤k) (h1:k < l.length):L2.bw l k=some (l[k.toNat]'(by omega)):=by
 unfold L2.bw L2.df
 rw [if_pos h0,if_pos h1]
 have:k.toNat < l.length:=by omega
 simp [this]
theorem C8 {ns:List Int}{k:Int} (h0:0≤k) (h1:k < ns.length):∃ c,L2.bw (ns.map D.int) k=some (.int c):=by
 rw [gF h0 (by simpa using h1)]
 exact ⟨ns[k.toNat]'(by omega),by simp⟩
end
theorem cL {g:M×D→Ev→Option Ev}{b:Ev→Option Fl}{m:M}:∀ {ds:List D}{e:Ev} (Iv:Nat→Ev→Prop),Iv 0 e →
  (∀ (k:Nat) d e,ds[k]?=some d→Iv k e→∃ e1 e2,g (m,d) e=some e1∧b e1=some (.nx e2)∧Iv (k+1) e2)→∃ e',forL g b m ds e=some (.nx e')∧Iv ds.length e'
 |[],e,Iv,h0,_=>⟨e,rfl,h0⟩
 |d::ds,e,Iv,h0,hs=>by
  obtain ⟨e1,e2,h1,h2,h3⟩:=hs 0 d e rfl h0
  obtain ⟨e',h4,h5⟩:=cL (ds:=ds) (e:=e2) (fun k e=>Iv (k+1) e) h3 fun k d e hd hi=>hs (k+1) d e (by simpa using hd) hi
  refine ⟨e',?_,h5⟩
  simp only [forL,h1,h2,Option.bind_some]
  exact h4
theorem jD {lo:Int}{n k:Nat}{d:D} (h:(bO lo n)[k]?=some d):k < n∧d=.int (lo+k):=by
 unfold bO at h
 rw [List.getElem?_map] at h
 have hk:k < n:=by
  rcases Nat.lt_or_ge k n with z|z
  ·exact z
  ·rw [List.getElem?_eq_none (by simpa using z)] at h;cases h
 rw [List.getElem?_range hk] at h
 cases h
 exact ⟨hk,rfl⟩
theorem ig {lo:Int}{n:Nat}:(bO lo n).length=n:=by simp [bO]
theorem CD {c:Ev→Option Bool}{b:Ev→Option Fl}{e:Ev} (Iv:Ev→Prop) (μ:Ev→Nat) (h0:Iv e)
  (hs:∀ e,Iv e→c e=some false∨(c e=some true∧∃ e2,b e=some (.nx e2)∧Iv e2∧μ e2 < μ e)):∃ e',gi c b e=some (.nx e')∧Iv e'∧c e'=some false:=by
 have:∀ (n:Nat) e,μ e≤n→Iv e→∃ e',cM c b (n+1) e=some (.nx e')∧Iv e'∧c e'=some false:=by
  intro n
  induction n with
  |zero =>
   intro e hn hi
   rcases hs e hi with h|⟨_,e2,_,_,h⟩
   ·exact ⟨e,by simp [cM,h],hi,h⟩
   ·omega
  |succ n ih =>
   intro e hn hi
   rcases hs e hi with h|⟨h,e2,h1,h2,h3⟩
   ·exact ⟨e,by simp [cM,h],hi,h⟩
   ·obtain ⟨e',q1,q2,q3⟩:=ih e2 (by omega) h2
    refine ⟨e',?_,q2,q3⟩
    rw [cM,h,Option.bind_some,if_pos rfl,h1,Option.bind_some]
    exact q1
 obtain ⟨e',h1,h2,h3⟩:=this (μ e) e (Nat.le_refl _) h0
 exact ⟨e',xB h1,h2,h3⟩
theorem IK {n:Nat} (h:n≤1000):(n≤sizeLine)=True:=eq_true (Nat.le_trans h (by decide))
end J
namespace J
open PySem PySem.Spec PyProof.Rows L2
section
variable {X:Cx}{pins:List (Addr×Obj)}{σ:L2.St}{H:Hp}{s:Shared}{h':Heap}
theorem LY {fp:List Addr}{t':Nat} (I:L2.Inv X pins σ H s) (k:∀ b o,b∉fp→s.heap.get? b=some o→h'.get? b=some o) (hf:∀ b∈fp,iZ X pins H b):L2.Inv X pins σ H { s with heap:=h',toks:=t' }:=by
 have kR:∀ b u,H b=some u→b∉fp:=fun b u e z=>by rw [(hf b z).1] at e;cases e
 refine I.step (g':=s.gens) (d':=s.drawn) (ch:=fp) (fun b hb=>?_) (fun b o _ _ hc e _=>k b o hc e) (fun b o _ _ hc e _=>⟨o.slots,k b o hc e⟩) (fun _ _ _ _ n=>n)
  (fun b o hc e=>⟨o,k b o hc e⟩) (fun _ _ e=>e) (fun _ _ _ e=>e) (fun b ps e=>⟨#[],by rw [e];simp⟩) (fun m hm=>?_) (fun b u e=>?_) I.bare
 ·obtain ⟨f0,f1,f2,f3,f4,f5⟩:=hf b hb
  exact ⟨f3,f1,f4,f5⟩
 ·obtain ⟨o,es,ep,ho,r⟩:=hm
  exact ⟨o,es,ep,k _ o (fun z=>(hf _ z).2.1 rfl) ho,r⟩
 ·refine (I.aD b u e).ky (fun c v hc q=>k c v ?_ q) (fun _ q=>q) fun _ _ q=>q
  rcases hc with z|z
  ·rw [z];exact kR b u e
  ·exact kR c _ z
theorem Lk {fp:List Addr}{t':Nat}{o:HO} (I:L2.Inv X pins σ H s) (k:∀ b o,b∉fp→s.heap.get? b=some o→h'.get? b=some o) (hf:∀ b∈fp,iZ X pins H b) (new:b0 X.prog X.w (upd H s.heap.objs.size o) h' s.heap.objs.size o) :
  L2.Inv X pins σ (upd H s.heap.objs.size o) { s with heap:=h',toks:=t' }:=by
 have kR:∀ b u,H b=some u→b∉fp:=fun b u e z=>by rw [(hf b z).1] at e;cases e
 have hT:H s.heap.objs.size=none:=I.aD.fresh (Nat.le_refl _)
 have neT:∀ b u,H b=some u→b≠s.heap.objs.size:=fun b u e=>dW e hT
 have XS:∀ b o,s.heap.get? b=some o→b≠s.heap.objs.size:=fun b o e=>Nat.ne_of_lt (Heap.lt_size e)
 refine I.step (g':=s.gens) (d':=s.drawn) (ch:=fp) (fun b hb=>?_) (fun b o _ _ hc e _=>k b o hc e) (fun b o _ _ hc e _=>⟨o.slots,k b o hc e⟩) (fun b o _ e n=>by rw [aG (XS b o e)];exact n)
  (fun b o hc e=>⟨o,k b o hc e⟩) (fun b xs e=>by rw [aG (neT b _ e)];exact e) (fun b _ _ e=>by rw [aG (neT b _ e)];exact e) (fun b ps e=>⟨#[],by rw [aG (neT b _ e),e];simp⟩) (fun m hm=>?_) (fun b u e=>?_) I.bare
 ·obtain ⟨f0,f1,f2,f3,f4,f5⟩:=hf b hb
  exact ⟨f3,f1,f4,f5⟩
 ·obtain ⟨o,es,ep,ho,r⟩:=hm
  exact ⟨o,es,ep,k _ o (fun z=>(hf _ z).2.1 rfl) ho,r⟩
 ·by_cases hb:b=s.heap.objs.size
  ·subst hb;rw [bF] at e;cases e;exact new
  ·rw [aG hb] at e
   refine (I.aD b u e).ky (fun c v hc q=>k c v ?_ q) (fun c q=>by rw [aG (neT c _ q)];exact q) fun c xs q=>by rw [aG (neT c _ q)];exact q
   rcases hc with z|z
   ·rw [z];exact kR b u e
   ·exact kR c _ z
end
noncomputable def Ao (K:PySem.W.Frag) (a:Addr):It :=
 ⟨fun i H=>∃ xs x,bL K H a xs∧xs[i]?=some x,fun i H x H'=>∃ t y,x=.ref t∧H t=none∧H'=upd H t (.tup [.int i,y])∧∀ xs,bL K H a xs→xs[i]?=some y,fun i H=>∃ xs,bL K H a xs∧xs.length≤i⟩
theorem MF {P:Program}{w:World}{K:PySem.W.Frag}{elts:List Expr} {x1} {pos:Pos} (a e it:Addr) (jh:e≠it):Turn P w K (.Tuple elts x1 pos) (Ao K a) [e,it] e (fun i h=>(∃ old,IsEnum h e it i old)∧h.IsListIter it a i) where
 mem:=by simp
 obj:=fun i h st b hb=>by
  obtain ⟨⟨old,he⟩,o,ho,c,d⟩:=st
  rcases List.mem_cons.mp hb with rfl|hb
  ·exact ⟨_,he,fun v z=>nomatch z⟩
  ·have e:b=it:=by simpa using hb
   subst e
   exact ⟨o,ho,fun v z=>by rw [d] at z;cases z⟩
 keep:=fun i h h' st k=>by
  obtain ⟨⟨old,he⟩,hit⟩:=st
  exact ⟨⟨old,k e (by simp) _ he⟩,hit.at fun o q=>k it (by simp) o q⟩
 item:=by
  intro X hP hw hK hc i pins s σ H E I hf st hg
  subst hP hw hK
  obtain ⟨xs,x,hq,hx⟩:=hg
  obtain ⟨its,rv,p,hz⟩:=I.list hq
  obtain ⟨u,hu,ru⟩:=rv.get hx
  obtain ⟨⟨old,he⟩,hit⟩:=st
  have Ap:e < s.heap.objs.size:=Heap.lt_size he
  have XT:it < s.heap.objs.size:=by obtain ⟨_,q,_⟩:=hit;exact Heap.lt_size q
  have hT:H s.heap.objs.size=none:=I.aD.fresh (Nat.le_refl _)
  refine wpAny_pyNext_enum_item he hit p.isList (x:=u) (by simpa using hu) jh fun h1 ho WT ht hsz hk=>⟨_,rfl,?_⟩
  refine wpAny_letOwnedTupleGo_enum ho fun h2 Aq sb=>?_
  have XU:h2.get? s.heap.objs.size=some { cls:=.type "tuple",data:=.seq #[.int i s.toks,u] }:=(sb.2 _ (Nat.ne_of_gt Ap)).trans ht
  have k2:∀ b o,b∉[e,it]→s.heap.get? b=some o→h2.get? b=some o:=fun b o nb q=>by
   have n1:b≠e:=fun z=>nb (by simp [z])
   have n2:b≠it:=fun z=>nb (by simp [z])
   exact (sb.2 b n1).trans (hk b o n1 n2 q)
  refine ⟨.ref s.heap.objs.size,upd H s.heap.objs.size (.tup [.int i,x]),?_,rfl,⟨s.heap.objs.size,x,rfl,hT,rfl,fun ys hy=>by rw [I.tO hy hq];exact hx⟩,⟨⟨_,by simpa using Aq⟩,WT.at fun o q=>(sb.2 it jh.symm).trans q⟩,fun b hb=>?_⟩
  ·refine Lk (t':=s.toks+1) I k2 hf ⟨by show 2≤sizeLine;decide,[.int i s.toks,u],.cons ⟨_,rfl⟩ (.cons ru .nil),⟨_,XU,rfl,_,rfl⟩⟩
  ·have oO:b < s.heap.objs.size:=by
    rcases List.mem_cons.mp hb with rfl|hb
    ·exact Ap
    ·have e:b=it:=by simpa using hb
     rw [e];exact XT
   rw [aG (Nat.ne_of_lt oO)]
   exact (hf b hb).1
 done:=by
  intro X hP hw hK hc i pins s σ H E I hf st hg
  subst hP hw hK
  obtain ⟨xs,hq,hx⟩:=hg
  obtain ⟨its,rv,p,hz⟩:=I.list hq
  obtain ⟨⟨old,he⟩,hit⟩:=st
  have hl:=rv.length
  refine wpAny_pyNext_enum_end (I.ok.hd hc) he hit p.isList (by simp;omega) fun h1 eb=>⟨rfl,?_⟩
  exact LY (fp:=[e,it]) (t':=s.toks) I (fun b o nb q=>eb b o (fun z=>nb (by simp [z])) q) hf
 self:=fun A i s Q E st h=>by
  obtain ⟨⟨old,he⟩,_⟩:=st
  exact wpAny_pyIter_enum he h
section
variable {X:Cx}
noncomputable def yU (K:PySem.W.Frag) (ta:TA):TI:=fun σ H R=>ta σ H fun vs H1=>∃ a xs,vs=[.ref a]∧bL K H1 a xs∧R (Ao K a) H1
theorem Qe {a:Expr}{ta:TA}{p pos pos':Pos}{elts:List Expr} {x1} (hg:Gl X "enumerate") (hm:X.mg "enumerate" = none) (ha:PA X [a] ta) (hs:starEach [a] X.env=[(false,eval a X.env)]:=by rfl):PI X (.Tuple elts x1 pos') (.Call (.Name "enumerate" p) [a] [] pos) (yU X.K ta):=by
 intro pins s σ H R I h
 refine Call_ (kj I hg hm PyProof.Rows.Boot.«enumerate» (PyProof.Rows.callWith_type1 (aF (ha pos pins s σ H _ I h) fun us s1 ⟨vs,H1,I1,r1,q1⟩=>?_) hs rfl))
 obtain ⟨l,xs,e,hq,q⟩:=q1
 subst e
 cases r1 with
 |cons r rr =>
  cases rr
  cases r
  obtain ⟨its,rv,pl,hz⟩:=I1.list hq
  refine call_enumerate_list pl.isList fun h1 he hit hsz hk=>?_
  have I2:L2.Inv X pins σ H1 { s1 with heap:=h1 }:=I1.kept (t':=s1.toks) hk
  refine wpAny_pyIter_enum he ?_
  have n1:s1.heap.objs.size+1≠s1.heap.objs.size:=by omega
  refine ⟨s1.heap.objs.size+1,[s1.heap.objs.size+1,s1.heap.objs.size],_,_,H1,rfl,I2,MF l _ _ n1,⟨⟨_,he⟩,hit⟩,fun b hb=>?_,q⟩
  have oO:s1.heap.objs.size≤b:=by
   rcases List.mem_cons.mp hb with rfl|hb
   ·omega
   ·have e:b=s1.heap.objs.size:=by simpa using hb
    exact Nat.le_of_eq e.symm
  have z:=I1.nX (H':=H1) oO (I1.aD.fresh oO)
  exact z
theorem N1 {K:PySem.W.Frag}{a:Expr}{ta:TA}{p pos pos':Pos}{elts:List Expr} {x1} (hK:X.K=K) (hg:Gl X "enumerate") (hm:X.mg "enumerate" = none) (ha:PA X [a] ta) (hs:starEach [a] X.env=[(false,eval a X.env)]:=by rfl):PI X (.Tuple elts x1 pos') (.Call (.Name "enumerate" p) [a] [] pos) (yU K ta):=by subst hK;exact Qe hg hm ha hs
end
noncomputable def bG (ds:List D):List D:=ds.mapIdx fun i d=>.tup [.int i,d]
noncomputable def eQ (fs:Ev→Option (List (M×D))):Ev→Option (M×List D):=fun e=>(fs e).bind fun l=>match l with
 |[(m,.lst ds)]=>(bV m).map fun n=>(n,bG ds)
 |_=>none
section
variable {K:PySem.W.Frag}{H H' H₀:Hp}{O O':Addr→Prop}{σ:L2.St}{env:Ev}
theorem MG {a:Addr}{xs:List V}{ds:List D}{n:M} (e:eC n=true) (on:∀ a o,O a→H a=some o→¬ hG o) (hr:(Rd H a (.lst xs)∧¬ O a)∨vL K a xs) (r:ax K (NM H₀ O n) H xs ds):jN K H₀ O (Ao K a) H n (bG ds):=by
 have st:∀ {O2:Addr→Prop}{H2:Hp},aO O H O2 H2→bL K H2 a xs:=fun {O2 H2} s=>by
  rcases hr with ⟨h|⟨o,h⟩,ha⟩|h
  ·exact .inl (.inl (s _ _ h ha).1)
  ·exact .inl (.inr ⟨o,(s _ _ h ha).1⟩)
  ·exact .inr h
 have l:(bG ds).length=ds.length:=by simp [bG]
 refine ⟨fun O2 H2 i s hi=>?_,fun O2 H2 i x H3 s hi y=>?_,fun O2 H2 s=>⟨xs,st s,by rw [r.len,l];exact Nat.le_refl _⟩⟩
 ·rw [l] at hi
  exact ⟨xs,xs[i]'(by rw [r.len];exact hi),st s,by simp⟩
 ·rw [l] at hi
  obtain ⟨t,z,rfl,ht,rfl,y⟩:=y
  have y:=y xs (st s)
  obtain ⟨v,hv,rv⟩:=r.get (i:=i) (d:=ds[i]) (by simp [hi])
  rw [y] at hv;cases hv
  have sm:aH H2 (upd H2 t (.tup [.int i,z])):=cE ht
  have hz:=(uc e on s rv).keep sm
  refine ⟨sm,.tup [.int i,ds[i]],by simp [bG,hi],?_⟩
  cases n
  ·exact Rp.tup (bz.of bF) (.cons (.int _) (.cons hz .nil))
  ·exact Rp.tup (bz.of bF) (.cons (.int _) (.cons hz .nil))
  ·cases e
  ·cases e
  ·cases e
  ·cases e
  ·cases e
theorem Qf {t:TA}{fs:Ev→Option (List (M×D))} (h:hR K t fs):JI K (yU K t) (eQ fs):=by
 intro H₀ O H σ env R m ds Re e q
 obtain ⟨l,el,e⟩:=ay e
 split at e
 ·rename_i m0 d0
  cases em:bV m0 with
  |none=>rw [em] at e;cases e
  |some n =>
   rw [em] at e;cases e
   refine h H₀ O H σ env _ _ Re el fun vs H1 s1 h1=>?_
   obtain ⟨v,rfl,hv⟩:=h1.one
   obtain ⟨e1,a,xs,rfl,hr,r⟩:=D4 em hv
   exact ⟨a,xs,rfl,hr.elim (fun z=>.inl z.1) .inr,q _ H1 s1 e1 (MG e1 (Re.keep s1).on hr r)⟩
 ·cases e
end
end J
namespace J
open PySem L2
noncomputable def gD:D→Bool
 |.lst ds=>D.cP ds
 |.dk ks=>D.cP (ks.map (·.2))
 |.dt ks=>D.cP (ks.map (·.2))
 |_=>false
def iL (io:List Nat) (vs:List V) (a:Addr):Prop:=∃ i,i∈io∧vs[i]?=some (.ref a)
structure uw (K:PySem.W.Frag) (H:Hp) (io:List Nat) (vs:List V) (ds:List D):Prop where
 len:vs.length=ds.length
 rd:∀ (i:Nat) v d,i∉io→vs[i]?=some v→ds[i]?=some d→Rp K (fun a=>¬ iL io vs a) H v d
 cl:∀ (i:Nat) d,i∈io→ds[i]?=some d→∃ p,vs[i]?=some (.ref p)∧Cell K (fun _=>False) H p d
 dj:∀ (i j:Nat) p,i∈io→j∈io→vs[i]?=some (.ref p)→vs[j]?=some (.ref p)→i=j
noncomputable def iQ (io:List Nat) (ds:List D):Ev:=ds.mapIdx fun i d=>some (if i∈io then M.bi else M.al,d)
section
variable {K:PySem.W.Frag}{H H' H₀:Hp}{I:Nat→Option Addr}{O O':Addr→Prop}{σ:L2.St}{env:Ev}
theorem Cell.im {N N':Addr→Prop}{p:Addr}{d:D} (e:gD d=true) (h:Cell K N H p d):Cell K N' H p d:=by
 cases d<;>simp only [gD] at e<;>try (cases e;done)
 ·obtain ⟨xs,q,r⟩:=h;exact ⟨xs,q,r.im e⟩
 ·obtain ⟨xs,q,z,r⟩:=h;exact ⟨xs,q,z,r.im e⟩
 ·obtain ⟨xs,q,z,r⟩:=h;exact ⟨xs,q,z,r.im e⟩
theorem Ln {io:List Nat}{N:List Str}{vs:List V}{ds:List D} (A:uw K H io vs ds):∃ I0:Nat→Option Addr,(∀ {i p},I0 i=some p→i∈io∧vs[i]?=some (.ref p))∧Rel K H I0 (iL io vs) H (L2.start N vs) (iQ io ds++List.replicate (N.length-ds.length) none):=by
 let I0:Nat→Option Addr:=fun i=>if i∈io then (match vs[i]? with|some (.ref p)=>some p|_=>none) else none
 have oP:∀ {i p},I0 i=some p→i∈io∧vs[i]?=some (.ref p):=fun {i p} z=>by
  simp only [I0] at z
  split at z
  ·rename_i hi
   split at z
   ·rename_i w hw;cases z;exact ⟨hi,hw⟩
   ·cases z
  ·cases z
 have IL:∀ {i p},i∈io→vs[i]?=some (.ref p)→I0 i=some p:=fun {i p} hi hv=>by simp only [I0,if_pos hi,hv]
 have qe:∀ {i:Nat}{y:M×D},(iQ io ds++List.replicate (N.length-ds.length) none)[i]?=some (some y)→ds[i]?=some y.2∧y.1=(if i∈io then M.bi else M.al):=fun {i y} z=>by
  rw [List.getElem?_append] at z
  split at z
  ·rename_i hi
   simp only [iQ,List.getElem?_mapIdx,List.length_mapIdx] at z hi
   rw [List.getElem?_eq_getElem hi] at z ⊢
   simp only [Option.map_some,Option.some.injEq] at z
   subst z;exact ⟨rfl,rfl⟩
  ·have:=List.mem_of_getElem? z
   have:=List.eq_of_mem_replicate this
   cases this
 have vj:∀ {i:Nat}{v:V},vs[i]?=some v→(L2.start N vs)[i]?=some (some v):=fun {i v} z=>by
  unfold L2.start
  have hi:i < vs.length:=(List.getElem?_eq_some_iff.mp z).1
  rw [List.getElem?_append_left (by simpa using hi),List.getElem?_map,z];rfl
 refine ⟨I0,oP,?_⟩
 show Rel K H I0 (iL io vs) H (L2.start N vs) (iQ io ds++List.replicate (N.length-ds.length) none)
 refine ⟨⟨lj ?_ ?_,?_,fun a o e=>⟨o,e⟩,?_⟩,fun a o _ e=>e,?_,?_,?_,?_⟩
 ·unfold L2.start iQ;simp [A.len]
 ·intro j y z hy hz m' d' ey
  subst ey
  obtain ⟨hd,hm⟩:=qe hy
  have hj:j < vs.length:=by rw [A.len];exact (List.getElem?_eq_some_iff.mp hd).1
  have hv:vs[j]?=some vs[j]:=List.getElem?_eq_getElem hj
  rw [vj hv] at hz;cases hz
  simp only at hm hd
  by_cases hi:j∈io
  ·rw [if_pos hi] at hm;subst hm
   obtain ⟨p,hp,c⟩:=A.cl j d' hi hd
   rw [hv] at hp
   refine ⟨rfl,_,rfl,p,Option.some.inj hp,⟨j,hi,by rw [hv,hp]⟩,c.wk fun _ z _=>z.elim⟩
  ·rw [if_neg hi] at hm;subst hm
   exact ⟨rfl,_,rfl,A.rd j _ d' hi hv hd⟩
 ·rintro a ⟨i,hi,hv⟩
  have aU:i < ds.length:=by rw [←A.len];exact (List.getElem?_eq_some_iff.mp hv).1
  obtain ⟨p,hp,c⟩:=A.cl i ds[i] hi (List.getElem?_eq_getElem aU)
  rw [hv] at hp;cases hp
  obtain ⟨o,eo,_⟩:=c.some
  exact ⟨o,eo⟩
 ·rintro a o ⟨i,hi,hv⟩ eo
  have aU:i < ds.length:=by rw [←A.len];exact (List.getElem?_eq_some_iff.mp hv).1
  obtain ⟨p,hp,c⟩:=A.cl i ds[i] hi (List.getElem?_eq_getElem aU)
  rw [hv] at hp;cases hp
  obtain ⟨o',IQ,nt⟩:=c.some
  rw [eo] at IQ;cases IQ;exact nt
 ·rintro a ⟨i,hi,hv⟩;exact .inl ⟨i,IL hi hv⟩
 ·intro i d' p h1 p1
  obtain ⟨hd,hm⟩:=qe h1
  by_cases hi:i∈io
  ·obtain ⟨p',hp,_⟩:=A.cl i d' hi hd
   rw [vj hp] at p1;cases p1
   exact IL hi hp
  ·rw [if_neg hi] at hm;cases hm
 ·intro i j y z p h1 h2 o1 o2 p1 p2
  obtain ⟨d1,m1⟩:=qe h1
  obtain ⟨d2,m2⟩:=qe h2
  have hi:i∈io:=by
   by_cases hi:i∈io
   ·exact hi
   ·rw [if_neg hi] at m1;rw [m1] at o1;cases o1
  have hj:j∈io:=by
   by_cases hj:j∈io
   ·exact hj
   ·rw [if_neg hj] at m2;rw [m2] at o2;cases o2
  obtain ⟨q1,IU,_⟩:=A.cl i _ hi d1
  obtain ⟨q2,my,_⟩:=A.cl j _ hj d2
  rw [vj IU] at p1;cases p1
  rw [vj my] at p2;cases p2
  exact A.dj i j p hi hj IU my
 ·have no:∀ {i:Nat}{d:D},(iQ io ds++List.replicate (N.length-ds.length) none)[i]?=some (some (M.nb,d))→False:=fun {i d} z=>by
   obtain ⟨_,hm⟩:=qe z
   simp only at hm
   split at hm<;>cases hm
  exact ⟨fun i j d d' h1=>(no h1).elim,fun i j d x p q xs h1=>(no h1).elim⟩
end
section
variable {K:PySem.W.Frag}{H H' H₀:Hp}{I:Nat→Option Addr}{O O':Addr→Prop}{σ:L2.St}{env:Ev}
def k8 (K:PySem.W.Frag) (ta:TA) (fs:Ev→Option (List (M×D))) (pos:List (Nat×Nat)):Prop :=
 ∀ H₀ O H σ env Q aA,dw K H₀ O H σ env→fs env=some aA→(∀ vs H',aH H H'→fC K H₀ O H H' aA vs→(∀ ij∈pos,∃ v x,vs[ij.1]?=some v∧σ[ij.2]?=some (some v)∧env[ij.2]?=some (some x)∧aA[ij.1]?=some x)→Q vs H')→ta σ H Q
theorem Qg:k8 K kz ah []:=by
 intro H₀ O H σ env Q aA R h q
 cases h
 exact q [] H (aH.refl H) .nil (fun _ z=>nomatch z)
noncomputable def vQ (pos:List (Nat×Nat)):List (Nat×Nat):=pos.map fun ij=>(ij.1+1,ij.2)
theorem N2 {te:TE}{ta:TA}{f:Ev→Option (M×D)}{g:Ev→Option (List (M×D))}{pos:List (Nat×Nat)} (hf:JT K te f) (hg:k8 K ta g pos):k8 K (lF te ta) (ae f g) (vQ pos):=by
 intro H₀ O H σ env Q aA R h q
 obtain ⟨x,ex,h⟩:=ay h
 obtain ⟨r,er,h⟩:=ay h
 cases h
 refine hf H₀ O H σ env _ x.1 x.2 R ex fun v H1 s1 h1=>?_
 refine hg H₀ O H1 σ env _ r (R.keep s1) er fun vs H2 s2 h2 hp=>?_
 refine q (v::vs) H2 (s1.trans s2) (.cons (h1.keep s2) (kr (fun _ _ z=>z.hb fun a z=>s1.free z) h2)) (fun ij mI=>?_)
 obtain ⟨Ar,hm,rfl⟩:=List.mem_map.mp mI
 obtain ⟨w,y,a,b,c,d⟩:=hp Ar hm
 exact ⟨w,y,by simpa using a,b,c,by simpa using d⟩
theorem Qh {i:Nat}{ta:TA}{g:Ev→Option (List (M×D))}{pos:List (Nat×Nat)} (hg:k8 K ta g pos):k8 K (lF (fQ i) ta) (ae (jV i) g) ((0,i)::vQ pos):=by
 intro H₀ O H σ env Q aA R h q
 obtain ⟨x,ex,h⟩:=ay h
 obtain ⟨r,er,h⟩:=ay h
 cases h
 have ei:env[i]?=some (some x):=by
  unfold jV at ex
  cases e:env[i]? with
  |none=>rw [e] at ex;cases ex
  |some z=>rw [e] at ex;exact congrArg some ex
 obtain ⟨v,hv,n,hm⟩:=R.at ei
 refine ⟨v,hv,?_⟩
 refine hg H₀ O H σ env _ r R er fun vs H2 s2 h2 hp=>?_
 refine q (v::vs) H2 s2 (.cons ((hm.F5 n).keep s2) h2) (fun ij mI=>?_)
 rcases List.mem_cons.mp mI with rfl|mI
 ·exact ⟨v,x,rfl,hv,ei,rfl⟩
 ·obtain ⟨Ar,hm,rfl⟩:=List.mem_map.mp mI
  obtain ⟨w,y,a,b,c,d⟩:=hp Ar hm
  exact ⟨w,y,by simpa using a,b,c,by simpa using d⟩
end
section
variable {K:PySem.W.Frag}{H H' H₀:Hp}{I:Nat→Option Addr}{O O':Addr→Prop}{σ:L2.St}{env:Ev}
theorem fC.at {Hb:Hp}:∀ {aA:List (M×D)}{vs:List V}{i:Nat}{x:M×D},fC K H₀ O Hb H aA vs→aA[i]?=some x→∃ v,vs[i]?=some v∧Val K H₀ O Hb H x.1 x.2 v
 |_,_,_,_,.nil,e=>by simp at e
 |_,_,0,_,.cons h _,e=>by simp at e;subst e;exact ⟨_,rfl,h⟩
 |_,_,i+1,x,.cons _ r,e=>by
  obtain ⟨v,h1,h2⟩:=fC.at (i:=i) (x:=x) r (by simpa using e)
  exact ⟨v,by simpa using h1,h2⟩
theorem pU {α:Type}:∀ {l:List α}{i j:Nat}{a:α},l.Nodup→l[i]?=some a→l[j]?=some a→i=j
 |[],_,_,_,_,h,_=>by simp at h
 |x::l,0,0,_,_,_,_=>rfl
 |x::l,0,j+1,a,nd,h1,h2=>by
  simp at h1;subst h1
  exact absurd (List.mem_of_getElem? (show l[j]?=some x by simpa using h2)) (List.nodup_cons.mp nd).1
 |x::l,i+1,0,a,nd,h1,h2=>by
  simp at h2;subst h2
  exact absurd (List.mem_of_getElem? (show l[i]?=some x by simpa using h1)) (List.nodup_cons.mp nd).1
 |x::l,i+1,j+1,a,nd,h1,h2=>by
  rw [pU (List.nodup_cons.mp nd).2 (show l[i]?=some a by simpa using h1) (by simpa using h2)]
structure G5 (io sl:List Nat) (pos:List (Nat×Nat)) (aA:List (M×D)):Prop where
 c1:∀ (k i:Nat),io[k]?=some i→∃ j,sl[k]?=some j∧(i,j)∈pos
 c2:sl.Nodup
 c3:∀ (i:Nat) x,i∉io→aA[i]?=some x→f6 x.1 x.2=true∨(own x.1=true∧∃ j,(i,j)∈pos∧j∉sl)
 c4:∀ (i:Nat) x,i∈io→aA[i]?=some x→own x.1=true∧gD x.2=true
 c5:sl.length=io.length
noncomputable def j7 (io sl:List Nat) (pos:List (Nat×Nat)) (aA:List (M×D)):Bool :=
 decide (sl.length=io.length)&&decide sl.Nodup&&(List.range io.length).all (fun k=>match io[k]?,sl[k]? with|some i,some j=>decide ((i,j)∈pos)|_,_=>false) &&
 (List.range aA.length).all (fun i=>match aA[i]? with
  |some x=>if i∈io then own x.1&&gD x.2 else f6 x.1 x.2||(own x.1&&pos.any fun ij=>decide (ij.1=i)&&!decide (ij.2∈sl))
  |none=>true)
theorem S9 {io sl:List Nat}{pos:List (Nat×Nat)}{aA:List (M×D)} (h:j7 io sl pos aA=true):G5 io sl pos aA:=by
 unfold j7 at h
 simp only [Bool.and_eq_true,decide_eq_true_eq,List.all_eq_true,List.mem_range] at h
 obtain ⟨⟨⟨h1,h2⟩,h3⟩,h4⟩:=h
 refine ⟨fun k i hk=>?_,h2,fun i x hi hx=>?_,fun i x hi hx=>?_,h1⟩
 ·have aU:k < io.length:=(List.getElem?_eq_some_iff.mp hk).1
  have q:=h3 k aU
  rw [hk] at q
  cases e:sl[k]? with
  |none=>rw [e] at q;cases q
  |some j=>rw [e] at q;exact ⟨j,rfl,by simpa using q⟩
 ·have aU:i < aA.length:=(List.getElem?_eq_some_iff.mp hx).1
  have q:=h4 i aU
  rw [hx] at q
  simp only [if_neg hi,Bool.or_eq_true,Bool.and_eq_true,List.any_eq_true] at q
  rcases q with q|⟨q,ij,hm,z⟩
  ·exact .inl q
  ·refine .inr ⟨q,ij.2,?_,by simpa using z.2⟩
   have e:ij.1=i:=by simpa using z.1
   rw [←e];exact hm
 ·have aU:i < aA.length:=(List.getElem?_eq_some_iff.mp hx).1
  have q:=h4 i aU
  rw [hx] at q
  simpa only [if_pos hi,Bool.and_eq_true] using q
theorem Qi {io sl:List Nat}{pos:List (Nat×Nat)}{aA:List (M×D)}{vs:List V}{H1:Hp} (R:Rel K H₀ I O H σ env) (R1:Rel K H₀ I O H1 σ env) (ok:G5 io sl pos aA) (hv:fC K H₀ O H H1 aA vs)
  (hp:∀ ij∈pos,∃ v x,vs[ij.1]?=some v∧σ[ij.2]?=some (some v)∧env[ij.2]?=some (some x)∧aA[ij.1]?=some x) :
  (∀ {i j:Nat},(i,j)∈pos→∀ {x:M×D},aA[i]?=some x→own x.1=true→∃ p:Addr,vs[i]?=some (V.ref p)∧σ[j]?=some (some (V.ref p))∧env[j]?=some (some x)∧O p∧Cell K (fun a=>¬ O a∧H₀ a=none) H1 p x.2) ∧
  (∀ {i:Nat}{p:Addr},i∈io→vs[i]?=some (V.ref p)→∃ (k j:Nat) (x:M×D),io[k]?=some i∧sl[k]?=some j∧aA[i]?=some x∧σ[j]?=some (some (V.ref p))∧env[j]?=some (some x)∧own x.1=true∧O p∧Cell K (fun a=>¬ O a∧H₀ a=none) H1 p x.2∧gD x.2=true) ∧
  (∀ a,iL io vs a→O a)∧uw K H1 io vs (aA.map (·.2)):=by
 have hlen:aA.length=vs.length:=Paired.length hv
 have at_:∀ {i:Nat}{x:M×D},aA[i]?=some x→∃ v,vs[i]?=some v∧Val K H₀ O H H1 x.1 x.2 v:=fun {i x} hx=>fC.at hv hx
 have qJ:∀ {i j:Nat},(i,j)∈pos→∀ {x:M×D},aA[i]?=some x→own x.1=true→∃ p:Addr,vs[i]?=some (V.ref p)∧σ[j]?=some (some (V.ref p))∧env[j]?=some (some x)∧O p∧Cell K (fun a=>¬ O a∧H₀ a=none) H1 p x.2:=fun {i j} mI {x} hx ox=>by
  obtain ⟨v,x',a,b,c,z⟩:=hp (i,j) mI
  simp only at a b c z
  rw [hx] at z;cases z
  obtain ⟨w,hw,_,hm⟩:=R1.e.at (i:=j) (m:=x.1) (d:=x.2) c
  rw [b] at hw;cases hw
  obtain ⟨mx,dx⟩:=x
  cases mx<;>simp only [own] at ox<;>try (cases ox;done)
  ·obtain ⟨p,rfl,h1,h2,cc⟩:=hm;exact ⟨p,a,b,c,h1,cc⟩
  ·obtain ⟨p,rfl,h1,cc⟩:=hm;exact ⟨p,a,b,c,h1,cc⟩
 have lY:∀ {i:Nat}{p:Addr},i∈io→vs[i]?=some (V.ref p)→∃ (k j:Nat) (x:M×D),io[k]?=some i∧sl[k]?=some j∧aA[i]?=some x∧σ[j]?=some (some (V.ref p))∧env[j]?=some (some x)∧own x.1=true∧O p∧Cell K (fun a=>¬ O a∧H₀ a=none) H1 p x.2∧gD x.2=true:=fun {i p} hi j8=>by
  obtain ⟨k,hk⟩:=List.getElem?_of_mem hi
  obtain ⟨j,hj,zE⟩:=ok.c1 k i hk
  have aU:i < aA.length:=by rw [hlen];exact (List.getElem?_eq_some_iff.mp j8).1
  have hx:aA[i]?=some aA[i]:=List.getElem?_eq_getElem aU
  obtain ⟨ox,cx⟩:=ok.c4 i _ hi hx
  obtain ⟨p',a,b,c,h1,cc⟩:=qJ zE hx ox
  rw [j8] at a;cases a
  exact ⟨k,j,_,hk,hj,hx,b,c,ox,h1,cc,cx⟩
 have sub:∀ a,iL io vs a→O a:=fun a ⟨i,hi,j8⟩=>by
  obtain ⟨_,_,_,_,_,_,_,_,_,h1,_⟩:=lY hi j8;exact h1
 have A:uw K H1 io vs (aA.map (·.2)):=by
  refine ⟨by rw [List.length_map,hlen],fun i v d hi j8 hd=>?_,fun i d hi hd=>?_,fun i j p hi hj h1 h2=>?_⟩
  ·rw [List.getElem?_map] at hd
   cases hx:aA[i]? with
   |none=>rw [hx] at hd;cases hd
   |some x =>
    rw [hx] at hd;cases hd
    obtain ⟨v',f7,WU⟩:=at_ hx
    rw [j8] at f7;cases f7
    rcases ok.c3 i x hi hx with z|⟨z,j,hj,nj⟩
    ·exact (WU.f6 z).wk fun a h _=>fun w=>h (sub a w)
    ·obtain ⟨p,a,b,c,h1,cc⟩:=qJ hj hx z
     rw [j8] at a;cases a
     refine (cc.wk fun a h _=>(fun w=>h.1 (sub a w):¬ iL io vs a)).rp (fun ⟨i2,XW,XX⟩=>?_)
     obtain ⟨k,j2,x2,_,XY,_,s2,e2,o2,_⟩:=lY XW XX
     have:=R.dj j j2 x x2 p c e2 z o2 b s2
     exact nj (this▸List.mem_of_getElem? XY)
  ·rw [List.getElem?_map] at hd
   cases hx:aA[i]? with
   |none=>rw [hx] at hd;cases hd
   |some x =>
    rw [hx] at hd;cases hd
    obtain ⟨k,hk⟩:=List.getElem?_of_mem hi
    obtain ⟨j,hj,zE⟩:=ok.c1 k i hk
    obtain ⟨ox,cx⟩:=ok.c4 i _ hi hx
    obtain ⟨p',a,b,c,h1,cc⟩:=qJ zE hx ox
    exact ⟨p',a,cc.im cx⟩
  ·obtain ⟨k1,j1,x1,XZ,X1,_,X2,X3,o1,_⟩:=lY hi h1
   obtain ⟨k2,j2,x2,IV,X4,_,X5,X6,o2,_⟩:=lY hj h2
   have ej:=R.dj j1 j2 x1 x2 p X3 X6 o1 o2 X2 X5
   subst ej
   have ek:k1=k2:=pU ok.c2 X1 X4
   subst ek
   rw [XZ] at IV;exact Option.some.inj IV
 exact ⟨qJ,lY,sub,A⟩
end
mutual
noncomputable def toPy:D→PyData
 |.non=>.none
 |.bl b=>.bool b
 |.int i=>.int i
 |.str x=>.str x
 |.tup ds=>.tuple (cO ds)
 |.lst ds=>.list (cO ds)
 |.ty _=>.none
 |.dk _=>.none
 |.dt _=>.none
noncomputable def cO:List D→List PyData
 |[]=>[]
 |d::ds=>toPy d::cO ds
end
mutual
noncomputable def plain:D→Bool
 |.tup ds=>dX ds
 |.lst ds=>dX ds
 |.ty _=>false
 |.dk _=>false
 |.dt _=>false
 |.non=>true
 |.bl _=>true
 |.int _=>true
 |.str _=>true
noncomputable def dX:List D→Bool
 |[]=>true
 |d::ds=>plain d&&dX ds
end
section
variable {K:PySem.W.Frag}{H H' H₀:Hp}{O O':Addr→Prop}{σ:L2.St}{env:Ev}
mutual
theorem nT {N:Addr→Prop}:∀ {v:V}{d:D},plain d=true→Rp K N H v d→Dn K H v (toPy d)
 |_,_,_,.non=>by simp only [toPy];exact .non
 |_,_,_,.bl b=>by simp only [toPy];exact .bl b
 |_,_,_,.int i=>by simp only [toPy];exact .int i
 |_,_,_,.str x=>by simp only [toPy];exact .str x
 |_,.ty n,e,.ty _=>by simp [plain] at e
 |_,.tup ds,e,.tup h r=>by simp only [toPy];exact .tup h (p7 (by simpa only [plain] using e) r)
 |_,.lst ds,e,.lst h n r=>by simp only [toPy];exact .lst (.inl h) (p7 (by simpa only [plain] using e) r)
 |_,.lst ds,e,.lstK h r=>by simp only [toPy];exact .lst (.inr h) (p7 (by simpa only [plain] using e) r)
 |_,.dk ds,e,.dk h n _ r=>by simp [plain] at e
 |_,.dt ds,e,.dt h n _ r=>by simp [plain] at e
theorem p7 {N:Addr→Prop}:∀ {vs:List V}{ds:List D},dX ds=true→ax K N H vs ds→bE K H vs (cO ds)
 |_,_,_,.nil=>by simp only [cO];exact .nil
 |_,d::ds,e,.cons h r=>by
  have e':plain d=true∧dX ds=true:=by simpa [dX] using e
  simp only [cO]
  exact .cons (nT e'.1 h) (p7 e'.2 r)
end
noncomputable def lL:D→D→Bool
 |.lst _,.lst _=>true
 |.tup _,.tup _=>true
 |.non,.non=>true
 |_,_=>false
theorem D9 {a b:D} (h:lL a b=true):lS (toPy a) (toPy b):=by
 cases a<;>cases b<;>simp only [lL] at h<;>try (cases h;done)
 ·simp only [toPy];exact .non
 ·simp only [toPy];exact .tup _ _
 ·simp only [toPy];exact .lst _ _
noncomputable def i3 (a b:D):Bool:=plain a&&plain b&&lL a b&&decide (min (toPy a).depth (toPy b).depth≤60)
noncomputable def gp:M×D→M×D→Option (M×D):=fun a b=>if i3 a.2 b.2=true then some (.fr,.bl (PyData.eqv (toPy a.2) (toPy b.2))) else none
noncomputable def fS:M×D→M×D→Option (M×D):=fun a b=>if i3 a.2 b.2=true then some (.fr,.bl (!PyData.eqv (toPy a.2) (toPy b.2))) else none
theorem C9 {a b:D} (h:i3 a b=true):plain a=true∧plain b=true∧lL a b=true∧min (toPy a).depth (toPy b).depth≤60:=by
 unfold i3 at h
 simp only [Bool.and_eq_true,decide_eq_true_eq] at h
 exact ⟨h.1.1.1,h.1.1.2,h.1.2,h.2⟩
theorem Ta:JR K (zq K) gp:=by
 intro H₀ O H x y a b Q m d _ _ h1 h2 h q
 unfold gp at h
 split at h
 ·rename_i ok
  cases h
  obtain ⟨p1,p2,l,dp⟩:=C9 ok
  exact ⟨_,_,nT p1 h1.weak,nT p2 h2.weak,D9 l,dp,q _ H (aH.refl H) fm⟩
 ·cases h
theorem Tb:JR K (zr K) fS:=by
 intro H₀ O H x y a b Q m d _ _ h1 h2 h q
 unfold fS at h
 split at h
 ·rename_i ok
  cases h
  obtain ⟨p1,p2,l,dp⟩:=C9 ok
  exact ⟨_,_,nT p1 h1.weak,nT p2 h2.weak,D9 l,dp,q _ H (aH.refl H) fm⟩
 ·cases h
theorem Tc {X:Cx} (h:X.K=K) (hu:X.A.units+64 < cLine):bu X (compareOp .Eq) (zq K):=by subst h;exact R9 hu
theorem Td {X:Cx} (h:X.K=K) (hu:X.A.units+64 < cLine):bu X (compareOp .NotEq) (zr K):=by subst h;exact Sb hu
noncomputable def lZ (neg:Bool):M×D→M×D→Option (M×D)
 | (_,d),(_,.lst ds)=>if plain d=true∧dX ds=true∧(toPy d).depth≤50 then some (.fr,.bl (if neg then !((cO ds).any fun e=>PyData.eqv e (toPy d)) else (cO ds).any fun e=>PyData.eqv e (toPy d))) else none
 |_,_=>none
theorem Te {neg:Bool}:JR K (zt K neg) (lZ neg):=by
 intro H₀ O H x y a b Q m d _ _ h1 h2 h q
 obtain ⟨ma,da⟩:=a;obtain ⟨mb,db⟩:=b
 cases db<;>simp only [lZ] at h<;>try (cases h;done)
 split at h
 ·rename_i ok
  cases h
  obtain ⟨p,xs,rfl,hs,r⟩:=h2.lst
  exact ⟨p,xs,_,_,rfl,hs,p7 ok.2.1 r,nT ok.1 h1.weak,ok.2.2,q _ H (aH.refl H) fm⟩
 ·cases h
theorem LZ {X:Cx} (h:X.K=K) (hu:X.A.units+64 < cLine):bu X (compareOp .NotIn) (zt K true):=by subst h;exact Mv hu
theorem Tf {n:Nat}{gs:gA}{fs:M→List D→Ev→Option Ev} (hs:oN K gs fs):JG K (GX K n gs) (gL n fs):=by
 intro H₀ I O H σ env x v fq Q R hm hv e q
 obtain ⟨m,d⟩:=x
 cases d<;>simp only [gL] at e<;>try (cases e;done)
 split at e
 ·rename_i hl
  obtain ⟨a,xs,rfl,oJ,r⟩:=hv.lst
  exact ⟨a,xs,rfl,oJ,by rw [r.len];exact hl,hs H₀ I O H σ env (aV m) _ xs fq Q R (by cases m<;>first|rfl|cases hm) r e q⟩
 ·cases e
theorem Qj {X:Cx}{tg l:Expr}{tl:TE} (h:X.K=K) (hl:PE X l tl):PI X tg l (y9 K tl):=by subst h;exact Rq hl
theorem K5 {X:Cx} (h:X.K=K):gJ X (.type "list") (fun xs H Q=>∃ p ys,xs=[.ref p]∧(bL K H p ys∨bz K H p ys)∧∀ l,H l=none→Q (.ref l) (upd H l (.lst ys))):=by subst h;exact K8
end
theorem CF {fc:Ev→Option Bool}{fe:Ev→Option (M×D)}{m:M}{fr:Ev}{P:D→Prop}:∀ {ds:List D},(∀ d∈ds,fc (some (m,d)::fr)=some true∧∃ x,fe (some (m,d)::fr)=some (.fr,x)∧P x)→∃ xs:List D,cY fc fe m fr ds=some (xs.map fun x=>(M.fr,x))∧xs.length=ds.length∧∀ x∈xs,P x
 |[],_=>⟨[],rfl,rfl,fun _ h=>nomatch h⟩
 |d::ds,h=>by
  obtain ⟨h1,x,h2,h3⟩:=h d List.mem_cons_self
  obtain ⟨xs,q1,q2,q3⟩:=CF (ds:=ds) fun e he=>h e (List.mem_cons_of_mem _ he)
  refine ⟨x::xs,?_,by rw [List.length_cons,List.length_cons,q2],fun y hy=>?_⟩
  ·rw [cY,h1,Option.bind_some,if_pos rfl,h2,Option.bind_some,q1,Option.bind_some];rfl
  ·rcases List.mem_cons.mp hy with rfl|hy
   ·exact h3
   ·exact q3 y hy
theorem gG {xs:List D} (h:xs.length≤1000):fP (xs.map fun x=>(M.fr,x))=some (.un,.lst xs):=by
 unfold fP
 rw [if_pos (by rw [List.length_map];exact Nat.le_trans h (by decide)),if_pos (by rw [List.all_map];exact List.all_eq_true.mpr fun _ _=>rfl),List.map_map]
 congr 3
 exact List.map_id xs
def One (d:D):Prop:=∃ c:Nat,d=.str ⟨#[c]⟩
theorem xW {m n:M}{x:Str}{i:Int} (hs:x.length≤sizeLine) (h0:0≤i) (h1:i < x.cps.toList.length):∃ d,ak (m,.str x) (n,.int i)=some (.fr,d)∧One d:=by
 rw [Va hs,gF h0 h1]
 exact ⟨_,rfl,_,rfl⟩
noncomputable abbrev Ko:=Sum Int Str
noncomputable def kD:Ko→D
 |.inl i=>.int i
 |.inr x=>.str x
theorem qf (k:Ko):(kD k).bR=true:=by cases k<;>simp only [kD,D.bR]
inductive Row where
 |rk (x s:Str) (a b:Ko)|cp (x:Str) (a:Ko)|sy (a:Ko)|go (t:Int)|pt (a:Ko) (t:Int)|en
noncomputable def Row.ds:Row→List D
 |.rk x s a b=>[.str "reckon",.str x,.str s,kD a,kD b]
 |.cp x a=>[.str "copy",.str x,kD a]
 |.sy a=>[.str "say",kD a]
 |.go t=>[.str "go",.int t]
 |.pt a t=>[.str "part",kD a,.int t]
 |.en=>[.str "end"]
noncomputable def Row.d (r:Row):D:=.tup r.ds
theorem Row.bR (r:Row):r.d.bR=true:=by cases r<;>simp only [Row.d,Row.ds,D.bR,D.cP,qf,Bool.and_self]
theorem lu:∀ rs:List Row,D.cP (rs.map Row.d)=true
 |[]=>by simp only [List.map_nil,D.cP]
 |r::rs=>by simp only [List.map_cons,D.cP,Row.bR,lu rs,Bool.and_self]
noncomputable def Row.word:Row→Str
 |.rk _ _ _ _ => "reckon"
 |.cp _ _ => "copy"
 |.sy _ => "say"
 |.go _ => "go"
 |.pt _ _ => "part"
 |.en => "end"
theorem Row.X7 (r:Row):L2.bw r.ds 0=some (.str r.word):=by cases r<;>rfl
theorem N3 {ns:List Str}{k:Int} (h0:0≤k) (h1:k < ns.length):∃ c,L2.bw (ns.map D.str) k=some (.str c):=by
 rw [gF h0 (by simpa using h1)]
 exact ⟨ns[k.toNat]'(by omega),by simp⟩
theorem N4 {rs:List Row}{k:Int} (h0:0≤k) (h1:k < rs.length):L2.bw (rs.map Row.d) k=some (rs[k.toNat]'(by omega)).d:=by
 rw [gF h0 (by simpa using h1)]
 simp
section
variable {K:PySem.W.Frag}{H H' H₀:Hp}{O:Addr→Prop}{σ:L2.St}{env:Ev}
noncomputable def nG:Ev→Option (M×D):=fun _=>some (.un,.dk [])
theorem N5:JT K EV nG:=by
 intro H₀ O H σ env Q m d R h q
 cases h
 intro p hp
 refine q _ _ (cE hp) ⟨p,rfl,hp,kg R.hd hp,ic R.od hp,[],bF,rfl,.nil⟩
theorem Ti {a:Addr}{xs:List V}{ds:List D} (w:∀ H:Hp,bz K H a xs) (r:∀ (N:Addr→Prop) (H:Hp),ax K N H xs ds):JT K (tC (.ref a)) (jC (.tup ds)):=by
 intro H₀ O H σ env Q m d' R h q
 cases h
 exact q _ H (aH.refl H) (Rp.tup (w H) (r _ H))
theorem B6 {N:Addr→Prop}:∀ (ys:List Str),ax K N H (ys.map V.str) (ys.map D.str)
 |[]=>.nil
 |y::ys=>.cons (.str y) (B6 ys)
end
theorem Qk {u:Value}{y:Str} (h:nW u=some (V.str y)):RelV (.str y) u:=by
 cases u<;>simp only [nW] at h<;>cases h
 exact ⟨_,rfl⟩
theorem Dc:∀ {us:List Value}{ys:List Str},us.map nW=ys.map (fun y=>some (V.str y))→Vals (ys.map V.str) us
 |[],[],_=>.nil
 |[],_::_,h=>by cases h
 |_::_,[],h=>by cases h
 |u::us,y::ys,h=>by
  rw [List.map_cons,List.map_cons] at h
  exact .cons (Qk (List.cons.inj h).1) (Dc (List.cons.inj h).2)
theorem Ql {K:PySem.W.Frag}{a:Addr}{od:Option Addr}{its:Array Value}{n:Nat}{sl:Array (Option Value)}{ys:List Str} (l:K.lookup a=some ⟨.type "tuple",od,.seq its n,sl⟩) (v:its.toList.map nW=ys.map (fun y=>some (V.str y))) (hz:4≤ys.length∧ys.length≤1000) (H:Hp):bz K H a (ys.map V.str):=by
 have r:=Dc v
 have e:=r.length
 simp only [List.length_map,Array.length_toList] at e
 exact .inr ⟨_,its,n,l,rfl,rfl,Nat.le_trans (by omega) (show 1000≤sizeLine by decide),by omega,r⟩
section
variable {K:PySem.W.Frag}{H H₀:Hp}{O:Addr→Prop}
noncomputable def rF (z:Str):List D:=z.cps.toList.map fun c=>.str ⟨#[c]⟩
theorem N6 {z:Str}:jN K H₀ O (vJ z) H .fr (rF z):=by
 have l:(rF z).length=z.cps.size:=by simp [rF]
 refine ⟨fun O2 H2 i s hi=>by rw [l] at hi;exact hi,fun O2 H2 i x H3 s hi y=>?_,fun O2 H2 s=>by rw [l];exact Nat.le_refl z.cps.size⟩
 obtain ⟨rfl,c,hc,rfl⟩:=y
 refine ⟨aH.refl _,.str ⟨#[c]⟩,?_,Rp.str _⟩
 unfold rF
 rw [List.getElem?_map,Array.getElem?_toList,hc]
 rfl
noncomputable def As (f:Ev→Option (M×D)):Ev→Option (M×List D):=fun e=>(f e).bind fun x=>match x.2 with
 |.str z=>some (.fr,rF z)
 |_=>none
theorem Tj {t:TE}{f:Ev→Option (M×D)} (h:JT K t f):JI K (GY t) (As f):=by
 intro H₀ O H σ env R m ds Re e q
 obtain ⟨⟨m0,d0⟩,ex,e⟩:=ay e
 cases d0<;>simp only at e<;>try (cases e;done)
 cases e
 refine h H₀ O H σ env _ _ _ Re ex fun v H1 s1 h1=>?_
 exact ⟨_,h1.str,q _ H1 s1 rfl N6⟩
end
end J
namespace L2
open PySem
end L2
namespace J
open PySem L2
section
variable {m n:M}{z:Str}{i:Int}{b:Bool}{ds:List D}{ks:List (Key×D)}{kt:List (List Key×D)}
theorem Lp:jO [(m,.int i),(n,.ty "int")]=some (.fr,.bl true):=rfl
theorem Lb:jO [(m,.int i),(n,.ty "bool")]=some (.fr,.bl false):=rfl
end
section
variable {K:PySem.W.Frag}
end
structure eZ (X:Cx) (st:Stmt) (t:TS):Prop where
 go:PS X st t
structure jP (X:Cx) (ss:List Stmt) (t:TS):Prop where
 go:fG X ss t
section
variable {X:Cx}{st:Stmt}{rest a b body:List Stmt}{t u tb:TS}{e c iter tg o i value:Expr}{te td ty tv:TE}{tc:TT}{g:TG}{wi:TI}{pos pos':Pos}{k:Nat}{x:Str}
theorem Qm:jP X [] yL:=⟨OS⟩
theorem N7 (h1:eZ X st t) (h2:jP X rest u):jP X (st::rest) (y6 t u):=⟨M9 h1.go h2.go⟩
theorem Qn (h1:eZ X st t):jP X [st] t:=⟨OU h1.go⟩
theorem Lq:eZ X (.Continue pos) yM:=⟨Lf⟩
theorem uf (he:PE X e te) (hs:swapsWith e none pos.line X.env=pure false:=by rfl):eZ X (.Expr e pos) (nL te):=⟨OV he hs⟩
theorem E8 (he:PE X e te):eZ X (.Return (some e) pos) (uZ te):=⟨Rk he⟩
theorem Vc (hc:PT X c tc) (ha:jP X a t) (hb:jP X b u):eZ X (.If c a b pos) (y7 tc t u):=⟨UA hc ha.go hb.go⟩
theorem E9 (he:PE X e te) (hg:PG X tg g) (hs:swapsWithSole [tg] e pos.line X.env=pure false:=by rfl) (hw:swappedStores [tg] e X.env=pure none:=by rfl)
 (h1:(assignEach [tg] X.env).map (·.2)=[assign tg X.env]:=by rfl):eZ X (.Assign [tg] e pos) (gQ te g):=⟨Rn he hg hs hw h1⟩
theorem Tn {i:Nat} (hN:X.N.Nodup) (hi:X.N[i]?=some x) (hx:Loc X.env.scope x) (he:PE X e te) (hs:swapsWith e (some (.Name x pos')) pos.line X.env=pure false:=by rfl) (hf:X.fn x=true∨X.env.scope.names.lookup x=some .local:=by first|exact .inl rfl|exact .inr rfl|assumption) :
 eZ X (.Assign [.Name x pos'] e pos) (gQ te (iT i)):=⟨Ro hN hi hx he hs hf⟩
theorem N8 (hp:PassesOwn (model X.prog X.w) X.A X.env X.xe) (hc:PT X c tc) (hb:jP X body tb):eZ X (.While c body [] pos) (yk tc tb):=⟨Nc hp hc hb.go⟩
theorem Fc (hp:PassesOwn (model X.prog X.w) X.A X.env X.xe) (hc:X.calm=true) (hi:PI X tg iter wi) (hg:PG X tg g) (hb:jP X body tb)
 (hs:∀ x,foldedSetIterable iter X.env x=pure x:=by intro _;rfl):eZ X (.For tg iter body [] pos) (nY wi g tb):=⟨Rr hp hc hi hg hb.go hs⟩
theorem Ea (hu:X.A.units+1 < cLine) (ho:PE X o td) (hi:PE X i ty) (hv:PE X value tv) (hs:swapsWith value (some (.Subscript o i pos')) pos.line X.env=pure false) :
 eZ X (.Assign [.Subscript o i pos'] value pos) (uI td ty tv):=⟨Pk hu ho hi hv hs⟩
theorem B7 {N':List Str}{aB:Scope}{ix:List Nat}{elt:Expr}{ifs:List Expr}{px:Pos}{i:Nat}{y:Str}{py qE:Pos} (hN:X.N.Nodup) (Ag:X.N[i]?=some y) (hy:X.env.scope.names.lookup y=some .local) (ok:lC X.N N' X.env.scope aB x ix) (hc:X.calm=true) (hi:PI X (.Name x px) iter wi) (gZ:∀ C s₂ H₂ fp pn,mC (X.cw N' aB C s₂ H₂ fp pn) ifs tc)
 (fZ:∀ C s₂ H₂ fp pn,PE (X.cw N' aB C s₂ H₂ fp pn) elt te) (Ah:swapsWith (.ListComp elt [⟨.Name x px,iter,ifs,0⟩] aB pos) (some (.Name y py)) qE.line X.env=pure true:=by rfl)
 (hs:∀ x,foldedSetIterable iter X.env x=pure x:=by intro _;rfl):eZ X (.Assign [.Name y py] (.ListComp elt [⟨.Name x px,iter,ifs,0⟩] aB pos) qE) (gQ (nP wi ix tc te) (iT i)):=⟨LQ hN Ag hy ok hc hi gZ fZ Ah hs⟩
end
noncomputable def keyOf:D→Option Key
 |.int i=>some (.inl i)
 |.str x=>some (.inr x)
 |.non=>some .non
 |_=>none
noncomputable def cW {κ:Type} [DecidableEq κ] (ks:List (κ×D)) (k:κ):Option D:=(ks.find? fun kv=>decide (kv.1=k)).map (·.2)
noncomputable def putD {κ:Type} [DecidableEq κ] (ks:List (κ×D)) (k:κ) (d:D):List (κ×D) :=
 if (ks.any fun kv=>decide (kv.1=k))=true then ks.map (fun kv=>if kv.1=k then (kv.1,d) else kv) else ks++[(k,d)]
section
variable {K:PySem.W.Frag}{H H' H₀:Hp}{I:Nat→Option Addr}{O:Addr→Prop}{σ:L2.St}{env:Ev}
theorem m8 {N:Addr→Prop}{d:D}{k:Key}{v:V} (e:keyOf d=some k) (h:Rp K N H v d):v=kV k:=by
 cases d<;>simp only [keyOf] at e<;>cases e
 ·exact h.D2
 ·exact h.int_inv
 ·exact h.str_inv
def Ent {κ:Type} (K:PySem.W.Frag) (N:Addr→Prop) (H:Hp) (ai:List (κ×V)) (ks:List (κ×D)):Prop:=ai.map (·.1)=ks.map (·.1)∧ax K N H (ai.map (·.2)) (ks.map (·.2))
theorem Ent.cons_inv {κ:Type}{N:Addr→Prop}{p:κ×V}{ai:List (κ×V)}{q:κ×D}{ks:List (κ×D)} (h:Ent K N H (p::ai) (q::ks)):p.1=q.1∧Rp K N H p.2 q.2∧Ent K N H ai ks:=by
 obtain ⟨e,r⟩:=h
 rw [List.map_cons,List.map_cons] at e r
 obtain ⟨e1,e2⟩:=List.cons.inj e
 cases r with|cons a b=>exact ⟨e1,a,e2,b⟩
theorem Ent.len {κ:Type}{N:Addr→Prop}{ai:List (κ×V)}{ks:List (κ×D)} (h:Ent K N H ai ks):ai.length=ks.length:=by
 have:=congrArg List.length h.1
 simpa using this
theorem Ent.val {κ:Type} [DecidableEq κ] {N:Addr→Prop}:∀ {ai:List (κ×V)}{ks:List (κ×D)} (k:κ),Ent K N H ai ks→(cW ks k=none∧dY ai k=none)∨∃ d v,cW ks k=some d∧dY ai k=some v∧Rp K N H v d
 |[],[],k,_=>.inl ⟨rfl,rfl⟩
 |[],_::_,k,h=>absurd h.len (by simp)
 |_::_,[],k,h=>absurd h.len (by simp)
 |p::ai,q::ks,k,h=>by
  obtain ⟨e,r,t⟩:=h.cons_inv
  by_cases z:q.1=k
  ·exact .inr ⟨q.2,p.2,by simp [cW,List.find?_cons,z],tR (e.trans z),r⟩
  ·have e1:cW (q::ks) k=cW ks k:=by simp [cW,List.find?_cons,z]
   rw [e1,tS (fun w=>z (e.symm.trans w))]
   exact Ent.val k t
theorem Ent.put {κ:Type} [DecidableEq κ] {N:Addr→Prop}{ai:List (κ×V)}{ks:List (κ×D)}{k:κ}{v:V}{d:D} (h:Ent K N H ai ks) (hv:Rp K N H v d):Ent K N H (putK ai k v) (putD ks k d):=by
 have ha:(ai.any fun kv=>decide (kv.1=k))=(ks.any fun kv=>decide (kv.1=k)):=by
  have:∀ {α β:Type} (l:List (α×β)) (f:α→Bool),l.any (fun kv=>f kv.1)=(l.map (·.1)).any f:=fun l f=>by rw [List.any_map];rfl
  rw [this ai fun a=>decide (a=k),this ks fun a=>decide (a=k),h.1]
 unfold putK putD
 rw [ha]
 split
 ·have go:∀ {ai:List (κ×V)}{ks:List (κ×D)},Ent K N H ai ks→Ent K N H (ai.map fun kv=>if kv.1=k then (kv.1,v) else kv) (ks.map fun kv=>if kv.1=k then (kv.1,d) else kv):=by
   intro ai
   induction ai with
   |nil=>intro ks h;cases ks with
    |nil=>exact ⟨rfl,.nil⟩
    |cons _ _=>exact absurd h.len (by simp)
   |cons p ai ih =>
    intro ks h
    cases ks with
    |nil=>exact absurd h.len (by simp)
    |cons q ks =>
     obtain ⟨e,r,t⟩:=h.cons_inv
     obtain ⟨i1,i2⟩:=ih t
     rw [List.map_cons,List.map_cons]
     by_cases z:q.1=k
     ·rw [if_pos z,if_pos (e.trans z)]
      exact ⟨by rw [List.map_cons,List.map_cons,i1,e],.cons hv i2⟩
     ·rw [if_neg z,if_neg (fun w=>z (e.symm.trans w))]
      exact ⟨by rw [List.map_cons,List.map_cons,i1,e],.cons r i2⟩
  exact go h
 ·exact ⟨by rw [List.map_append,List.map_append,h.1];rfl,by rw [List.map_append,List.map_append];exact h.2.app (.cons hv .nil)⟩
theorem Val.dk {m:M}{ks:List (Key×D)}{v:V}{Hb:Hp} (h:Val K H₀ O Hb H m (.dk ks) v):∃ a ai,v=.ref a∧Rd H a (.dK ai)∧Ent K (NM H₀ O (aV m)) H ai ks:=by
 cases m<;>simp only [Val,Cell] at h
 ·cases h with|dk r n e q=>exact ⟨_,_,rfl,r,e,q⟩
 ·cases h with|dk r n e q=>exact ⟨_,_,rfl,r,e,q⟩
 ·obtain ⟨p,rfl,_,_,_,xs,q,e,r⟩:=h;exact ⟨_,_,rfl,.inl q,e,r.wk fun a h _=>h.1⟩
 ·obtain ⟨p,rfl,_,_,xs,q,e,r⟩:=h;exact ⟨_,_,rfl,.inl q,e,r⟩
 ·obtain ⟨p,rfl,_,xs,q,e,r⟩:=h;exact ⟨_,_,rfl,.inl q,e,r⟩
 ·cases h with|dk r n e q=>exact ⟨_,_,rfl,r,e,q⟩
 ·obtain ⟨p,qs,aP,rfl,e2,_⟩:=h;cases e2
noncomputable def jQ:D→Option (List (Key×D))
 |.dk ks=>some ks
 |_=>none
theorem xX {d:D}{ks:List (Key×D)} (h:jQ d=some ks):d=.dk ks:=by cases d<;>simp only [jQ] at h<;>cases h;rfl
noncomputable def qv (fd fk:Ev→Option (M×D)):Ev→Option (M×D):=fun e=>(fd e).bind fun x=>(fk e).bind fun y=>(jQ x.2).bind fun ks=>(keyOf y.2).bind fun k=>(cW ks k).bind fun d=>some (aV x.1,d)
theorem Qo {td ty:TE}{fd fk:Ev→Option (M×D)} (hd:JT K td fd) (hk:JT K ty fk):JT K (F2 td ty) (qv fd fk):=by
 intro H₀ O H σ env Q m d R h q
 obtain ⟨x,ex,h⟩:=ay h
 obtain ⟨y,ey,h⟩:=ay h
 obtain ⟨ks,mK,h⟩:=ay h
 obtain ⟨k,ek,h⟩:=ay h
 obtain ⟨d',ed,h⟩:=ay h
 cases h
 refine hd H₀ O H σ env _ x.1 x.2 R ex fun v H1 s1 h1=>?_
 refine hk H₀ O H1 σ env _ y.1 y.2 (R.keep s1) ey fun w H2 s2 h2=>?_
 rw [xX mK] at h1
 obtain ⟨a,ai,rfl,rd,en⟩:=(h1.keep s2).dk
 obtain rfl:=m8 ek h2.weak
 rcases en.val k with ⟨z,_⟩|⟨d2,v2,z1,z2,r⟩
 ·rw [z] at ed;cases ed
 ·rw [z1] at ed;cases ed
  exact ⟨a,v2,rfl,.inl ⟨ai,k,rd,rfl,z2.symm⟩,q v2 H2 (s1.trans s2) (Val.el r)⟩
noncomputable def dF (neg:Bool) (fk fd:Ev→Option (M×D)):Ev→Option (M×D):=fun e=>(fk e).bind fun y=>(fd e).bind fun x=>(jQ x.2).bind fun ks=>(keyOf y.2).bind fun k=>some (.fr,.bl (if neg then !(cW ks k).isSome else (cW ks k).isSome))
theorem Ent.isSome {κ:Type} [DecidableEq κ] {N:Addr→Prop}{ai:List (κ×V)}{ks:List (κ×D)}{k:κ} (h:Ent K N H ai ks):(dY ai k).isSome=(cW ks k).isSome:=by
 rcases h.val k with ⟨a,b⟩|⟨d,v,a,b,_⟩<;>rw [a,b]<;>rfl
theorem Tp {td ty:TE}{fd fk:Ev→Option (M×D)} (hk:JT K ty fk) (hd:JT K td fd):JT K (GR ty td) (dF false fk fd):=by
 intro H₀ O H σ env Q m d R h q
 obtain ⟨y,ey,h⟩:=ay h
 obtain ⟨x,ex,h⟩:=ay h
 obtain ⟨ks,mK,h⟩:=ay h
 obtain ⟨k,ek,h⟩:=ay h
 cases h
 refine hk H₀ O H σ env _ y.1 y.2 R ey fun w H1 s1 h1=>?_
 refine hd H₀ O H1 σ env _ x.1 x.2 (R.keep s1) ex fun v H2 s2 h2=>?_
 rw [xX mK] at h2
 obtain ⟨a,ai,rfl,rd,en⟩:=h2.dk
 obtain rfl:=m8 ek h1.weak
 refine ⟨a,dY ai k,rfl,.inl ⟨ai,k,rd,rfl,rfl⟩,?_⟩
 rw [en.isSome]
 exact q _ H2 (s1.trans s2) fm
theorem MH {td ty:TE}{fd fk:Ev→Option (M×D)} (hk:JT K ty fk) (hd:JT K td fd):JT K (DW ty td) (dF true fk fd):=by
 intro H₀ O H σ env Q m d R h q
 obtain ⟨y,ey,h⟩:=ay h
 obtain ⟨x,ex,h⟩:=ay h
 obtain ⟨ks,mK,h⟩:=ay h
 obtain ⟨k,ek,h⟩:=ay h
 cases h
 refine hk H₀ O H σ env _ y.1 y.2 R ey fun w H1 s1 h1=>?_
 refine hd H₀ O H1 σ env _ x.1 x.2 (R.keep s1) ex fun v H2 s2 h2=>?_
 rw [xX mK] at h2
 obtain ⟨a,ai,rfl,rd,en⟩:=h2.dk
 obtain rfl:=m8 ek h1.weak
 refine ⟨a,dY ai k,rfl,.inl ⟨ai,k,rd,rfl,rfl⟩,?_⟩
 rw [en.isSome]
 exact q _ H2 (s1.trans s2) fm
noncomputable def jR (i:Nat) (e:Ev):Option (M×List (Key×D)):=match e[i]? with
 |some (some (m,.dk ds))=>if own m=true then some (m,ds) else none
 |_=>none
theorem Eb {i:Nat}{e:Ev}{m:M}{ds:List (Key×D)} (h:jR i e=some (m,ds)):e[i]?=some (some (m,.dk ds))∧own m=true:=by
 unfold jR at h
 split at h
 ·rename_i e
  split at h
  ·cases h;exact ⟨e,by assumption⟩
  ·cases h
 ·cases h
theorem Rel.dct {i:Nat}{m:M}{ds:List (Key×D)} (R:Rel K H₀ I O H σ env) (h:jR i env=some (m,ds)):∃ p ai,σ[i]?=some (some (.ref p))∧O p∧H p=some (.dK ai)∧Ent K (fun a=>¬ O a∧H₀ a=none) H ai ds:=by
 obtain ⟨e,o⟩:=Eb h
 obtain ⟨v,hv,n,hm⟩:=R.e.at e
 cases m<;>simp only [own] at o<;>try (cases o;done)
 ·obtain ⟨p,rfl,h1,h2,xs,c,z,r⟩:=hm;exact ⟨p,xs,hv,h1,c,z,r⟩
 ·obtain ⟨p,rfl,h1,xs,c,z,r⟩:=hm;exact ⟨p,xs,hv,h1,c,z,r⟩
theorem Rel.WV {i:Nat}{m:M}{ds:List (Key×D)}{p:Addr}{xs ys:List (Key×V)}{es:List (Key×D)} (R:Rel K H₀ I O H σ env) (h:jR i env=some (m,ds)) (hp:σ[i]?=some (some (.ref p))) (hx:H p=some (.dK xs)) (r:Ent K (fun a=>¬ O a∧H₀ a=none) H ys es) :
  Rel K H₀ I O (L2.upd H p (.dK ys)) σ (env.set i (some (m,.dk es)))∧aO O H O (L2.upd H p (.dK ys)):=by
 obtain ⟨e,o⟩:=Eb h
 have hO:=(R.lD e o hp).1
 exact R.mut e o hp ⟨ys,bF,r.1,r.2.upd hO hx (fun z=>z)⟩
noncomputable def iW (i:Nat) (fk fe:Ev→Option (M×D)):Ev→Option Fl:=fun e=>(fe e).bind fun x=>(fk e).bind fun y=>(keyOf y.2).bind fun k=>if cR x.1 x.2=true then (jR i e).bind fun z=>if z.2.length < sizeLine then some (.nx (e.set i (some (z.1,.dk (putD z.2 k x.2))))) else none else none
theorem Qp {i:Nat}{t tk:TE}{f fk:Ev→Option (M×D)} (h:JT K t f) (hk:JT K tk fk):JS K (uI (fQ i) tk t) (iW i fk f):=by
 intro H₀ I O H σ env Ds fl R e q
 obtain ⟨x,ex,e⟩:=ay e
 obtain ⟨y,ey,e⟩:=ay e
 obtain ⟨k,ek,e⟩:=ay e
 split at e
 ·rename_i hs
  obtain ⟨⟨m,ds⟩,ez,e⟩:=ay e
  split at e
  ·rename_i hl
   cases e
   obtain ⟨p,ai,hp,hO,hx,r⟩:=R.dct ez
   refine h H₀ O H σ env _ x.1 x.2 R.e ex fun v H1 s1 h1=>?_
   refine ⟨.ref p,hp,?_⟩
   refine hk H₀ O H1 σ env _ y.1 y.2 (R.keep s1).e ey fun w H2 s2 h2=>?_
   obtain rfl:=m8 ek h2.weak
   have s:=s1.trans s2
   refine ⟨p,_,rfl,.inl ⟨ai,k,s _ _ hx,rfl,by rw [r.len];exact hl,rfl⟩,?_⟩
   obtain ⟨R2,st⟩:=(R.keep s).WV (ys:=putK ai k v) (es:=putD ds k x.2) ez hp (s _ _ hx) (Ent.put ⟨r.1,r.2.keep (.same s)⟩ ((h1.keep s2).cR hs))
   exact q O _ σ R2 ((aO.same s).trans st)
  ·cases e
 ·cases e
noncomputable def yV (fk fv:Ev→Option (M×D)):Ev→Option (M×D):=fun e=>(fk e).bind fun y=>(fv e).bind fun x=>(keyOf y.2).bind fun k=>if x.2.bR=true then some (.un,.dk [(k,x.2)]) else none
theorem Qq {tk tv:TE}{fk fv:Ev→Option (M×D)} (hk:JT K tk fk) (hv:JT K tv fv):JT K (F3 [(tk,tv)]) (yV fk fv):=by
 intro H₀ O H σ env Q m d R h q
 obtain ⟨y,ey,h⟩:=ay h
 obtain ⟨x,ex,h⟩:=ay h
 obtain ⟨k,ek,h⟩:=ay h
 split at h
 ·rename_i IW
  cases h
  intro p hp
  have s0:aH H (upd H p (.dK [])):=cE hp
  refine hk H₀ O _ σ env _ y.1 y.2 (R.keep s0) ey fun w H1 s1 h1=>?_
  refine hv H₀ O H1 σ env _ x.1 x.2 ((R.keep s0).keep s1) ex fun v H2 s2 h2=>?_
  obtain rfl:=m8 ek h1.weak
  have my:H2 p=some (.dK []):=s2 _ _ (s1 _ _ bF)
  refine ⟨my,[(k,v)],rfl,by show 1≤15;decide,?_⟩
  have sm:aH H (upd H2 p (.dK (nA [] [(k,v)]))):=fun a o e=>by
   rw [aG (dW e hp)]
   exact s2 _ _ (s1 _ _ (s0 _ _ e))
  refine q _ _ sm ⟨p,rfl,hp,kg R.hd hp,ic R.od hp,[(k,v)],bF,rfl,.cons ?_ .nil⟩
  refine (Rp.im (N':=fun _=>False) IW h2.weak).keep (fun a o e z=>?_) |>.im IW
  have eE:a≠p:=by
   rintro rfl
   rcases z with z|z
   ·exact z
   ·rw [my] at e;cases e;exact z
  rw [aG eE];exact e
 ·cases h
end
section
variable {K:PySem.W.Frag}{H H' H₀:Hp}{I:Nat→Option Addr}{O:Addr→Prop}{σ:L2.St}{env:Ev}
theorem Rel.Tq {i:Nat}{C:Addr}{qs:List Addr}{aP:List (List D)}{H1:Hp} (R:Rel K H₀ I O H σ env) (s:aH H H1) (nn:∀ (j:Nat) d,j≠i→env[j]?≠some (some (.nb,d))) (hC:H C=none) (hq:∀ q∈qs,H q=none∧q≠C) (nd:qs.Nodup)
  (e:H1 C=some (.lst (qs.map V.ref))) (hp:Paired (fun q ds=>∃ xs,H1 q=some (.lst xs)∧ax K (fun a=>¬ (O a∨a=C∨a∈qs)∧H₀ a=none) H1 xs ds) qs aP) :
  Rel K H₀ I (fun a=>O a∨a=C∨a∈qs) H1 (σ.set i (some (.ref C))) (env.set i (some (.nb,.lst (aP.map D.lst))))∧aO O H (fun a=>O a∨a=C∨a∈qs) H1:=by
 have np:∀ a,(∃ o,H a=some o)→¬ (a=C∨a∈qs):=fun a ⟨o,ea⟩ z=>by
  rcases z with rfl|z
  ·rw [hC] at ea;cases ea
  ·rw [(hq a z).1] at ea;cases ea
 have n0:∀ a,(a=C∨a∈qs)→H₀ a=none:=fun a z=>by
  cases h0:H₀ a with
  |none=>rfl
  |some o=>exact absurd z (np a (R.e.hd a o h0))
 have nO:∀ a,(a=C∨a∈qs)→¬ O a:=fun a z ho=>np a (R.e.od a ho) z
 have wk:∀ {N:Addr→Prop}{d:D}{v:V},Rp K N H v d→Rp K (fun a=>N a∧¬ (a=C∨a∈qs)) H1 v d:=fun r=>(r.wk fun a n e=>⟨n,np a e⟩).keep (.same s)
 have rA:∀ {N:Addr→Prop}{d:D}{q:Addr},Cell K N H q d→Cell K (fun a=>N a∧¬ (a=C∨a∈qs)) H1 q d:=fun {N d q} r=>by
  obtain ⟨o,e,_⟩:=r.some
  exact (r.wk fun a n e=>⟨n,np a e⟩).keep (.same s) ((s _ _ e).trans e.symm)
 have Au:∀ {j:Nat}{d:D},(env.set i (some (M.nb,D.lst (aP.map D.lst))))[j]?=some (some (.nb,d))→j=i:=fun {j d} h=>by
  rcases get_set h with ⟨z,_⟩|⟨z,q⟩
  ·exact z
  ·exact absurd q (nn j d z)
 have IX:∀ a,(a=C∨a∈qs)→∃ o,H1 a=some o∧¬ hG o:=fun a z=>by
  rcases z with rfl|z
  ·exact ⟨_,e,fun z=>z⟩
  ·obtain ⟨ds,xs,hx,_⟩:=xH hp z
   exact ⟨_,hx,fun z=>z⟩
 refine ⟨⟨⟨lj ?_ ?_,?_,?_,?_⟩,?_,?_,?_,?_,?_⟩,?_⟩
 ·rw [List.length_set,List.length_set];exact Paired.length R.e.sl
 ·intro j y x hy hx m d ey
  subst ey
  rcases get_set hy with ⟨rfl,z⟩|⟨nj,q⟩
  ·cases z
   rcases get_set hx with ⟨_,z⟩|⟨z,_⟩
   ·subst z
    exact ⟨rfl,_,rfl,C,qs,aP,rfl,rfl,.inr (.inl rfl),n0 C (.inl rfl),e,nd,fun q hm=>⟨.inr (.inr hm),n0 q (.inr hm),(hq q hm).2⟩,hp⟩
   ·exact absurd rfl z
  ·rw [List.getElem?_set_ne (fun z=>nj z.symm)] at hx
   obtain ⟨v,hv,n,z⟩:=R.e.at q
   rw [hx] at hv;cases hv
   refine ⟨n,v,rfl,?_⟩
   cases m
   ·exact (wk z).wk fun a h _=>fun z=>z.elim h.1 h.2
   ·exact (wk z).wk fun a h _=>⟨fun z=>z.elim h.1.1 h.2,h.1.2⟩
   ·cases n
   ·obtain ⟨q,rfl,h1,h2,c'⟩:=z
    exact ⟨q,rfl,.inl h1,h2,(rA c').wk fun a h _=>⟨fun z=>z.elim h.1.1 h.2,h.1.2⟩⟩
   ·obtain ⟨q,rfl,h1,c'⟩:=z
    exact ⟨q,rfl,.inl h1,(rA c').wk fun a h _=>⟨fun z=>z.elim h.1.1 h.2,h.1.2⟩⟩
   ·cases n
   ·exact absurd q (nn j d nj)
 ·intro a ha
  rcases ha with ha|ha
  ·obtain ⟨o,e⟩:=R.e.od a ha;exact ⟨o,s _ _ e⟩
  ·obtain ⟨o,eo,_⟩:=IX a ha;exact ⟨o,eo⟩
 ·exact fun a o h=>let ⟨o,e⟩:=R.e.hd a o h;⟨o,s _ _ e⟩
 ·intro a u ha eu
  rcases ha with ha|ha
  ·exact (R.e.keep s).on a u ha eu
  ·obtain ⟨o,eo,nt⟩:=IX a ha
   rw [eu] at eo;cases eo;exact nt
 ·exact fun a o n h=>s _ _ (R.fr a o n h)
 ·intro a ha
  rcases ha with ha|ha
  ·exact R.ow a ha
  ·exact .inr (n0 a ha)
 ·intro i' d' p' h1 p1
  rcases get_set h1 with ⟨rfl,q⟩|⟨n1,q1⟩
  ·cases q
  ·rw [List.getElem?_set_ne (fun z=>n1 z.symm)] at p1
   exact R.ba i' d' p' q1 p1
 ·intro i' j x y q h1 h2 o1 o2 p1 p2
  rcases get_set h1 with ⟨rfl,q1⟩|⟨n1,q1⟩
  ·cases q1;cases o1
  ·rcases get_set h2 with ⟨rfl,q2⟩|⟨n2,q2⟩
   ·cases q2;cases o2
   ·rw [List.getElem?_set_ne (fun z=>n1 z.symm)] at p1
    rw [List.getElem?_set_ne (fun z=>n2 z.symm)] at p2
    exact R.dj i' j x y q q1 q2 o1 o2 p1 p2
 ·refine ⟨fun i' j d1 d2 h1 h2=>(Au h1).trans (Au h2).symm,fun i' j d1 x p' q xs h1 p1 h2 o2 p2 ex=>?_⟩
  have hi:=Au h1
  subst hi
  have rG:p'=C:=by
   rcases get_set p1 with ⟨_,z⟩|⟨z,_⟩
   ·cases z;rfl
   ·exact absurd rfl z
  subst rG
  rw [e] at ex;cases ex
  rcases get_set h2 with ⟨rfl,z⟩|⟨n2,q2⟩
  ·cases z;cases o2
  ·rw [List.getElem?_set_ne (fun z=>n2 z.symm)] at p2
   have hO:=(R.lD q2 o2 p2).1
   refine ⟨fun z=>nO q (.inl z) hO,fun z=>?_⟩
   obtain ⟨a,ha,ea⟩:=List.mem_map.mp z
   exact nO q (.inr (by cases ea;exact ha)) hO
 ·intro a o h n
  exact ⟨s a o h,fun z=>z.elim n (np a ⟨o,h⟩)⟩
noncomputable def zF (i:Nat) (e:Ev):Bool:=(List.range e.length).all fun j=>decide (j=i)||(match e[j]? with
 |some (some (.nb,_))=>false
 |_=>true)
theorem Qr {i:Nat}{e:Ev} (h:zF i e=true) (j:Nat) (d:D) (hj:j≠i):e[j]?≠some (some (.nb,d)):=fun z=>by
 have hl:j < e.length:=(List.getElem?_eq_some_iff.mp z).1
 have:=List.all_eq_true.mp h j (List.mem_range.mpr hl)
 rw [z,decide_eq_false hj] at this
 cases this
noncomputable def uP (i:Nat) (it:Ev→Option (M×List D)):Ev→Option Fl:=fun e=>(it e).bind fun y=>if zF i e=true∧y.2.length < sizeLine then some (.nx (e.set i (some (.nb,.lst ((y.2.map fun _=>([]:List D)).map D.lst))))) else none
theorem Qs {i:Nat}{wi:TI}{ix:List Nat}{it:Ev→Option (M×List D)} (hi:JI K wi it):JS K (gQ (nP wi ix ve (vb kz)) (iT i)) (uP i it):=by
 intro H₀ I O H σ env Ds fl R e q
 obtain ⟨⟨mi,ds⟩,ei,e⟩:=ay e
 split at e
 ·rename_i hc
  obtain ⟨hn,hl⟩:=hc
  cases e
  refine hi H₀ O H σ env _ mi ds R.e ei fun J H1 s1 hm ok C hC=>?_
  refine ⟨fun k n H2=>n=ds.length-k∧k≤ds.length∧aH H1 H2∧∃ qs:List Addr,H2 C=some (.lst (qs.map V.ref))∧qs.length=k∧qs.Nodup∧∀ q∈qs,H1 q=none∧q≠C∧H2 q=some (.lst []),⟨_,rfl,Nat.zero_le _,cE hC,[],bF,rfl,List.nodup_nil,fun _ h=>nomatch h⟩,?_⟩
  rintro k n H2 ⟨rfl,hle,s2,qs,IY,Av,mF,rH⟩
  have bj:aO O H1 O H2:=aO.same s2
  by_cases aU:k < ds.length
  ·refine .inr ⟨ok.go O H2 k bj aU,fun x H3 y=>?_⟩
   obtain ⟨s3,_⟩:=ok.iF O H2 k x H3 bj aU y
   refine My.WO (σ:=some x::eW σ ix) (H:=H3) (A:=fun H3=>vb kz (some x::eW σ ix) H3 _) (B:=fun H3=>_) ?_
   refine ⟨Nat.zero_le _,fun p hp=>?_⟩
   have c3:H3 C=some (.lst (qs.map V.ref)):=s3 _ _ IY
   have rG:C≠p:=dW c3 hp
   have X8:p∉qs:=fun z=>by rw [s3 _ _ (rH p z).2.2] at hp;cases hp
   refine ⟨qs.map V.ref,by rw [aG rG];exact c3,by rw [List.length_map,Av];exact Nat.lt_trans aU hl,ds.length-(k+1),by omega,rfl,aU,fun a o ha=>?_,qs++[p],?_,by rw [List.length_append,Av];rfl,?_,fun a ha=>?_⟩
   ·rw [aG (dW ha hC)]
    have h3:=s3 _ _ (s2 _ _ ha)
    rw [aG (dW h3 hp)];exact h3
   ·rw [bF,List.map_append];rfl
   ·rw [List.nodup_append]
    refine ⟨mF,by simp,fun a ha b hb=>?_⟩
    have:b=p:=by simpa using hb
    subst this
    exact fun z=>X8 (z▸ha)
   ·rcases List.mem_append.mp ha with ha|ha
    ·obtain ⟨z1,z2,z3⟩:=rH a ha
     refine ⟨z1,z2,?_⟩
     have h3:=s3 _ _ z3
     rw [aG z2,aG (dW h3 hp)];exact h3
    ·have:a=p:=by simpa using ha
     subst this
     have X9:H1 a=none:=by
      cases h1:H1 a with
      |none=>rfl
      |some o=>rw [s3 _ _ (s2 _ _ h1)] at hp;cases hp
     exact ⟨X9,fun z=>rG z.symm,by rw [aG (fun z=>rG z.symm),bF]⟩
  ·have hk:k=ds.length:=by omega
   subst hk
   refine .inl ⟨ok.stop O H2 bj,?_⟩
   have pr:∀ (qs:List Addr) (ds:List D) (N:Addr→Prop),qs.length=ds.length→(∀ q∈qs,H2 q=some (.lst []))→Paired (fun q (es:List D)=>∃ xs,H2 q=some (.lst xs)∧ax K N H2 xs es) qs (ds.map fun _=>([]:List D)):=by
    intro qs
    induction qs with
    |nil=>intro ds N h _;cases ds with
     |nil=>exact .nil
     |cons _ _=>cases h
    |cons a qs ih=>intro ds N h hh;cases ds with
     |nil=>cases h
     |cons d ds=>exact .cons ⟨[],hh a List.mem_cons_self,.nil⟩ (ih ds N (by simpa using h) fun q hq=>hh q (List.mem_cons_of_mem _ hq))
   obtain ⟨R',st⟩:=(R.keep s1).Tq (i:=i) (C:=C) (qs:=qs) (aP:=ds.map fun _=>[]) s2 (fun j d hj=>Qr hn j d hj) hC (fun a ha=>⟨(rH a ha).1,(rH a ha).2.1⟩) mF IY (pr qs ds _ Av fun a ha=>(rH a ha).2.2)
   exact q _ H2 _ R' ((aO.same s1).trans st)
 ·cases e
noncomputable def oj:List D→Option (List (List D))
 |[]=>some []
 |.lst d::r=>(oj r).bind fun x=>some (d::x)
 |_=>none
theorem Ec:∀ {ds:List D}{aP:List (List D)},oj ds=some aP→ds=aP.map D.lst
 |[],_,h=>by cases h;rfl
 |d::r,aP,h=>by
  cases d<;>simp only [oj] at h<;>try (cases h;done)
  obtain ⟨x,ex,h⟩:=ay h
  cases h
  rw [Ec ex,List.map_cons]
theorem Dg:∀ aP:List (List D),oj (aP.map D.lst)=some aP
 |[]=>rfl
 |d::r=>by rw [List.map_cons,oj,Dg r];rfl
noncomputable def vR (i:Nat) (e:Ev):Option (List (List D)):=match e[i]? with
 |some (some (.nb,.lst ds))=>oj ds
 |_=>none
theorem Tr {i:Nat}{e:Ev}{aP:List (List D)} (h:vR i e=some aP):e[i]?=some (some (.nb,.lst (aP.map D.lst))):=by
 unfold vR at h
 split at h
 ·rename_i e
  rw [e,Ec h]
 ·cases h
theorem BO:∀ {a b:List (List D)},a.map D.lst=b.map D.lst→a=b
 |[],[],_=>rfl
 |[],_::_,h=>by cases h
 |_::_,[],h=>by cases h
 |x::a,y::b,h=>by
  rw [List.map_cons,List.map_cons] at h
  obtain ⟨h1,h2⟩:=List.cons.inj h
  rw [D.lst.inj h1,BO h2]
theorem CG {F:Addr→List D→Prop}:∀ {qs:List Addr}{aP:List (List D)}{j:Nat}{ds:List D},Paired F qs aP→aP[j]?=some ds→∃ q,qs[j]?=some q∧F q ds
 |_,_,_,_,.nil,h=>by simp at h
 |_,_,0,_,.cons a t,h=>by simp at h;subst h;exact ⟨_,rfl,a⟩
 |_,_,j+1,ds,.cons a t,h=>by
  obtain ⟨q,h1,h2⟩:=CG (j:=j) (ds:=ds) t (by simpa using h)
  exact ⟨q,by simpa using h1,h2⟩
theorem CH {F G:Addr→List D→Prop}{es:List D}:∀ {qs:List Addr}{aP:List (List D)}{j:Nat}{q:Addr},qs.Nodup→Paired F qs aP→qs[j]?=some q→G q es→(∀ a ds,a∈qs→a≠q→F a ds→G a ds)→Paired G qs (aP.set j es)
 |_,_,_,_,_,.nil,h,_,_=>by simp at h
 |a::qs,ds::aP,0,q,hn,.cons x t,h,g,w=>by
  simp at h;subst h
  rw [List.nodup_cons] at hn
  exact .cons g (jy (fun b es hb hf=>w b es (List.mem_cons_of_mem _ hb) (fun z=>hn.1 (z▸hb)) hf) t)
 |a::qs,ds::aP,j+1,q,hn,.cons x t,h,g,w=>by
  rw [List.nodup_cons] at hn
  have h':qs[j]?=some q:=by simpa using h
  have hq:q∈qs:=List.mem_of_getElem? h'
  exact .cons (w a ds List.mem_cons_self (fun z=>hn.1 (z▸hq)) x) (CH hn.2 t h' g fun b es hb=>w b es (List.mem_cons_of_mem _ hb))
theorem Rel.WW {i:Nat}{aP:List (List D)}{p q:Addr}{qs:List Addr}{j:Nat}{xs ys:List V}{es:List D} (R:Rel K H₀ I O H σ env) (hx:env[i]?=some (some (.nb,.lst (aP.map D.lst)))) (hp:σ[i]?=some (some (.ref p)))
  (h1:O p) (h2:H₀ p=none) (h3:H p=some (.lst (qs.map V.ref))) (h4:qs.Nodup) (h5:∀ q∈qs,O q∧H₀ q=none∧q≠p) (h6:Paired (fun q ds=>∃ xs,H q=some (.lst xs)∧ax K (fun a=>¬ O a∧H₀ a=none) H xs ds) qs aP)
  (hq:qs[j]?=some q) (eq:H q=some (.lst xs)) (r:ax K (fun a=>¬ O a∧H₀ a=none) H ys es) :
  Rel K H₀ I O (upd H q (.lst ys)) σ (env.set i (some (.nb,.lst ((aP.set j es).map D.lst))))∧aO O H O (upd H q (.lst ys)):=by
 have IZ:q∈qs:=List.mem_of_getElem? hq
 obtain ⟨qO,q0,qp⟩:=h5 q IZ
 have kp:∀ {N:Addr→Prop},(∀ a,N a→¬ O a)→Keeps N H (upd H q (.lst ys)):=fun w a u h z=>by
  have eE:a≠q:=by
   rintro rfl
   rcases z with z|z
   ·exact w _ z qO
   ·rw [eq] at h;cases h;exact z
  rw [aG eE];exact h
 have hi:i < env.length:=(List.getElem?_eq_some_iff.mp hx).1
 have G6:∀ {k:Nat}{x:M×D}{p':Addr},env[k]?=some (some x)→own x.1=true→σ[k]?=some (some (.ref p'))→p'≠q:=fun {k x p'} a b c z=>by
  obtain ⟨_,z2⟩:=R.nd.2 i k _ x p p' _ hx hp a b c h3
  exact z2 (List.mem_map.mpr ⟨q,IZ,by rw [z]⟩)
 have Aw:∀ {k:Nat}{d1:D},(env.set i (some (M.nb,D.lst ((aP.set j es).map D.lst))))[k]?=some (some (.nb,d1))→k=i:=fun {k d1} h=>by
  rcases get_set h with ⟨z,_⟩|⟨_,z⟩
  ·exact z
  ·exact R.nd.1 k i d1 _ z hx
 refine ⟨⟨⟨lj ?_ ?_,?_,?_,?_⟩,?_,R.ow,?_,?_,?_⟩,?_⟩
 ·rw [List.length_set];exact Paired.length R.e.sl
 ·intro k y x hy rJ m d ey
  subst ey
  rcases get_set hy with ⟨rfl,z⟩|⟨nk,z⟩
  ·cases z
   rw [hp] at rJ;cases rJ
   refine ⟨rfl,_,rfl,p,qs,aP.set j es,rfl,rfl,h1,h2,by rw [aG (fun z=>qp z.symm)];exact h3,h4,h5,CH h4 h6 hq ⟨ys,bF,r.keep (kp fun a h=>h.1)⟩ fun a ds ha eE ⟨zs,e1,e2⟩=>⟨zs,by rw [aG eE];exact e1,e2.keep (kp fun a h=>h.1)⟩⟩
  ·obtain ⟨v,hv,n,hm⟩:=R.e.at z
   rw [rJ] at hv;cases hv
   refine ⟨n,v,rfl,?_⟩
   cases m
   ·exact Rp.keep (kp fun a h=>h) hm
   ·exact Rp.keep (kp fun a h=>h.1) hm
   ·cases n
   ·obtain ⟨p',rfl,h1,h2,c'⟩:=hm
    exact ⟨p',rfl,h1,h2,c'.keep (kp fun a h=>h.1) (aG (G6 z rfl rJ))⟩
   ·obtain ⟨p',rfl,h1,c'⟩:=hm
    exact ⟨p',rfl,h1,c'.keep (kp fun a h=>h.1) (aG (G6 z rfl rJ))⟩
   ·cases n
   ·exact absurd (R.nd.1 k i d _ z hx) nk
 ·intro a ha
  by_cases z:a=q
  ·subst z;exact ⟨_,bF⟩
  ·rw [aG z];exact R.e.od a ha
 ·intro a u h
  by_cases z:a=q
  ·subst z;exact ⟨_,bF⟩
  ·rw [aG z];exact R.e.hd a u h
 ·intro a u ha e
  by_cases z:a=q
  ·subst z;rw [bF] at e;cases e;exact fun z=>z
  ·rw [aG z] at e;exact R.e.on a u ha e
 ·intro a u n h
  have z:a≠q:=by rintro rfl;rw [q0] at h;cases h
  rw [aG z];exact R.fr a u n h
 ·intro i' e' p' g1 p1
  rcases get_set g1 with ⟨rfl,z⟩|⟨n1,q1⟩
  ·cases z
  ·exact R.ba i' e' p' q1 p1
 ·intro i' k x y a g1 g2 o1 o2 p1 p2
  rcases get_set g1 with ⟨rfl,z⟩|⟨_,q1⟩
  ·cases z;cases o1
  ·rcases get_set g2 with ⟨rfl,z⟩|⟨_,q2⟩
   ·cases z;cases o2
   ·exact R.dj i' k x y a q1 q2 o1 o2 p1 p2
 ·refine ⟨fun i' k d1 d2 g1 g2=>(Aw g1).trans (Aw g2).symm,fun i' k d1 x p' a zs g1 p1 g2 o2 p2 e=>?_⟩
  have z:=Aw g1
  subst z
  rw [hp] at p1;cases p1
  rw [aG (fun z=>qp z.symm)] at e
  rcases get_set g2 with ⟨rfl,z⟩|⟨_,q2⟩
  ·cases z;cases o2
  ·exact R.nd.2 i' k _ x p a zs hx hp q2 o2 p2 e
 ·intro a u h n
  have z:a≠q:=by rintro rfl;exact n qO
  exact ⟨by rw [aG z];exact h,n⟩
noncomputable def uQ (i:Nat) (fk f:Ev→Option (M×D)):Ev→Option Fl:=fun e=>(fk e).bind fun y=>(lU y).bind fun k=>(f e).bind fun x=>if cR x.1 x.2=true then (vR i e).bind fun aP=>(df aP.length k).bind fun j=>(aP[j]?).bind fun ds=>if ds.length < sizeLine then some (.nx (e.set i (some (.nb,.lst ((aP.set j (ds++[x.2])).map D.lst))))) else none else none
theorem Qt {i:Nat}{t tk:TE}{f fk:Ev→Option (M×D)} (hk:JT K tk fk) (h:JT K t f):JS K (nL (vF K "list" tY (oD (vE K) (fQ i) tk) (lF t kz))) (uQ i fk f):=by
 intro H₀ I O H σ env Ds fl R e q
 obtain ⟨y,ey,e⟩:=ay e
 obtain ⟨k,ek,e⟩:=ay e
 obtain ⟨x,ex,e⟩:=ay e
 split at e
 ·rename_i hs
  obtain ⟨aP,ed,e⟩:=ay e
  obtain ⟨j,ej,e⟩:=ay e
  obtain ⟨ds,Ya,e⟩:=ay e
  split at e
  ·rename_i hl
   cases e
   have hx:=Tr ed
   obtain ⟨v,hv,_,p,qs,ZY,rfl,e2,h1,h2,h3,h4,h5,h6⟩:=R.e.at hx
   cases BO (D.lst.inj e2)
   obtain ⟨a,ha,xs,Ax,rr⟩:=CG h6 Ya
   refine ⟨.ref p,hv,?_⟩
   refine hk H₀ O H σ env _ y.1 y.2 R.e ey fun w H1 s1 hw=>?_
   rw [xU ek] at hw
   have hlen:qs.length=aP.length:=Paired.length h6
   refine .inl ⟨p,_,k,.ref a,rfl,hw.int,.inl (.inl (s1 _ _ h3)),?_,?_⟩
   ·unfold L2.bw
    rw [List.length_map,hlen,ej]
    show (qs.map V.ref)[j]?=_
    rw [List.getElem?_map,ha];rfl
   refine ⟨.inl ⟨rfl,xs,.inl (.inl (s1 _ _ Ax))⟩,?_⟩
   refine h H₀ O H1 σ env _ x.1 x.2 (R.e.keep s1) ex fun u H2 s2 hu=>?_
   have s:=s1.trans s2
   refine ⟨a,xs,u,rfl,rfl,s _ _ Ax,by rw [rr.len];exact hl,?_⟩
   have R2:=R.keep s
   obtain ⟨R3,st⟩:=R2.WW (ys:=xs++[u]) (es:=ds++[x.2]) hx hv h1 h2 (s _ _ h3) h4 h5 (jy (fun q ds _ ⟨zs,e1,e2⟩=>⟨zs,s _ _ e1,e2.keep (.same s)⟩) h6) ha (s _ _ Ax) ((rr.keep (.same s)).app (.cons (hu.cR hs) .nil))
   exact q O _ σ R3 ((aO.same s).trans st)
  ·cases e
 ·cases e
end
section
variable {K:PySem.W.Frag}
end
section
variable {K:PySem.W.Frag}{H H' H₀:Hp}{O:Addr→Prop}{σ:L2.St}{env:Ev}
end
end J
namespace J
open PySem PySem.Spec PyProof.Rows L2
section
variable {X:Cx}{pins:List (Addr×Obj)}{σ:L2.St}{H:Hp}{s:Shared}{a d it:Addr}
theorem Fd {o1 o2:HO} (I:L2.Inv X pins σ H s) (e:H a=some o1) (ht:∀ xs,o1≠.tup xs) (hb:∀ ps,o1≠.jT ps) (hx:∀ x,o1≠.own x) (hf:∀ o u,X.H₀ a≠some (.aX o u)) (ok:b0 X.prog X.w (upd H a o2) s.heap a o2):L2.Inv X pins σ (upd H a o2) s:=by
 have ne:∀ b,H b=none→b≠a:=fun b h z=>by rw [z,e] at h;cases h
 have nt:∀ b xs,H b=some (.tup xs)→b≠a:=fun b xs h z=>by rw [z,e] at h;cases h;exact ht _ rfl
 have nx:∀ b x,H b=some (.own x)→b≠a:=fun b x h z=>by rw [z,e] at h;cases h;exact hx _ rfl
 refine ⟨I.ok,I.os,I.bare,⟨I.base.keep,I.base.slot,fun b o h n hx=>?_,I.base.there,fun b xs h=>?_,fun b o u h=>?_,fun b ps h=>?_⟩,I.loc,I.cell,?_,fun x c h=>?_,fun p hp=>?_,fun b u h=>?_,I.len⟩
 ·have z:=I.base.free b o h n hx
  rw [aG (ne b z)];exact z
 ·have z:=I.base.jH b xs h
  rw [aG (nt b xs z)];exact z
 ·have z:=I.base.iw b o u h
  rw [aG (fun (q:b=a)=>hf o u (by rw [←q];exact h))];exact z
 ·obtain ⟨m,z⟩:=I.base.jI b ps h
  refine ⟨m,?_⟩
  rw [aG (fun q=>by rw [q,e] at z;cases z;exact hb _ rfl)];exact z
 ·rw [aG (ne _ I.free)];exact I.free
 ·rw [aG (ne _ (I.gj x c h))];exact I.gj x c h
 ·obtain ⟨h1,h2,h3⟩:=I.pin p hp
  exact ⟨h1,by rw [aG (ne _ h2)];exact h2,h3⟩
 ·by_cases z:b=a
  ·subst z;rw [bF] at h;cases h;exact ok
  ·rw [aG z] at h
   exact (I.aD b u h).ky (fun c v _ q=>q) (fun c q=>by rw [aG (nx _ _ q)];exact q) fun c xs q=>by rw [aG (nt _ _ q)];exact q
noncomputable def WX (a:Addr) (o:Obj) (u:HO) (Ds:Ends):Ends where
 nx:=fun σ H=>H a=some (.aX o u)∧Ds.nx σ (upd H a u)
 rt:=fun v H=>H a=some (.aX o u)∧Ds.rt v (upd H a u)
 bk:=fun σ H=>H a=some (.aX o u)∧Ds.bk σ (upd H a u)
 ct:=fun σ H=>H a=some (.aX o u)∧Ds.ct σ (upd H a u)
theorem Fe:∀ {ai:List (Key×V)}{vs:List (Key×Value)}{i:Nat}{kv:Key×V},KV ai vs→ai[i]?=some kv→∃ u,vs[i]?=some (kv.1,u)∧RelV kv.2 u
 |_,_,_,_,.nil,e=>by simp at e
 |_,_,0,_,.cons (b:=q) h _,e=>by
  simp only [List.getElem?_cons_zero,Option.some.injEq] at e
  subst e
  exact ⟨q.2,by rw [List.getElem?_cons_zero,h.1],h.2⟩
 |_,_,i+1,kv,.cons _ t,e=>by
  obtain ⟨u,h1,h2⟩:=Fe (i:=i) (kv:=kv) t (by simpa using e)
  exact ⟨u,by simpa using h1,h2⟩
end
noncomputable def zG:Key→D
 |.inl i=>.int i
 |.inr x=>.str x
 |.non=>.non
noncomputable def WY:HO→Bool
 |.aX _ _=>false
 |_=>true
def mM (H H':Hp):Prop:=(∀ b u,WY u=true→Rd H b u→Rd H' b u)∧∀ b xs,H b=some (.tup xs)→H' b=some (.tup xs)
section
variable {K:PySem.W.Frag}{N:Addr→Prop}{H H' H₀ H₁:Hp}{I:Nat→Option Addr}{O:Addr→Prop}{σ:L2.St}{env:Ev}
mutual
theorem Rp.cG (w:mM H H'):∀ {v:V}{d:D},Rp K N H v d→Rp K N H' v d
 |_,_,.non=>.non
 |_,_,.bl b=>.bl b
 |_,_,.int i=>.int i
 |_,_,.str x=>.str x
 |_,_,.ty n=>.ty n
 |_,_,.tup h r=>.tup (h.elim (fun z=>.inl (w.2 _ _ z)) .inr) (ax.cG w r)
 |_,_,.lst h n r=>.lst (w.1 _ _ rfl h) n (ax.cG w r)
 |_,_,.lstK h r=>.lstK h (ax.cG w r)
 |_,_,.dk h n e r=>.dk (w.1 _ _ rfl h) n e (ax.cG w r)
 |_,_,.dt h n e r=>.dt (w.1 _ _ rfl h) n e (ax.cG w r)
theorem ax.cG (w:mM H H'):∀ {vs:List V}{ds:List D},ax K N H vs ds→ax K N H' vs ds
 |_,_,.nil=>.nil
 |_,_,.cons h r=>.cons (Rp.cG w h) (ax.cG w r)
end
theorem Cell.cG {p:Addr}{d:D} (w:mM H H') (e:H' p=H p) (h:Cell K N H p d):Cell K N H' p d:=by
 cases d<;>simp only [Cell] at h ⊢
 ·obtain ⟨xs,q,r⟩:=h;exact ⟨xs,e.trans q,r.cG w⟩
 ·obtain ⟨xs,q,z,r⟩:=h;exact ⟨xs,e.trans q,z,r.cG w⟩
 ·obtain ⟨xs,q,z,r⟩:=h;exact ⟨xs,e.trans q,z,r.cG w⟩
theorem Val.cG {m:M}{d:D}{v:V} (w:mM H H') (un:m=.un→∀ p d N,Cell K N H p d→H' p=H p) (on:∀ p,O p→H' p=H p) (z:∀ b,H₀ b=none→H₁ b=none) (h:Val K H₀ O HE H m d v):Val K H₁ O HE H' m d v:=by
 cases m<;>simp only [Val] at h ⊢
 ·exact h.cG w
 ·exact (h.cG w).wk fun a n _=>⟨n.1,z a n.2⟩
 ·obtain ⟨p,e,h1,h2,h3,c⟩:=h
  exact ⟨p,e,h1,z _ h2,h3,(c.cG w (un rfl _ _ _ c)).wk fun a n _=>⟨⟨n.1.1,z a n.1.2⟩,n.2⟩⟩
 ·obtain ⟨p,e,h1,h2,c⟩:=h
  exact ⟨p,e,h1,z _ h2,(c.cG w (on _ h1)).wk fun a n _=>⟨n.1,z a n.2⟩⟩
 ·obtain ⟨p,e,h1,c⟩:=h
  exact ⟨p,e,h1,(c.cG w (on _ h1)).wk fun a n _=>⟨n.1,z a n.2⟩⟩
 ·exact (h.cG w).wk fun a n _=>z a n
 ·obtain ⟨p,qs,aP,e1,e2,h1,h2,h3,h4,h5,h6⟩:=h
  exact ⟨p,qs,aP,e1,e2,h1,z _ h2,(on _ h1).trans h3,h4,fun q hq=>⟨(h5 q hq).1,z _ (h5 q hq).2.1,(h5 q hq).2.2⟩,jy (fun q ds hq ⟨xs,a,r⟩=>⟨xs,(on _ (h5 q hq).1).trans a,(r.cG w).wk fun a n _=>⟨n.1,z a n.2⟩⟩) h6⟩
theorem Rel.cG (R:Rel K H₀ I O H σ env) (w:mM H H') (on:∀ p,O p→H' p=H p) (z:∀ b,H₀ b=none↔H₁ b=none) (nn:∀ b o,H b=some o→∃ o',H' b=some o') (fr:∀ b o,(∀ i,I i≠some b)→H₁ b=some o→H' b=some o):Rel K H₁ I O H' σ env:=by
 refine ⟨⟨kr (fun e x h m d q=>?_) R.e.sl,fun a h=>?_,fun a o h=>?_,fun a o h e=>?_⟩,fr,fun a h=>?_,R.ba,R.dj,R.nd.keep fun i d p h1 h2=>?_⟩
 ·obtain ⟨n,v,ev,hv⟩:=h m d q
  exact ⟨n,v,ev,hv.cG w (fun q=>by subst q;cases n) on fun b=>(z b).mp⟩
 ·obtain ⟨o,q⟩:=R.e.od a h
  exact nn a o q
 ·cases q:H₀ a with
  |none=>rw [(z a).mp q] at h;cases h
  |some o0 =>
   obtain ⟨o1,q1⟩:=R.e.hd a o0 q
   exact nn a o1 q1
 ·rw [on a h] at e;exact R.e.on a o h e
 ·exact (R.ow a h).imp id (z a).mp
 ·obtain ⟨qs,aP,_,hO,_⟩:=R.e.nest h1 h2
  exact on p hO
theorem N9 {wi:TI}{g:TG}{tb:TS}{fg:M×D→Ev→Option Ev}{b:Ev→Option Fl}{Ds:Ends}{fl:Fl}{m:M}{ds:List D} (hg:JG K g fg) (hb:JS K tb b) (R:Rel K H₀ I O H σ env) (hm:eC m=true)
  (hi:∀ R',(∀ J H',aH H H'→jN K H₀ O J H' m ds→R' J H')→wi σ H R') (e:forL fg b m ds env=some fl) (q:lV K H₀ I O H Ds fl):nY wi g tb Ds σ H:=by
 refine hi _ fun J H1 s1 ok=>?_
 have q1:=q.pre (aO.same s1)
 refine ⟨fun i n σ2 H2=>∃ O2 cV,Rel K H₀ I O2 H2 σ2 cV∧aO O H1 O2 H2∧i≤ds.length∧n=ds.length-i∧forL fg b m (ds.drop i) cV=some fl,⟨_,O,env,R.keep s1,aO.refl,Nat.zero_le _,rfl,e⟩,?_⟩
 rintro i n σ2 H2 ⟨O2,cV,R2,st,hle,rfl,ef⟩
 by_cases aU:i < ds.length
 ·refine .inr ⟨ok.go O2 H2 i st aU,fun σ' H'=>∃ O2 cV,Rel K H₀ I O2 H' σ' cV∧aO O H1 O2 H'∧forL fg b m (ds.drop (i+1)) cV=some fl,?_,?_⟩
  ·rintro σ' H' ⟨O3,zA,R3,bt,Am⟩
   exact ⟨ds.length-(i+1),by omega,O3,zA,R3,bt,aU,rfl,Am⟩
  ·intro x H3 y
   obtain ⟨s3,d,hd,hv⟩:=ok.iF O2 H2 i x H3 st aU y
   have rC:ds.drop i=d::ds.drop (i+1):=by
    rw [List.drop_eq_getElem_cons aU]
    rw [List.getElem?_eq_getElem aU] at hd
    cases hd;rfl
   rw [rC] at ef
   simp only [forL] at ef
   obtain ⟨e1,g1,ef⟩:=ay ef
   obtain ⟨r,br,ef⟩:=ay ef
   refine hg H₀ I O2 H3 σ2 cV (m,d) x e1 _ (R2.keep s3) hm hv g1 fun σ4 R4=>?_
   have j6:=st.trans (aO.same (O:=O2) s3)
   refine hb H₀ I O2 H3 σ4 e1 _ r R4 br ?_
   cases r with
   |nx e2=>exact fun O5 H5 σ5 R5 dN=>⟨O5,e2,R5,j6.trans dN,ef⟩
   |ct e2=>exact fun O5 H5 σ5 R5 dN=>⟨O5,e2,R5,j6.trans dN,ef⟩
   |bk e2=>cases ef;exact (q1.pre j6)
   |rt e2 m' d'=>cases ef;exact (q1.pre j6)
 ·have hi:i=ds.length:=by omega
  subst hi
  rw [List.drop_length] at ef
  cases ef
  exact .inl ⟨ok.stop O2 H2 st,q1 O2 H2 σ2 R2 st⟩
theorem Ent.at {ai:List (Key×V)}{ks:List (Key×D)}{i:Nat}{kv:Key×V} (h:Ent K N H ai ks) (e:ai[i]?=some kv):∃ d,ks[i]?=some (kv.1,d)∧Rp K N H kv.2 d:=by
 induction ai generalizing ks i with
 |nil=>simp at e
 |cons p ai ih =>
  cases ks with
  |nil=>exact absurd h.len (by simp)
  |cons q ks =>
   obtain ⟨e1,r,t⟩:=h.cons_inv
   cases i with
   |zero=>simp only [List.getElem?_cons_zero,Option.some.injEq] at e;subst e;exact ⟨q.2,by rw [List.getElem?_cons_zero,e1],r⟩
   |succ i=>obtain ⟨d,h1,h2⟩:=ih t (by simpa using e);exact ⟨d,by simpa using h1,h2⟩
end
end J
namespace J
open PySem
end J
namespace J
open PySem PySem.Spec PyProof.Rows L2
theorem tN:∀ (ds:List D),cO ds=ds.map toPy
 |[]=>by simp [cO]
 |d::ds=>by simp [cO,tN ds]
section
variable {X:Cx}{pins:List (Addr×Obj)}{σ:L2.St}{H:Hp}{s:Shared}{N N':Addr→Prop}{A:Around}{a b:Addr}{ai j9:List (Key×V)}{ks ls:List (Key×D)}
end
section
variable {X:Cx}{K:PySem.W.Frag}
end
theorem ints_of:∀ {ns:List Int}{us:List Value},Vals (ns.map V.int) us→IntsAre us ns
 |[],_,.nil=>.nil
 |n::ns,_,.cons ⟨t,e⟩ r=>by subst e;exact .cons n t (ints_of r)
noncomputable def nU:List D→Option (List Int)
 |[]=>some []
 |.int x::r=>(nU r).bind fun xs=>some (x::xs)
 |_=>none
section
variable {K:PySem.W.Frag}{H:Hp}
theorem Dh {N:Addr→Prop}:∀ {ds:List D}{vs:List V}{ys:List Int},ax K N H vs ds→nU ds=some ys→vs=ys.map V.int
 |_,_,_,.nil,e=>by cases e;rfl
 |d::ds,v::vs,ys,.cons h r,e=>by
  cases d<;>simp only [nU] at e<;>try (cases e;done)
  obtain ⟨xs,ex,e⟩:=ay e
  cases e
  rw [Dh r ex,h.int_inv];rfl
end
structure zH (K:PySem.W.Frag) (x:Str) (st:Stmt) (f:Addr) (fd:FuncData):Prop where
 ex:∃ (oc:Value) (od:Option Addr) (dV kV doc pm:Value) (an:Option Addr) (bM ct:Value) (iH:Array (Option Value)),
  fd=PySem.W.fnOf x x (fM st) (eU st) (bY st) dV kV doc pm an bM ct∧K.lookup f=some ⟨oc,od,.func fd,iH⟩∧PySem.W.codeIn K bM x=true
 kp:PySem.W.keepIn K (.ref f)=true
theorem zH.ok {P:Program}{w:World}{K:PySem.W.Frag}{mg:Str→Option Value}{base:Heap}{x:Str}{st:Stmt}{f:Addr}{fd:FuncData}{N ps:List Str}{k:Nat}{sp:Sp} (F:zH K x st f fd) (S:pZ N ps (bY st)) (len:∀ vs H Q E,sp vs H Q E→vs.length=ps.length)
  (qq:∀ (bM:Value) (A:Around) (outer:List Env) (s:Shared) (H:Hp) (vs:List V) (Q:VK) (E:XK),du k (A.deeper (envOfC x (bY st) s.heap.objs.size f bM))→sp vs H Q E →
   ∃ t,fG (kC j4 P w K mg base N x (bY st) f bM A outer s H E).mv (eU st) t∧t { nx:=fun _ H'=>Q .non H',rt:=Q } (L2.start N vs) H):jL P w K mg base j4 (k+1) f fd ps sp:=by
 obtain ⟨oc,od,dV,kV,doc,pm,an,bM,ct,iH,rfl,lk,gx⟩:=F.ex
 refine FW lk gx S len fun A outer s H vs Q E hr jc=>?_
 obtain ⟨t,h,q⟩:=qq bM A outer s H vs Q E hr jc
 exact ⟨t,h.mv,q⟩
structure DfD (K:PySem.W.Frag) (mg:Str→Option Value) (x:Str) (st:Stmt) (ps:List Str) (dv:Value) (f:Addr) (fd:FuncData):Prop where
 mg:mg x=some (.ref f)
 fn:zH K x st f fd
 bd:Binds K fd ps []
 bd1:Binds K fd ps [dv]
end J
namespace J
open PySem PySem.Spec PyProof.Rows L2
open Builtin Builtin.Str
section
variable {K:PySem.W.Frag}{H:Hp}
end
end J
namespace J
open PySem PySem.Spec PyProof.Rows L2
section
variable {prog:Program}{w:World}{A:Around}{E:Value→Shared→Prop}{s:Shared}{d:Addr}
theorem find_none {o:Obj}{es:Array DictEntry}{ep:Nat}{h:Int}{Q:Option Nat→Shared→Prop} (hu:A.units < cLine) (ho:s.heap.get? d=some o) (hd:o.data=.dict es ep)
  (hk:∀ e∈es,∃ ks b,e.key=.ref b∧(tupleKind (cn prog w)).is s.heap ks b) (hq:Q none s):wpAny (model prog w) A (dictFind d .none h) Q E s:=by
 unfold dictFind
 try with_reducible refine wpAny_holding ?_
 refine wpAny_bind (wpAny_dictEntries ho hd ?_)
 dsimp only
 have oC:∀ v∈(placesWithHash es.size (fun i=>es[i]?.map (·.hash)) h).filterMap (fun i=>es[i]?.map (·.key)),∃ ks b,v=.ref b∧(tupleKind (cn prog w)).is s.heap ks b:=by
  intro v hv
  obtain ⟨i,_,hi⟩:=List.mem_filterMap.mp hv
  cases jh:es[i]? with
  |none=>rw [jh] at hi;cases hi
  |some e =>
   rw [jh] at hi
   obtain rfl:e.key=v:=by simpa using hi
   exact hk e (Array.mem_of_getElem? jh)
 cases hs:(placesWithHash es.size (fun i=>es[i]?.map (·.hash)) h).filterMap (fun i=>es[i]?.map (·.key)) with
 |nil =>
  rw [if_pos (by rfl)]
  have hp:placesWithHash es.size (fun i=>es[i]?.map (·.hash)) h=[]:=by
   cases hp:placesWithHash es.size (fun i=>es[i]?.map (·.hash)) h with
   |nil=>rfl
   |cons i r =>
    have hi:i∈placesWithHash es.size (fun i=>es[i]?.map (·.hash)) h:=by rw [hp];exact List.mem_cons_self
    have aU:i < es.size:=by
     unfold placesWithHash at hi
     exact List.mem_range.mp (List.mem_filter.mp hi).1
    rw [hp,List.filterMap_cons] at hs
    simp [aU] at hs
  rw [hp]
  unfold dictWalkPlain
  refine wpAny_bind ?_
  exact wpAny_pure (wpAny_pure hq)
 |cons v r =>
  obtain ⟨ks,b,rfl,hb⟩:=oC v (by rw [hs];exact List.mem_cons_self)
  rw [if_neg (by simp [carriedByValue])]
  rw [if_neg (by simp)]
  refine wpAny_bind ?_
  have WZ:∀ x∈(Value.ref b::r),∃ ks b,x=.ref b∧(tupleKind (cn prog w)).is s.heap ks b:=by rw [←hs];exact oC
  have mt:∀ {Q':Bool→Shared→Prop},Q' false s→wpAny (model prog w) A (tableMayTell .none (Value.ref b::r)) Q' E s:=fun {Q'} Yb=>by
   unfold tableMayTell
   rw [if_neg (by simp)]
   refine wpAny_bind (show wpAny _ _ (pure true) _ _ s from wpAny_pure ?_)
   simp only [Bool.not_true,Bool.false_eq_true,if_false]
   refine wpAny_bind ?_
   refine wpAny_forIn_list _ (fun rest r s'=>s'=s∧r=(none,())∧∀ v∈rest,∃ ks b,v=.ref b∧(tupleKind (cn prog w)).is s.heap ks b) _ ?_ ?_ _ _ ⟨rfl,rfl,WZ⟩
   ·rintro x rest r s' ⟨rfl,rfl,hr⟩
    obtain ⟨k',b,rfl,hb⟩:=hr x List.mem_cons_self
    refine wpAny_bind ((tupleKind (cn prog w)).quiet hb ?_)
    simp only [Bool.not_true,Bool.false_eq_true,if_false]
    exact wpAny_pure ⟨rfl,rfl,fun v hv=>hr v (List.mem_cons_of_mem _ hv)⟩
   ·rintro r s' ⟨rfl,rfl,_⟩
    exact wpAny_pure Yb
  refine mt ?_
  rw [if_neg (by simp)]
  refine wpAny_bind ?_
  refine wpAny_forIn_list _ (fun rest r s'=>s'=s∧r=(none,none)) _ ?_ ?_ _ _ ⟨rfl,rfl⟩
  ·rintro i rest r s' ⟨rfl,rfl⟩
   cases jh:es[i]? with
   |none=>exact wpAny_pure ⟨rfl,rfl⟩
   |some e =>
    obtain ⟨ks,b,ek,hb⟩:=hk e (Array.mem_of_getElem? jh)
    dsimp only
    by_cases hh:(e.hash==h)=true
    ·rw [if_pos hh,ek]
     obtain ⟨ob,its,n,g1,g2,g3,_⟩:=hb
     refine wpAny_bind (wpAny_dictEpoch ho hd (wpAny_bind (SeqAt.EqAt.tuple_none (items:=its) ⟨ob,g1,g2,n,g3⟩ hu _ _ _ _ (wpAny_bind (wpAny_dictEpoch ho hd ?_)))))
     show wpAny _ _ (if (ep != ep)=true then _ else _) _ E _
     rw [if_neg (by simp)]
     simp only [Bool.false_eq_true,if_false]
     refine wpAny_bind (wpAny_rule ?_)
     simp only [Bool.false_and,Bool.false_eq_true,if_false]
     exact wpAny_pure ⟨rfl,rfl⟩
    ·rw [if_neg hh]
     exact wpAny_pure ⟨rfl,rfl⟩
  ·rintro r s' ⟨rfl,rfl⟩
   exact wpAny_pure hq
theorem get_none {xs:List (List Key×Addr×Value)}{r:Value}{Q:Value→Shared→Prop} (hu:A.units+1 < cLine) (hs:(d==sysModules)=false) (dd:s.heap.DictOfH (tupleKind (cn prog w)) d xs) (hq:Q r { s with toks:=s.toks+1 }):wpAny (model prog w) A (call (.builtin "dict.get") [.ref d,.none,r]) Q E s:=by
 refine call_meetsIn PySem.F.slot_dict_get dd.typeIs PySem.F.entry_dict_get (PySem.F.args_dict_get_3 _ _ _) (S:=fun A R s=>A.in1.units < cLine∧s.heap.DictOfH (tupleKind (cn prog w)) d xs∧R (.ok (.ret r)) { s with toks:=s.toks+1 }) (.of_wp fun A R s ⟨hu,hm,h⟩=>?_) ⟨hu,dd,hq⟩
 obtain ⟨o,es,ep,ho,_,hd,he,Yc,hn⟩:=hm
 show wpAny _ _ (dictGet d .none >>= _) _ _ s
 refine wpAny_bind ?_
 unfold dictGet
 try with_reducible refine wpAny_holding ?_
 refine wpAny_bind (Cq (wpAny_bind (find_none (s:={ s with toks:=s.toks+1 }) hu ho hd (fun e m=>?_) ?_)))
 ·have:e∈xs.map (entryOfKey (tupleKind (cn prog w))):=he▸Array.mem_toList_iff.mpr m
  obtain ⟨x,hx,rfl⟩:=List.mem_map.mp this
  exact ⟨x.1,x.2.1,rfl,Yc x hx⟩
 ·refine wpAny_pure ?_
  show wpAny _ _ (Builtin.Dict.missed d .none >>= _) _ _ _
  exact wpAny_bind (wpAny_missed_other hs (wpAny_pure ⟨r,rfl,h⟩))
end
section
variable {prog:Program}{w:World}{A:Around}{E:Value→Shared→Prop}{s:Shared}
inductive iu {κ:Type} [DecidableEq κ] (A:Around) (s:Shared) (kb:List (κ×Addr×Value)):List (κ×Addr×Value)→Bool→Prop
 |nil:iu A s kb [] true
 |miss {k:κ}{p:Addr×Value}{r:List (κ×Addr×Value)}:atKey kb k=none→iu A s kb ((k,p)::r) false
 |hit {k:κ}{p q:Addr×Value}{r:List (κ×Addr×Value)}{e b:Bool}:atKey kb k=some q→SeqAt.EqAt A s p.2 q.2 e→iu A s kb r b→iu A s kb ((k,p)::r) (e&&b)
theorem iu.inv {κ:Type} [DecidableEq κ] {kb:List (κ×Addr×Value)}{k:κ}{p:Addr×Value}{r:List (κ×Addr×Value)}{b:Bool} (h:iu A s kb ((k,p)::r) b) :
  (atKey kb k=none∧b=false)∨∃ q e b',atKey kb k=some q∧SeqAt.EqAt A s p.2 q.2 e∧iu A s kb r b'∧b=(e&&b'):=by
 cases h with
 |miss hn=>exact .inl ⟨hn,rfl⟩
 |hit hy he hr=>exact .inr ⟨_,_,_,hy,he,hr,rfl⟩
theorem L0 {κ:Type} [DecidableEq κ] {knd:HeapKind prog w κ}{nm:String}{a b:Addr}{ka kb:List (κ×Addr×Value)}{r:Bool}{Q:Bool→Shared→Prop} (hu:knd.room A) (ha:(a==sysModules)=false) (hb:(b==sysModules)=false)
  (da:s.heap.DictOfH knd a ka) (db:s.heap.DictOfH knd b kb) (hits:ka.length=kb.length→iu A s kb ka r) (h:Q (ka.length==kb.length&&r) s) :
  wpAny (model prog w) A (Builtin.Dict.samePairs nm a b) Q E s:=by
 obtain ⟨oa,es,ep,vS,_,vT,Ja,Yd,_⟩:=da
 obtain ⟨ob,kQ,qU,Ay,_,jX,Az,Ye,Jb⟩:=db
 have hV:ka.length=es.size:=(size_of_entries Ja).symm
 have Jc:kb.length=kQ.size:=(size_of_entries Az).symm
 rw [hV,Jc] at h
 unfold Builtin.Dict.samePairs Builtin.Dict.showsAll
 rw [if_neg (show ¬ (a==sysModules)=true by rw [ha];exact Bool.false_ne_true),if_neg (show ¬ (b==sysModules)=true by rw [hb];exact Bool.false_ne_true)]
 refine wpAny_bind (wpAny_pure (wpAny_bind (wpAny_pure ?_)))
 refine wpAny_bind (wpAny_dictEntries vS vT ?_)
 dsimp only
 refine wpAny_bind (wpAny_dictEntries Ay jX ?_)
 by_cases hsz:es.size=kQ.size
 case neg =>
  rw [if_pos (by simpa using hsz)]
  have Yf:(es.size==kQ.size)=false:=by simpa using hsz
  rw [Yf,Bool.false_and] at h
  exact wpAny_bind (wpAny_rule (wpAny_pure h))
 case pos =>
  have h':Q r s:=by simpa [hsz] using h
  have Vd:=hits (by rw [hV,Jc];exact hsz)
  rw [if_neg (by rw [hsz];simp)]
  refine wpAny_bind (wpAny_dictEpoch vS vT ?_)
  refine wpAny_bind ?_
  rw [Std.Legacy.Range.forIn_eq_forIn_range']
  simp only [Std.Legacy.Range.size,Nat.sub_zero,Nat.add_sub_cancel,Nat.div_one]
  refine wpAny_forIn_list _
   (fun rest q s'=>s'=s∧q=(none,())∧∃ i,rest=List.range' i (es.size-i)∧i≤es.size∧iu A s kb (ka.drop i) r)
   _ ?_ ?_ _ _ ⟨rfl,rfl,0,by simp,Nat.zero_le _,Vd⟩
  ·rintro x rest q s' ⟨rfl,rfl,i,hr,hi,iB⟩
   have aU:i < es.size:=by
    rcases Nat.lt_or_ge i es.size with h|h
    ·exact h
    ·rw [Nat.sub_eq_zero_of_le h] at hr;simp at hr
   obtain ⟨rfl,Ve⟩:x=i∧rest=List.range' (i+1) (es.size-(i+1)):=by
    have e:es.size-i=(es.size-(i+1))+1:=by omega
    rw [e,List.range'_succ] at hr
    injection hr with h1 h2
    exact ⟨h1,h2⟩
   refine wpAny_bind (wpAny_dictEntries vS vT ?_)
   have G7:x < ka.length:=by rw [hV];exact aU
   obtain ⟨k,p,bS⟩:∃ k p,ka[x]=(k,p):=⟨_,_,rfl⟩
   have Jd:ka[x]?=some (k,p):=by rw [List.getElem?_eq_getElem G7,bS]
   have Vf:ka.drop x=(k,p)::ka.drop (x+1):=by rw [←bS];exact List.drop_eq_getElem_cons G7
   have hex:es[x]?=some ⟨knd.hash k,.ref p.1,p.2⟩:=by rw [entry_at Ja x,Jd];rfl
   rw [hex]
   rw [Vf] at iB
   have W0:knd.is s'.heap k p.1:=Yd _ (List.mem_of_getElem? Jd)
   show wpAny _ _ (holding [Value.ref p.1,p.2] _ >>= _) _ _ _
   refine wpAny_bind (wpAny_holding (wpAny_bind (wpAny_dictFind_heap hu W0 Ay jX Az Ye Jb (fun oF=>?_) (fun j q hj=>?_))))
   ·have hn:=atKey_none_of_get oF
    rcases iB.inv with ⟨_,er⟩|⟨y,_,_,hy,_⟩
    ·rw [er] at h'
     refine wpAny_pure ?_
     show wpAny _ _ (if (!false)=true then _ else _) _ _ _
     rw [if_pos (by decide)]
     exact wpAny_pure (wpAny_pure h')
    ·rw [hn] at hy;exact nomatch hy
   ·have hv:=atKey_of_get Jb hj
    refine wpAny_bind (wpAny_dictEntries Ay jX ?_)
    rw [entry_at Az j,hj]
    rcases iB.inv with ⟨hn,_⟩|⟨y,e,b',hy,he,Je,er⟩
    ·rw [hv] at hn;exact nomatch hn
    ·have ey:q=y:=Option.some.inj (hv.symm.trans hy)
     subst ey
     refine wpAny_holding (he prog w _ _ ?_)
     cases e with
     |false =>
      rw [er,Bool.false_and] at h'
      show wpAny _ _ (if (!false)=true then _ else _) _ _ _
      rw [if_pos (by decide)]
      exact wpAny_pure (wpAny_pure h')
     |true =>
      rw [Bool.true_and] at er
      rw [←er] at Je
      show wpAny _ _ (if (!true)=true then _ else _) _ _ _
      rw [if_neg (by decide)]
      refine wpAny_bind (wpAny_dictEpoch vS vT ?_)
      rw [if_neg (by simp)]
      exact wpAny_pure ⟨rfl,rfl,x+1,Ve,aU,Je⟩
  ·rintro q s' ⟨rfl,rfl,i,hr,hi,iB⟩
   have Yg:i=es.size:=by
    rcases Nat.lt_or_ge i es.size with h|h
    ·have e:es.size-i=(es.size-(i+1))+1:=by omega
     rw [e,List.range'_succ] at hr;exact nomatch hr
    ·exact Nat.le_antisymm hi h
   refine wpAny_pure ?_
   rw [Yg,←hV,List.drop_length] at iB
   cases iB
   exact h'
theorem Yh {κ:Type} [DecidableEq κ] {knd:HeapKind prog w κ}{a b:Addr}{ka kb:List (κ×Addr×Value)}{r:Bool}{Q:Value→Shared→Prop} (ha:(a==sysModules)=false) (hb:(b==sysModules)=false) (hr:knd.room A.in1)
  (da:s.heap.DictOfH knd a ka) (db:s.heap.DictOfH knd b kb) (hu:A.units < cLine) (hits:ka.length=kb.length→iu A.in1 s kb ka r) (h:Q (.bool (!(ka.length==kb.length&&r))) s) :
  wpAny (model prog w) A (compareOp .NotEq (.ref a) (.ref b)) Q E s:=by
 refine wpAny_richCompare_same_room (op:=.NotEq) da.typeIs db.typeIs PySem.F.slot_dict_ne (wpAny_call_entry PySem.F.slot_dict_ne da.typeIs PySem.F.entry_dict_ne ?_ (PySem.F.args_dict_ne_2 _ _)) hu
 show wpAny _ _ (Builtin.Dict.dictSlotArgs "__ne__" ⟨[.ref a,.ref b],[]⟩ >>= _) _ _ s
 refine wpAny_bind ?_
 unfold Builtin.Dict.dictSlotArgs
 refine wpAny_bind (wpAny_notOrdered_dict da.typeIs ?_)
 show wpAny _ _ (pure (Value.ref a,Value.ref b)) _ _ s
 refine wpAny_pure ?_
 refine wpAny_bind (wpAny_isInstance (T := "dict") db.typeIs PySem.F.sub_dict_dict ?_)
 simp only [Bool.not_true,Bool.false_eq_true,if_false]
 refine wpAny_bind (wpAny_pure (wpAny_bind (wpAny_pure ?_)))
 refine wpAny_bind (L0 hr ha hb da db hits ?_)
 refine wpAny_pure ⟨_,rfl,?_,?_⟩
 ·exact fun x=>nomatch x
 ·simpa using h
theorem Ts {d:Addr}{o:Obj}{es:Array DictEntry}{ep:Nat}{Q:Value→Shared→Prop} (ho:s.heap.get? d=some o) (hc:o.ExactDict) (jM:o.data=.dict es ep) (fZ:es.size≤sizeLine)
  (h:∀ h',(∃ o',h'.get? d=some o'∧o'.ExactDict∧o'.data=.dict #[] (ep+1))→Heap.SameBut d s.heap h'→Q .none { s with heap:=h' }):wpAny (model prog w) A (call (.builtin "dict.clear") [.ref d]) Q E s:=by
 have fY:s.TypeIs (.ref d) "dict" := ⟨o,ho,hc.1⟩
 refine call_meetsIn PySem.F.slot_dict_clear fY PySem.F.entry_dict_clear (PySem.F.args_dict_clear_1 _) (S:=fun _ R s=>s.heap.get? d=some o∧∀ h',(∃ o',h'.get? d=some o'∧o'.ExactDict∧o'.data=.dict #[] (ep+1))→Heap.SameBut d s.heap h'→R (.ok (.ret .none)) { s with heap:=h' }) (.of_wp fun A R s ⟨ho,h⟩=>?_) ⟨ho,h⟩
 have fY:s.TypeIs (.ref d) "dict" := ⟨o,ho,hc.1⟩
 unfold Builtin.«dict.clear»
 refine wpAny_bind ?_
 unfold Builtin.Dict.noArgs
 refine wpAny_bind (wpAny_notOrdered_dict fY ?_)
 show wpAny _ _ (pure d) _ _ s
 refine wpAny_pure ?_
 refine wpAny_bind (wpAny_dictEntries ho jM ?_)
 refine wpAny_bind ?_
 unfold bearsInstanceDictMark
 refine wpAny_bind (wpAny_load ho (wpAny_pure ?_))
 refine wpAny_bind (wpAny_updateDictKeys (hz:=fZ) ho jM ?_)
 have G8:∃ o',(s.heap.update d (Obj.mapDictKeys fun _=>#[])).get? d=some o'∧o'.ExactDict∧o'.data=.dict #[] (ep+1) :=
  ⟨_,Heap.get?_update_self _ ho (Obj.isFreed_of_dict (Obj.data_mapDictKeys jM _)),hc.mapDictKeys _,Obj.data_mapDictKeys jM _⟩
 split
 ·exact wpAny_bind (wpAny_letGo (wpAny_pure ⟨.none,rfl,h _ G8 (Heap.SameBut.update ..)⟩))
 ·exact wpAny_bind (wpAny_pure (wpAny_pure ⟨.none,rfl,h _ G8 (Heap.SameBut.update ..)⟩))
end
def Raw (h:Heap) (d:Addr) (es:Array DictEntry) (ep:Nat):Prop:=∃ o,h.get? d=some o∧o.ExactDict∧o.data=.dict es ep
theorem Raw.ty {s:Shared}{d:Addr}{es:Array DictEntry}{ep:Nat} (h:Raw s.heap d es ep):s.TypeIs (.ref d) "dict" := let ⟨o,a,b,_⟩:=h;⟨o,a,b.1⟩
section
variable {prog:Program}{w:World}{A:Around}{E:Value→Shared→Prop}{s:Shared}{d it:Addr}{es:Array DictEntry}{ep i n:Nat}
theorem MJ {Q:Value→Shared→Prop} (lo:(d==sysModules)=false) (r:Raw s.heap d es ep) (hQ:Q (.ref s.heap.objs.size) { s with heap:=s.heap.push { cls:=.type "dict_values",data:=.fields #[.ref d] } }):wpAny (model prog w) A (call (.builtin "dict.values") [.ref d]) Q E s:=by
 refine call_meetsIn PySem.F.slot_dict_values r.ty PySem.F.entry_dict_values (PySem.F.args_dict_values_1 _) (S:=fun _ R s=>Raw s.heap d es ep∧R (.ok (.ret (.ref s.heap.objs.size))) { s with heap:=s.heap.push { cls:=.type "dict_values",data:=.fields #[.ref d] } }) (.of_wp fun A R s ⟨r,h⟩=>?_) ⟨r,hQ⟩
 refine wpAny_bind ?_
 unfold Builtin.Dict.noArgs
 refine wpAny_bind (wpAny_notOrdered_dict r.ty (show wpAny _ _ (pure d) _ _ s from wpAny_pure ?_))
 show wpAny _ _ (Builtin.Dict.showsAll d >>= _) _ _ s
 rw [Builtin.Dict.showsAll,if_neg (by rw [lo];exact Bool.false_ne_true)]
 exact wpAny_bind (wpAny_pure (wpAny_bind (wpAny_newObj_type (wpAny_pure ⟨_,rfl,h⟩))))
theorem Lr {v:Addr}{Q:Value→Shared→Prop} (hv:s.heap.IsValuesView v d) (r:Raw s.heap d es ep)
  (hQ:Q (.ref s.heap.objs.size) { s with heap:=s.heap.push { cls:=.type "dict_valueiterator",data:=.fields #[.ref d,.int 0 0,.int es.size 0,.int ep 0] } }):wpAny (model prog w) A (pyIter (.ref v)) Q E s:=by
 obtain ⟨ov,o1,_,o3⟩:=id hv
 obtain ⟨o,ho,_,hd⟩:=r
 refine wpAny_pyIter_slot hv.typeIs PySem.F.slot_dict_values_iter (wpAny_call_entry PySem.F.slot_dict_values_iter hv.typeIs PySem.F.entry_dict_values_iter ?_ (PySem.F.args_dict_values_iter_1 _))
 unfold Builtin.«dict_values.__iter__»
 refine wpAny_bind (wpAny_pure (wpAny_bind ?_))
 rw [Builtin.Dict_items.dictOf]
 refine wpAny_bind (wpAny_field o1 o3 (x:=.ref d) rfl (wpAny_pure (wpAny_bind ?_)))
 rw [Builtin.Dict_items.newIterator]
 refine wpAny_bind (wpAny_dictEntries ho hd (wpAny_bind (wpAny_dictEpoch ho hd ?_)))
 simp only [show Builtin.Dict_items.ownsTuple "dict_valueiterator" = false by decide,Bool.false_eq_true,if_false]
 exact wpAny_newObj_type (wpAny_pure ⟨_,rfl, "dict_valueiterator",_,⟨_,Heap.get?_push_size _ rfl,rfl⟩,PySem.F.slot_dict_valueiterator_next.lookup,by simpa [rawInt] using hQ⟩)
theorem B8 {Q:Option Value→Shared→Prop} (hit:s.heap.IsValIter it d i es.size ep) (r:Raw s.heap d es ep)
  (Vg:∀ e,es[i]?=some e→∀ h',h'.IsValIter it d (i+1) es.size ep→Heap.SameBut it s.heap h'→Q (some e.val) { s with heap:=h' })
  (none_:es[i]?=none→A.handled=none∧∀ h',Heap.ExtBut it s.heap h'→Q none { s with heap:=h' }):wpAny (model prog w) A (pyNext (.ref it)) Q E s:=by
 obtain ⟨o,ho,hc,hd⟩:=id hit
 obtain ⟨od,kZ,_,k5⟩:=r
 unfold pyNext
 refine wpAny_bind (wpAny_attempt (wpAny_callSpecial?_slot (name:=Str.ofString "__next__") hit.typeIs PySem.F.slot_dict_valueiterator_next (wpAny_call_entry PySem.F.slot_dict_valueiterator_next hit.typeIs PySem.F.entry_dict_valueiterator_next ?_ (PySem.F.args_dict_valueiterator_next_1 _))))
 refine wpAny_bind (wpAny_pure (wpAny_bind (wpAny_bind ?_)))
 first|refine wpAny_bind (wpAny_typeNameOfWhole_valiter hit.typeIs (wpAny_pure ?_))|refine wpAny_bind (wpAny_typeNameOf_valiter hit.typeIs (wpAny_pure ?_))
 refine wpAny_bind (wpAny_fieldsOf ho hd ?_)
 simp only [show Builtin.Dict_items.ownsTuple "dict_valueiterator" = false by decide,Bool.false_eq_true,if_false]
 show wpAny _ _ (if (Value.ref d==Value.none)=true then _ else _) _ _ s
 rw [if_neg (show ¬ ((Value.ref d==Value.none)=true) from Bool.false_ne_true)]
 refine wpAny_bind (wpAny_pure (wpAny_bind (wpAny_dictEntries kZ k5 ?_)))
 rw [if_neg (by simp)]
 refine wpAny_bind (wpAny_pure (wpAny_bind (wpAny_dictEpoch kZ k5 ?_)))
 rw [if_neg (by simp)]
 refine wpAny_pure ?_
 simp only [show ¬ ((i:Int) < 0) by omega,if_false,Int.toNat_natCast]
 cases hx:es[i]? with
 |some e =>
  simp only []
  refine wpAny_bind ?_
  first|refine wpAny_bind (wpAny_typeNameOfWhole_valiter hit.typeIs (wpAny_pure ?_))|refine wpAny_bind (wpAny_typeNameOf_valiter hit.typeIs (wpAny_pure ?_))
  refine wpAny_bind (wpAny_isOneOf_valiter hit.typeIs ?_)
  show wpAny _ _ (setField (.ref it) 1 (rawInt ((i:Int)+1)) >>= _) _ _ s
  refine wpAny_bind (wpAny_setField ho hd (by simp) ?_)
  have kE:(s.heap.update it (Obj.mapFields (·.setIfInBounds 1 (rawInt ((i:Int)+1))))).IsValIter it d (i+1) es.size ep :=
   ⟨_,Heap.get?_update_self _ ho (Obj.isFreed_of_fields (Obj.data_mapFields hd _)),(Obj.cls_mapFields ..).trans hc,by rw [Obj.data_mapFields hd];simp [rawInt]⟩
  refine wpAny_bind (wpAny_holding (wpAny_bind (wpAny_isOneOf_valiter (s:={ s with heap:=s.heap.update it (Obj.mapFields (·.setIfInBounds 1 (rawInt ((i:Int)+1)))) }) kE.typeIs (wpAny_bind (wpAny_isOneOf_valiter (s:={ s with heap:=s.heap.update it (Obj.mapFields (·.setIfInBounds 1 (rawInt ((i:Int)+1)))) }) kE.typeIs ?_)))))
  show wpAny _ _ (pure e.val) _ _ _
  exact wpAny_pure (wpAny_pure ⟨_,rfl,wpAny_pure (Vg e hx _ kE (Heap.SameBut.update ..))⟩)
 |none =>
  obtain ⟨hh,hq⟩:=none_ hx
  simp only []
  refine wpAny_bind ?_
  first|refine wpAny_bind (wpAny_typeNameOfWhole_valiter hit.typeIs (wpAny_pure ?_))|refine wpAny_bind (wpAny_typeNameOf_valiter hit.typeIs (wpAny_pure ?_))
  show wpAny _ _ (setField (.ref it) 0 .none >>= _) _ _ s
  refine wpAny_bind (wpAny_setField ho hd (by simp) ?_)
  show wpAny _ _ (newExc (.type "StopIteration") [] >>= _) _ _ _
  refine wpAny_bind ?_
  simp only [newExc,newTuple]
  refine wpAny_bind (wpAny_newObj_type ?_ (by size_fits))
  refine wpAny_bind (m:=firstArgMember _ _) (wpAny_of_eq (a:=Value.none) (by first|rfl | (simp only [firstArgMember];rfl)) ?_)
  refine wpAny_newObj_type ?_ (by size_fits)
  simp only [raiseNew]
  refine wpAny_bind (wpAny_handled ?_)
  rw [show A.in1.handled=none from hh]
  refine wpAny_bind (wpAny_pure (wpAny_throw ?_))
  refine wpAny_bind (wpAny_isInstance (T := "StopIteration") (b:=true) ⟨_,Heap.get?_push_size _ rfl,rfl⟩ isSubtype_stop ?_)
  exact wpAny_pure (hq _ (((Heap.SameBut.update ..).extBut.push _).push _))
end
noncomputable def kO:HO→Bool
 |.dK _=>true
 |.dT _=>true
 |_=>false
noncomputable def gq:HO→List V
 |.dK ai=>ai.map (·.2)
 |.dT ai=>ai.map (·.2)
 |_=>[]
theorem Ff {u:HO} (h:kO u=true):(∀ o v,u≠.aX o v)∧(∀ xs,u≠.tup xs)∧(∀ ps,u≠.jT ps)∧∀ x,u≠.own x:=by
 cases u<;>first | (cases h;done)|exact ⟨(fun _ _ z=>nomatch z),(fun _ z=>nomatch z),(fun _ z=>nomatch z),(fun _ z=>nomatch z)⟩
section
variable {X:Cx}{pins:List (Addr×Obj)}{σ:L2.St}{H:Hp}{s:Shared}{a it:Addr}
theorem yw {P:Program}{w:World}{h:Heap}{u:HO} (hu:kO u=true) (ok:b0 P w H h a u):∃ o es ep,h.get? a=some o∧o.ExactDict∧o.data=.dict es ep∧es.size=(gq u).length∧(∀ (i:Nat) x,(gq u)[i]?=some x→∃ e,es[i]?=some e∧RelV x e.val)∧(a==sysModules)=false:=by
 cases u<;>try (cases hu;done)
 ·rename_i ai
  obtain ⟨z,lo,vs,rv,o,es,ep,ho,ex,hd,hk,hp,hn⟩:=ok
  refine ⟨o,es,ep,ho,ex,hd,?_,fun i x e=>?_,lo⟩
  ·have e1:=hp.length
   have e2:=rv.length
   simp only [Array.length_toList] at e1
   simp [gq,e1,e2]
  ·simp only [gq,List.getElem?_map,Option.map_eq_some_iff] at e
   obtain ⟨kv,bS,rfl⟩:=e
   obtain ⟨v,h1,h2⟩:=Fe rv bS
   have hi:i < es.size:=by
    have:=(List.getElem?_eq_some_iff.mp h1).1
    have e1:=hp.length
    simp only [Array.length_toList] at e1
    omega
   exact ⟨es[i],by simp [hi],by rw [(hp.get? (e:=es[i]) (by simp [hi]) h1).2];exact h2⟩
 ·rename_i ai
  obtain ⟨z,lo,xs,r,o,es,ep,ho,ex,hd,he,hn⟩:=ok
  refine ⟨o,es,ep,ho,ex,hd,?_,fun i x e=>?_,lo⟩
  ·rw [←Array.length_toList,he,List.length_map,←Paired.length r];simp [gq]
  ·simp only [gq,List.getElem?_map,Option.map_eq_some_iff] at e
   obtain ⟨kv,bS,rfl⟩:=e
   have go:∀ {l:List (List Key×V)}{m:List (List Key×Addr×Value)}{i:Nat}{kv:List Key×V},Paired (fun (p:List Key×V) (q:List Key×Addr×Value)=>p.1=q.1∧H q.2.1=some (.tup (p.1.map kV))∧RelV p.2 q.2.2) l m→l[i]?=some kv→∃ y,m[i]?=some y∧RelV kv.2 y.2.2:=by
    intro l m i kv q
    induction q generalizing i with
    |nil=>intro e;simp at e
    |cons h t ih =>
     intro e
     cases i with
     |zero=>simp at e;subst e;exact ⟨_,rfl,h.2.2⟩
     |succ i=>exact ih (by simpa using e)
   obtain ⟨y,h1,h2⟩:=go r bS
   exact ⟨entryOfKey (tupleKind (cn P w)) y,by rw [←Array.getElem?_toList,he,List.getElem?_map,h1];rfl,h2⟩
theorem Ge {P:Program}{w:World}{h:Heap}{H':Hp}{u:HO} (hu:kO u=true) (ok:b0 P w H h a u) (nt:∀ b xs,H b=some (.tup xs)→H' b=some (.tup xs)):b0 P w H' h a u:=by
 cases u<;>try (cases hu;done)
 ·exact ok
 ·obtain ⟨z,lo,xs,r,m⟩:=ok
  exact ⟨z,lo,xs,Paired.uX r fun p q z=>⟨z.1,nt _ _ z.2.1,z.2.2⟩,m⟩
noncomputable def AA (a:Addr) (o:Obj) (u:HO):It :=
 ⟨fun i H=>H a=some (.aX o u)∧i < (gq u).length,fun i H x H'=>H'=H∧(gq u)[i]?=some x,fun i H=>H a=some (.aX o u)∧(gq u).length≤i⟩
theorem Fg {o:Obj}{u:HO}{es:Array DictEntry}{ep:Nat} (hu:kO u=true) (I:L2.Inv X pins σ H s) (e:H a=some (.aX o u)) (hd:o.data=.dict es ep):Raw s.heap a es ep∧es.size=(gq u).length∧∀ (i:Nat) x,(gq u)[i]?=some x→∃ e,es[i]?=some e∧RelV x e.val:=by
 obtain ⟨ho,ok⟩:=(I.aD a _ e:b0 X.prog X.w H s.heap a (.aX o u))
 obtain ⟨o',kQ,qU,fF,ex,gX,h1,h2,_⟩:=yw hu ok
 rw [ho] at fF;cases fF
 rw [hd] at gX;cases gX
 exact ⟨⟨o,ho,ex,hd⟩,h1,h2⟩
theorem Ls {P:Program}{w:World}{K:PySem.W.Frag}{tg:Expr}{o:Obj}{u:HO}{es:Array DictEntry}{ep:Nat} (hu:kO u=true) (hd:o.data=.dict es ep):Turn P w K tg (AA a o u) [it] it (fun i h=>h.IsValIter it a i es.size ep) where
 mem:=by simp
 obj:=fun i h st b hb=>by
  have e:b=it:=by simpa using hb
  subst e
  obtain ⟨o,e,c,d⟩:=st
  exact ⟨o,e,fun v z=>by rw [d] at z;cases z⟩
 keep:=fun i h h' st k=>st.at fun o e=>k it (by simp) o e
 item:=by
  intro X hP hw hK hc i pins s σ H E I hf st hg
  subst hP hw hK
  obtain ⟨r,hz,Yi⟩:=Fg hu I hg.1 hd
  obtain ⟨f0,f1,f2,f3,f4,f5⟩:=hf it (by simp)
  refine B8 st r (fun e he h' fW sb=>?_) (fun z=>?_)
  ·have hx:=List.getElem?_eq_getElem hg.2
   obtain ⟨e',h1,h2⟩:=Yi i _ hx
   rw [he] at h1;cases h1
   obtain ⟨ob,e1,c1,d1⟩:=id fW
   exact ⟨_,rfl,qm (s:={ s with heap:=h' }) e1 c1 d1 (by decide) ⟨_,H,I.turned (t':=s.toks) (fun b o hb e=>(sb.2 b hb).trans e) f0 f1 f3 f4 f5,h2,⟨rfl,hx⟩,fW,fun b hb=>(hf b hb).1⟩⟩
  ·have:=Array.getElem?_eq_none_iff.mp z
   have:=hg.2
   omega
 done:=by
  intro X hP hw hK hc i pins s σ H E I hf st hg
  subst hP hw hK
  obtain ⟨r,hz,_⟩:=Fg hu I hg.1 hd
  obtain ⟨f0,f1,f2,f3,f4,f5⟩:=hf it (by simp)
  refine B8 st r (fun e he=>?_) (fun _=>⟨I.ok.hd hc,fun h' eb=>⟨rfl,I.turned (t':=s.toks) (fun b o hb e=>eb b o hb e) f0 f1 f3 f4 f5⟩⟩)
  have:=(Array.getElem?_eq_some_iff.mp he).1
  have:=hg.2
  omega
 self:=fun _ _ _ _ _ st h=>wpAny_pyIter_valiter st h
noncomputable def yW (td:TE):TI:=fun σ H R=>td σ H fun x H1=>∃ a o u,x=.ref a∧H1 a=some (.aX o u)∧kO u=true∧R (AA a o u) H1
theorem MK {e:Expr}{td:TE}{apos cq:Pos}{tg:Expr} (he:PE X e td) (qt:attributeBase e "values" X.env (eval e X.env)=eval e X.env) (hline:(apos.endLine==cq.line)=true):PI X tg (.Call (.Attribute e "values" apos) [] [] cq) (yW td):=by
 intro pins s σ H R I h
 refine wpAny_Call_method0_late qt hline (aF (he pins s σ H _ I h) fun v s1 ⟨x,H1,I1,r1,a,o,u,ex,hf,hu,q⟩=>?_)
 subst ex
 obtain rfl:v=Value.ref a:=r1
 obtain ⟨ho,ok⟩:=(I1.aD a _ hf:b0 X.prog X.w H1 s1.heap a (.aX o u))
 obtain ⟨o',es,ep,fF,ex,hd,hz,_,lo⟩:=yw hu ok
 rw [ho] at fF;cases fF
 refine ⟨"dict", "dict.values",PySem.F.plainAttrs_dict,PySem.F.slot_dict_values,PySem.F.type_dict_values,⟨o,ho,ex.1⟩,fun a' e2=>by cases e2;exact ⟨o,ho,ex.2.1⟩,Calls.callWith_builtin rfl (PySem.evalArgs_none ?_)⟩
 refine MJ lo ⟨o,ho,ex,hd⟩ ?_
 refine Lr ⟨_,Heap.get?_push_size _ rfl,rfl,rfl⟩ ⟨o,Heap.get?_push_of_some _ ho,ex,hd⟩ ?_
 have I2:L2.Inv X pins σ H1 { s1 with heap:=s1.heap.push { cls:=.type "dict_values",data:=.fields #[.ref a] } }:=I1.kept (t':=s1.toks) fun b u q=>Heap.get?_push_of_some _ q
 have I3:=I2.kept (t':=s1.toks) (h':=(s1.heap.push { cls:=.type "dict_values",data:=.fields #[.ref a] }).push { cls:=.type "dict_valueiterator",data:=.fields #[.ref a,.int 0 0,.int es.size 0,.int ep 0] }) fun b u q=>Heap.get?_push_of_some _ q
 refine ⟨_,[_],_,_,H1,rfl,I3,Ls hu hd,⟨_,Heap.get?_push_size _ rfl,rfl,rfl⟩,fun b hb=>?_,q⟩
 have oO:b=(s1.heap.push { cls:=.type "dict_values",data:=.fields #[.ref a] }).objs.size:=by simpa using hb
 subst oO
 exact I2.nX (Nat.le_refl _) (I2.aD.fresh (Nat.le_refl _))
noncomputable def Gf (i:Nat) (t:TS):TS:=fun Ds σ H=>∃ a u,σ[i]?=some (some (.ref a))∧kO u=true ∧
 ((H a=some u∧∀ o,t (WX a o u Ds) σ (upd H a (.aX o u)))∨((∃ o,H a=some (.aX o u))∧t Ds σ H))
theorem Qu {st:Stmt}{t:TS}{i:Nat} (h:eZ X st t):eZ X st (Gf i t):=by
 refine ⟨fun pins s σ H Ds I ht=>?_⟩
 obtain ⟨a,u,hs,hu,⟨e,ht⟩|⟨_,ht⟩⟩:=ht
 ·have ok:=I.aD a _ e
  obtain ⟨n1,n2,n3,n4⟩:=Ff hu
  obtain ⟨o,_,_,ho,_⟩:=yw hu ok
  have hf:∀ o v,X.H₀ a≠some (.aX o v):=fun o v z=>by rw [I.base.iw a o v z] at e;cases e;exact n1 _ _ rfl
  have nt:∀ {H':Hp}{z z':HO},H' a=some z→(∀ xs,z≠.tup xs)→∀ b xs,H' b=some (.tup xs)→upd H' a z' b=some (.tup xs):=fun e' nz b xs q=>by
   rw [aG (uF q e' (fun w=>nz xs w.symm))];exact q
  have I1:L2.Inv X pins σ (upd H a (.aX o u)) s:=Fd I e n2 n3 n4 hf ⟨ho,Ge hu ok (nt e n2)⟩
  have th:∀ {σ':L2.St}{H':Hp}{s':Shared},L2.Inv X pins σ' H' s'→H' a=some (.aX o u)→L2.Inv X pins σ' (upd H' a u) s':=fun I' e' =>
   Fd I' e' (fun _ z=>nomatch z) (fun _ z=>nomatch z) (fun _ z=>nomatch z) hf (Ge hu (I'.aD a _ e').2 (nt e' (fun _ z=>nomatch z)))
  refine aF (h.go pins s σ _ _ I1 (ht o)) fun f s' q=>?_
  cases f with
  |next=>obtain ⟨σ',H',I',e',q⟩:=q;exact ⟨σ',_,th I' e',q⟩
  |brk=>obtain ⟨σ',H',I',e',q⟩:=q;exact ⟨σ',_,th I' e',q⟩
  |cont=>obtain ⟨σ',H',I',e',q⟩:=q;exact ⟨σ',_,th I' e',q⟩
  |ret v=>obtain ⟨v',σ',H',I',Al,e',q⟩:=q;exact ⟨v',σ',_,th I' e',Al,q⟩
 ·exact h.go pins s σ H Ds I ht
end
end J
namespace J
open PySem L2
section
variable {K:PySem.W.Frag}{N:Addr→Prop}{H H' H₀ H₁:Hp}{I:Nat→Option Addr}{O:Addr→Prop}{σ:L2.St}{env:Ev}
noncomputable def AF:D→Option (List D)
 |.dk ks=>some (ks.map (·.2))
 |.dt ks=>some (ks.map (·.2))
 |_=>none
noncomputable def DR (K:PySem.W.Frag) (N:Addr→Prop) (H:Hp):HO→D→Prop
 |.dK ai,.dk ks=>Ent K N H ai ks
 |.dT ai,.dt ks=>Ent K N H ai ks
 |_,_=>False
theorem DR.dc {u:HO}{d:D} (h:DR K N H u d):kO u=true:=by cases u<;>cases d<;>first|rfl|exact h.elim
theorem DR.vs {u:HO}{d:D}{ds:List D} (h:DR K N H u d) (e:AF d=some ds):ax K N H (gq u) ds:=by
 cases u<;>cases d<;>first|exact h.elim|skip
 ·cases e;exact h.2
 ·cases e;exact h.2
theorem DR.mono {N':Addr→Prop}{u:HO}{d:D} (h:DR K N H u d) (w:∀ {vs:List V}{ds:List D},ax K N H vs ds→ax K N' H' vs ds):DR K N' H' u d:=by
 cases u<;>cases d<;>first|exact h.elim|exact ⟨h.1,w h.2⟩
theorem ML {m:M}{a:Addr}{o:Obj}{u:HO}{ds:List D} (hm:eC m=true) (e:H a=some (.aX o u)) (ha:¬ O a) (r:ax K (NM H₀ O m) H (gq u) ds) (on:∀ a o,O a→H a=some o→¬ hG o):jN K H₀ O (AA a o u) H m ds where
 go:=fun O2 H2 i st hi=>⟨(st a _ e ha).1,by rw [r.len];exact hi⟩
 iF:=by
  rintro O2 H2 i x H3 st hi ⟨rfl,hx⟩
  obtain ⟨v,hv,rv⟩:=r.get (i:=i) (d:=ds[i]) (by simp [hi])
  rw [hx] at hv;cases hv
  exact ⟨aH.refl _,ds[i],by simp [hi],uc hm on st rv⟩
 stop:=fun O2 H2 st=>⟨(st a _ e ha).1,by rw [r.len];exact Nat.le_refl _⟩
noncomputable def qw (i:Nat) (g:M×D→Ev→Option Ev) (b:Ev→Option Fl):Ev→Option Fl:=fun e=>match e[i]? with
 |some (some (m,d))=>if eC m=true then (AF d).bind fun ds=>forL g b m ds e else none
 |_=>none
theorem Qv {i:Nat}{g:TG}{tb:TS}{fg:M×D→Ev→Option Ev}{b:Ev→Option Fl} (hg:JG K g fg) (hb:JS K tb b):JS K (Gf i (nY (yW (fQ i)) g tb)) (qw i fg b):=by
 intro H₀ I O H σ env Ds fl R e q
 unfold qw at e
 split at e
 ·rename_i m d he
  split at e
  ·rename_i hm
   obtain ⟨ds,ed,e⟩:=ay e
   obtain ⟨v,hv,_,hz⟩:=R.e.at he
   have Yj:∃ a u,v=.ref a∧Rd H a u∧¬ O a∧DR K (NM H₀ O m) H u d:=by
    cases d<;>try (cases ed;done)
    ·cases m<;>try (cases hm;done)
     ·cases hz with|dk r n e q=>exact ⟨_,_,rfl,r,n,e,q⟩
     ·cases hz with|dk r n e q=>exact ⟨_,_,rfl,r,n.1,e,q⟩
    ·cases m<;>try (cases hm;done)
     ·cases hz with|dt r n e q=>exact ⟨_,_,rfl,r,n,e,q⟩
     ·cases hz with|dt r n e q=>exact ⟨_,_,rfl,r,n.1,e,q⟩
   obtain ⟨a,u,rfl,rd,na,dr⟩:=Yj
   have hu:=dr.dc
   obtain ⟨n1,n2,_,_⟩:=Ff hu
   have run:∀ {G H1:Hp}{o:Obj}{Es:Ends},Rel K G I O H1 σ env→H1 a=some (.aX o u)→DR K (NM G O m) H1 u d→lV K G I O H1 Es fl→nY (yW (fQ i)) g tb Es σ H1:=fun R1 e1 AG q1 =>
    N9 hg hb R1 hm (fun R' k=>⟨_,hv,a,_,u,rfl,e1,hu,k _ _ (aH.refl _) (ML hm e1 na (AG.vs ed) R1.e.on)⟩) e q1
   refine ⟨a,u,hv,hu,?_⟩
   rcases rd with e1|⟨o,e1⟩
   ·refine .inl ⟨e1,fun o=>?_⟩
    have w:mM H (upd H a (.aX o u)):=⟨fun b v _ h=>by
     by_cases z:b=a
     ·subst z
      rcases h with h|⟨o',h⟩
      ·rw [e1] at h;cases h;exact .inr ⟨o,bF⟩
      ·rw [e1] at h;cases h;exact absurd rfl (n1 _ _)
     ·unfold Rd at h ⊢;rw [aG z];exact h,fun b xs h=>by rw [aG (uF h e1 (fun z=>n2 _ z.symm))];exact h⟩
    have nO:∀ p,O p→p≠a:=fun p h z=>na (z▸h)
    have zz:∀ b,H₀ b=none↔(fun b=>if b=a then (H₀ a).map (fun _=>HO.aX o u) else H₀ b) b=none:=fun b=>by
     by_cases z:b=a
     ·subst z;simp
     ·simp [z]
    have R1:Rel K (fun b=>if b=a then (H₀ a).map (fun _=>HO.aX o u) else H₀ b) I O (upd H a (.aX o u)) σ env:=by
     refine R.cG w (fun p h=>aG (nO p h)) zz (fun b v h=>?_) fun b v n h=>?_
     ·by_cases z:b=a
      ·subst z;exact ⟨_,bF⟩
      ·exact ⟨v,by rw [aG z];exact h⟩
     ·by_cases z:b=a
      ·subst z
       simp only [if_true] at h
       cases q0:H₀ b with
       |none=>rw [q0] at h;cases h
       |some u0=>rw [q0] at h;cases h;exact bF
      ·simp only [z,if_false] at h
       rw [aG z];exact R.fr b v n h
    have back:∀ {O':Addr→Prop}{H':Hp},aO O (upd H a (.aX o u)) O' H'→H' a=some (.aX o u)∧aO O H O' (upd H' a u) ∧
      (∀ {σ':L2.St}{fq:Ev},Rel K (fun b=>if b=a then (H₀ a).map (fun _=>HO.aX o u) else H₀ b) I O' H' σ' fq→Rel K H₀ I O' (upd H' a u) σ' fq) ∧
      ∀ {m:M}{d:D}{v:V},Val K (fun b=>if b=a then (H₀ a).map (fun _=>HO.aX o u) else H₀ b) O' HE H' m d v→Val K H₀ O' HE (upd H' a u) m d v:=fun {O' H'} st=>by
     obtain ⟨ha,Jf⟩:=st a _ bF na
     have w':mM H' (upd H' a u):=⟨fun b v nf h=>by
      by_cases z:b=a
      ·subst z
       rcases h with h|⟨o',h⟩
       ·rw [ha] at h;cases h;cases nf
       ·rw [ha] at h;cases h;exact .inl bF
      ·unfold Rd at h ⊢;rw [aG z];exact h,fun b xs h=>by rw [aG (uF h ha (fun z=>nomatch z))];exact h⟩
     have Jg:∀ p,O' p→upd H' a u p=H' p:=fun p h=>aG fun z=>Jf (z▸h)
     refine ⟨ha,fun b v h n=>?_,fun R'=>?_,fun f7=>f7.cG w' (fun _ p d N c=>?_) Jg fun b=>(zz b).mpr⟩
     ·by_cases z:b=a
      ·subst z;rw [e1] at h;cases h;exact ⟨bF,Jf⟩
      ·obtain ⟨h1,h2⟩:=st b v (by rw [aG z];exact h) n
       exact ⟨by rw [aG z];exact h1,h2⟩
     ·refine R'.cG w' Jg (fun b=>(zz b).symm) (fun b v h=>?_) fun b v n h=>?_
      ·by_cases z:b=a
       ·subst z;exact ⟨_,bF⟩
       ·exact ⟨v,by rw [aG z];exact h⟩
      ·by_cases z:b=a
       ·subst z
        have h2:=R.fr b v n h
        rw [e1] at h2;cases h2;exact bF
       ·rw [aG z]
        exact R'.fr b v n (by simp only [z,if_false];exact h)
     ·refine aG fun z=>?_
      subst z
      cases d<;>simp only [Cell] at c
      all_goals (obtain ⟨xs,q,_⟩:=c;rw [ha] at q;cases q)
    refine run R1 bF (dr.mono fun r=>(r.cG w).wk fun b n _=>?_) ?_
    ·cases m<;>try (cases hm;done)
     ·exact n
     ·exact ⟨n.1,(zz b).mp n.2⟩
    ·cases fl with
     |nx e'=>exact fun O' H' σ' R' st=>⟨(back st).1,q _ _ _ ((back st).2.2.1 R') (back st).2.1⟩
     |bk e'=>exact fun O' H' σ' R' st=>⟨(back st).1,q _ _ _ ((back st).2.2.1 R') (back st).2.1⟩
     |ct e'=>exact fun O' H' σ' R' st=>⟨(back st).1,q _ _ _ ((back st).2.2.1 R') (back st).2.1⟩
     |rt e' m' d'=>exact fun O' H' σ' v R' st f7=>⟨(back st).1,q _ _ _ v ((back st).2.2.1 R') (back st).2.1 ((back st).2.2.2 f7)⟩
   ·exact .inr ⟨⟨o,e1⟩,run R e1 dr q⟩
  ·cases e
 ·cases e
end
end J
namespace J
open PySem PySem.Spec PyProof.Rows L2
noncomputable def keysOf:List D→Option (List Key)
 |[]=>some []
 |d::ds=>(keyOf d).bind fun k=>(keysOf ds).map fun ks=>k::ks
noncomputable def mh:D→Option (List Key)
 |.tup ds=>if ds.length < 4 then keysOf ds else none
 |_=>none
noncomputable def vm:D→Option (List (List Key×D))
 |.dt ks=>some ks
 |_=>none
theorem Qw {d:D}{ks:List (List Key×D)} (h:vm d=some ks):d=.dt ks:=by cases d<;>simp only [vm] at h<;>cases h;rfl
section
variable {K:PySem.W.Frag}{N:Addr→Prop}{H H' H₀:Hp}{I:Nat→Option Addr}{O:Addr→Prop}{σ:L2.St}{env:Ev}
theorem B9:∀ {ds:List D}{ks:List Key}{vs:List V},keysOf ds=some ks→ax K N H vs ds→vs=ks.map kV
 |[],_,_,e,.nil=>by cases e;rfl
 |d::ds,_,_,e,.cons h r=>by
  obtain ⟨k,e1,e⟩:=ay e
  cases e2:keysOf ds with
  |none=>rw [e2] at e;cases e
  |some l=>rw [e2] at e;cases e;rw [B9 e2 r,m8 e1 h];rfl
theorem Di {d:D}{ks:List Key}{v:V} (e:mh d=some ks) (h:Rp K N H v d):∃ b,v=.ref b∧H b=some (.tup (ks.map kV)):=by
 cases d<;>try (cases e;done)
 rename_i ds
 simp only [mh] at e
 split at e
 ·rename_i hl
  cases h with
  |tup q r =>
   have:=r.len
   have z:=q.own (by omega)
   rw [B9 e r] at z
   exact ⟨_,rfl,z⟩
 ·cases e
theorem Val.dt {m:M}{ks:List (List Key×D)}{v:V}{Hb:Hp} (h:Val K H₀ O Hb H m (.dt ks) v):∃ a ai,v=.ref a∧Rd H a (.dT ai)∧Ent K (NM H₀ O (aV m)) H ai ks:=by
 cases m<;>simp only [Val,Cell] at h
 ·cases h with|dt r n e q=>exact ⟨_,_,rfl,r,e,q⟩
 ·cases h with|dt r n e q=>exact ⟨_,_,rfl,r,e,q⟩
 ·obtain ⟨p,rfl,_,_,_,xs,q,e,r⟩:=h;exact ⟨_,_,rfl,.inl q,e,r.wk fun a h _=>h.1⟩
 ·obtain ⟨p,rfl,_,_,xs,q,e,r⟩:=h;exact ⟨_,_,rfl,.inl q,e,r⟩
 ·obtain ⟨p,rfl,_,xs,q,e,r⟩:=h;exact ⟨_,_,rfl,.inl q,e,r⟩
 ·cases h with|dt r n e q=>exact ⟨_,_,rfl,r,e,q⟩
 ·obtain ⟨p,qs,aP,rfl,e2,_⟩:=h;cases e2
noncomputable def nV:Ev→Option (M×D):=fun _=>some (.un,.dt [])
theorem Qx:JT K EW nV:=by
 intro H₀ O H σ env Q m d R h q
 cases h
 intro p hp
 exact q _ _ (cE hp) ⟨p,rfl,hp,kg R.hd hp,ic R.od hp,[],bF,rfl,.nil⟩
def W2 (H:Hp) (a:Addr) (y:V) (r:Option V):Prop:=gk H a y r∨∃ ai,Rd H a (.dT ai)∧y=.non∧r=none
noncomputable def Fh (td ty tx:TE):TE:=fun σ H Q=>td σ H fun x H1=>∃ a,x=.ref a∧Il H1 a∧ty σ H1 fun y H2=>tx σ H2 fun z H3=>∃ o,W2 H3 a y o∧Q (o.getD z) H3
theorem Oa {X:Cx}{td ty tx:TE}{o e f:Expr}{apos cq:Pos} (hu:X.A.units+1 < cLine) (ho:PE X o td) (he:PE X e ty) (hf:PE X f tx) (m:M2 X o "get" apos e f cq):PE X (.Call (.Attribute o "get" apos) [e,f] [] cq) (Fh td ty tx):=by
 intro pins s σ H Q I h
 refine wpAny_Call_method m.base m.few m.line PySem.F.plainAttrs_dict PySem.F.slot_dict_get PySem.F.type_dict_get (aF (ho pins s σ H _ I h) fun u s1 ⟨x,H1,I1,rx,a,ex,d,q1⟩=>?_)
 subst ex
 obtain rfl:u=Value.ref a:=rx
 obtain ⟨t1,t2,_⟩:=R6 I1 d
 refine ⟨t1,t2,?_⟩
 rw [m.trees]
 refine Calls.callWith_builtin rfl (Calls.evalArgs_plain (Calls.spliced_cons (aF (he pins s1 σ H1 _ I1 q1) fun iv s2 ⟨y,H2,I2,ry,q2⟩ =>
  Calls.spliced_cons (aF (hf pins s2 σ H2 _ I2 q2) fun fv s3 ⟨z,H3,I3,rz,ov,g,q3⟩=>Calls.spliced_nil ?_))))
 rcases g with g|⟨ai,rd,ey,er⟩
 ·exact R7 hu I3 g ry rz fun w' s4 I4 iJ=>⟨_,H3,I4,iJ,q3⟩
 ·subst ey er
  cases (show iv=Value.none from ry)
  obtain ⟨_,lo,xs,_,dd⟩:=iV I3.aD rd
  exact get_none hu lo dd ⟨_,H3,I3.tok _,rz,q3⟩
noncomputable def qg (fd fk fx:Ev→Option (M×D)):Ev→Option (M×D):=fun e=>(fd e).bind fun x=>(fk e).bind fun y=>(fx e).bind fun z=>(vm x.2).bind fun ks=>match y.2 with
 |.non=>if z.2.bR=true then some (.fr,z.2) else none
 |d=>(mh d).bind fun k=>match cW ks k with
  |some d=>some (aV x.1,d)
  |none=>if z.2.bR=true then some (.fr,z.2) else none
theorem Ob {td ty tx:TE}{fd fk fx:Ev→Option (M×D)} (hd:JT K td fd) (hk:JT K ty fk) (hx:JT K tx fx):JT K (Fh td ty tx) (qg fd fk fx):=by
 intro H₀ O H σ env Q m d R h q
 obtain ⟨x,ex,h⟩:=ay h
 obtain ⟨y,ey,h⟩:=ay h
 obtain ⟨z,ez,h⟩:=ay h
 obtain ⟨ks,mK,h⟩:=ay h
 refine hd H₀ O H σ env _ x.1 x.2 R ex fun v H1 s1 h1=>?_
 rw [Qw mK] at h1
 obtain ⟨a,W3,rfl,Yk,_⟩:=h1.dt
 refine ⟨a,rfl,.inr ⟨W3,Yk⟩,hk H₀ O H1 σ env _ y.1 y.2 (R.keep s1) ey fun w H2 s2 h2=>?_⟩
 refine hx H₀ O H2 σ env _ z.1 z.2 ((R.keep s1).keep s2) ez fun u H3 s3 h3=>?_
 obtain ⟨a',ai,e',rd,en⟩:=((h1.keep s2).keep s3).dt
 cases e'
 have s:=(s1.trans s2).trans s3
 have dflt:(if z.2.bR=true then some (M.fr,z.2) else none)=some (m,d)→Q u H3:=fun h=>by
  split at h
  ·rename_i hi
   cases h
   exact q u H3 s (show Rp K _ H3 u z.2 from h3.weak.im hi)
  ·cases h
 split at h
 ·rename_i hy
  rw [hy] at h2
  exact ⟨none,.inr ⟨ai,rd,h2.non,rfl⟩,dflt h⟩
 ·obtain ⟨k,ek,h⟩:=ay h
  obtain ⟨b,rfl,hb⟩:=Di ek h2.weak
  refine ⟨dY ai k,.inl (.inr ⟨ai,k,b,rd,rfl,s3 _ _ hb,rfl⟩),?_⟩
  rcases en.val k with ⟨z1,z2⟩|⟨d2,v2,z1,z2,r⟩
  ·rw [z1] at h
   rw [z2]
   exact dflt h
  ·rw [z1] at h;cases h
   rw [z2]
   exact q v2 H3 s (Val.el r)
noncomputable def i5 (i:Nat) (e:Ev):Option (M×List (List Key×D)):=match e[i]? with
 |some (some (m,.dt ds))=>if own m=true then some (m,ds) else none
 |_=>none
theorem Ed {i:Nat}{e:Ev}{m:M}{ds:List (List Key×D)} (h:i5 i e=some (m,ds)):e[i]?=some (some (m,.dt ds))∧own m=true:=by
 unfold i5 at h
 split at h
 ·rename_i e
  split at h
  ·cases h;exact ⟨e,by assumption⟩
  ·cases h
 ·cases h
theorem Rel.G9 {i:Nat}{m:M}{ds:List (List Key×D)} (R:Rel K H₀ I O H σ env) (h:i5 i env=some (m,ds)):∃ p ai,σ[i]?=some (some (.ref p))∧O p∧H p=some (.dT ai)∧Ent K (fun a=>¬ O a∧H₀ a=none) H ai ds:=by
 obtain ⟨e,o⟩:=Ed h
 obtain ⟨v,hv,n,hm⟩:=R.e.at e
 cases m<;>simp only [own] at o<;>try (cases o;done)
 ·obtain ⟨p,rfl,h1,h2,xs,c,z,r⟩:=hm;exact ⟨p,xs,hv,h1,c,z,r⟩
 ·obtain ⟨p,rfl,h1,xs,c,z,r⟩:=hm;exact ⟨p,xs,hv,h1,c,z,r⟩
theorem Rel.Hc {i:Nat}{m:M}{ds:List (List Key×D)}{p:Addr}{xs ys:List (List Key×V)}{es:List (List Key×D)} (R:Rel K H₀ I O H σ env) (h:i5 i env=some (m,ds)) (hp:σ[i]?=some (some (.ref p))) (hx:H p=some (.dT xs)) (r:Ent K (fun a=>¬ O a∧H₀ a=none) H ys es) :
  Rel K H₀ I O (L2.upd H p (.dT ys)) σ (env.set i (some (m,.dt es)))∧aO O H O (L2.upd H p (.dT ys)):=by
 obtain ⟨e,o⟩:=Ed h
 have hO:=(R.lD e o hp).1
 exact R.mut e o hp ⟨ys,bF,r.1,r.2.upd hO hx (fun z=>z)⟩
noncomputable def iX (i:Nat) (fk fe:Ev→Option (M×D)):Ev→Option Fl:=fun e=>(fe e).bind fun x=>(fk e).bind fun y=>(mh y.2).bind fun k=>if cR x.1 x.2=true then (i5 i e).bind fun z=>if z.2.length < sizeLine then some (.nx (e.set i (some (z.1,.dt (putD z.2 k x.2))))) else none else none
theorem Qy {i:Nat}{t tk:TE}{f fk:Ev→Option (M×D)} (h:JT K t f) (hk:JT K tk fk):JS K (uI (fQ i) tk t) (iX i fk f):=by
 intro H₀ I O H σ env Ds fl R e q
 obtain ⟨x,ex,e⟩:=ay e
 obtain ⟨y,ey,e⟩:=ay e
 obtain ⟨k,ek,e⟩:=ay e
 split at e
 ·rename_i hs
  obtain ⟨⟨m,ds⟩,ez,e⟩:=ay e
  split at e
  ·rename_i hl
   cases e
   obtain ⟨p,ai,hp,hO,hx,r⟩:=R.G9 ez
   refine h H₀ O H σ env _ x.1 x.2 R.e ex fun v H1 s1 h1=>?_
   refine ⟨.ref p,hp,?_⟩
   refine hk H₀ O H1 σ env _ y.1 y.2 (R.keep s1).e ey fun w H2 s2 h2=>?_
   obtain ⟨b,rfl,hb⟩:=Di ek h2.weak
   have s:=s1.trans s2
   refine ⟨p,_,rfl,.inr ⟨ai,k,b,s _ _ hx,rfl,hb,by rw [r.len];exact hl,rfl⟩,?_⟩
   obtain ⟨R2,st⟩:=(R.keep s).Hc (ys:=putK ai k v) (es:=putD ds k x.2) ez hp (s _ _ hx) (Ent.put ⟨r.1,r.2.keep (.same s)⟩ ((h1.keep s2).cR hs))
   exact q O _ σ R2 ((aO.same s).trans st)
  ·cases e
 ·cases e
end
section
variable {K:PySem.W.Frag}{N:Addr→Prop}{H H' H₀:Hp}{I:Nat→Option Addr}{O:Addr→Prop}{σ:L2.St}{env:Ev}
noncomputable def zI (k:List Key):D:=.tup (k.map zG)
theorem Tt {N:Addr→Prop} (k:Key):Rp K N H (kV k) (zG k):=by
 cases k with
 |inl i=>exact .int i
 |inr x=>exact .str x
 |non=>exact .non
theorem Dj {N:Addr→Prop}:∀ ks:List Key,ax K N H (ks.map kV) (ks.map zG)
 |[]=>.nil
 |k::ks=>.cons (Tt k) (Dj ks)
noncomputable def qh:List (M×D)→Option (M×D)
 |[(m,.dt ks)]=>if own m=true∨m=.un then some (.un,.lst (ks.map fun kv=>zI kv.1)) else none
 |_=>none
theorem L1 {X:Cx} (h:X.K=K) (hc:X.calm=true):gJ X (.type "list") (fun xs H Q=>∃ d ai,xs=[.ref d]∧H d=some (.dT ai)∧∀ l bs,H l=none→qd H (ai.map (·.1)) bs→Q (.ref l) (upd H l (.lst (bs.map V.ref)))):=La hc
theorem Ca {N:Addr→Prop}{p:Addr}{o:HO} (hp:H p=none):∀ {ks:List (List Key)}{bs:List Addr},qd H ks bs→ax K N (upd H p o) (bs.map V.ref) (ks.map zI)
 |_,_,.nil=>.nil
 |_,_,.cons h t=>.cons (.tup (.inl (by rw [aG (dW h hp)];exact h)) (Dj _)) (Ca hp t)
theorem MN:j5 K (fun xs H Q=>∃ d ai,xs=[.ref d]∧H d=some (.dT ai)∧∀ l bs,H l=none→qd H (ai.map (·.1)) bs→Q (.ref l) (upd H l (.lst (bs.map V.ref)))) qh:=by
 intro H₀ O H vs aA Q m d od hd hv h q
 unfold qh at h
 split at h
 ·rename_i m0 ks
  split at h
  ·rename_i hm
   cases h
   obtain ⟨v,rfl,hw⟩:=hv.one
   have:∃ p ai,v=.ref p∧H p=some (.dT ai)∧ai.map (·.1)=ks.map (·.1):=by
    cases m0<;>simp only [own,Bool.false_eq_true,false_or,reduceCtorEq,or_false,or_self] at hm<;>simp only [Val,Cell] at hw
    ·obtain ⟨p,rfl,_,_,_,xs,c,z,_⟩:=hw;exact ⟨p,xs,rfl,c,z⟩
    ·obtain ⟨p,rfl,_,_,xs,c,z,_⟩:=hw;exact ⟨p,xs,rfl,c,z⟩
    ·obtain ⟨p,rfl,_,xs,c,z,_⟩:=hw;exact ⟨p,xs,rfl,c,z⟩
   obtain ⟨p,ai,rfl,e,ek⟩:=this
   refine ⟨p,ai,rfl,e,fun l bs hl ka=>q _ _ (cE hl) ⟨l,rfl,hl,kg hd hl,ic od hl,_,bF,?_⟩⟩
   rw [ek] at ka
   have:=Ca (K:=K) (N:=fun a=>(¬ O a∧H₀ a=none)∧a≠l) (o:=.lst (bs.map V.ref)) hl ka
   rw [List.map_map] at this
   exact this
  ·cases h
 ·cases h
noncomputable def lM (ls:List (List Key×D)):List (List Key×D)→Bool
  |[]=>true
  | (k,d)::r=>match cW ls k,d with
    |some (.int j),.int i=>(i==j)&&lM ls r
    |_,_=>false
noncomputable def i6 (ks:List (List Key×D)):Bool:=ks.all fun kv=>match kv.2 with
 |.int _=>true
 |_=>false
noncomputable def ot:M×D→M×D→Option (M×D)
 | (_,.dt ks),(_,.dt ls)=>if i6 ks=true∧i6 ls=true then some (.fr,.bl (!(ks.length==ls.length&&lM ls ks))) else none
 |_,_=>none
theorem Qz {ls:List (List Key×D)}{k:List Key}{d:D} (h:i6 ls=true) (e:cW ls k=some d):∃ j,d=.int j:=by
 unfold cW at e
 cases f:ls.find? fun kv=>decide (kv.1=k) with
 |none=>rw [f] at e;cases e
 |some kv =>
  rw [f] at e;cases e
  have:=List.all_eq_true.mp h kv (List.mem_of_find?_eq_some f)
  show ∃ j,kv.2=.int j
  cases q:kv.2<;>rw [q] at this<;>first|exact ⟨_,rfl⟩|cases this
theorem Fj {A:Around}{s:Shared}{N N':Addr→Prop}{j9:List (List Key×V)}{ls:List (List Key×D)}{ys:List (List Key×Addr×Value)} (Jh:KT H j9 ys) (Ji:Ent K N' H j9 ls) (il:i6 ls=true):∀ {ai:List (List Key×V)}{ks:List (List Key×D)}{xs:List (List Key×Addr×Value)},KT H ai xs→Ent K N H ai ks→i6 ks=true→iu A s ys xs (lM ls ks)
  |[],ks,_,.nil,en,_=>by
    cases ks with
    |nil=>exact .nil
    |cons _ _=>exact absurd en.len (by simp)
  |p::ai,ks,q::xs,.cons h t,en,ik=>by
    cases ks with
    |nil=>exact absurd en.len (by simp)
    |cons z ks =>
      obtain ⟨e,r,AG⟩:=en.cons_inv
      have AH:(match z.2 with|.int _=>true|_=>false)=true∧i6 ks=true:=by simpa [i6] using ik
      have ih:=Fj (A:=A) (s:=s) Jh Ji il t AG AH.2
      obtain ⟨k,d⟩:=z
      obtain ⟨k2,b,u⟩:=q
      obtain ⟨k3,x⟩:=p
      obtain ⟨h1,_,h2⟩:=h
      simp only at e h1 h2 r AH
      subst e h1
      cases d<;>try (exact absurd AH.1 Bool.false_ne_true)
      rename_i i
      obtain rfl:=r.int_inv
      obtain ⟨tk,rfl⟩:=(show ∃ t,u=Value.int i t from h2)
      have rel:=Jh.val k3
      simp only [lM]
      rcases Ji.val k3 with ⟨z1,z2⟩|⟨d',v',z1,z2,r'⟩
      · rw [z2] at rel
        rw [z1]
        refine .miss ?_
        cases w:atKey ys k3 with
        |none=>rfl
        |some y=>rw [w] at rel;exact rel.elim
      · rw [z2] at rel
        rw [z1]
        obtain ⟨j,rfl⟩:=Qz il z1
        obtain rfl:=r'.int_inv
        cases w:atKey ys k3 with
        |none=>rw [w] at rel;exact rel.elim
        |some y =>
          rw [w] at rel
          obtain ⟨Yl,e'⟩:=(show ∃ t,y.2=Value.int j t from rel)
          refine .hit w ?_ ih
          rw [e']
          exact SeqAt.EqAt.int_int i tk j Yl
noncomputable def Hd (K:PySem.W.Frag):R2:=fun x y H Q=>∃ a b ai j9 ks ls,x=.ref a∧y=.ref b∧Rd H a (.dT ai)∧Rd H b (.dT j9)∧Ent K (fun _=>True) H ai ks∧Ent K (fun _=>True) H j9 ls∧i6 ks=true∧i6 ls=true∧Q (.bl (!(ks.length==ls.length&&lM ls ks))) H
theorem Tv {X:Cx} (h:X.K=K) (hu:X.A.units+64 < cLine):bu X (compareOp .NotEq) (Hd K):=by
 subst h
 intro pins s σ H x y v u Q I rx ry h
 obtain ⟨a,b,ai,j9,ks,ls,rfl,rfl,ra,rb,ea,eb,ia,ib,q⟩:=h
 cases rx
 cases ry
 obtain ⟨_,la,xs,ka,da⟩:=iV I.aD ra
 obtain ⟨_,lb,ys,kb,db⟩:=iV I.aD rb
 have e1:xs.length=ks.length:=by rw [←Paired.length ka,ea.len]
 have e2:ys.length=ls.length:=by rw [←Paired.length kb,eb.len]
 refine Yh la lb (tupleKind_room_in1 (show X.A.units+1 < cLine by omega)) da db (by omega) (fun _=>Fj kb eb ib ka ea ia) ?_
 rw [e1,e2]
 exact ⟨.bl _,H,I,rfl,q⟩
theorem Tw:JR K (Hd K) ot:=by
 intro H₀ O H x y a b Q m d _ _ h1 h2 h q
 unfold ot at h
 split at h
 ·split at h
  ·rename_i hi
   cases h
   obtain ⟨p,ai,rfl,ra,ea⟩:=h1.dt
   obtain ⟨p',j9,rfl,rb,eb⟩:=h2.dt
   exact ⟨p,p',ai,j9,_,_,rfl,rfl,ra,rb,⟨ea.1,ea.2.wk fun _ _ _=>trivial⟩,⟨eb.1,eb.2.wk fun _ _ _=>trivial⟩,hi.1,hi.2,q _ H (aH.refl H) fm⟩
  ·cases h
 ·cases h
def Ee:V→List V→Hp→VK→Prop:=fun x xs H Q=>∃ a ai,x=.ref a∧xs=[]∧H a=some (.dT ai)∧Q .non (upd H a (.dT []))
theorem MP {X:Cx}:vD X "dict.clear" Ee:=by
 intro pins s σ H x xs v us Q I rx r h
 obtain ⟨a,ai,rfl,rfl,e,q⟩:=h
 cases rx
 cases r
 obtain ⟨z,lo,ys,rel,o,es,ep,ho,ex,hd,he,hn⟩:=(I.aD a _ e:b0 X.prog X.w H s.heap a (.dT ai))
 have fZ:es.size≤sizeLine:=by rw [←Array.length_toList,he,List.length_map,←Paired.length rel];exact z
 refine Ts ho ex hd fZ fun h' ⟨o',g1,g2,g3⟩ sb=>⟨.non,_,tZ (ob:=.dT []) (t':=s.toks) I (by rw [e];exact True.intro) sb ⟨o',g1⟩ ⟨Nat.zero_le _,lo,[],.nil,o',#[],ep+1,g1,g2,g3,rfl,List.nodup_nil⟩,rfl,q⟩
noncomputable def xY (i:Nat):Ev→Option Fl:=fun e=>(i5 i e).bind fun y=>some (.nx (e.set i (some (y.1,.dt []))))
theorem MQ {i:Nat}:JS K (nL (qC K "dict" Ee (fQ i))) (xY i):=by
 intro H₀ I O H σ env Ds fl R e q
 obtain ⟨⟨m,ds⟩,ey,e⟩:=ay e
 cases e
 obtain ⟨p,ai,hp,hO,hx,r⟩:=R.G9 ey
 refine ⟨.ref p,hp,.inr (.inr (.inl ⟨rfl,.inr ⟨ai,hx⟩⟩)),p,ai,rfl,rfl,hx,?_⟩
 obtain ⟨R2,st⟩:=R.Hc (ys:=[]) (es:=[]) ey hp hx ⟨rfl,.nil⟩
 exact q O _ σ R2 st
theorem MR {X:Cx} (h:X.K=K) (hc:X.calm=true):gJ X (.builtin "sum") (fun xs H Q=>∃ (p:Addr) (ns:List Int),xs=[.ref p]∧bL K H p (ns.map V.int)∧Q (.int ns.sum) H):=by
 subst h
 intro pins s σ H xs us Q I r h
 obtain ⟨p,ns,rfl,hq,q⟩:=h
 obtain ⟨u,rfl,ru⟩:=vals1 r
 cases ru
 obtain ⟨its,rv,pl,hz⟩:=I.list hq
 have hi:=ints_of rv
 obtain ⟨ys,ey⟩:=hi.allInts.items
 refine sum_intListG (I.ok.hd hc) (by rw [←ey];exact pl.isList) fun h' tk t' hk=>⟨.int ns.sum,H,I.kept (t':=tk) hk,⟨t',?_⟩,q⟩
 rw [preSum_eq,List.take_of_length_le (by simp),←nums_intItems,←ey]
 rw [show its.toArray.toList=its from rfl,hi.numsOf]
noncomputable def qK:List (M×D)→Option (M×D)
 |[(_,.lst ds)]=>(nU ds).bind fun ns=>some (.fr,.int ns.sum)
 |_=>none
theorem QB:j5 K (fun xs H Q=>∃ (p:Addr) (ns:List Int),xs=[.ref p]∧bL K H p (ns.map V.int)∧Q (.int ns.sum) H) qK:=by
 intro H₀ O H vs aA Q m d _ _ hv h q
 unfold qK at h
 split at h
 ·obtain ⟨ns,en,h⟩:=ay h
  cases h
  obtain ⟨v,rfl,hw⟩:=hv.one
  obtain ⟨p,xs,rfl,hs,r⟩:=hw.lst
  rw [Dh r en] at hs
  exact ⟨p,ns,rfl,hs,q _ H (aH.refl H) iq⟩
 ·cases h
end
section
variable {K:PySem.W.Frag}{N:Addr→Prop}{H H' H₀:Hp}{I:Nat→Option Addr}{O:Addr→Prop}{σ:L2.St}{env:Ev}
noncomputable def Gg (K:PySem.W.Frag) (te:TE) (ts:TO):TE:=fun σ H Q=>te σ H fun x H1=>ts σ H1 fun k H2=>k=some (-1)∧∃ a xs,x=.ref a∧bL K H2 a xs∧∀ p,H2 p=none→Q (.ref p) (upd H2 p (.lst xs.reverse))
theorem QC {X:Cx}{e st:Expr}{te:TE}{ts:TO}{p2 pos:Pos} (hk:X.K=K) (he:PE X e te) (hs:PO X (some st) ts):PE X (.Subscript e (.Slice none none (some st) p2) pos) (Gg K te ts):=by
 subst hk
 intro pins s σ H Q I h
 refine Subscript_ (aF (he pins s σ H _ I h) fun v s1 ⟨x,H1,I1,r1,q1⟩=>?_)
 refine wpAny_Slice ?_
 rw [evalPart_none]
 refine wpAny_pure (wpAny_pure (aF (hs pins s1 σ H1 _ I1 q1) fun vk s2 ⟨k,H2,I2,pk,ek,a,xs,ex,hx,q⟩=>?_))
 subst ek ex
 cases r1
 have I4:L2.Inv X pins σ H2 { s2 with heap:=s2.heap.push { cls:=.type "slice",data:=.fields #[.none,.none,vk] } }:=I2.kept (t':=s2.toks) fun b ob q=>Heap.get?_push_of_some _ q
 obtain ⟨its,r,ht,hz⟩:=I4.list hx
 have hlen:=r.length
 show wpAny (model X.prog X.w) X.A (subscriptTail e (.Slice none none (some st) p2) (.ref a) (.ref s2.heap.objs.size)) (EP X pins σ Q) X.xe { s2 with heap:=s2.heap.push { cls:=.type "slice",data:=.fields #[.none,.none,vk] } }
 refine tail_any (ops:=[.ref a,.ref s2.heap.objs.size]) ht.isList.typeIs slot_list_getitem.lookup (wpAny_getItem_list_slice ht.isList (Heap.IsSliceOf.new ..) .none .none pk (by decide) ?_ (by rw [List.size_toArray]<;>omega)) (by with_unfolding_all rfl)
 rw [PySem.W.krv_pick]
 refine ⟨.ref _,_,I4.laid (t':=s2.toks) (o:=.lst xs.reverse) (fun b ob q=>Heap.get?_push_of_some _ q) (Nat.le_refl _) ?_,rfl,q _ (I4.aD.fresh (Nat.le_refl _))⟩
 exact ⟨by rw [List.length_reverse];exact hz,_,0,r.reverse,Heap.get?_push_size _ rfl⟩
noncomputable def Gh:M×D→Option (M×D)
 | (m,.lst ds)=>eO m ds.reverse
 |_=>none
noncomputable def uR (f:Ev→Option (M×D)) (l:Ev→Option (Option Int)):Ev→Option (M×D):=fun e=>(f e).bind fun x=>(l e).bind fun k=>if k=some (-1) then Gh x else none
theorem QD {te:TE}{ts:TO}{f:Ev→Option (M×D)}{l:Ev→Option (Option Int)} (he:JT K te f) (hs:oM K ts l):JT K (Gg K te ts) (uR f l):=by
 intro H₀ O H σ env Q m d R h q
 obtain ⟨x,ex,h⟩:=ay h
 obtain ⟨k,ek,h⟩:=ay h
 split at h
 ·rename_i hk
  refine he H₀ O H σ env _ x.1 x.2 R ex fun v H1 s1 h1=>?_
  refine hs H₀ O H1 σ env _ k (R.keep s1) ek fun H2 s2=>⟨hk,?_⟩
  have R2:=(R.keep s1).keep s2
  have h2:=(h1.keep s2).h0
  obtain ⟨mx,dx⟩:=x
  cases dx<;>try (cases h;done)
  obtain ⟨p,xs,rfl,r,s⟩:=h2.lst
  exact ⟨p,xs,rfl,r,fun l hl=>q _ _ ((s1.trans s2).trans (cE hl)) ((p6 R2.od R2.hd hl s.rev h).hb fun a z=>(s1.trans s2).free z)⟩
 ·cases h
noncomputable def qx (n:Nat):List V:=(List.range n).map fun (k:Nat)=>.int (0+(k:Int))
noncomputable def Jj (ta:TA):TE:=fun σ H Q=>ta σ H fun vs H1=>∃ j:Int,vs=[.int j]∧-(2 ^ 62)≤j∧j≤16777216∧∀ l,H1 l=none→Q (.ref l) (upd H1 l (.lst (qx j.toNat)))
theorem pQ:∀ {n:Nat}{acc:List Value}{c:Int},acc.length=n→(∀ (j:Nat) v,acc[j]?=some v→∃ t,v=.int (c+(j:Int)) t)→Vals ((List.range n).map fun (k:Nat)=>V.int (c+(k:Int))) acc
 |_,[],_,e,_=>by subst e;exact .nil
 |_,v::acc,c,e,h=>by
  subst e
  rw [List.length_cons,List.range_succ_eq_map,List.map_cons,List.map_map]
  refine .cons (h 0 v rfl) ?_
  have:=pQ (c:=c+1) (acc:=acc) rfl fun j w hw=>by
   obtain ⟨t,e⟩:=h (j+1) w (by simpa using hw)
   exact ⟨t,by rw [e];congr 1;omega⟩
  have e2:((fun (k:Nat)=>V.int (c+(k:Int)))∘Nat.succ)=fun (k:Nat)=>V.int (c+1+(k:Int)):=funext fun k=>by
   show V.int (c+((k+1:Nat):Int))=_
   congr 1;omega
  rw [e2]
  exact this
theorem Vh {X:Cx}{a:Expr}{ta:TA}{p pos p' pos':Pos} (hc:X.calm=true) (Ym:Gl X "list") (mN:X.mg "list" = none) (hg:Gl X "range") (hm:X.mg "range" = none) (ha:PA X [a] ta) (hs:starEach [a] X.env=[(false,eval a X.env)]:=by rfl):PE X (.Call (.Name "list" p') [.Call (.Name "range" p) [a] [] pos] [] pos') (Jj ta):=by
 intro pins s σ H Q I h
 refine Call_ (kj I Ym mN PyProof.Rows.Boot.«list» (PyProof.Rows.callWith_type1 ?_ rfl rfl))
 show wpAny _ _ (spliced ((false,eval (.Call (.Name "range" p) [a] [] pos) X.env)::backTo pos' (starEach [] X.env))) _ _ s
 refine Calls.spliced_cons ?_
 refine Call_ (kj I hg hm boot_range (PyProof.Rows.callWith_type1 (aF (ha pos pins s σ H _ I h) fun us s1 ⟨vs,H1,I1,r1,q1⟩=>?_) hs rfl))
 obtain ⟨j,e,q1,q2,q⟩:=q1
 subst e
 cases r1 with
 |cons r rr =>
  cases rr
  obtain ⟨t,rfl⟩:=r
  refine call_range_1 (args_nil ?_)
  have h62:(2:Int) ^ 62=4611686018427387904:=by decide
  have en:Builtin.Range.rangeSize 0 j 1=(j.toNat:Int):=by rw [rangeSize_one];split<;>omega
  refine call_list_range (I1.ok.hd hc) (IsRange.new ..) (small_one (by omega) (by omega) q1 (by omega)) en (by rw [show (2:Nat) ^ 24=16777216 by decide];omega) fun h' tk acc c hk hS hI=>?_
  have I2:L2.Inv X pins σ H1 { s1 with heap:=s1.heap.push { cls:=.type "range",data:=.fields #[.int 0 s1.toks,.int j t,.int 1 (s1.toks+1)] },toks:=s1.toks+1+1 }:=I1.kept (t':=s1.toks+1+1) fun b o e=>Heap.get?_push_of_some _ e
  refine ⟨.ref _,_,I2.laid (t':=tk) (o:=.lst (qx j.toNat)) hk (Nat.le_refl _) ?_,rfl,q _ (I2.aD.fresh (Nat.le_refl _))⟩
  refine ⟨?_,acc.toList,c,pQ (by rw [Array.length_toList];exact hI.1) (fun i v hv=>?_),by rw [Array.toArray_toList];exact hS⟩
  ·have:sizeLine=16777216:=by decide
   rw [this,qx,List.length_map,List.length_range];omega
  ·obtain ⟨t',e⟩:=hI.2 i v (by rw [←Array.getElem?_toList];exact hv)
   exact ⟨t',by rw [e,Int.mul_one]⟩
noncomputable def vU (fs:Ev→Option (List (M×D))):Ev→Option (M×D):=fun e=>(fs e).bind fun l=>match l with
 |[(_,.int j)]=>if -4611686018427387904≤j∧j≤16777216 then some (.un,.lst (bO 0 j.toNat)) else none
 |_=>none
theorem QF:∀ n,ax K N H (qx n) (bO 0 n):=fun n=>by
 unfold qx bO
 induction (List.range n) with
 |nil=>exact .nil
 |cons a l ih=>exact .cons (.int _) ih
theorem Vi {t:TA}{fs:Ev→Option (List (M×D))} (h:hR K t fs):JT K (Jj t) (vU fs):=by
 intro H₀ O H σ env Q m d R e q
 obtain ⟨l,el,e⟩:=ay e
 split at e
 ·split at e
  ·rename_i hj
   cases e
   refine h H₀ O H σ env _ _ R el fun vs H1 s1 h1=>?_
   obtain ⟨v,rfl,hv⟩:=h1.one
   obtain rfl:=hv.int
   have R1:=R.keep s1
   exact ⟨_,rfl,by rw [vO];exact hj.1,hj.2,fun l hl=>q _ _ (s1.trans (cE hl)) ((pW R1.od R1.hd hl (QF _)).hb fun a z=>s1.free z)⟩
  ·cases e
 ·cases e
end
end J
namespace J
open PySem L2
noncomputable def vn (K:PySem.W.Frag) (n:Nat) (F:List D→Option D):Sp:=fun vs H Q _=>vs.length=n∧∃ ds d,uw K H [0] vs ds∧F ds=some d ∧
 ∀ p H',(iL [0] vs p∨H p=none)→(∀ a o,¬ iL [0] vs a→H a=some o→H' a=some o)→(∀ a o,H a=some o→∃ o',H' a=some o')→Cell K (fun _=>False) H' p d→Q (.ref p) H'
noncomputable def ku:Fl→Option D
 |.rt _ m d=>if own m=true∧gD d=true then some d else none
 |_=>none
noncomputable def i7 (L:Nat) (g:Ev→Option Fl):List D→Option D:=fun ds=>(g (iQ [0] ds++List.replicate (L-ds.length) none)).bind ku
section
variable {K:PySem.W.Frag}{H H' H₀:Hp}{I:Nat→Option Addr}{O O':Addr→Prop}{σ:L2.St}{env:Ev}
theorem MS {ts:TS}{g:Ev→Option Fl}{n:Nat}{N:List Str}{vs:List V}{Q:VK}{E:XK} (h:JS K ts g) (hs:vn K n (i7 N.length g) vs H Q E):ts { nx:=fun _ H'=>Q .non H',rt:=Q } (L2.start N vs) H:=by
 obtain ⟨hl,ds,d,A,e,q⟩:=hs
 obtain ⟨fl,ef,eo⟩:=ay e
 obtain ⟨I0,oP,R⟩:=Ln (N:=N) A
 refine h H I0 (iL [0] vs) H _ _ _ fl R ef ?_
 cases fl with
 |nx e'=>cases eo
 |bk e'=>cases eo
 |ct e'=>cases eo
 |rt e' m' d' =>
  intro O' H' σ' v R' st hv
  unfold ku at eo
  simp only at eo
  split at eo
  ·rename_i hm
   cases eo
   have hc:∃ p,v=.ref p∧O' p∧Cell K (fun _=>False) H' p d:=by
    cases m'<;>try (cases hm.1;done)
    ·obtain ⟨p,rfl,o,_,c⟩:=hv;exact ⟨p,rfl,o,c.im hm.2⟩
    ·obtain ⟨p,rfl,o,c⟩:=hv;exact ⟨p,rfl,o,c.im hm.2⟩
   obtain ⟨p,rfl,o,c⟩:=hc
   refine q p H' ?_ (fun a o n e=>R'.fr a o (fun i z=>n ⟨i,(oP z).1,(oP z).2⟩) e) R'.e.hd c
   rcases R'.ow p o with ⟨i,z⟩|z
   ·exact .inl ⟨i,(oP z).1,(oP z).2⟩
   ·exact .inr z
  ·cases eo
noncomputable def jE (sl:List Nat) (pos:List (Nat×Nat)) (F:List D→Option D) (fs:Ev→Option (List (M×D))):Ev→Option Fl:=fun e=>(fs e).bind fun aA=>if j7 [0] sl pos aA=true then (F (aA.map (·.2))).bind fun d=>match aA with
 | (m,_)::_=>some (.rt (e.map fun _=>none) m d)
 |[]=>none else none
theorem pX {i:Nat}{x:M×D} (h:(env.map fun _=>(none:Option (M×D)))[i]?=some (some x)):False:=by
 rw [List.getElem?_map] at h
 cases q:env[i]? with
 |none=>rw [q] at h;cases h
 |some y=>rw [q] at h;cases h
theorem Oc {n:Nat}{sl:List Nat}{pos:List (Nat×Nat)}{F:List D→Option D}{fs:Ev→Option (List (M×D))}{ta:TA}{E:XK} (ha:k8 K ta fs pos) (hl:∀ e aA,fs e=some aA→aA.length=n):JS K (uZ (qo (vn K n F) [] E ta)) (jE sl pos F fs):=by
 intro H₀ I O H σ env Ds fl R e q
 obtain ⟨aA,em,e⟩:=ay e
 split at e
 ·rename_i hb
  have ok:=S9 hb
  obtain ⟨d,eF,e⟩:=ay e
  cases aA with
  |nil=>cases e
  |cons x0 rest =>
   obtain ⟨m0,d0⟩:=x0
   cases e
   refine ha H₀ O H σ env _ _ R.e em fun vs H1 s1 hv hp=>?_
   have R1:=R.keep s1
   obtain ⟨qJ,lY,sub,A⟩:=Qi R R1 ok hv hp
   rw [List.append_nil]
   refine ⟨by rw [←Paired.length hv];exact hl _ _ em,_,d,A,eF,fun p H2 AI kp Yn c=>?_⟩
   obtain ⟨om,cm⟩:=ok.c4 0 _ (List.mem_singleton.mpr rfl) rfl
   have Yo:¬ O p→H1 p=none:=fun z=>AI.elim (fun w=>absurd (sub p w) z) id
   have Yp:O p∨H₀ p=none:=by
    rcases AI with w|w
    ·exact .inl (sub p w)
    ·right
     cases z:H₀ p with
     |none=>rfl
     |some o=>obtain ⟨o',z⟩:=R1.e.hd p o z;rw [w] at z;cases z
   have Yq:m0=.bo→H₀ p=none:=fun hm=>by
    rcases AI with ⟨i,hi,j8⟩|w
    ·obtain ⟨k,j,x,hk,hj,hx,hs,he,_⟩:=lY hi j8
     have Yr:i=0:=List.mem_singleton.mp hi
     subst Yr
     simp at hx
     subst hx
     obtain ⟨v,f7,_,hz⟩:=R1.e.at he
     rw [hs] at f7;cases f7
     rw [hm] at hz
     obtain ⟨p',e',_,z,_⟩:=hz
     cases e';exact z
    ·cases z:H₀ p with
     |none=>rfl
     |some o=>obtain ⟨o',z⟩:=R1.e.hd p o z;rw [w] at z;cases z
   have R2:Rel K H₀ I (fun a=>a=p∨(O a∧¬ iL [0] vs a)) H2 σ (env.map fun _=>none):=by
    refine ⟨⟨lj (by rw [List.length_map];exact Paired.length R.e.sl) (fun j a b h1 _ m d ea=>by subst ea;exact (pX h1).elim),?_,?_,?_⟩,?_,?_,fun i d p h1=>(pX h1).elim,fun i j x y p h1=>(pX h1).elim,⟨fun i j d d' h1=>(pX h1).elim,fun i j d x p q xs h1=>(pX h1).elim⟩⟩
    ·rintro a (rfl|⟨ho,ni⟩)
     ·obtain ⟨o,eo,_⟩:=c.some;exact ⟨o,eo⟩
     ·obtain ⟨o,eo⟩:=R1.e.od a ho;exact ⟨o,kp a o ni eo⟩
    ·intro a o h0
     obtain ⟨o',h1⟩:=R1.e.hd a o h0
     exact Yn a o' h1
    ·rintro a o (rfl|⟨ho,ni⟩) ea
     ·obtain ⟨o',eo,nt⟩:=c.some;rw [eo] at ea;cases ea;exact nt
     ·obtain ⟨o',eo⟩:=R1.e.od a ho
      have:=kp a o' ni eo
      rw [this] at ea;cases ea
      exact R1.e.on a _ ho eo
    ·intro a o ni h0
     refine kp a o (fun w=>?_) (R1.fr a o ni h0)
     rcases R1.ow a (sub a w) with ⟨i,z⟩|z
     ·exact ni i z
     ·rw [z] at h0;cases h0
    ·rintro a (rfl|⟨ho,_⟩)
     ·rcases Yp with z|z
      ·exact R1.ow a z
      ·exact .inr z
     ·exact R1.ow a ho
   refine q (fun a=>a=p∨(O a∧¬ iL [0] vs a)) H2 σ (.ref p) R2 (fun a o ha no=>⟨kp a o (fun w=>no (sub a w)) (s1 _ _ ha),?_⟩) ?_
   ·rintro (rfl|⟨ho,_⟩)
    ·have:=Yo no
     rw [s1 _ _ ha] at this;cases this
    ·exact no ho
   ·cases m0<;>try (cases om;done)
    ·exact ⟨p,rfl,.inl rfl,Yq rfl,c.wk fun _ z _=>z.elim⟩
    ·exact ⟨p,rfl,.inl rfl,c.wk fun _ z _=>z.elim⟩
 ·cases e
end
end J
set_option genInjectivity false
set_option genSizeOf false
namespace C
open PySem PySem.Spec L2 J
inductive Bo where|add|sub|mul|div|mod|pow|shl|band|bor
inductive Co where|lt|le|gt|eq|ne|rK|k9|vV|oQ|mO|vW|neT
inductive Uo where|neg|inv
inductive Fb where|int|list|len|oR|max|uS|sum
noncomputable def Bo.op:Bo→Operator
 |.add=>.Add
 |.sub=>.Sub
 |.mul=>.Mult
 |.div=>.FloorDiv
 |.mod=>.Mod
 |.pow=>.Pow
 |.shl=>.LShift
 |.band=>.BitAnd
 |.bor=>.BitOr
noncomputable def Bo.g:Bo→M×D→M×D→Option (M×D)
 |.add=>bB
 |.sub=>gR
 |.mul=>dZ
 |.div=>bW
 |.mod=>aS
 |.pow=>gn
 |.shl=>lT
 |.band=>gM
 |.bor=>lX
theorem Bo.ok {K:PySem.W.Frag}:∀ o:Bo,∃ r,(∀ Z:Cx,Z.K=K→bu Z (binaryOp o.op) r)∧JR K r o.g
 |.add=>⟨_,fun _ h=>P9 h,Qa⟩
 |.sub=>⟨_,fun _ _=>Rv,Si⟩
 |.mul=>⟨_,fun _ _=>Rx,Sj⟩
 |.div=>⟨_,fun _ _=>NS,PV⟩
 |.mod=>⟨_,fun _ _=>Ry,Sl⟩
 |.pow=>⟨_,fun _ _=>Rz,Sn⟩
 |.shl=>⟨_,fun _ _=>RA,Sq⟩
 |.band=>⟨_,fun _ _=>RB,PR⟩
 |.bor=>⟨_,fun _ _=>UD,S0⟩
noncomputable def Co.op:Co→CmpOp
 |.lt=>.Lt
 |.le=>.LtE
 |.gt=>.Gt
 |.eq=>.Eq
 |.ne=>.NotEq
 |.rK=>.IsNot
 |.k9=>.In
 |.vV=>.NotIn
 |.oQ=>.Eq
 |.mO=>.NotEq
 |.vW=>.NotIn
 |.neT=>.NotEq
noncomputable def Co.g:Co→M×D→M×D→Option (M×D)
 |.lt=>fw
 |.le=>oK
 |.gt=>gB
 |.eq=>aN
 |.ne=>hU
 |.rK=>qu
 |.k9=>dM false
 |.vV=>dM true
 |.oQ=>gp
 |.mO=>fS
 |.vW=>lZ true
 |.neT=>ot
theorem Co.ok {K:PySem.W.Frag}:∀ o:Co,∃ r,(∀ Z:Cx,Z.K=K→Z.A.units+64 < cLine→bu Z (compareOp o.op) r)∧JR K r o.g
 |.lt=>⟨_,fun _ _ _=>UH,UT⟩
 |.le=>⟨_,fun _ _ _=>UI,UU⟩
 |.gt=>⟨_,fun _ _ _=>UJ,UW⟩
 |.eq=>⟨_,fun _ _ _=>UE,UX⟩
 |.ne=>⟨_,fun _ _ _=>UG,UY⟩
 |.rK=>⟨_,fun _ _ _=>OY,Pp⟩
 |.k9=>⟨_,fun _ h _=>LW h,F9⟩
 |.vV=>⟨_,fun _ h _=>K4 h,F9⟩
 |.oQ=>⟨_,fun _ h u=>Tc h u,Ta⟩
 |.mO=>⟨_,fun _ h u=>Td h u,Tb⟩
 |.vW=>⟨_,fun _ h u=>LZ h u,Te⟩
 |.neT=>⟨_,fun _ h u=>Tv h u,Tw⟩
noncomputable def Uo.op:Uo→UnaryOp
 |.neg=>.USub
 |.inv=>.Invert
noncomputable def Uo.g:Uo→M×D→Option (M×D)
 |.neg=>ft
 |.inv=>kN
theorem Uo.ok {K:PySem.W.Frag}:∀ o:Uo,∃ r,(∀ Z:Cx,qX Z (unaryOp o.op) r)∧JU K r o.g
 |.neg=>⟨_,fun _=>RC,SX⟩
 |.inv=>⟨_,fun _=>RD,SY⟩
noncomputable def Fb.nm:Fb→String
 |.int => "int"
 |.list => "list"
 |.len => "len"
 |.oR => "isinstance"
 |.max => "max"
 |.uS => "list"
 |.sum => "sum"
noncomputable def Fb.g:Fb→List (M×D)→Option (M×D)
 |.int=>kK
 |.list=>lI
 |.len=>bq
 |.oR=>jO
 |.max=>qG
 |.uS=>qh
 |.sum=>qK
inductive Gv where|s (x:Str)|t (l:List Str)
noncomputable def Gv.d:Gv→D
 |.s x=>.str x
 |.t l=>.tup (l.map .str)
mutual
inductive X where|v (i:Nat)|ki (i:Int)|ks (s:Str)|kb (b:Bool)|kn|ty (n:String)|bo (o:Bo) (a b:X)|co (o:Co) (a b:X)|uo (o:Uo) (a:X)|an (a b:X)|or (a b:X)|nt (a:X)|ie (t:T) (a b:X)|tu (l:A)|li (l:A)|dK|d1 (a b:X)|ix (a b:X)|dg (a b:X)|sl (a:X) (lo hi:P)|dT|vX (d k x:X)|rs (a:X) (p:P)|lr (l:A)|fb (f:Fb) (l:A)|ca (f:Nat) (l:A)|cp (i:I) (ix:List Nat) (t:T) (e:X)
inductive A where|n|c (a:X) (l:A)
inductive T where|b (x:X)|c (o:Co) (a b:X)|d (n:Bool) (a b:X)|h (o p:Co) (a b c:X)|an (a b:T)|or (a b:T)|nt (a:T)|y
inductive P where|n|s (x:X)
inductive I where|r1 (l:A)|r2 (l:A)|en (l:A)|s (x:X)|t (x:X)|l (x:X)
end
mutual
inductive G where|n (i:Nat)|t (k:Nat) (l:Gs)|l (k:Nat) (l:Gs)
inductive Gs where|n|c (g:G) (l:Gs)
end
inductive L where|rt (x:X)|ct|st (i:Nat) (x:X)|sc (j:Nat) (i:I) (ix:List Nat) (q:T) (e:X)|as (g:G) (x:X)|si (k:Nat) (i x:X)|dp (k:Nat) (i x:X)|ap (k:Nat) (x:X)|na (k:Nat) (i x:X)|po (i k:Nat)|cl (k:Nat)|ne (i:Nat) (it:I)|tp (k:Nat) (i x:X)|tc (k:Nat)|rO (f:Nat) (sl:List Nat) (l:A)
mutual
inductive S where|l (x:L)|ie (t:T) (a b:B)|fo (i:I) (g:G) (b:B)|fv (k:Nat) (g:G) (b:B)|wh (t:T) (b:B)|fz (k:Nat) (s:S)
inductive B where|n|o (s:S)|c (s:S) (b:B)
end
inductive FT where
 |p (F:List D→Option (M×D))|oo (F:List D→Option D)
noncomputable def FT.f:Option FT→List D→Option (M×D)
 |some (.p F)=>F
 |_=>fun _=>none
noncomputable def FT.q:Option FT→List D→Option D
 |some (.oo F)=>F
 |_=>fun _=>none
mutual
noncomputable def eX (t:List FT):X→Ev→Option (M×D)
 |.v i=>jV i
 |.ki i=>jC (.int i)
 |.ks s=>jC (.str s)
 |.kb b=>jC (.bl b)
 |.kn=>jC .non
 |.ty n=>jC (.ty n)
 |.bo o a b=>ag o.g (eX t a) (eX t b)
 |.co o a b=>ag o.g (eX t a) (eX t b)
 |.uo o a=>cf o.g (eX t a)
 |.an a b=>kJ (eX t a) (eX t b)
 |.or a b=>rq (eX t a) (eX t b)
 |.nt a=>zu (eX t a)
 |.ie c a b=>n9 (eT t c) (eX t a) (eX t b)
 |.tu l=>aQ (eA t l)
 |.li l=>bA (eA t l)
 |.dK=>nG
 |.d1 a b=>yV (eX t a) (eX t b)
 |.ix a b=>ag ak (eX t a) (eX t b)
 |.dg a b=>qv (eX t a) (eX t b)
 |.sl a lo hi=>fA f9 (eX t a) (eP t lo) (eP t hi)
 |.dT=>nV
 |.vX d k x=>qg (eX t d) (eX t k) (eX t x)
 |.rs a p=>uR (eX t a) (eP t p)
 |.lr l=>vU (eA t l)
 |.fb f l=>aJ f.g (eA t l)
 |.ca f l=>aw (FT.f t[f]?) (eA t l)
 |.cp i ix c e=>b9 (eI t i) ix (eT t c) (eX t e)
noncomputable def eA (t:List FT):A→Ev→Option (List (M×D))
 |.n=>ah
 |.c a l=>ae (eX t a) (eA t l)
noncomputable def eT (t:List FT):T→Ev→Option Bool
 |.b x=>jB (eX t x)
 |.c o a b=>jB (ag o.g (eX t a) (eX t b))
 |.d n a b=>jB (dF n (eX t a) (eX t b))
 |.h o p a b c=>jB (nC o.g p.g (eX t a) (eX t b) (eX t c))
 |.an a b=>cZ (eT t a) (eT t b)
 |.or a b=>cC (eT t a) (eT t b)
 |.nt a=>fD (eT t a)
 |.y=>dz
noncomputable def eP (t:List FT):P→Ev→Option (Option Int)
 |.n=>gS
 |.s x=>dJ (eX t x)
noncomputable def eI (t:List FT):I→Ev→Option (M×List D)
 |.r1 l=>bN (eA t l)
 |.r2 l=>qH (eA t l)
 |.en l=>eQ (eA t l)
 |.s x=>As (eX t x)
 |.t x=>IG (eX t x)
 |.l x=>bP (eX t x)
end
mutual
noncomputable def eG:G→M×D→Ev→Option Ev
 |.n i=>gN i
 |.t k l=>gT k (vY l)
 |.l k l=>gL k (vY l)
noncomputable def vY:Gs→M→List D→Ev→Option Ev
 |.n=>cX
 |.c g l=>bx (eG g) (vY l)
end
noncomputable def qL:A→List (Nat×Nat)
 |.n=>[]
 |.c (.v i) l=>(0,i)::vQ (qL l)
 |.c _ l=>vQ (qL l)
noncomputable def eL (t:List FT):L→Ev→Option Fl
 |.rt x=>aI (eX t x)
 |.ct=>uM
 |.st i x=>au i (eX t x)
 |.sc j i ix q e=>au j (eX t (.cp i ix q e))
 |.as g x=>lW (eG g) (eX t x)
 |.si k i x=>dB k (eX t i) (eX t x)
 |.dp k i x=>iW k (eX t i) (eX t x)
 |.ap k x=>cy k (eX t x)
 |.na k i x=>uQ k (eX t i) (eX t x)
 |.po i k=>kM i k
 |.cl k=>yo k
 |.ne i it=>uP i (eI t it)
 |.tp k i x=>iX k (eX t i) (eX t x)
 |.tc k=>xY k
 |.rO f sl l=>jE sl (qL l) (FT.q t[f]?) (eA t l)
mutual
noncomputable def eS (t:List FT):S→Ev→Option Fl
 |.l x=>eL t x
 |.ie c a b=>aM (eT t c) (eB t a) (eB t b)
 |.fo i g b=>aW (eI t i) (eG g) (eB t b)
 |.fv k g b=>qw k (eG g) (eB t b)
 |.wh c b=>gi (eT t c) (eB t b)
 |.fz k s=>cu k (eS t s)
noncomputable def eB (t:List FT):B→Ev→Option Fl
 |.n=>aR
 |.o s=>eS t s
 |.c s b=>aj (eS t s) (eB t b)
end
end C
set_option genInjectivity true
set_option genSizeOf true
namespace C
open PySem PySem.Spec L2 J
noncomputable def dD:Expr→Bool
 |.Starred ..=>false
 |_=>true
noncomputable def mP:Expr→Bool
 |.Slice ..=>false
 |_=>true
noncomputable def rL:Expr→Bool
 |.Name ..=>true
 |.Call ..=>true
 |.Subscript ..=>true
 |_=>false
noncomputable def rM:Expr→Bool
 |.Name ..=>true
 |.Constant ..=>true
 |.Subscript ..=>true
 |.Call _ (_::_) _ _=>true
 |_=>false
noncomputable def jS:Expr→Bool
 |.Set ..=>false
 |_=>true
noncomputable def lN:Expr→Bool
 |.ListComp ..=>false
 |.SetComp ..=>false
 |.DictComp ..=>false
 |_=>true
noncomputable def yX:Expr→Bool
 |.Tuple ..=>true
 |_=>false
theorem cF {e:Expr} (h:dD e=true) {es:List Expr}{env:Env}:starEach (e::es) env=(false,eval e env)::starEach es env:=by
 cases e<;>first|rfl|cases h
theorem Gi {i:Expr} (h:mP i=true):DV i:=by
 intro o v;cases i<;>first|rfl|cases h
theorem QG {i:Expr} (h:mP i=true):zj i:=by
 intro o v;cases i<;>first|rfl|cases h
theorem Tx {i o:Expr}{pos:Pos}{env:Env} (h:mP i=true) (v:Value):assign (Expr.Subscript o i pos) env v=(do
  let ov ←holding [v] (eval o env)
  let iv ←holding [v,ov] (eval i env)
  standAt pos
  holding [v,ov,iv] (setItem ov iv v)
  PySem.release [v,ov,iv] []):=by
 cases i<;>first|rfl|cases h
theorem Tz {a:Expr}{env:Env} (h:rL a=true) (whole:Sem Value):PySem.isTrue a env whole=(do
  let v ←whole
  standAt (Expr.pos a)
  holding [v] (truthy v)):=by
 cases a<;>first|rfl|cases h
theorem qi {o:Expr}{m:Str}{env:Env}{w:Sem Value} (h:rM o=true):attributeBase o m env w=w:=by
 cases o<;>first|rfl | (cases h;done)|skip
 rename_i f l kw p
 cases l with
 |nil=>cases h
 |cons a l=>cases f<;>rfl
theorem ug {op:CmpOp}{e:Expr} (h:jS e=true):behindInMarks op e=false:=by
 cases e<;>first|rfl|cases h
theorem kh {e:Expr}{env:Env} (h:jS e=true) (x:Value):foldedSetIterable e env x=pure x:=by
 cases e<;>first|rfl|cases h
noncomputable def AJ (sc:Scope) (x:Str):Bool:=match sc.names.lookup x with
 |some .local=>true
 |some .cell=>true
 |some .free=>true
 |_=>false
theorem Fm {sc:Scope}{x:Str} (h:AJ sc x=true):vw sc x:=by
 unfold AJ at h;unfold vw
 split at h<;>first|exact absurd h Bool.false_ne_true|simp_all
noncomputable def gl (sc:Scope) (x:Str):Bool:=match sc.names.lookup x with
 |some .globalImplicit=>true
 |_=>false
theorem Vj {sc:Scope}{x:Str} (h:gl sc x=true):sc.names.lookup x=some .globalImplicit:=by
 unfold gl at h
 split at h<;>first|exact absurd h Bool.false_ne_true|assumption
noncomputable def rl (sc aB:Scope):Scope :=
  { kind:=aB.kind,names:=aB.names.map (fun (n,k)=>if (k==NameKind.free&&sc.kind==ScopeKind.function&&sc.names.lookup n==some NameKind.cell)=true then (n,NameKind.cell) else (n,k)),
    isGenerator:=aB.isGenerator,isCoroutine:=aB.isCoroutine,more:=aB.more }
noncomputable def AK (N N':List Str) (sc aB:Scope) (x:Str) (ix:List Nat):Bool :=
 decide (aB.kind=.function∧(∀ y∈aB.names,y.2≠.cell)∧(∀ y∈aB.names,y.2=.local→aB.names.lookup y.1=some .local)∧aB.names.lookup x=some .local ∧
  (∀ y∈aB.names,y.2=.free→sc.names.lookup y.1=some .cell)∧N'.Nodup∧N'[0]?=some x∧N'.length=ix.length+1 ∧
  (∀ p∈ix.zip N'.tail,N[p.1]?=some p.2∧sc.names.lookup p.2=some .cell∧aB.names.lookup p.2=some .free))
theorem yx {N N':List Str}{sc aB:Scope}{x:Str}{ix:List Nat} (h:AK N N' sc aB x ix=true):lC N N' sc aB x ix:=by
 obtain ⟨h1,h2,h3,h4,h5,h6,h7,h8,h9⟩:=of_decide_eq_true h
 exact ⟨h1,h2,h3,h4,h5,h6,h7,h8,h9⟩
structure Fi where
 nm:Str
 ar:Nat
 lv:Nat
 io:Option (List Nat):=none
noncomputable def Gv.is:Gv→Gv→Bool
 |.s x,.s y=>decide (x=y)
 |.t x,.t y=>decide (x=y)
 |_,_=>false
structure Cf where
 bs:List String
 gs:List (Str×Gv)
 fs:List Fi
noncomputable def ns (N:List Str) (x:Str) (ix:List Nat):List Str:=x::ix.map fun i=>(N[i]?).getD ""
noncomputable def tys:List String:=["bool", "int", "str", "tuple", "list", "dict"]
noncomputable def nin (n:Bool):CmpOp:=if n then .NotIn else .In
noncomputable def on {α:Type} (o:Option α) (f:α→Bool):Bool:=match o with
 |some a=>f a
 |none=>false
theorem aC {α:Type}{o:Option α}{f:α→Bool} (h:on o f=true):∃ a,o=some a∧f a=true:=by
 cases o with
 |none=>cases h
 |some a=>exact ⟨a,rfl,h⟩
noncomputable def oS:Expr→Option Str
 |.Name x _=>some x
 |_=>none
noncomputable def eK:Expr→Option Const
 |.Constant c _ _=>some c
 |_=>none
noncomputable def Jk:Const→Option Int
 |.int i=>some i
 |_=>none
noncomputable def Jl:Const→Option Str
 |.str i=>some i
 |_=>none
noncomputable def Jm:Const→Option Bool
 |.bool i=>some i
 |_=>none
noncomputable def Jn:Const→Bool
 |.none=>true
 |_=>false
noncomputable def Jo:Expr→Option (Expr×Operator×Expr)
 |.BinOp l op r _=>some (l,op,r)
 |_=>none
noncomputable def vZ:Expr→Option (UnaryOp×Expr)
 |.UnaryOp op e _=>some (op,e)
 |_=>none
noncomputable def AO:Expr→Option (Expr×List CmpOp×List Expr)
 |.Compare l ops rs _=>some (l,ops,rs)
 |_=>none
noncomputable def l1 {α:Type}:List α→Option α
 |[a]=>some a
 |_=>none
noncomputable def l2 {α:Type}:List α→Option (α×α)
 |[a,b]=>some (a,b)
 |_=>none
noncomputable def oT {α:Type}:List α→Option (α×List α)
 |a::l=>some (a,l)
 |_=>none
noncomputable def v3 (e:Expr):Option (Expr×CmpOp×Expr):=(AO e).bind fun q=>(l1 q.2.1).bind fun op=>(l1 q.2.2).map fun r=>(q.1,op,r)
noncomputable def Jp (e:Expr):Option (Expr×CmpOp×CmpOp×Expr×Expr):=(AO e).bind fun q=>(l2 q.2.1).bind fun op=>(l2 q.2.2).map fun r=>(q.1,op.1,op.2,r.1,r.2)
noncomputable def Jq:Expr→Option (BoolOp×List Expr×Pos)
 |.BoolOp op vs pos=>some (op,vs,pos)
 |_=>none
noncomputable def qM (o:BoolOp) (e:Expr):Option (Expr×Expr):=(Jq e).bind fun q=>if q.1=o then (oT q.2.1).bind fun a=>(oT a.2).map fun b=>(a.1,match b.2 with
 |[]=>b.1
 |_=>.BoolOp o (b.1::b.2) q.2.2) else none
noncomputable def Jr:Expr→Option (Expr×Expr×Expr)
 |.IfExp e l r _=>some (e,l,r)
 |_=>none
noncomputable def v5:Expr→Option (List Expr)
 |.Tuple es _ _=>some es
 |_=>none
noncomputable def Js:Expr→Option (List Expr)
 |.List es _=>some es
 |_=>none
noncomputable def v7:Expr→Option (List (Option Expr)×List Expr)
 |.Dict ks vs _=>some (ks,vs)
 |_=>none
noncomputable def kc:Expr→Option (Expr×Expr)
 |.Subscript l r _=>some (l,r)
 |_=>none
noncomputable def Jt:Expr→Option (Option Expr×Option Expr)
 |.Slice lo hi none _=>some (lo,hi)
 |_=>none
noncomputable def AQ:Expr→Option Expr
 |.Slice none none (some s) _=>some s
 |_=>none
noncomputable def AU:Expr→Option (Expr×List Expr×List Keyword×Pos)
 |.Call f as kw cp=>some (f,as,kw,cp)
 |_=>none
noncomputable def Ju:Expr→Option (Expr×Str×Pos)
 |.Attribute o m ap=>some (o,m,ap)
 |_=>none
noncomputable def eM (nm:String) (e:Expr):Option (Expr×List Expr):=(AU e).bind fun q=>(Ju q.1).bind fun a=>if a.2.1=Str.ofString nm∧q.2.2.1.isEmpty=true∧rM a.1=true∧(a.2.2.endLine==q.2.2.2.line)=true∧q.2.1.all dD=true then some (a.1,q.2.1) else none
noncomputable def eN (e:Expr):Option (Str×List Expr):=(AU e).bind fun q=>(oS q.1).bind fun x=>if q.2.2.1.isEmpty=true∧q.2.1.all dD=true then some (x,q.2.1) else none
noncomputable def vo:Expr→Option (Expr×Str×Pos×Expr×List Expr×Scope×Pos)
 |.ListComp el [⟨.Name z pz,it,ifs,0⟩] aB ep=>some (el,z,pz,it,ifs,aB,ep)
 |_=>none
theorem ip {α β:Type}{o:Option α}{f:α→Option β}{b:β} (h:o.bind f=some b):∃ a,o=some a∧f a=some b:=by
 cases o with
 |none=>cases h
 |some a=>exact ⟨a,rfl,h⟩
theorem uz {α β:Type}{o:Option α}{f:α→β}{b:β} (h:o.map f=some b):∃ a,o=some a∧f a=b:=by
 cases o with
 |none=>cases h
 |some a=>exact ⟨a,rfl,by simpa using h⟩
theorem nH {e:Expr}{x:Str} (h:oS e=some x):∃ p,e=.Name x p:=by
 cases e<;>cases h;exact ⟨_,rfl⟩
theorem uT {e:Expr}{k:Const} (h:eK e=some k):∃ j p,e=.Constant k j p:=by
 cases e<;>cases h;exact ⟨_,_,rfl⟩
theorem Vk {k:Const}{i:Int} (h:Jk k=some i):k=.int i:=by
 cases k<;>cases h;rfl
theorem Vl {k:Const}{i:Str} (h:Jl k=some i):k=.str i:=by
 cases k<;>cases h;rfl
theorem Vm {k:Const}{i:Bool} (h:Jm k=some i):k=.bool i:=by
 cases k<;>cases h;rfl
theorem Vn {k:Const} (h:Jn k=true):k=.none:=by
 cases k<;>first|rfl|exact absurd h Bool.false_ne_true
theorem TB {e l r:Expr}{op:Operator} (h:Jo e=some (l,op,r)):∃ p,e=.BinOp l op r p:=by
 cases e<;>cases h;exact ⟨_,rfl⟩
theorem yy {e a:Expr}{op:UnaryOp} (h:vZ e=some (op,a)):∃ p,e=.UnaryOp op a p:=by
 cases e<;>cases h;exact ⟨_,rfl⟩
theorem iY {α:Type}{l:List α}{a:α} (h:l1 l=some a):l=[a]:=by
 cases l with
 |nil=>cases h
 |cons b l=>cases l<;>cases h;rfl
theorem yZ {α:Type}{l:List α}{a:α×α} (h:l2 l=some a):l=[a.1,a.2]:=by
 cases l with
 |nil=>cases h
 |cons b l =>
  cases l with
  |nil=>cases h
  |cons d l=>cases l<;>cases h;rfl
theorem lE {α:Type}{l:List α}{a:α×List α} (h:oT l=some a):l=a.1::a.2:=by
 cases l<;>cases h;rfl
theorem Fn {e:Expr}{q:Expr×List CmpOp×List Expr} (h:AO e=some q):∃ p,e=.Compare q.1 q.2.1 q.2.2 p:=by
 cases e<;>cases h;exact ⟨_,rfl⟩
theorem yz {e l r:Expr}{op:CmpOp} (h:v3 e=some (l,op,r)):∃ p,e=.Compare l [op] [r] p:=by
 obtain ⟨q,h1,h⟩:=ip h
 obtain ⟨a,h2,h⟩:=ip h
 obtain ⟨b,h3,h⟩:=uz h
 cases h
 obtain ⟨p,rfl⟩:=Fn h1
 exact ⟨p,by rw [iY h2,iY h3]⟩
theorem TC {e l m r:Expr}{op op':CmpOp} (h:Jp e=some (l,op,op',m,r)):∃ p,e=.Compare l [op,op'] [m,r] p:=by
 obtain ⟨q,h1,h⟩:=ip h
 obtain ⟨a,h2,h⟩:=ip h
 obtain ⟨b,h3,h⟩:=uz h
 cases h
 obtain ⟨p,rfl⟩:=Fn h1
 exact ⟨p,by rw [yZ h2,yZ h3]⟩
theorem TF {e:Expr}{q:BoolOp×List Expr×Pos} (h:Jq e=some q):e=.BoolOp q.1 q.2.1 q.2.2:=by
 cases e<;>cases h;rfl
theorem uh {o:BoolOp}{e a b:Expr} (h:qM o e=some (a,b)):∃ m rest pos,e=.BoolOp o (a::m::rest) pos∧((rest=[]∧b=m)∨b=.BoolOp o (m::rest) pos):=by
 obtain ⟨q,h1,g⟩:=ip h
 have e0:=TF h1
 by_cases e:q.1=o
 ·rw [if_pos e] at g
  obtain ⟨x,h2,g⟩:=ip g
  obtain ⟨y,h3,g⟩:=uz g
  have e2:q.2.1=x.1::y.1::y.2:=by rw [lE h2,lE h3]
  have ea:x.1=a:=congrArg Prod.fst g
  have eb:=congrArg Prod.snd g
  refine ⟨y.1,y.2,q.2.2,by rw [e0,e2,e,ea],?_⟩
  cases hy:y.2 with
  |nil=>rw [hy] at eb;exact .inl ⟨rfl,eb.symm⟩
  |cons z zs=>rw [hy] at eb;exact .inr eb.symm
 ·rw [if_neg e] at g;cases g
theorem TH {e a b d:Expr} (h:Jr e=some (a,b,d)):∃ p,e=.IfExp a b d p:=by
 cases e<;>cases h;exact ⟨_,rfl⟩
theorem yA {e:Expr}{es:List Expr} (h:v5 e=some es):∃ k p,e=.Tuple es k p:=by
 cases e<;>cases h;exact ⟨_,_,rfl⟩
theorem TJ {e:Expr}{es:List Expr} (h:Js e=some es):∃ p,e=.List es p:=by
 cases e<;>cases h;exact ⟨_,rfl⟩
theorem yB {e:Expr}{q:List (Option Expr)×List Expr} (h:v7 e=some q):∃ p,e=.Dict q.1 q.2 p:=by
 cases e<;>cases h;exact ⟨_,rfl⟩
theorem ko {e l r:Expr} (h:kc e=some (l,r)):∃ p,e=.Subscript l r p:=by
 cases e<;>cases h;exact ⟨_,rfl⟩
theorem TK {e:Expr}{lo hi:Option Expr} (h:Jt e=some (lo,hi)):∃ p,e=.Slice lo hi none p:=by
 cases e with
 |Slice a b st p=>cases st<;>cases h;exact ⟨_,rfl⟩
 |_=>cases h
theorem TL {e s:Expr} (h:AQ e=some s):∃ p,e=.Slice none none (some s) p:=by
 unfold AQ at h
 split at h
 ·cases h;exact ⟨_,rfl⟩
 ·cases h
theorem Fo {e:Expr}{q:Expr×List Expr×List Keyword×Pos} (h:AU e=some q):e=.Call q.1 q.2.1 q.2.2.1 q.2.2.2:=by
 cases e<;>cases h;rfl
theorem TN {e:Expr}{q:Expr×Str×Pos} (h:Ju e=some q):e=.Attribute q.1 q.2.1 q.2.2:=by
 cases e<;>cases h;rfl
theorem lO {nm:String}{e o:Expr}{as:List Expr} (h:eM nm e=some (o,as)):∃ ap cp,e=.Call (.Attribute o (Str.ofString nm) ap) as [] cp∧rM o=true∧(ap.endLine==cp.line)=true∧as.all dD=true:=by
 obtain ⟨q,h1,h⟩:=ip h
 obtain ⟨a,h2,h⟩:=ip h
 split at h
 ·rename_i g
  cases h
  refine ⟨a.2.2,q.2.2.2,?_,g.2.2.1,g.2.2.2.1,g.2.2.2.2⟩
  rw [Fo h1,TN h2,g.1,List.isEmpty_iff.mp g.2.1]
 ·cases h
theorem kx {e:Expr}{x:Str}{as:List Expr} (h:eN e=some (x,as)):∃ p cp,e=.Call (.Name x p) as [] cp∧as.all dD=true:=by
 obtain ⟨q,h1,h⟩:=ip h
 obtain ⟨y,h2,h⟩:=ip h
 split at h
 ·rename_i g
  cases h
  obtain ⟨p,e2⟩:=nH h2
  exact ⟨p,q.2.2.2,by rw [Fo h1,e2,List.isEmpty_iff.mp g.1],g.2⟩
 ·cases h
theorem xZ {e el it:Expr}{z:Str}{pz ep:Pos}{ifs:List Expr}{aB:Scope} (h:vo e=some (el,z,pz,it,ifs,aB,ep)):e=.ListComp el [⟨.Name z pz,it,ifs,0⟩] aB ep:=by
 unfold vo at h
 split at h
 ·cases h;rfl
 ·cases h
noncomputable def AV:T→Bool
 |.y=>true
 |_=>false
mutual
noncomputable def kX (c:Cf) (lv:Nat):X→Scope→List Str→Expr→Bool
 |.v i,sc,N,e=>on (oS e) fun x=>decide (N[i]?=some x)&&AJ sc x&&!(x == "__debug__")&&!(x == "__classdict__")
 |.ki i,_,_,e=>on (eK e) fun k=>on (Jk k) fun j=>decide (i=j)
 |.ks i,_,_,e=>on (eK e) fun k=>on (Jl k) fun j=>decide (i=j)
 |.kb i,_,_,e=>on (eK e) fun k=>on (Jm k) fun j=>decide (i=j)
 |.kn,_,_,e=>on (eK e) Jn
 |.ty n,sc,_,e=>on (oS e) fun x=>decide (x=Str.ofString n)&&gl sc x&&c.bs.contains n&&tys.contains n
 |.bo o a b,sc,N,e=>on (Jo e) fun q=>decide (q.2.1=o.op)&&kX c lv a sc N q.1&&kX c lv b sc N q.2.2
 |.co o a b,sc,N,e=>on (v3 e) fun q=>decide (q.2.1=o.op)&&jS q.2.2&&kX c lv a sc N q.1&&kX c lv b sc N q.2.2
 |.uo o a,sc,N,e=>on (vZ e) fun q=>decide (q.1=o.op)&&kX c lv a sc N q.2
 |.an a b,sc,N,e=>on (qM .And e) fun q=>kX c lv a sc N q.1&&kX c lv b sc N q.2
 |.or a b,sc,N,e=>on (qM .Or e) fun q=>kX c lv a sc N q.1&&kX c lv b sc N q.2
 |.nt a,sc,N,e=>on (vZ e) fun q=>decide (q.1=.Not)&&kX c lv a sc N q.2
 |.ie t a b,sc,N,e=>on (Jr e) fun q=>kT c lv t sc N q.1&&kX c lv a sc N q.2.1&&kX c lv b sc N q.2.2
 |.tu l,sc,N,e=>on (v5 e) fun es=>kA c lv l sc N es
 |.li l,sc,N,e=>on (Js e) fun es=>kA c lv l sc N es
 |.dK,_,_,e=>on (v7 e) fun q=>q.1.isEmpty&&q.2.isEmpty
 |.d1 a b,sc,N,e=>on (v7 e) fun q=>on (l1 q.1) fun k=>on k fun k=>on (l1 q.2) fun v=>kX c lv a sc N k&&kX c lv b sc N v
 |.ix a b,sc,N,e=>on (kc e) fun q=>mP q.2&&kX c lv a sc N q.1&&kX c lv b sc N q.2
 |.dg a b,sc,N,e=>on (kc e) fun q=>mP q.2&&kX c lv a sc N q.1&&kX c lv b sc N q.2
 |.sl a lo hi,sc,N,e=>on (kc e) fun q=>on (Jt q.2) fun s=>kX c lv a sc N q.1&&kP c lv lo sc N s.1&&kP c lv hi sc N s.2
 |.dT,_,_,e=>on (v7 e) fun q=>q.1.isEmpty&&q.2.isEmpty
 |.vX d k x,sc,N,e=>on (eM "get" e) fun q=>on (l2 q.2) fun a=>kX c lv d sc N q.1&&kX c lv k sc N a.1&&kX c lv x sc N a.2
 |.rs a p,sc,N,e=>on (kc e) fun q=>on (AQ q.2) fun s=>kX c lv a sc N q.1&&kP c lv p sc N (some s)
 |.lr l,sc,N,e=>on (eN e) fun q=>on (l1 q.2) fun r=>on (eN r) fun u=>decide (q.1 = "list")&&gl sc q.1&&c.bs.contains "list" && decide (u.1 = "range")&&gl sc u.1&&(c.bs.contains "range" && decide (u.2.length=1)&&kA c lv l sc N u.2)
 |.fb f l,sc,N,e=>on (eN e) fun q=>decide (q.1=Str.ofString f.nm)&&gl sc q.1&&c.bs.contains f.nm&&!q.2.isEmpty&&kA c lv l sc N q.2
 |.ca f l,sc,N,e=>on (eN e) fun q=>on c.fs[f]? fun i=>decide (q.1=i.nm)&&gl sc q.1&&!(q.1 == "__debug__")&&decide (i.lv≤lv)&&decide (q.2.length=i.ar)&&decide (i.io=none)&&!q.2.isEmpty&&kA c lv l sc N q.2
 |.cp i ix t e,sc,N,x=>on (vo x) fun q=>AK N (ns N q.2.1 ix) sc q.2.2.2.2.2.1 q.2.1 ix&&jS q.2.2.2.1&&kI c lv i false sc N q.2.2.2.1&&((q.2.2.2.2.1.isEmpty&&AV t)||on (l1 q.2.2.2.2.1) fun y=>kT c lv t (rl sc q.2.2.2.2.2.1) (ns N q.2.1 ix) y)&&kX c lv e (rl sc q.2.2.2.2.2.1) (ns N q.2.1 ix) q.1
noncomputable def kA (c:Cf) (lv:Nat):A→Scope→List Str→List Expr→Bool
 |.n,_,_,es=>es.isEmpty
 |.c a l,sc,N,es=>on (oT es) fun q=>dD q.1&&kX c lv a sc N q.1&&kA c lv l sc N q.2
noncomputable def kT (c:Cf) (lv:Nat):T→Scope→List Str→Expr→Bool
 |.b x,sc,N,e=>rL e&&kX c lv x sc N e
 |.c o a b,sc,N,e=>on (v3 e) fun q=>decide (q.2.1=o.op)&&jS q.2.2&&kX c lv a sc N q.1&&kX c lv b sc N q.2.2
 |.d n a b,sc,N,e=>on (v3 e) fun q=>decide (q.2.1=nin n)&&jS q.2.2&&kX c lv a sc N q.1&&kX c lv b sc N q.2.2
 |.h o p a b d,sc,N,e=>on (Jp e) fun q=>decide (q.2.1=o.op)&&decide (q.2.2.1=p.op)&&!lastMarks [q.2.1,q.2.2.1] [q.2.2.2.1,q.2.2.2.2]&&kX c lv a sc N q.1&&kX c lv b sc N q.2.2.2.1&&kX c lv d sc N q.2.2.2.2
 |.an a b,sc,N,e=>on (qM .And e) fun q=>kT c lv a sc N q.1&&kT c lv b sc N q.2
 |.or a b,sc,N,e=>on (qM .Or e) fun q=>kT c lv a sc N q.1&&kT c lv b sc N q.2
 |.nt a,sc,N,e=>on (vZ e) fun q=>decide (q.1=.Not)&&kT c lv a sc N q.2
 |.y,_,_,_=>false
noncomputable def kP (c:Cf) (lv:Nat):P→Scope→List Str→Option Expr→Bool
 |.n,_,_,o=>o.isNone
 |.s x,sc,N,o=>on o fun e=>kX c lv x sc N e
noncomputable def kI (c:Cf) (lv:Nat):I→Bool→Scope→List Str→Expr→Bool
 |.r1 l,_,sc,N,e=>on (eN e) fun q=>decide (q.1 = "range")&&gl sc q.1&&c.bs.contains "range" && decide (q.2.length=1)&&kA c lv l sc N q.2
 |.r2 l,_,sc,N,e=>on (eN e) fun q=>decide (q.1 = "range")&&gl sc q.1&&c.bs.contains "range" && decide (q.2.length=2)&&kA c lv l sc N q.2
 |.en l,tg,sc,N,e=>on (eN e) fun q=>tg&&decide (q.1 = "enumerate")&&gl sc q.1&&c.bs.contains "enumerate" && decide (q.2.length=1)&&kA c lv l sc N q.2
 |.s x,_,sc,N,e=>kX c lv x sc N e
 |.t x,_,sc,N,e=>kX c lv x sc N e
 |.l x,_,sc,N,e=>kX c lv x sc N e
end
def Jv (P:Program) (w:World) (K:PySem.W.Frag) (mg:Str→Option Value) (base:Heap) (i:Fi) (sp:Sp):Prop :=
 ∃ f fd ps,jL P w K mg base j4 i.lv f fd ps sp∧mg i.nm=some (.ref f)∧PySem.W.keepIn K (.ref f)=true∧Binds K fd ps []
noncomputable def mQ (P:Program) (w:World) (K:PySem.W.Frag) (mg:Str→Option Value) (base:Heap) (i:Fi):FT→Prop
 |.p F=>i.io=none∧Jv P w K mg base i (mG K i.ar F)
 |.oo F=>i.io=some []∧Jv P w K mg base i (vn K i.ar F)
def GV (K:PySem.W.Frag) (mg:Str→Option Value) (va:List V) (gs:List (Str×Gv)):Prop:=∀ (i:Nat) g,gs[i]?=some g→∃ x u,va[i]?=some x∧mg g.1=some u∧RelV x u∧JT K (tC x) (jC g.2.d)
structure CE (c:Cf) (lv:Nat) (K:PySem.W.Frag) (t:List FT) (va:List V) (sc:Scope) (N:List Str) (Z:Cx):Prop where
 k:Z.K=K
 sc:Z.env.scope=sc
 n:Z.N=N
 calm:Z.calm=true
 rm:du lv Z.A
 bl:∀ b,b∈c.bs→Z.mg (Str.ofString b)=none
 gv:GV K Z.mg va c.gs
 fs:∀ (i:Nat) fi,c.fs[i]?=some fi→∃ F,t[i]?=some F∧mQ Z.prog Z.w Z.K Z.mg Z.base fi F
section
variable {c:Cf}{lv:Nat}{K:PySem.W.Frag}{t:List FT}{va:List V}{sc:Scope}{N:List Str}{Z:Cx}
theorem CE.cw (E:CE c lv K t va sc N Z) {N':List Str}{aB:Scope}{C:Addr}{s₂:Shared}{H₂:Hp}{fp:List Addr}{pn:List (Addr×Obj)}:CE c lv K t va (rl sc aB) N' (Z.cw N' aB C s₂ H₂ fp pn) :=
 ⟨E.k,by rw [←E.sc];rfl,rfl,E.calm,E.rm,E.bl,E.gv,E.fs⟩
theorem CE.gl (E:CE c lv K t va sc N Z) {x:Str} (h:gl sc x=true):Gl Z x:=by
 have:=Vj h
 rw [←E.sc] at this
 exact this
theorem CE.mg (E:CE c lv K t va sc N Z) {b:String} (h:c.bs.contains b=true):Z.mg (Str.ofString b)=none:=E.bl b (by simpa using h)
theorem iP:∀ {es:List Expr}{env:Env},es.all dD=true→∀ pos:Pos,((backTo pos (starEach es env)).any fun x=>x.1)=false
 |[],_,_,_=>rfl
 |e::es,env,h,pos=>by
  rw [List.all_cons,Bool.and_eq_true] at h
  rw [cF h.1]
  show (false||(backTo pos (starEach es env)).any fun x=>x.1)=false
  rw [iP h.2,Bool.or_false]
theorem TQ {n:String} (h:tys.contains n=true):bootBuiltins (Str.ofString n)=some (.type n)∧Str.ofString n ≠ "__name__" ∧ (Str.ofString n==("__debug__" : Str))=false:=by
 have h:n∈tys:=by simpa using h
 simp only [tys,List.mem_cons,List.not_mem_nil,or_false] at h
 rcases h with rfl|rfl|rfl|rfl|rfl|rfl
 ·exact ⟨PyProof.Rows.Boot.«bool»,by decide,by decide⟩
 ·exact ⟨PyProof.Rows.Boot.«int»,by decide,by decide⟩
 ·exact ⟨PyProof.Rows.Boot.«str»,by decide,by decide⟩
 ·exact ⟨PyProof.Rows.Boot.«tuple»,by decide,by decide⟩
 ·exact ⟨PyProof.Rows.Boot.«list»,by decide,by decide⟩
 ·exact ⟨PyProof.Rows.Boot.«dict»,by decide,by decide⟩
theorem Fb.ok:∀ f:Fb,∃ r,(∀ {sc:Scope}{N:List Str} (Z:Cx),CE c lv K t va sc N Z→∀ {p pos:Pos}{e:Expr}{es:List Expr}{ta:TA},C.gl sc (Str.ofString f.nm)=true→c.bs.contains f.nm=true→dD e=true→es.all dD=true→PA Z (e::es) ta→PE Z (.Call (.Name (Str.ofString f.nm) p) (e::es) [] pos) (vB r ta))∧j5 K r f.g
 |.int=>⟨_,fun _ E _ _ _ _ _ hg hb h1 h2 ha=>@xA _ _ _ _ _ _ _ _ _ Mi (E.gl hg) (E.mg hb) PyProof.Rows.Boot.«int» ha (by decide) (by decide) (cF h1) (iP h2 _),Pw⟩
 |.list=>⟨_,fun _ E _ _ _ _ _ hg hb h1 h2 ha=>@xA _ _ _ _ _ _ _ _ _ (K5 E.k) (E.gl hg) (E.mg hb) PyProof.Rows.Boot.«list» ha (by decide) (by decide) (cF h1) (iP h2 _),Ny⟩
 |.len=>⟨_,fun _ E _ _ _ _ _ hg hb h1 h2 ha=>@tQ _ _ _ _ _ _ _ _ _ (Mw E.k) (E.gl hg) (E.mg hb) PyProof.Rows.Boot.«len» ha (by decide) (by decide) (cF h1) (iP h2 _),Pu⟩
 |.oR=>⟨_,fun _ E _ _ _ _ _ hg hb h1 h2 ha=>@tQ _ _ _ _ _ _ _ _ _ (MD E.k) (E.gl hg) (E.mg hb) PyProof.Rows.Boot.«isinstance» ha (by decide) (by decide) (cF h1) (iP h2 _),Qb⟩
 |.max=>⟨_,fun _ E _ _ _ _ _ hg hb h1 h2 ha=>@tQ _ _ _ _ _ _ _ _ _ (Mh E.calm) (E.gl hg) (E.mg hb) PyProof.Rows.Boot.«max» ha (by decide) (by decide) (cF h1) (iP h2 _),Px⟩
 |.uS=>⟨_,fun _ E _ _ _ _ _ hg hb h1 h2 ha=>@xA _ _ _ _ _ _ _ _ _ (L1 E.k E.calm) (E.gl hg) (E.mg hb) PyProof.Rows.Boot.«list» ha (by decide) (by decide) (cF h1) (iP h2 _),MN⟩
 |.sum=>⟨_,fun _ E _ _ _ _ _ hg hb h1 h2 ha=>@tQ _ _ _ _ _ _ _ _ _ (MR E.k E.calm) (E.gl hg) (E.mg hb) PyProof.Rows.Boot.«sum» ha (by decide) (by decide) (cF h1) (iP h2 _),QB⟩
theorem TR {a:Expr}{env:Env}{cq:Pos} (h:dD a=true):(((List.all (backTo cq (starEach [a] env)) fun x=>!x.1)&&List.all (backToKw cq (keywordEach [] env)) fun x=>Option.isSome x.1)&&decide ((List.length [a]+List.length ([]:List Keyword)+if List.isEmpty ([]:List Keyword)=true then 0 else 1) < 30))=true:=by
 rw [cF h];rfl
theorem TV {env:Env}{cp:Pos}:((backTo cp (starEach [] env)).any fun x=>x.1)=false:=rfl
theorem zJ:∀ {l:A}{sc:Scope}{N:List Str}{es:List Expr},kA c lv l sc N es=true→∀ (e:Ev) (aA:List (M×D)),eA t l e=some aA→aA.length=es.length
 |.n,_,_,es,h=>by cases List.isEmpty_iff.mp h;exact PY
 |.c a l,sc,N,es,h=>by
  have hh:=aC h;clear h;obtain ⟨⟨e,r⟩,q,h⟩:=hh
  cases lE q
  have h:(dD e&&kX c lv a sc N e&&kA c lv l sc N r)=true:=h
  rw [Bool.and_eq_true] at h
  exact NZ (zJ h.2)
end
section
variable {c:Cf}{lv:Nat}{K:PySem.W.Frag}{t:List FT}{va:List V}
theorem cH {a b:Bool} (h:(a&&b)=true):a=true∧b=true:=by simpa using h
theorem gb {a b d:Bool} (h:(a&&b&&d)=true):a=true∧b=true∧d=true:=by simpa [and_assoc] using h
theorem fJ {a b d e:Bool} (h:(a&&b&&d&&e)=true):a=true∧b=true∧d=true∧e=true:=by simpa [and_assoc] using h
theorem oU {a b d e f:Bool} (h:(a&&b&&d&&e&&f)=true):a=true∧b=true∧d=true∧e=true∧f=true:=by simpa [and_assoc] using h
theorem v8 {a b d e f g:Bool} (h:(a&&b&&d&&e&&f&&g)=true):a=true∧b=true∧d=true∧e=true∧f=true∧g=true:=by simpa [and_assoc] using h
theorem Jw {a b d e f g i j:Bool} (h:(a&&b&&d&&e&&f&&g&&i&&j)=true):a=true∧b=true∧d=true∧e=true∧f=true∧g=true∧i=true∧j=true:=by simpa [and_assoc] using h
theorem nb {a:Bool} (h:(!a)=true):a=false:=by simpa using h
theorem Gj {Z:Cx}{op:BoolOp}{vs:List Expr}{pos:Pos}{tt:TT} (h:PT Z (.BoolOp op vs pos) tt):PW Z (.BoolOp op vs pos) tt:=fun _=>h
theorem all1 {a:Expr}{l:List Expr} (h:(a::l).all dD=true):dD a=true∧l.all dD=true:=by
 rw [List.all_cons,Bool.and_eq_true] at h;exact h
theorem x4 {α:Type}{l:List α} (h:(!l.isEmpty)=true):∃ a r,l=a::r:=by
 cases l with
 |nil=>cases h
 |cons a r=>exact ⟨a,r,rfl⟩
theorem zK {α:Type}{l:List α} (h:l.length=1):∃ a,l=[a]:=List.length_eq_one_iff.mp h
theorem W4 {α:Type}{l:List α} (h:l.length=2):∃ a b,l=[a,b]:=by
 match l,h with
 |[a,b],_=>exact ⟨a,b,rfl⟩
mutual
theorem sX:∀ (x:X) {sc:Scope}{N:List Str}{e:Expr},kX c lv x sc N e=true→∃ te,(∀ Z,CE c lv K t va sc N Z→PE Z e te)∧JT K te (eX t x)
 |.v i,sc,N,e,h=>by
  have hh:=aC h;clear h;obtain ⟨x,q,h⟩:=hh
  obtain ⟨p,rfl⟩:=nH q
  obtain ⟨h1,h2,h3,h4⟩:=fJ h
  have h1:=of_decide_eq_true h1
  have h2:=Fm h2
  exact ⟨_,fun Z E=>@ED _ _ _ _ (E.n▸h1) (E.sc▸h2) (nb h3) (nb h4),Sg⟩
 |.ki i,sc,N,e,h=>by
  have hh:=aC h;clear h;obtain ⟨k,q,h⟩:=hh
  obtain ⟨j,p,rfl⟩:=uT q
  have hh:=aC h;clear h;obtain ⟨y,q,h⟩:=hh
  cases Vk q
  cases of_decide_eq_true h
  exact ⟨_,fun Z E=>Ra,n8 rfl⟩
 |.ks i,sc,N,e,h=>by
  have hh:=aC h;clear h;obtain ⟨k,q,h⟩:=hh
  obtain ⟨j,p,rfl⟩:=uT q
  have hh:=aC h;clear h;obtain ⟨y,q,h⟩:=hh
  cases Vl q
  cases of_decide_eq_true h
  exact ⟨_,fun Z E=>Rc,n8 rfl⟩
 |.kb i,sc,N,e,h=>by
  have hh:=aC h;clear h;obtain ⟨k,q,h⟩:=hh
  obtain ⟨j,p,rfl⟩:=uT q
  have hh:=aC h;clear h;obtain ⟨y,q,h⟩:=hh
  cases Vm q
  cases of_decide_eq_true h
  exact ⟨_,fun Z E=>Ux,n8 rfl⟩
 |.kn,sc,N,e,h=>by
  have hh:=aC h;clear h;obtain ⟨k,q,h⟩:=hh
  obtain ⟨j,p,rfl⟩:=uT q
  cases Vn h
  exact ⟨_,fun Z E=>Rb,n8 rfl⟩
 |.ty n,sc,N,e,h=>by
  have hh:=aC h;clear h;obtain ⟨x,q,h⟩:=hh
  obtain ⟨p,rfl⟩:=nH q
  obtain ⟨h1,h2,h3,h4⟩:=fJ h
  cases of_decide_eq_true h1
  obtain ⟨q1,q2,q3⟩:=TQ h4
  exact ⟨_,fun Z E=>@OO _ _ (.ty n) _ _ (E.gl h2) (E.mg h3) q1 rfl q2 q3,n8 rfl⟩
 |.bo o a b,sc,N,e,h=>by
  have hh:=aC h;clear h;obtain ⟨⟨l,op,r⟩,q,h⟩:=hh
  obtain ⟨p,rfl⟩:=TB q
  obtain ⟨h1,h2,h3⟩:=gb h
  cases of_decide_eq_true h1
  obtain ⟨ta,pa,ja⟩:=sX a h2
  obtain ⟨tb,pb,jb⟩:=sX b h3
  obtain ⟨r,o1,o2⟩:=o.ok (K:=K)
  exact ⟨_,fun Z E=>UB (o1 Z E.k) (pa Z E) (pb Z E),uJ o2 ja jb⟩
 |.co o a b,sc,N,e,h=>by
  have hh:=aC h;clear h;obtain ⟨⟨l,op,r⟩,q,h⟩:=hh
  obtain ⟨p,rfl⟩:=yz q
  obtain ⟨h1,h0,h2,h3⟩:=fJ h
  cases of_decide_eq_true h1
  obtain ⟨ta,pa,ja⟩:=sX a h2
  obtain ⟨tb,pb,jb⟩:=sX b h3
  obtain ⟨r,o1,o2⟩:=o.ok (K:=K)
  exact ⟨_,fun Z E=>OZ (o1 Z E.k E.rm.units) (pa Z E) (pb Z E) (ug h0),uJ o2 ja jb⟩
 |.uo o a,sc,N,e,h=>by
  have hh:=aC h;clear h;obtain ⟨⟨op,r⟩,q,h⟩:=hh
  obtain ⟨p,rfl⟩:=yy q
  obtain ⟨h1,h2⟩:=cH h
  cases of_decide_eq_true h1
  obtain ⟨ta,pa,ja⟩:=sX a h2
  obtain ⟨r,o1,o2⟩:=o.ok (K:=K)
  exact ⟨_,fun Z E=>UC (o1 Z) (pa Z E),UR o2 ja⟩
 |.an a b,sc,N,e,h=>by
  have hh:=aC h;clear h;obtain ⟨⟨x,y⟩,q,h⟩:=hh
  obtain ⟨m,rest,pos,rfl,w⟩:=uh q
  obtain ⟨h1,h2⟩:=cH h
  obtain ⟨ta,pa,ja⟩:=sX a h1
  obtain ⟨tb,pb,jb⟩:=sX b h2
  refine ⟨_,fun Z E=>@Ri _ _ _ _ tb _ _ (pa Z E) ?_,Ss ja jb⟩
  rcases w with ⟨rfl,rfl⟩|rfl
  ·exact @EF _ _ _ _ _ (pb Z E)
  ·exact pb Z E
 |.or a b,sc,N,e,h=>by
  have hh:=aC h;clear h;obtain ⟨⟨x,y⟩,q,h⟩:=hh
  obtain ⟨m,rest,pos,rfl,w⟩:=uh q
  obtain ⟨h1,h2⟩:=cH h
  obtain ⟨ta,pa,ja⟩:=sX a h1
  obtain ⟨tb,pb,jb⟩:=sX b h2
  refine ⟨_,fun Z E=>@Uz _ _ _ _ tb _ _ (pa Z E) ?_,U0 ja jb⟩
  rcases w with ⟨rfl,rfl⟩|rfl
  ·exact @EF _ _ _ _ _ (pb Z E)
  ·exact pb Z E
 |.nt a,sc,N,e,h=>by
  have hh:=aC h;clear h;obtain ⟨⟨op,r⟩,q,h⟩:=hh
  obtain ⟨p,rfl⟩:=yy q
  obtain ⟨h1,h2⟩:=cH h
  cases of_decide_eq_true h1
  obtain ⟨ta,pa,ja⟩:=sX a h2
  exact ⟨_,fun Z E=>Rj (pa Z E),Sv ja⟩
 |.ie t' a b,sc,N,e,h=>by
  have hh:=aC h;clear h;obtain ⟨⟨x,l,r⟩,q,h⟩:=hh
  obtain ⟨p,rfl⟩:=TH q
  obtain ⟨h1,h2,h3⟩:=gb h
  obtain ⟨tq,pq,jq⟩:=sT t' h1
  obtain ⟨ta,pa,ja⟩:=sX a h2
  obtain ⟨tb,pb,jb⟩:=sX b h3
  exact ⟨_,fun Z E=>M8 (pq Z E) (pa Z E) (pb Z E),Sx jq ja jb⟩
 |.tu l,sc,N,e,h=>by
  have hh:=aC h;clear h;obtain ⟨es,q,h⟩:=hh
  obtain ⟨k,p,rfl⟩:=yA q
  obtain ⟨ta,pa,ja⟩:=sA l h
  exact ⟨_,fun Z E=>RJ (pa Z E),Sz ja⟩
 |.li l,sc,N,e,h=>by
  have hh:=aC h;clear h;obtain ⟨es,q,h⟩:=hh
  obtain ⟨p,rfl⟩:=TJ q
  obtain ⟨ta,pa,ja⟩:=sA l h
  exact ⟨_,fun Z E=>yl (pa Z E),Sy ja⟩
 |.dK,sc,N,e,h=>by
  have hh:=aC h;clear h;obtain ⟨⟨ks,vs⟩,q,h⟩:=hh
  obtain ⟨p,rfl⟩:=yB q
  obtain ⟨h1,h2⟩:=cH h
  cases List.isEmpty_iff.mp h1
  cases List.isEmpty_iff.mp h2
  exact ⟨_,fun _ _=>Nn,N5⟩
 |.d1 a b,sc,N,e,h=>by
  have hh:=aC h;clear h;obtain ⟨⟨ks,vs⟩,q,h⟩:=hh
  obtain ⟨p,rfl⟩:=yB q
  have hh:=aC h;clear h;obtain ⟨k,q1,h⟩:=hh
  cases iY q1
  have hh:=aC h;clear h;obtain ⟨k',rfl,h⟩:=hh
  have hh:=aC h;clear h;obtain ⟨v,q2,h⟩:=hh
  cases iY q2
  obtain ⟨h1,h2⟩:=cH h
  obtain ⟨ta,pa,ja⟩:=sX a h1
  obtain ⟨tb,pb,jb⟩:=sX b h2
  exact ⟨_,fun Z E=>Pm (Nq (pa Z E) (pb Z E) Pl) rfl rfl (List.cons_ne_nil _ _) (by show 1≤15;decide),Qq ja jb⟩
 |.ix a b,sc,N,e,h=>by
  have hh:=aC h;clear h;obtain ⟨⟨l,r⟩,q,h⟩:=hh
  obtain ⟨p,rfl⟩:=ko q
  obtain ⟨h1,h2,h3⟩:=gb h
  obtain ⟨ta,pa,ja⟩:=sX a h2
  obtain ⟨tb,pb,jb⟩:=sX b h3
  exact ⟨_,fun Z E=>FY (D1 E.k) (pa Z E) (pb Z E) (Gi h1),uJ UZ ja jb⟩
 |.dg a b,sc,N,e,h=>by
  have hh:=aC h;clear h;obtain ⟨⟨l,r⟩,q,h⟩:=hh
  obtain ⟨p,rfl⟩:=ko q
  obtain ⟨h1,h2,h3⟩:=gb h
  obtain ⟨ta,pa,ja⟩:=sX a h2
  obtain ⟨tb,pb,jb⟩:=sX b h3
  exact ⟨_,fun Z E=>Pj (nM E.rm) (pa Z E) (pb Z E) (QG h1),Qo ja jb⟩
 |.sl a lo hi,sc,N,e,h=>by
  have hh:=aC h;clear h;obtain ⟨⟨l,r⟩,q,h⟩:=hh
  obtain ⟨p,rfl⟩:=ko q
  have hh:=aC h;clear h;obtain ⟨⟨lo',rN⟩,q,h⟩:=hh
  obtain ⟨p',rfl⟩:=TK q
  obtain ⟨h1,h2,h3⟩:=gb h
  obtain ⟨ta,pa,ja⟩:=sX a h1
  obtain ⟨tl,pl,jl⟩:=sP lo h2
  obtain ⟨tu,pu,ju⟩:=sP hi h3
  exact ⟨_,fun Z E=>Nj (WR E.k) (pa Z E) (pl Z E) (pu Z E),U2 U4 ja jl ju⟩
 |.dT,sc,N,e,h=>by
  have hh:=aC h;clear h;obtain ⟨⟨ks,vs⟩,q,h⟩:=hh
  obtain ⟨p,rfl⟩:=yB q
  obtain ⟨h1,h2⟩:=cH h
  cases List.isEmpty_iff.mp h1
  cases List.isEmpty_iff.mp h2
  exact ⟨_,fun _ _=>Np,Qx⟩
 |.vX d k x,sc,N,e,h=>by
  have hh:=aC h;clear h;obtain ⟨⟨o,as⟩,q,h⟩:=hh
  obtain ⟨ap,cp,rfl,h2,h3,h4⟩:=lO q
  have hh:=aC h;clear h;obtain ⟨a,q1,h⟩:=hh
  cases yZ q1
  obtain ⟨h4,ke⟩:=all1 h4
  have ke:=(all1 ke).1
  obtain ⟨h5,h6,h7⟩:=gb h
  obtain ⟨td,pd,jd⟩:=sX d h5
  obtain ⟨tk,pk,jk⟩:=sX k h6
  obtain ⟨tx,px,jx⟩:=sX x h7
  exact ⟨_,fun Z E=>Oa (nM E.rm) (pd Z E) (pk Z E) (px Z E) ⟨qi h2,by rw [cF h4,cF ke];rfl,h3,by rw [cF h4,cF ke];rfl⟩,Ob jd jk jx⟩
 |.rs a p,sc,N,e,h=>by
  have hh:=aC h;clear h;obtain ⟨⟨l,r⟩,q,h⟩:=hh
  obtain ⟨pp,rfl⟩:=ko q
  have hh:=aC h;clear h;obtain ⟨s,q,h⟩:=hh
  obtain ⟨p',rfl⟩:=TL q
  obtain ⟨h1,h2⟩:=cH h
  obtain ⟨ta,pa,ja⟩:=sX a h1
  obtain ⟨tl,pl,jl⟩:=sP p h2
  exact ⟨_,fun Z E=>QC E.k (pa Z E) (pl Z E),QD ja jl⟩
 |.lr l,sc,N,e,h=>by
  have hh:=aC h;clear h;obtain ⟨⟨x,as⟩,q,h⟩:=hh
  obtain ⟨p,cp,rfl,h4⟩:=kx q
  have hh:=aC h;clear h;obtain ⟨r,q1,h⟩:=hh
  cases iY q1
  have hh:=aC h;clear h;obtain ⟨⟨y,bs⟩,q,h⟩:=hh
  obtain ⟨p',cp',rfl,h5⟩:=kx q
  obtain ⟨g1,g2,g3,g4,g5,g6⟩:=v8 h
  obtain ⟨g7,g8,g9⟩:=gb g6
  cases of_decide_eq_true g1
  cases of_decide_eq_true g4
  obtain ⟨a,rfl⟩:=zK (of_decide_eq_true g8)
  obtain ⟨ta,pa,ja⟩:=sA l g9
  exact ⟨_,fun Z E=>@Vh _ _ _ _ _ _ _ E.calm (E.gl g2) (E.mg g3) (E.gl g5) (E.mg g7) (pa Z E) (cF (all1 h5).1),Vi ja⟩
 |.fb f l,sc,N,e,h=>by
  have hh:=aC h;clear h;obtain ⟨⟨x,as⟩,q,h⟩:=hh
  obtain ⟨p,cp,rfl,h4⟩:=kx q
  obtain ⟨h1,h2,h3,h0,h6⟩:=oU h
  cases of_decide_eq_true h1
  obtain ⟨a,r,rfl⟩:=x4 h0
  obtain ⟨h4,h5⟩:=all1 h4
  obtain ⟨ta,pa,ja⟩:=sA l h6
  obtain ⟨r,q1,q2⟩:=Fb.ok (c:=c) (lv:=lv) (t:=t) (va:=va) (K:=K) f
  exact ⟨_,fun Z E=>q1 Z E h2 h3 h4 h5 (pa Z E),U1 q2 ja⟩
 |.ca f l,sc,N,e,h=>by
  have hh:=aC h;clear h;obtain ⟨⟨x,as⟩,q,h⟩:=hh
  obtain ⟨p,cp,rfl,AW⟩:=kx q
  have hh:=aC h;clear h;obtain ⟨i,hf,h⟩:=hh
  obtain ⟨h1,h2,h3,h4,h5,AX,h0,h8⟩:=Jw h
  obtain ⟨a,r,rfl⟩:=x4 h0
  obtain ⟨h6,h7⟩:=all1 AW
  have h1:=of_decide_eq_true h1
  obtain ⟨ta,pa,ja⟩:=sA l h8
  have hl:=zJ (t:=t) h8
  rw [show (a::r).length=i.ar from of_decide_eq_true h5] at hl
  refine ⟨qo (mG K i.ar (FT.f t[f]?)) [] E0 ta,fun Z E=>?_,PQ ja hl⟩
  obtain ⟨F,hF,q⟩:=E.fs f i hf
  cases F with
  |oo F=>rw [mQ,of_decide_eq_true AX] at q;cases q.1
  |p F =>
   obtain ⟨_,a,fd,ps,k1,k2,k3,k4⟩:=q
   rw [←h1] at k2
   rw [hF,←E.k]
   exact @DQ _ _ _ _ _ _ _ _ _ _ _ _ _ _ _ _ k1 (E.rm.mono (of_decide_eq_true h4)) (E.gl h2) k2 k3 k4 .nil F4 (pa Z E) (nb h3) (cF h6) (iP h7 _)
 |.cp i ix t' d,sc,N,e,h=>by
  have hh:=aC h;clear h;obtain ⟨⟨el,x,px,it,ifs,aB,ep⟩,q,h⟩:=hh
  cases xZ q
  obtain ⟨h1,h2,h3,h4,h5⟩:=oU h
  have h1:=yx h1
  obtain ⟨ti,pi,ji⟩:=sI i h3
  obtain ⟨te,pe,je⟩:=sX d h5
  have h4:(ifs.isEmpty=true∧AV t'=true)∨(on (l1 ifs) fun y=>kT c lv t' (rl sc aB) (ns N x ix) y)=true:=by simpa using h4
  rcases h4 with ⟨w1,w2⟩|h4
  ·cases List.isEmpty_iff.mp w1
   cases t'<;>first|exact absurd w2 Bool.false_ne_true|skip
   exact ⟨_,fun Z E=>@ub _ (ns N x ix) _ _ ix _ _ _ _ _ _ _ _ (by rw [E.n,E.sc];exact h1) E.calm (pi Z (.Name x px) E (fun z=>absurd z Bool.false_ne_true)) (fun C s₂ H₂ fp pn=>ua) (fun C s₂ H₂ fp pn=>pe _ E.cw) (kh h2),ud ji D7 je⟩
  ·have hh:=aC h4;clear h4;obtain ⟨y,q,h4⟩:=hh
   cases iY q
   obtain ⟨tq,pq,jq⟩:=sT t' h4
   exact ⟨_,fun Z E=>@ub _ (ns N x ix) _ _ ix _ _ _ _ _ _ _ _ (by rw [E.n,E.sc];exact h1) E.calm (pi Z (.Name x px) E (fun z=>absurd z Bool.false_ne_true)) (fun C s₂ H₂ fp pn=>DY (pq _ E.cw)) (fun C s₂ H₂ fp pn=>pe _ E.cw) (kh h2),ud ji jq je⟩
theorem sA:∀ (l:A) {sc:Scope}{N:List Str}{es:List Expr},kA c lv l sc N es=true→∃ ta,(∀ Z,CE c lv K t va sc N Z→PA Z es ta)∧hR K ta (eA t l)
 |.n,_,_,es,h=>by
  cases List.isEmpty_iff.mp h
  exact ⟨_,fun _ _=>qc,Pt⟩
 |.c a l,sc,N,es,h=>by
  have hh:=aC h;clear h;obtain ⟨⟨e,r⟩,q,h⟩:=hh
  cases lE q
  obtain ⟨h0,h1,h2⟩:=gb h
  obtain ⟨ta,pa,ja⟩:=sX a h1
  obtain ⟨tl,pl,jl⟩:=sA l h2
  exact ⟨_,fun Z E=>@tX _ _ _ _ _ (pa Z E) (pl Z E) (cF h0),Nx ja jl⟩
theorem sT:∀ (q:T) {sc:Scope}{N:List Str}{e:Expr},kT c lv q sc N e=true→∃ tt,(∀ Z,CE c lv K t va sc N Z→PT Z e tt)∧eJ K tt (eT t q)
 |.b x,sc,N,e,h=>by
  obtain ⟨h1,h2⟩:=cH h
  obtain ⟨ta,pa,ja⟩:=sX x h2
  exact ⟨_,fun Z E=>@Mx _ K _ _ E.k (pa Z E) (Tz h1),Mz ja⟩
 |.c o a b,sc,N,e,h=>by
  have hh:=aC h;clear h;obtain ⟨⟨l,op,r⟩,q,h⟩:=hh
  obtain ⟨p,rfl⟩:=yz q
  obtain ⟨h1,h0,h2,h3⟩:=fJ h
  cases of_decide_eq_true h1
  obtain ⟨ta,pa,ja⟩:=sX a h2
  obtain ⟨tb,pb,jb⟩:=sX b h3
  obtain ⟨r,o1,o2⟩:=o.ok (K:=K)
  exact ⟨_,fun Z E=>O4 (o1 Z E.k E.rm.units) (pa Z E) (pb Z E) (ug h0),C6 (uJ o2 ja jb)⟩
 |.d n a b,sc,N,e,h=>by
  have hh:=aC h;clear h;obtain ⟨⟨l,op,r⟩,q,h⟩:=hh
  obtain ⟨p,rfl⟩:=yz q
  obtain ⟨h1,h0,h2,h3⟩:=fJ h
  cases of_decide_eq_true h1
  obtain ⟨ta,pa,ja⟩:=sX a h2
  obtain ⟨tb,pb,jb⟩:=sX b h3
  cases n with
  |false=>exact ⟨_,fun Z E=>@EE _ _ _ _ _ _ (R0 (nM E.rm) (pa Z E) (pb Z E)) (ug h0),yS (Tp ja jb)⟩
  |true=>exact ⟨_,fun Z E=>@EE _ _ _ _ _ _ (Mq (nM E.rm) (pa Z E) (pb Z E)) (ug h0),yS (MH ja jb)⟩
 |.h o p a b d,sc,N,e,h=>by
  have hh:=aC h;clear h;obtain ⟨⟨l,op,op',m,r⟩,q,h⟩:=hh
  obtain ⟨p',rfl⟩:=TC q
  obtain ⟨h1,h2,h3,h4,h5,h6⟩:=v8 h
  cases of_decide_eq_true h1
  cases of_decide_eq_true h2
  obtain ⟨ta,pa,ja⟩:=sX a h4
  obtain ⟨tb,pb,jb⟩:=sX b h5
  obtain ⟨td,pd,jd⟩:=sX d h6
  obtain ⟨r,o1,o2⟩:=o.ok (K:=K)
  obtain ⟨r',Ys,Yt⟩:=p.ok (K:=K)
  exact ⟨_,fun Z E=>@Nf _ _ _ _ _ _ _ _ _ _ _ _ (o1 Z E.k E.rm.units) (Ys Z E.k E.rm.units) (pa Z E) (pb Z E) (pd Z E) (nb h3),C6 (NV o2 Yt ja jb jd)⟩
 |.an a b,sc,N,e,h=>by
  have hh:=aC h;clear h;obtain ⟨⟨x,y⟩,q,h⟩:=hh
  obtain ⟨m,rest,pos,rfl,w⟩:=uh q
  obtain ⟨h1,h2⟩:=cH h
  obtain ⟨ta,pa,ja⟩:=sT a h1
  obtain ⟨tb,pb,jb⟩:=sT b h2
  refine ⟨_,fun Z E=>@PW.pt _ _ _ (@Rg _ _ _ _ _ tb _ (pa Z E) ?_),Pq ja jb⟩
  rcases w with ⟨rfl,rfl⟩|rfl
  ·exact @OQ _ _ _ _ (pb Z E)
  ·exact Gj (pb Z E)
 |.or a b,sc,N,e,h=>by
  have hh:=aC h;clear h;obtain ⟨⟨x,y⟩,q,h⟩:=hh
  obtain ⟨m,rest,pos,rfl,w⟩:=uh q
  obtain ⟨h1,h2⟩:=cH h
  obtain ⟨ta,pa,ja⟩:=sT a h1
  obtain ⟨tb,pb,jb⟩:=sT b h2
  refine ⟨_,fun Z E=>@PW.pt _ _ _ (@Uy _ _ _ _ _ tb _ (pa Z E) ?_),Sw ja jb⟩
  rcases w with ⟨rfl,rfl⟩|rfl
  ·exact @Rf _ _ _ _ (pb Z E)
  ·exact Gj (pb Z E)
 |.nt a,sc,N,e,h=>by
  have hh:=aC h;clear h;obtain ⟨⟨op,r⟩,q,h⟩:=hh
  obtain ⟨p,rfl⟩:=yy q
  obtain ⟨h1,h2⟩:=cH h
  cases of_decide_eq_true h1
  obtain ⟨ta,pa,ja⟩:=sT a h2
  exact ⟨_,fun Z E=>Rh (pa Z E),Pr ja⟩
 |.y,sc,N,e,h=>absurd h Bool.false_ne_true
theorem sP:∀ (l:P) {sc:Scope}{N:List Str}{e:Option Expr},kP c lv l sc N e=true→∃ ta,(∀ Z,CE c lv K t va sc N Z→PO Z e ta)∧oM K ta (eP t l)
 |.n,_,_,o,h=>by
  cases o with
  |some _=>cases h
  |none=>exact ⟨_,fun _ _=>O7,Nz⟩
 |.s x,sc,N,o,h=>by
  have hh:=aC h;clear h;obtain ⟨e,rfl,h⟩:=hh
  obtain ⟨ta,pa,ja⟩:=sX x h
  exact ⟨_,fun Z E=>O8 (pa Z E),NB ja⟩
theorem sI:∀ (i:I) {tg:Bool}{sc:Scope}{N:List Str}{e:Expr},kI c lv i tg sc N e=true→∃ ti,(∀ Z g,CE c lv K t va sc N Z→(tg=true→yX g=true)→PI Z g e ti)∧JI K ti (eI t i)
 |.r1 l,tg,sc,N,e,h=>by
  have hh:=aC h;clear h;obtain ⟨⟨x,as⟩,q,h⟩:=hh
  obtain ⟨p,cp,rfl,h4⟩:=kx q
  obtain ⟨h1,h2,h3,h0,h5⟩:=oU h
  cases of_decide_eq_true h1
  obtain ⟨a,rfl⟩:=zK (of_decide_eq_true h0)
  obtain ⟨ta,pa,ja⟩:=sA l h5
  exact ⟨_,fun Z g E _=>@Md _ _ _ _ _ _ (E.gl h2) (E.mg h3) (pa Z E) (cF (all1 h4).1),PH ja⟩
 |.r2 l,tg,sc,N,e,h=>by
  have hh:=aC h;clear h;obtain ⟨⟨x,as⟩,q,h⟩:=hh
  obtain ⟨p,cp,rfl,h4⟩:=kx q
  obtain ⟨h1,h2,h3,h0,h5⟩:=oU h
  cases of_decide_eq_true h1
  obtain ⟨a,b,rfl⟩:=W4 (of_decide_eq_true h0)
  obtain ⟨h4,ke⟩:=all1 h4
  have ke:=(all1 ke).1
  obtain ⟨ta,pa,ja⟩:=sA l h5
  exact ⟨_,fun Z g E _=>@Mf _ _ _ _ _ _ _ (E.gl h2) (E.mg h3) (pa Z E) (by rw [cF h4,cF ke];rfl) (cF ke),PJ ja⟩
 |.en l,tg,sc,N,e,h=>by
  have hh:=aC h;clear h;obtain ⟨⟨x,as⟩,q,h⟩:=hh
  obtain ⟨p,cp,rfl,h4⟩:=kx q
  obtain ⟨h0,h1,h2,h3,h6,h5⟩:=v8 h
  cases of_decide_eq_true h1
  obtain ⟨a,rfl⟩:=zK (of_decide_eq_true h6)
  obtain ⟨ta,pa,ja⟩:=sA l h5
  refine ⟨_,fun Z g E hg=>?_,Qf ja⟩
  have hg:=hg h0
  cases g<;>first|exact absurd hg Bool.false_ne_true|skip
  exact @N1 _ K _ _ _ _ _ _ _ E.k (E.gl h2) (E.mg h3) (pa Z E) (cF (all1 h4).1)
 |.s x,tg,sc,N,e,h=>by
  obtain ⟨ta,pa,ja⟩:=sX x (e:=e) h
  exact ⟨_,fun Z g E _=>Sd (pa Z E),Tj ja⟩
 |.t x,tg,sc,N,e,h=>by
  obtain ⟨ta,pa,ja⟩:=sX x (e:=e) h
  exact ⟨_,fun Z g E _=>Qj E.k (pa Z E),SQ ja⟩
 |.l x,tg,sc,N,e,h=>by
  obtain ⟨ta,pa,ja⟩:=sX x (e:=e) h
  exact ⟨_,fun Z g E _=>Nu E.k (pa Z E),PF ja⟩
end
end
noncomputable def loc (sc:Scope) (x:Str):Bool:=match sc.names.lookup x with
 |some .local=>true
 |some .cell=>true
 |_=>false
theorem Fp {sc:Scope}{x:Str} (h:loc sc x=true):L2.Loc sc x:=by
 unfold loc at h;unfold L2.Loc
 split at h<;>first|exact absurd h Bool.false_ne_true|simp_all
mutual
noncomputable def kG:G→Scope→List Str→Expr→Bool
 |.n i,sc,N,e=>on (oS e) fun x=>decide (N[i]?=some x)&&loc sc x
 |.t k l,sc,N,e=>on (v5 e) fun es=>decide (es.length=k)&&es.all dD&&v9 l sc N es
 |.l k l,sc,N,e=>on (v5 e) fun es=>decide (es.length=k)&&es.all dD&&v9 l sc N es
noncomputable def v9:Gs→Scope→List Str→List Expr→Bool
 |.n,_,_,es=>es.isEmpty
 |.c g l,sc,N,es=>on (oT es) fun q=>dD q.1&&kG g sc N q.1&&v9 l sc N q.2
end
noncomputable def zL:Expr→Bool
 |.List [] _=>true
 |_=>false
theorem QH {e:Expr} (h:zL e=true):∃ p,e=.List [] p:=by
 unfold zL at h
 split at h
 ·exact ⟨_,rfl⟩
 ·cases h
noncomputable def mR:Stmt→Option (Expr×Expr×Pos)
 |.Assign [tg] e pos=>some (tg,e,pos)
 |_=>none
noncomputable def rP (st:Stmt):Option (Str×Expr):=(mR st).bind fun q=>(oS q.1).map fun x=>(x,q.2.1)
noncomputable def rQ:Stmt→Option Expr
 |.Expr e _=>some e
 |_=>none
noncomputable def AY:Stmt→Option (Option Expr)
 |.Return e _=>some e
 |_=>none
noncomputable def Jx:Stmt→Option (Expr×List Stmt×List Stmt)
 |.If e a b _=>some (e,a,b)
 |_=>none
noncomputable def wa:Stmt→Option (Expr×Expr×List Stmt)
 |.For tg it b [] _=>some (tg,it,b)
 |_=>none
noncomputable def AZ:Stmt→Option (Expr×List Stmt)
 |.While e b [] _=>some (e,b)
 |_=>none
noncomputable def rR:Stmt→Nat
 |.Raise ..=>1
 |.Pass _=>2
 |.Break _=>3
 |.Continue _=>4
 |_=>0
theorem qj {st:Stmt}{q:Expr×Expr×Pos} (h:mR st=some q):st=.Assign [q.1] q.2.1 q.2.2:=by
 unfold mR at h
 split at h
 ·cases h;rfl
 ·cases h
theorem uA {st:Stmt}{y:Str}{e:Expr} (h:rP st=some (y,e)):∃ p pos,st=.Assign [.Name y p] e pos:=by
 obtain ⟨q,h1,h⟩:=ip h
 obtain ⟨x,h2,h⟩:=uz h
 cases h
 obtain ⟨p,e⟩:=nH h2
 exact ⟨p,q.2.2,by rw [qj h1,e]⟩
theorem uB {st:Stmt}{e:Expr} (h:rQ st=some e):∃ p,st=.Expr e p:=by
 cases st<;>cases h;exact ⟨_,rfl⟩
theorem Fq {st:Stmt}{e:Option Expr} (h:AY st=some e):∃ p,st=.Return e p:=by
 cases st<;>cases h;exact ⟨_,rfl⟩
theorem TX {st:Stmt}{e:Expr}{a b:List Stmt} (h:Jx st=some (e,a,b)):∃ p,st=.If e a b p:=by
 cases st<;>cases h;exact ⟨_,rfl⟩
theorem Fs {st:Stmt}{a b:Expr}{l:List Stmt} (h:wa st=some (a,b,l)):∃ p,st=.For a b l [] p:=by
 unfold wa at h
 split at h
 ·cases h;exact ⟨_,rfl⟩
 ·cases h
theorem TY {st:Stmt}{e:Expr}{l:List Stmt} (h:AZ st=some (e,l)):∃ p,st=.While e l [] p:=by
 unfold AZ at h
 split at h
 ·cases h;exact ⟨_,rfl⟩
 ·cases h
theorem T4 {st:Stmt}:(rR st=2→∃ p,st=.Pass p)∧(rR st=3→∃ p,st=.Break p)∧(rR st=4→∃ p,st=.Continue p):=by
 unfold rR
 split
 ·exact ⟨nofun,nofun,nofun⟩
 ·exact ⟨fun _=>⟨_,rfl⟩,nofun,nofun⟩
 ·exact ⟨nofun,fun _=>⟨_,rfl⟩,nofun⟩
 ·exact ⟨nofun,nofun,fun _=>⟨_,rfl⟩⟩
 ·exact ⟨nofun,nofun,nofun⟩
noncomputable def Jy (c:Cf) (lv:Nat) (f:Nat) (l:A) (sc:Scope) (N:List Str) (e:Expr):Bool :=
 on (eN e) fun q=>on c.fs[f]? fun i=>decide (q.1=i.nm)&&gl sc q.1&&!(q.1 == "__debug__")&&decide (i.lv≤lv)&&decide (q.2.length=i.ar)&&decide (i.io=some [])&&!q.2.isEmpty&&kA c lv l sc N q.2
noncomputable def kL (c:Cf) (lv:Nat):L→Scope→List Str→Stmt→Bool
 |.rt x,sc,N,st=>on (AY st) fun o=>on o fun e=>kX c lv x sc N e
 |.ct,_,_,st=>decide (rR st=4)
 |.st i x,sc,N,st=>on (rP st) fun s=>decide (N[i]?=some s.1)&&loc sc s.1&&lN s.2&&kX c lv x sc N s.2
 |.sc j i ix q e,sc,N,st=>on (rP st) fun s=>decide (N[j]?=some s.1)&&loc sc s.1&&kX c lv (.cp i ix q e) sc N s.2
 |.as g x,sc,N,st=>on (mR st) fun s=>yX s.1&&rL s.2.1&&kG g sc N s.1&&kX c lv x sc N s.2.1
 |.si k i x,sc,N,st=>on (mR st) fun s=>on (kc s.1) fun u=>mP u.2&&lN s.2.1&&kX c lv (.v k) sc N u.1&&kX c lv i sc N u.2&&kX c lv x sc N s.2.1
 |.dp k i x,sc,N,st=>on (mR st) fun s=>on (kc s.1) fun u=>lN s.2.1&&kX c lv (.v k) sc N u.1&&kX c lv i sc N u.2&&kX c lv x sc N s.2.1
 |.ap k x,sc,N,st=>on (rQ st) fun e=>on (eM "append" e) fun q=>on (l1 q.2) fun a=>kX c lv (.v k) sc N q.1&&kX c lv x sc N a
 |.na k i x,sc,N,st=>on (rQ st) fun e=>on (eM "append" e) fun q=>on (l1 q.2) fun a=>on (kc q.1) fun u=>mP u.2&&kX c lv (.v k) sc N u.1&&kX c lv i sc N u.2&&kX c lv x sc N a
 |.po i k,sc,N,st=>on (rP st) fun s=>on (eM "pop" s.2) fun q=>decide (N[i]?=some s.1)&&loc sc s.1&&q.2.isEmpty&&kX c lv (.v k) sc N q.1
 |.cl k,sc,N,st=>on (rQ st) fun e=>on (eM "clear" e) fun q=>q.2.isEmpty&&kX c lv (.v k) sc N q.1
 |.ne i it,sc,N,st=>on (rP st) fun s=>on (vo s.2) fun q=>decide (N[i]?=some s.1)&&loc sc s.1&&q.2.2.2.2.1.isEmpty&&zL q.1&&AK N (ns N q.2.1 []) sc q.2.2.2.2.2.1 q.2.1 []&&(jS q.2.2.2.1&&kI c lv it false sc N q.2.2.2.1)
 |.tp k i x,sc,N,st=>on (mR st) fun s=>on (kc s.1) fun u=>lN s.2.1&&kX c lv (.v k) sc N u.1&&kX c lv i sc N u.2&&kX c lv x sc N s.2.1
 |.tc k,sc,N,st=>on (rQ st) fun e=>on (eM "clear" e) fun q=>q.2.isEmpty&&kX c lv (.v k) sc N q.1
 |.rO f _ l,sc,N,st=>on (AY st) fun o=>on o fun e=>Jy c lv f l sc N e
mutual
noncomputable def kS (c:Cf) (lv:Nat):S→Scope→List Str→Stmt→Bool
 |.l x,sc,N,st=>kL c lv x sc N st
 |.ie t a b,sc,N,st=>on (Jx st) fun q=>kT c lv t sc N q.1&&kB c lv a sc N q.2.1&&kB c lv b sc N q.2.2
 |.fo i g b,sc,N,st=>on (wa st) fun q=>kI c lv i (yX q.1) sc N q.2.1&&jS q.2.1&&kG g sc N q.1&&kB c lv b sc N q.2.2
 |.fv k g b,sc,N,st=>on (wa st) fun q=>on (eM "values" q.2.1) fun u=>u.2.isEmpty&&kX c lv (.v k) sc N u.1&&kG g sc N q.1&&kB c lv b sc N q.2.2
 |.wh t b,sc,N,st=>on (AZ st) fun q=>kT c lv t sc N q.1&&kB c lv b sc N q.2
 |.fz _ s,sc,N,st=>kS c lv s sc N st
noncomputable def kB (c:Cf) (lv:Nat):B→Scope→List Str→List Stmt→Bool
 |.n,_,_,ss=>ss.isEmpty
 |.o s,sc,N,ss=>on (l1 ss) fun st=>kS c lv s sc N st
 |.c s b,sc,N,ss=>on (oT ss) fun q=>kS c lv s sc N q.1&&kB c lv b sc N q.2
end
structure CS (c:Cf) (lv:Nat) (K:PySem.W.Frag) (t:List FT) (va:List V) (sc:Scope) (N:List Str) (Z:Cx):Prop where
 e:CE c lv K t va sc N Z
 nd:N.Nodup
 fn:∀ x,Z.fn x=true
 po:PassesOwn (model Z.prog Z.w) Z.A Z.env Z.xe
 kd:sc.kind=.function
section
variable {c:Cf}{lv:Nat}{K:PySem.W.Frag}{t:List FT}{va:List V}
theorem sV {k:Nat}{sc:Scope}{N:List Str}{e:Expr} (h:kX c lv (.v k) sc N e=true) (Z:Cx) (E:CE c lv K t va sc N Z):PE Z e (fQ k):=by
 have hh:=aC h;clear h;obtain ⟨x,q,h⟩:=hh
 obtain ⟨p,rfl⟩:=nH q
 obtain ⟨h1,h2,h3,h4⟩:=fJ h
 have h1:=of_decide_eq_true h1
 have h2:=Fm h2
 exact @ED _ _ _ _ (E.n▸h1) (E.sc▸h2) (nb h3) (nb h4)
theorem CJ {e:Expr} (h:dD e=true) {es:List Expr}{env:Env}:assignEach (e::es) env=(false,assign e env)::assignEach es env:=by
 cases e<;>first|rfl|cases h
theorem pI {env:Env}:∀ {es:List Expr},es.all dD=true→(assignEach es env).length=es.length∧(assignEach es env).findIdx? (fun x=>x.1)=none
 |[],_=>⟨rfl,rfl⟩
 |e::es,h=>by
  rw [List.all_cons,Bool.and_eq_true] at h
  obtain ⟨h1,h2⟩:=pI (env:=env) h.2
  rw [CJ h.1]
  refine ⟨by simp [h1],?_⟩
  rw [List.findIdx?_cons,h2]
  rfl
mutual
theorem sG:∀ (g:G) {sc:Scope}{N:List Str}{e:Expr},kG g sc N e=true→∃ tg,(∀ Z,CS c lv K t va sc N Z→PG Z e tg)∧JG K tg (eG g)
 |.n i,sc,N,e,h=>by
  have hh:=aC h;clear h;obtain ⟨x,q,h⟩:=hh
  obtain ⟨p,rfl⟩:=nH q
  obtain ⟨h1,h2⟩:=cH h
  have h1:=of_decide_eq_true h1
  exact ⟨_,fun Z E=>@DL _ _ i _ (E.e.n▸E.nd) (E.e.n▸h1) (E.e.sc▸Fp h2) (.inl (E.fn _)),PK⟩
 |.t k l,sc,N,e,h=>by
  have hh:=aC h;clear h;obtain ⟨es,q,h⟩:=hh
  obtain ⟨k',p,rfl⟩:=yA q
  obtain ⟨h1,h2,h3⟩:=gb h
  cases of_decide_eq_true h1
  obtain ⟨tg,pg,jg⟩:=A4 l h3
  exact ⟨_,fun Z E=>E.e.k▸@Rl _ _ _ _ _ _ E.e.calm (pg Z E) (pI h2).1 (pI h2).2,SR jg⟩
 |.l k l,sc,N,e,h=>by
  have hh:=aC h;clear h;obtain ⟨es,q,h⟩:=hh
  obtain ⟨k',p,rfl⟩:=yA q
  obtain ⟨h1,h2,h3⟩:=gb h
  cases of_decide_eq_true h1
  obtain ⟨tg,pg,jg⟩:=A4 l h3
  exact ⟨_,fun Z E=>E.e.k▸@R8 _ _ _ _ _ _ E.e.calm (pg Z E) (pI h2).1 (pI h2).2,Tf jg⟩
theorem A4:∀ (l:Gs) {sc:Scope}{N:List Str}{es:List Expr},v9 l sc N es=true→∃ tg,(∀ Z,CS c lv K t va sc N Z→oB Z es tg)∧oN K tg (vY l)
 |.n,_,_,es,h=>by
  cases List.isEmpty_iff.mp h
  exact ⟨_,fun _ _=>OW,PL⟩
 |.c g l,sc,N,es,h=>by
  have hh:=aC h;clear h;obtain ⟨⟨e,r⟩,q,h⟩:=hh
  cases lE q
  obtain ⟨h0,h1,h2⟩:=gb h
  obtain ⟨ta,pa,ja⟩:=sG g h1
  obtain ⟨tl,pl,jl⟩:=A4 l h2
  exact ⟨_,fun Z E=>@Nb _ _ _ _ _ (pa Z E) (pl Z E) (by rw [CJ h0];rfl),NQ ja jl⟩
end
theorem Jz:∀ (l:A) {sc:Scope}{N:List Str}{es:List Expr},kA c lv l sc N es=true→∃ ta,(∀ Z,CE c lv K t va sc N Z→PA Z es ta)∧k8 K ta (eA t l) (qL l)
 |.n,_,_,es,h=>by
  cases List.isEmpty_iff.mp h
  exact ⟨_,fun _ _=>qc,Qg⟩
 |.c a l,sc,N,es,h=>by
  have hh:=aC h;clear h;obtain ⟨⟨e,r⟩,q,h⟩:=hh
  cases lE q
  obtain ⟨h0,h1,h2⟩:=gb h
  obtain ⟨tl,pl,jl⟩:=Jz l h2
  cases a with
  |v i=>exact ⟨_,fun Z E=>@tX _ _ _ _ _ (sV h1 Z E) (pl Z E) (cF h0),Qh jl⟩
  |_ =>
   obtain ⟨ta,pa,ja⟩:=sX _ h1
   exact ⟨_,fun Z E=>@tX _ _ _ _ _ (pa Z E) (pl Z E) (cF h0),N2 ja jl⟩
theorem qy {e:Expr}{o:Option Expr}{n:Nat}{env:Env} (h:lN e=true):swapsWith e o n env=pure false:=by
 cases e<;>first|rfl|cases h
end
end C
set_option maxHeartbeats 4000000
namespace C
open PySem PySem.Spec L2 J
section
variable {c:Cf}{lv:Nat}{K:PySem.W.Frag}{t:List FT}{va:List V}
theorem Ef {el:Expr}{gs:List Comprehension}{aB:Scope}{ep py:Pos}{y:Str}{n:Nat}{env:Env} :
  swapsWith (.ListComp el gs aB ep) (some (.Name y py)) n env=pure true∧env.scope.names.lookup y=some .local∨swapsWith (.ListComp el gs aB ep) (some (.Name y py)) n env=pure false:=by
 have e:swapsWith (.ListComp el gs aB ep) (some (.Name y py)) n env=pure (env.blockKind==.function&&env.kindOf y==some .local&&py.line==ep.line&&!(aB.names.any fun x=>match x with | (n,k)=>n==y&&(k==NameKind.local||k==NameKind.cell))):=rfl
 rw [e]
 generalize hb:(env.blockKind==.function&&env.kindOf y==some .local&&py.line==ep.line&&!(aB.names.any fun x=>match x with | (n,k)=>n==y&&(k==NameKind.local||k==NameKind.cell)))=b
 cases b with
 |false=>exact .inr rfl
 |true =>
  obtain ⟨_,h,_,_⟩:=fJ hb
  exact .inl ⟨rfl,by simpa [Env.kindOf] using h⟩
theorem Yu {i:I}{ix:List Nat}{t':T}{d:X}{sc:Scope}{N:List Str}{e:Expr} (h:kX c lv (.cp i ix t' d) sc N e=true) :
  ∃ el x px it ifs aB ep wi tc te,e=.ListComp el [⟨.Name x px,it,ifs,0⟩] aB ep∧(∀ Z,CE c lv K t va sc N Z→lC Z.N (ns N x ix) Z.env.scope aB x ix∧PI Z (.Name x px) it wi∧(∀ C s₂ H₂ fp pn,mC (Z.cw (ns N x ix) aB C s₂ H₂ fp pn) ifs tc)∧(∀ C s₂ H₂ fp pn,PE (Z.cw (ns N x ix) aB C s₂ H₂ fp pn) el te))∧jS it=true∧JT K (nP wi ix tc te) (eX t (.cp i ix t' d)):=by
 have hh:=aC h;clear h;obtain ⟨⟨el,x,px,it,ifs,aB,ep⟩,q,h⟩:=hh
 cases xZ q
 obtain ⟨h1,h2,h3,h4,h5⟩:=oU h
 have h1:=yx h1
 obtain ⟨ti,pi,ji⟩:=sI i h3
 obtain ⟨te,pe,je⟩:=sX d h5
 have h4:(ifs.isEmpty=true∧AV t'=true)∨(on (l1 ifs) fun y=>kT c lv t' (rl sc aB) (ns N x ix) y)=true:=by simpa using h4
 rcases h4 with ⟨w1,w2⟩|h4
 ·cases List.isEmpty_iff.mp w1
  cases t'<;>first|exact absurd w2 Bool.false_ne_true|skip
  exact ⟨el,x,px,it,[],aB,ep,_,_,_,rfl,fun Z E=>⟨by rw [E.n,E.sc];exact h1,pi Z (.Name x px) E (fun z=>absurd z Bool.false_ne_true),(fun C s₂ H₂ fp pn=>ua),(fun C s₂ H₂ fp pn=>pe _ E.cw)⟩,h2,ud ji D7 je⟩
 ·have hh:=aC h4;clear h4;obtain ⟨y,q,h4⟩:=hh
  cases iY q
  obtain ⟨tq,pq,jq⟩:=sT t' h4
  exact ⟨el,x,px,it,[y],aB,ep,_,_,_,rfl,fun Z E=>⟨by rw [E.n,E.sc];exact h1,pi Z (.Name x px) E (fun z=>absurd z Bool.false_ne_true),(fun C s₂ H₂ fp pn=>DY (pq _ E.cw)),(fun C s₂ H₂ fp pn=>pe _ E.cw)⟩,h2,ud ji jq je⟩
theorem Yv {f:Nat}{l:A}{sc:Scope}{N:List Str}{e:Expr} (h:Jy c lv f l sc N e=true):∃ n ta,(∀ Z,CE c lv K t va sc N Z→PE Z e (qo (vn K n (FT.q t[f]?)) [] E0 ta))∧k8 K ta (eA t l) (qL l)∧lN e=true∧∀ (e:Ev) (aA:List (M×D)),eA t l e=some aA→aA.length=n:=by
 have hh:=aC h;clear h;obtain ⟨⟨x,as⟩,q,h⟩:=hh
 obtain ⟨p,cp,rfl,AW⟩:=kx q
 have hh:=aC h;clear h;obtain ⟨i,hf,h⟩:=hh
 obtain ⟨h1,h2,h3,h4,h5,AX,h0,h8⟩:=Jw h
 obtain ⟨a,r,rfl⟩:=x4 h0
 obtain ⟨h6,h7⟩:=all1 AW
 have h1:=of_decide_eq_true h1
 obtain ⟨ta,pa,ja⟩:=Jz l h8
 have hl:=zJ (t:=t) h8
 rw [show (a::r).length=i.ar from of_decide_eq_true h5] at hl
 refine ⟨i.ar,ta,fun Z E=>?_,ja,rfl,hl⟩
 obtain ⟨F,hF,q⟩:=E.fs f i hf
 cases F with
 |p F=>rw [mQ,of_decide_eq_true AX] at q;cases q.1
 |oo F =>
  obtain ⟨_,a,fd,ps,k1,k2,k3,k4⟩:=q
  rw [←h1] at k2
  rw [hF,←E.k]
  exact @DQ _ _ _ _ _ _ _ _ _ _ _ _ _ _ _ _ k1 (E.rm.mono (of_decide_eq_true h4)) (E.gl h2) k2 k3 k4 .nil F4 (pa Z E) (nb h3) (cF h6) (iP h7 _)
theorem T5 {e:Expr} (h:rL e=true):lN e=true:=by
 cases e<;>first|rfl|cases h
theorem T6 {e:Expr}{es:List Expr}{k:Nat}{p:Pos}{env:Env} (h:rL e=true):swappedStores [.Tuple es k p] e env=pure none:=by
 cases e<;>first|rfl|cases h
theorem JA {o:Expr}{nm:Str}{ap cp:Pos}{to:TE}{id:String}{r:V→List V→Hp→VK→Prop}{Z:Cx} (k:Z.K=K) (h1:Slot "list" nm id) (h2:typeOf (.builtin id)=pure (.type "method_descriptor")) (h3:vD Z id r) (ho:PE Z o to) (h4:rM o=true) (h5:(ap.endLine==cp.line)=true):PE Z (.Call (.Attribute o nm ap) [] [] cp) (qC K "list" r to) :=
 k▸@EK _ _ _ _ _ _ _ _ _ PySem.F.plainAttrs_list h1 h2 h3 ho (qi h4) h5
theorem vK {o a:Expr}{ap cp:Pos}{to ta:TE}{Z:Cx} (k:Z.K=K) (ho:PE Z o to) (ha:PE Z a ta) (h4:rM o=true) (h5:(ap.endLine==cp.line)=true) (h6:dD a=true):PE Z (.Call (.Attribute o "append" ap) [a] [] cp) (vF K "list" tY to (lF ta kz)) :=
 k▸@UM _ _ _ _ _ _ _ _ _ _ _ _ PySem.F.plainAttrs_list PySem.F.slot_list_append PySem.F.type_list_append Cy ho (@tX _ _ _ _ _ ha qc (cF h6)) (qi h4) (TR h6) h5 (cF h6) TV
theorem vp {Z:Cx}{sc:Scope}{N:List Str}{e:Expr}{te:TE}{pos py:Pos}{y:Str}{i:Nat} (E:CS c lv K t va sc N Z) (h1:N[i]?=some y) (h2:loc sc y=true) (h:PE Z e te) (hs:swapsWith e (some (Expr.Name y py)) pos.line Z.env=pure false):eZ Z (.Assign [.Name y py] e pos) (gQ te (iT i)) :=
 @Tn _ _ _ _ _ _ i (E.e.n▸E.nd) (E.e.n▸h1) (E.e.sc▸Fp h2) h hs (.inl (E.fn _))
theorem sL:∀ (s:L) {sc:Scope}{N:List Str}{st:Stmt},kL c lv s sc N st=true→∃ ts,(∀ Z,CS c lv K t va sc N Z→eZ Z st ts)∧JS K ts (eL t s)
 |.rt x,sc,N,st,h=>by
  have hh:=aC h;clear h;obtain ⟨o,q,h⟩:=hh
  obtain ⟨p,rfl⟩:=Fq q
  have hh:=aC h;clear h;obtain ⟨e,rfl,h⟩:=hh
  obtain ⟨te,pe,je⟩:=sX x h
  exact ⟨_,fun Z E=>E8 (pe Z E.e),SG je⟩
 |.ct,sc,N,st,h=>by
  obtain ⟨p,rfl⟩:=T4.2.2 (of_decide_eq_true h)
  exact ⟨_,fun Z E=>Lq,PD⟩
 |.st i x,sc,N,st,h=>by
  have hh:=aC h;clear h;obtain ⟨⟨y,e⟩,q,h⟩:=hh
  obtain ⟨py,pos,rfl⟩:=uA q
  obtain ⟨h1,h2,h3,h4⟩:=fJ h
  obtain ⟨te,pe,je⟩:=sX x h4
  exact ⟨_,fun Z E=>vp E (of_decide_eq_true h1) h2 (pe Z E.e) (qy h3),E3 je⟩
 |.sc j i ix t' d,sc,N,st,h=>by
  have hh:=aC h;clear h;obtain ⟨⟨y,e⟩,q,h⟩:=hh
  obtain ⟨py,pos,rfl⟩:=uA q
  obtain ⟨h1,h2,h3⟩:=gb h
  have h1:=of_decide_eq_true h1
  obtain ⟨el,z,pz,it,ifs,aB,ep,wi,tc,te,e,pe,ns,je⟩:=Yu h3
  have e:_=Expr.ListComp el [⟨.Name z pz,it,ifs,0⟩] aB ep:=e
  subst e
  refine ⟨_,fun Z E=>?_,E3 je⟩
  obtain ⟨p1,p2,p3,p4⟩:=pe Z E.e
  rcases Ef (el:=el) (gs:=[⟨.Name z pz,it,ifs,0⟩]) (aB:=aB) (ep:=ep) (py:=py) (y:=y) (n:=pos.line) (env:=Z.env) with ⟨w,l⟩|w
  ·exact @B7 _ _ _ _ _ _ _ _ _ _ _ _ _ j _ _ _ (E.e.n▸E.nd) (E.e.n▸h1) l p1 E.e.calm p2 p3 p4 w (kh ns)
  ·exact vp E h1 h2 (@ub _ _ _ _ _ _ _ _ _ _ _ _ _ p1 E.e.calm p2 p3 p4 (kh ns)) w
 |.as g x,sc,N,st,h=>by
  have hh:=aC h;clear h;obtain ⟨⟨tg,e,pos⟩,q,h⟩:=hh
  cases qj q
  obtain ⟨h1,h2,h3,h4⟩:=fJ h
  obtain ⟨te,pe,je⟩:=sX x h4
  obtain ⟨JB,pg,jg⟩:=sG g h3
  refine ⟨_,fun Z E=>@E9 _ _ _ _ _ _ (pe Z E.e) (pg Z E) ?_ ?_ ?_,SV je jg⟩
  ·exact (show swapsWith e (some tg) pos.line Z.env=pure false from qy (T5 h2))
  ·cases tg<;>first|exact absurd h1 Bool.false_ne_true|skip
   exact T6 h2
  ·cases tg<;>first|rfl|exact absurd h1 Bool.false_ne_true
 |.si k i x,sc,N,st,h=>by
  have hh:=aC h;clear h;obtain ⟨⟨tg,e,pos⟩,q,h⟩:=hh
  cases qj q
  have hh:=aC h;clear h;obtain ⟨⟨o,ie⟩,q,h⟩:=hh
  obtain ⟨p,r⟩:=ko q
  have r:tg=_:=r
  subst r
  obtain ⟨h1,h2,h3,h4,h5⟩:=oU h
  obtain ⟨ti,pi,ji⟩:=sX i h4
  obtain ⟨te,pe,je⟩:=sX x h5
  refine ⟨_,fun Z E=>@E9 _ _ _ _ _ _ (pe Z E.e) (@Rm _ _ _ _ _ _ _ (sV h3 Z E.e) (pi Z E.e) set_list (Tx h1)) ?_ ?_ rfl,NF je ji⟩
  ·exact (show swapsWith e (some (Expr.Subscript o ie p)) pos.line Z.env=pure false from qy h2)
  ·cases e<;>rfl
 |.dp k i x,sc,N,st,h=>by
  have hh:=aC h;clear h;obtain ⟨⟨tg,e,pos⟩,q,h⟩:=hh
  cases qj q
  have hh:=aC h;clear h;obtain ⟨⟨o,ie⟩,q,h⟩:=hh
  obtain ⟨p,r⟩:=ko q
  have r:tg=_:=r
  subst r
  obtain ⟨h2,h3,h4,h5⟩:=fJ h
  obtain ⟨ti,pi,ji⟩:=sX i h4
  obtain ⟨te,pe,je⟩:=sX x h5
  exact ⟨_,fun Z E=>Ea (nM E.e.rm) (sV h3 Z E.e) (pi Z E.e) (pe Z E.e) (qy h2),Qp je ji⟩
 |.ap k x,sc,N,st,h=>by
  have hh:=aC h;clear h;obtain ⟨e,q,h⟩:=hh
  obtain ⟨pos,rfl⟩:=uB q
  have hh:=aC h;clear h;obtain ⟨⟨o,as⟩,q,h⟩:=hh
  obtain ⟨ap,cp,rfl,h2,h3,h4⟩:=lO q
  have hh:=aC h;clear h;obtain ⟨a,q1,h⟩:=hh
  cases iY q1
  obtain ⟨h5,h6⟩:=cH h
  obtain ⟨te,pe,je⟩:=sX x h6
  exact ⟨_,fun Z E=>@uf _ _ _ _ (vK E.e.k (sV h5 Z E.e) (pe Z E.e) h2 h3 (all1 h4).1) rfl,SK je⟩
 |.na k i x,sc,N,st,h=>by
  have hh:=aC h;clear h;obtain ⟨e,q,h⟩:=hh
  obtain ⟨pos,rfl⟩:=uB q
  have hh:=aC h;clear h;obtain ⟨⟨o,as⟩,q,h⟩:=hh
  obtain ⟨ap,cp,rfl,h2,h3,h4⟩:=lO q
  have hh:=aC h;clear h;obtain ⟨a,q1,h⟩:=hh
  cases iY q1
  have hh:=aC h;clear h;obtain ⟨⟨o',ie⟩,q,h⟩:=hh
  obtain ⟨p,r⟩:=ko q
  have r:o=_:=r
  subst r
  obtain ⟨h0,h5,h6,h7⟩:=fJ h
  obtain ⟨ti,pi,ji⟩:=sX i h6
  obtain ⟨te,pe,je⟩:=sX x h7
  exact ⟨_,fun Z E=>@uf _ _ _ _ (vK E.e.k (@FY _ _ _ _ _ _ _ (D1 E.e.k) (sV h5 Z E.e) (pi Z E.e) (Gi h0)) (pe Z E.e) h2 h3 (all1 h4).1) rfl,Qt ji je⟩
 |.po i k,sc,N,st,h=>by
  have hh:=aC h;clear h;obtain ⟨⟨y,e⟩,q,h⟩:=hh
  obtain ⟨py,pos,rfl⟩:=uA q
  have hh:=aC h;clear h;obtain ⟨⟨o,as⟩,q,h⟩:=hh
  obtain ⟨ap,cp,r,h2,h3,h4⟩:=lO q
  have r:e=_:=r
  subst r
  obtain ⟨h1,h5,h0,h6⟩:=fJ h
  cases List.isEmpty_iff.mp h0
  exact ⟨_,fun Z E=>vp E (of_decide_eq_true h1) h5 (JA E.e.k PySem.F.slot_list_pop PySem.F.type_list_pop RZ (sV h6 Z E.e) h2 h3) rfl,SM⟩
 |.cl k,sc,N,st,h=>by
  have hh:=aC h;clear h;obtain ⟨e,q,h⟩:=hh
  obtain ⟨pos,rfl⟩:=uB q
  have hh:=aC h;clear h;obtain ⟨⟨o,as⟩,q,h⟩:=hh
  obtain ⟨ap,cp,rfl,h2,h3,h4⟩:=lO q
  obtain ⟨h0,h6⟩:=cH h
  cases List.isEmpty_iff.mp h0
  exact ⟨_,fun Z E=>@uf _ _ _ _ (JA E.e.k PySem.F.slot_list_clear PySem.F.type_list_clear Nk (sV h6 Z E.e) h2 h3) rfl,NK⟩
 |.ne i it,sc,N,st,h=>by
  have hh:=aC h;clear h;obtain ⟨⟨y,e⟩,q,h⟩:=hh
  obtain ⟨py,pos,rfl⟩:=uA q
  have hh:=aC h;clear h;obtain ⟨⟨el,z,pz,ie,ifs,aB,ep⟩,q,h⟩:=hh
  have r:e=_:=xZ q
  subst r
  obtain ⟨h1,h2,q1,q2,h6,h7⟩:=v8 h
  obtain ⟨h4,h5⟩:=cH h7
  have h1:=of_decide_eq_true h1
  obtain ⟨lp,r⟩:=QH q2
  have r:el=_:=r
  subst r
  cases List.isEmpty_iff.mp q1
  have h6:=yx h6
  obtain ⟨ti,pi,ji⟩:=sI it h5
  refine ⟨_,fun Z E=>?_,Qs (ix:=[]) ji⟩
  have p1:lC Z.N (ns N z []) Z.env.scope aB z []:=by rw [E.e.n,E.e.sc];exact h6
  have p2:=pi Z (.Name z pz) E.e (fun z=>absurd z Bool.false_ne_true)
  rcases Ef (el:=.List [] lp) (gs:=[⟨.Name z pz,ie,[],0⟩]) (aB:=aB) (ep:=ep) (py:=py) (y:=y) (n:=pos.line) (env:=Z.env) with ⟨w,l⟩|w
  ·exact @B7 _ _ _ _ _ _ _ _ _ _ _ _ _ i _ _ _ (E.e.n▸E.nd) (E.e.n▸h1) l p1 E.e.calm p2 (fun C s₂ H₂ fp pn=>ua) (fun C s₂ H₂ fp pn=>yl qc) w (kh h4)
  ·exact vp E h1 h2 (@ub _ _ _ _ _ _ _ _ _ _ _ _ _ p1 E.e.calm p2 (fun C s₂ H₂ fp pn=>ua) (fun C s₂ H₂ fp pn=>yl qc) (kh h4)) w
 |.tp k i x,sc,N,st,h=>by
  have hh:=aC h;clear h;obtain ⟨⟨tg,e,pos⟩,q,h⟩:=hh
  cases qj q
  have hh:=aC h;clear h;obtain ⟨⟨o,ie⟩,q,h⟩:=hh
  obtain ⟨p,r⟩:=ko q
  have r:tg=_:=r
  subst r
  obtain ⟨h2,h3,h4,h5⟩:=fJ h
  obtain ⟨ti,pi,ji⟩:=sX i h4
  obtain ⟨te,pe,je⟩:=sX x h5
  exact ⟨_,fun Z E=>Ea (nM E.e.rm) (sV h3 Z E.e) (pi Z E.e) (pe Z E.e) (qy h2),Qy je ji⟩
 |.tc k,sc,N,st,h=>by
  have hh:=aC h;clear h;obtain ⟨e,q,h⟩:=hh
  obtain ⟨pos,rfl⟩:=uB q
  have hh:=aC h;clear h;obtain ⟨⟨o,as⟩,q,h⟩:=hh
  obtain ⟨ap,cp,rfl,h2,h3,h4⟩:=lO q
  obtain ⟨h0,h6⟩:=cH h
  cases List.isEmpty_iff.mp h0
  exact ⟨_,fun Z E=>@uf _ _ _ _ (E.e.k▸@EK _ _ _ _ _ _ _ _ _ PySem.F.plainAttrs_dict PySem.F.slot_dict_clear PySem.F.type_dict_clear MP (sV h6 Z E.e) (qi h2) h3) rfl,MQ⟩
 |.rO f sl l,sc,N,st,h=>by
  have hh:=aC h;clear h;obtain ⟨o,q,h⟩:=hh
  obtain ⟨pos,rfl⟩:=Fq q
  have hh:=aC h;clear h;obtain ⟨e,rfl,h⟩:=hh
  obtain ⟨n,ta,p1,p2,nc,p3⟩:=Yv h
  exact ⟨_,fun Z E=>E8 (p1 Z E.e),Oc p2 p3⟩
mutual
theorem sS:∀ (s:S) {sc:Scope}{N:List Str}{st:Stmt},kS c lv s sc N st=true→∃ ts,(∀ Z,CS c lv K t va sc N Z→eZ Z st ts)∧JS K ts (eS t s)
 |.l x,sc,N,st,h=>sL x (st:=st) h
 |.ie t' a b,sc,N,st,h=>by
  have hh:=aC h;clear h;obtain ⟨⟨e,as,bs⟩,q,h⟩:=hh
  obtain ⟨p,rfl⟩:=TX q
  obtain ⟨h1,h2,h3⟩:=gb h
  obtain ⟨tq,pq,jq⟩:=sT t' h1
  obtain ⟨ta,pa,ja⟩:=sB a h2
  obtain ⟨tb,pb,jb⟩:=sB b h3
  exact ⟨_,fun Z E=>Vc (pq Z E.e) (pa Z E) (pb Z E),U3 jq ja jb⟩
 |.fo i g b,sc,N,st,h=>by
  have hh:=aC h;clear h;obtain ⟨⟨tg,it,body⟩,q,h⟩:=hh
  obtain ⟨p,rfl⟩:=Fs q
  obtain ⟨h1,h2,h3,h4⟩:=fJ h
  obtain ⟨ti,pi,ji⟩:=sI i h1
  obtain ⟨JB,pg,jg⟩:=sG g h3
  obtain ⟨tb,pb,jb⟩:=sB b h4
  exact ⟨_,fun Z E=>@Fc _ _ _ _ _ _ _ _ E.po E.e.calm (pi Z tg E.e id) (pg Z E) (pb Z E) (kh h2),SW ji jg jb⟩
 |.fv k g b,sc,N,st,h=>by
  have hh:=aC h;clear h;obtain ⟨⟨tg,it,body⟩,q,h⟩:=hh
  obtain ⟨p,rfl⟩:=Fs q
  have hh:=aC h;clear h;obtain ⟨⟨o,as⟩,q,h⟩:=hh
  obtain ⟨ap,cp,r,h2,h3,_⟩:=lO q
  have r:it=_:=r
  subst r
  obtain ⟨h0,h5,h6,h7⟩:=fJ h
  cases List.isEmpty_iff.mp h0
  obtain ⟨JB,pg,jg⟩:=sG g h6
  obtain ⟨tb,pb,jb⟩:=sB b h7
  exact ⟨_,fun Z E=>Qu (@Fc _ _ _ _ _ _ _ _ E.po E.e.calm (@MK _ _ _ _ _ _ (sV h5 Z E.e) (qi h2) h3) (pg Z E) (pb Z E) (kh rfl)),Qv (i:=k) jg jb⟩
 |.wh t' b,sc,N,st,h=>by
  have hh:=aC h;clear h;obtain ⟨⟨e,body⟩,q,h⟩:=hh
  obtain ⟨p,rfl⟩:=TY q
  obtain ⟨h1,h2⟩:=cH h
  obtain ⟨tq,pq,jq⟩:=sT t' h1
  obtain ⟨tb,pb,jb⟩:=sB b h2
  exact ⟨_,fun Z E=>N8 E.po (pq Z E.e) (pb Z E),NR jq jb⟩
 |.fz k s,sc,N,st,h=>by
  obtain ⟨ts,ps,js⟩:=sS s (st:=st) h
  exact ⟨_,ps,SN js⟩
theorem sB:∀ (b:B) {sc:Scope}{N:List Str}{ss:List Stmt},kB c lv b sc N ss=true→∃ ts,(∀ Z,CS c lv K t va sc N Z→jP Z ss ts)∧JS K ts (eB t b)
 |.n,_,_,ss,h=>by
  cases List.isEmpty_iff.mp h
  exact ⟨_,fun _ _=>Qm,PB⟩
 |.o s,_,_,ss,h=>by
  have hh:=aC h;clear h;obtain ⟨st,q,h⟩:=hh
  cases iY q
  obtain ⟨ts,ps,js⟩:=sS s h
  exact ⟨_,fun Z E=>Qn (ps Z E),js⟩
 |.c s b,_,_,ss,h=>by
  have hh:=aC h;clear h;obtain ⟨⟨st,r⟩,q,h⟩:=hh
  cases lE q
  obtain ⟨h1,h2⟩:=cH h
  obtain ⟨ts,ps,js⟩:=sS s h1
  obtain ⟨tb,pb,jb⟩:=sB b h2
  exact ⟨_,fun Z E=>N7 (ps Z E) (pb Z E),SF js jb⟩
end
end
end C
namespace C
open PySem PySem.Spec L2 J My
def gO (P:Program) (w:World) (K:PySem.W.Frag) (mg:Str→Option Value) (base:Heap) (fs:List Fi) (t:List FT):Prop :=
 ∀ (i:Nat) fi,fs[i]?=some fi→∃ F,t[i]?=some F∧mQ P w K mg base fi F
noncomputable def kF (c:Cf) (lv:Nat) (N ps:List Str) (st:Stmt) (b:B):Bool :=
 decide ((bY st).kind=.function∧(bY st).isCoroutine=false∧(bY st).isGenerator=false∧N.Nodup∧N.take ps.length=ps ∧
  (∀ x∈ps,(bY st).names.lookup x=some .local∨(bY st).names.lookup x=some .cell)∧(∀ y∈(bY st).names,y.2≠.free))&&kB c lv b (bY st) N (eU st)
section
variable {P:Program}{w:World}{K:PySem.W.Frag}{mg:Str→Option Value}{base:Heap}{t:List FT}{va:List V}
theorem gO.nil:gO P w K mg base [] t:=fun i fi h=>by simp at h
theorem gO.cons {fs:List Fi}{f:Fi}{F:FT} (h:gO P w K mg base fs t) (q:mQ P w K mg base f F):gO P w K mg base (f::fs) (F::t)
 |0,fi,e=>by cases e;exact ⟨F,rfl,q⟩
 |i+1,fi,e=>h i fi e
theorem ctx {bs:List String}{gs:List (Str×Gv)}{fs:List Fi}{lv:Nat}{N ps:List Str}{st:Stmt}{b:B}{qual:Str}{f:Addr}{cd:Value}{A:Around}{outer:List Env}{s:Shared}{H:Hp}{E:XK} (h:gO P w K mg base fs t) (hb:∀ x∈bs,mg (Str.ofString x)=none) (hg:GV K mg va gs) (k:kF ⟨bs,gs,fs⟩ lv N ps st b=true)
  (hr:du lv (A.deeper (PyProof.Rows.envOfC qual (bY st) s.heap.objs.size f cd))):CS ⟨bs,gs,fs⟩ lv K t va (bY st) N ((kC j4 P w K mg base N qual (bY st) f cd A outer s H E).mv):=by
 obtain ⟨k1,k2⟩:=cH k
 obtain ⟨h1,h2,h3,h4,h5,h6,h7⟩:=of_decide_eq_true k1
 exact ⟨⟨rfl,rfl,rfl,rfl,hr,hb,hg,h⟩,h4,fun _=>rfl,PassesOwn.never,h1⟩
theorem zM {c:Cf}{lv:Nat}{N ps:List Str}{st:Stmt}{b:B} (k:kF c lv N ps st b=true):pZ N ps (bY st):=by
 obtain ⟨h1,h2,h3,h4,h5,h6,h7⟩:=of_decide_eq_true (cH k).1
 exact ⟨h1,h2,h3,h4,h5,h6,h7⟩
theorem Vo {bs:List String}{gs:List (Str×Gv)}{fs:List Fi}{lv:Nat}{N ps:List Str}{x:Str}{st:Stmt}{b:B}{f:Addr}{fd:FuncData} (h:gO P w K mg base fs t) (hb:∀ x∈bs,mg (Str.ofString x)=none) (hg:GV K mg va gs) (Df:Df K mg x st ps f fd) (k:kF ⟨bs,gs,fs⟩ lv N ps st b=true) :
  mQ P w K mg base ⟨x,ps.length,lv+1,none⟩ (.p (fn N.length (eB t b))):=by
 refine ⟨rfl,f,fd,ps,?_,Df.mg,Df.fn.kp,Df.bd⟩
 refine Df.fn.ok (zM k) (fun vs H Q E h=>h.1) (fun bM A outer s H vs Q E hr q=>?_)
 obtain ⟨ts,p1,p2⟩:=sB (t:=t) (va:=va) (K:=K) b (cH k).2
 exact ⟨ts,(p1 _ (ctx h hb hg k hr)).go,D5 p2 q⟩
theorem Vp {bs:List String}{gs:List (Str×Gv)}{fs:List Fi}{lv:Nat}{N ps:List Str}{x:Str}{st:Stmt}{b:B}{f:Addr}{fd:FuncData} (h:gO P w K mg base fs t) (hb:∀ x∈bs,mg (Str.ofString x)=none) (hg:GV K mg va gs) (Df:Df K mg x st ps f fd) (k:kF ⟨bs,gs,fs⟩ lv N ps st b=true) :
  mQ P w K mg base ⟨x,ps.length,lv+1,some []⟩ (.oo (i7 N.length (eB t b))):=by
 refine ⟨rfl,f,fd,ps,?_,Df.mg,Df.fn.kp,Df.bd⟩
 refine Df.fn.ok (zM k) (fun vs H Q E h=>h.1) (fun bM A outer s H vs Q E hr q=>?_)
 obtain ⟨ts,p1,p2⟩:=sB (t:=t) (va:=va) (K:=K) b (cH k).2
 exact ⟨ts,(p1 _ (ctx h hb hg k hr)).go,MS p2 q⟩
end
structure Dd where
 nm:Str
 st:Stmt
 ps:List Str
 N:List Str
 lv:Nat
 io:Option (List Nat)
 b:B
noncomputable def qN (t:List FT) (d:Dd):FT:=match d.io with
 |none=>.p (fn d.N.length (eB t d.b))
 |some _=>.oo (i7 d.N.length (eB t d.b))
noncomputable def zN (d:Dd):Fi:=⟨d.nm,d.ps.length,d.lv+1,d.io.map fun _=>[]⟩
noncomputable def tab:List Dd→List FT
 |[]=>[]
 |d::ds=>qN (tab ds) d::tab ds
noncomputable def uU (bs:List String) (gs:List (Str×Gv)):List Dd→Bool
 |[]=>true
 |d::ds=>kF ⟨bs,gs,ds.map zN⟩ d.lv d.N d.ps d.st d.b&&uU bs gs ds
def BA (d:Str) (s:Stmt) (ps:List Str):Prop:=∀ (kV doc pm:Value) (an:Option Addr) (bM ct:Value) (us:List Value),us.length=ps.length→bindArgs (PySem.W.fnOf d d (fM s) (eU s) (bY s) .none kV doc pm an bM ct) ⟨us,[]⟩=pure (ps.zip us)
theorem dQ {d:Str}{s:Stmt}{p0:Str} (h:∀ k o p n c t u0,bindArgs (PySem.W.fnOf d d (fM s) (eU s) (bY s) .none k o p n c t) ⟨[u0],[]⟩=pure (List.zip [p0] [u0])):BA d s [p0]:=by
 intro _ _ _ _ _ _ us hl
 obtain _|⟨_,us⟩:=us
 ·cases hl
 obtain _|_:=us
 ·exact h _ _ _ _ _ _ _
 ·simp at hl
theorem dI {d:Str}{s:Stmt}{p0 p1:Str} (h:∀ k o p n c t u0 u1,bindArgs (PySem.W.fnOf d d (fM s) (eU s) (bY s) .none k o p n c t) ⟨[u0,u1],[]⟩=pure (List.zip [p0,p1] [u0,u1])):BA d s [p0,p1]:=by
 intro _ _ _ _ _ _ us hl
 obtain _|⟨_,us⟩:=us
 ·cases hl
 obtain _|⟨_,us⟩:=us
 ·cases hl
 obtain _|_:=us
 ·exact h _ _ _ _ _ _ _ _
 ·simp at hl
theorem JC {d:Str}{s:Stmt}{p0 p1 p2:Str} (h:∀ k o p n c t u0 u1 u2,bindArgs (PySem.W.fnOf d d (fM s) (eU s) (bY s) .none k o p n c t) ⟨[u0,u1,u2],[]⟩=pure (List.zip [p0,p1,p2] [u0,u1,u2])):BA d s [p0,p1,p2]:=by
 intro _ _ _ _ _ _ us hl
 obtain _|⟨_,us⟩:=us
 ·cases hl
 obtain _|⟨_,us⟩:=us
 ·cases hl
 obtain _|⟨_,us⟩:=us
 ·cases hl
 obtain _|_:=us
 ·exact h _ _ _ _ _ _ _ _ _
 ·simp at hl
theorem Yw {d:Str}{s:Stmt}{p0 p1 p2 p3:Str} (h:∀ k o p n c t u0 u1 u2 u3,bindArgs (PySem.W.fnOf d d (fM s) (eU s) (bY s) .none k o p n c t) ⟨[u0,u1,u2,u3],[]⟩=pure (List.zip [p0,p1,p2,p3] [u0,u1,u2,u3])):BA d s [p0,p1,p2,p3]:=by
 intro _ _ _ _ _ _ us hl
 obtain _|⟨_,us⟩:=us
 ·cases hl
 obtain _|⟨_,us⟩:=us
 ·cases hl
 obtain _|⟨_,us⟩:=us
 ·cases hl
 obtain _|⟨_,us⟩:=us
 ·cases hl
 obtain _|_:=us
 ·exact h _ _ _ _ _ _ _ _ _ _
 ·simp at hl
theorem Yx {d:Str}{s:Stmt}{p0 p1 p2 p3 p4:Str} (h:∀ k o p n c t u0 u1 u2 u3 u4,bindArgs (PySem.W.fnOf d d (fM s) (eU s) (bY s) .none k o p n c t) ⟨[u0,u1,u2,u3,u4],[]⟩=pure (List.zip [p0,p1,p2,p3,p4] [u0,u1,u2,u3,u4])):BA d s [p0,p1,p2,p3,p4]:=by
 intro _ _ _ _ _ _ us hl
 obtain _|⟨_,us⟩:=us
 ·cases hl
 obtain _|⟨_,us⟩:=us
 ·cases hl
 obtain _|⟨_,us⟩:=us
 ·cases hl
 obtain _|⟨_,us⟩:=us
 ·cases hl
 obtain _|⟨_,us⟩:=us
 ·cases hl
 obtain _|_:=us
 ·exact h _ _ _ _ _ _ _ _ _ _ _
 ·simp at hl
noncomputable def wc:List Dd→Prop
 |[]=>True
 |d::ds=>BA d.nm d.st d.ps∧wc ds
def DE (K:PySem.W.Frag) (d:Str) (s:Stmt):Prop:=∃ (f:Addr) (oc:Value) (od:Option Addr) (kV dc pm:Value) (an:Option Addr) (cd ct:Value) (sl:Array (Option Value)),
 PySem.W.nsIn K mainGlobals d=some (some (.ref f))∧K.lookup f=some ⟨oc,od,.func (PySem.W.fnOf d d (fM s) (eU s) (bY s) .none kV dc pm an cd ct),sl⟩∧PySem.W.codeIn K cd d=true∧PySem.W.keepIn K (.ref f)=true
theorem W5 {K:PySem.W.Frag}{d:Str}{s:Stmt}{f:Addr}{oc:Value}{od:Option Addr}{kV dc pm:Value}{an:Option Addr}{cd ct:Value}{sl:Array (Option Value)} (a:PySem.W.nsIn K mainGlobals d=some (some (.ref f))) (l:K.lookup f=some ⟨oc,od,.func (PySem.W.fnOf d d (fM s) (eU s) (bY s) .none kV dc pm an cd ct),sl⟩) (c:PySem.W.codeIn K cd d=true) (k:PySem.W.keepIn K (.ref f)=true):DE K d s :=
 ⟨f,oc,od,kV,dc,pm,an,cd,ct,sl,a,l,c,k⟩
noncomputable def wd (K:PySem.W.Frag):List Dd→Prop
 |[]=>True
 |d::ds=>DE K d.nm d.st∧wd K ds
noncomputable def wg (K:PySem.W.Frag):List String→Prop
 |[]=>True
 |b::bs=>PySem.W.nsIn K mainGlobals (Str.ofString b)=some none∧wg K bs
noncomputable def GE (K:PySem.W.Frag) (x:Str):Gv→Prop
 |.s y=>∃ tk,PySem.W.nsIn K mainGlobals x=some (some (.str y tk))
 |.t l=>∃ (a:Addr) (od:Option Addr) (it:Array Value) (n:Nat) (sl:Array (Option Value)),PySem.W.nsIn K mainGlobals x=some (some (.ref a))∧K.lookup a=some ⟨.type "tuple",od,.seq it n,sl⟩∧it.toList.map nW=l.map (fun y=>some (V.str y))∧4≤l.length∧l.length≤1000
noncomputable def wj (K:PySem.W.Frag):List (Str×Gv)→Prop
 |[]=>True
 |g::gs=>GE K g.1 g.2∧wj K gs
section
variable {P:Program}{w:World}{K:PySem.W.Frag}{mg:Str→Option Value}{base:Heap}
theorem Ft {h:Heap} (X:K.In h) (G:h.Ns mainGlobals mg):∀ {bs:List String},wg K bs→∀ x∈bs,mg (Str.ofString x)=none
 |[],_,_,m=>nomatch m
 |b::bs,q,x,m=>by
  rcases List.mem_cons.mp m with rfl|m
  ·exact PySem.W.mg_none_of X G q.1
  ·exact Ft X G q.2 x m
theorem Gk {h:Heap} (X:K.In h) (G:h.Ns mainGlobals mg):∀ {gs:List (Str×Gv)},wj K gs→∃ va,GV K mg va gs
  |[],_=>⟨[],fun i g e=>by simp at e⟩
  | (x,g)::gs,q=>by
    obtain ⟨va,r⟩:=Gk X G q.2
    have one:∃ v u,mg x=some u∧RelV v u∧JT K (tC v) (jC g.d):=by
      cases g with
      |s y =>
        obtain ⟨tk,e⟩:=q.1
        exact ⟨.str y,_,PySem.W.mg_of X G e,⟨_,rfl⟩,n8 rfl⟩
      |t l =>
        obtain ⟨a,od,it,n,sl,e,lk,m,hl⟩:=q.1
        exact ⟨.ref a,_,PySem.W.mg_of X G e,rfl,Ti (Ql lk m hl) fun _ _=>B6 l⟩
    obtain ⟨v,u,h1,h2,h3⟩:=one
    refine ⟨v::va,fun i g' e=>?_⟩
    cases i with
    |zero=>cases e;exact ⟨v,u,rfl,h1,h2,h3⟩
    |succ i=>exact r i g' e
theorem Vq {h:Heap}{d:Str}{s:Stmt}{ps:List Str} (X:K.In h) (G:h.Ns mainGlobals mg) (e:DE K d s) (b:BA d s ps):∃ f fd,Df K mg d s ps f fd:=by
 obtain ⟨f,oc,od,kV,dc,pm,an,cd,ct,sl,q1,q2,q3,q4⟩:=e
 exact ⟨f,_,PySem.W.mg_of X G q1,yn q2 q3 q4,(yn q2 q3 q4).binds b⟩
theorem Gm {h:Heap}{bs:List String}{gs:List (Str×Gv)}{va:List V} (X:K.In h) (G:h.Ns mainGlobals mg) (hb:∀ x∈bs,mg (Str.ofString x)=none) (hg:GV K mg va gs):∀ {ds:List Dd},wd K ds→wc ds→uU bs gs ds=true→gO P w K mg base (ds.map zN) (tab ds)
 |[],_,_,_=>gO.nil
 |d::ds,q,b,k=>by
  obtain ⟨k1,k2⟩:=cH k
  have r:=Gm X G hb hg q.2 b.2 k2
  obtain ⟨f,fd,D⟩:=Vq X G q.1 b.1
  refine gO.cons r ?_
  obtain ⟨nm,st,ps,N,lv,io,bd⟩:=d
  cases io with
  |none=>exact Vo r hb hg D k1
  |some io=>exact Vp r hb hg D k1
theorem bJ {d:Dd}{ds:List Dd}{t:List FT}{g:Ev→Option Fl}{F:List D→Option (M×D)} (e:tab ds=t) (h:d.io=none) (q:eB t d.b=g) (r:fn d.N.length g=F):tab (d::ds)=.p F::t:=by
 subst e q r
 show qN (tab ds) d::tab ds=_
 unfold qN
 rw [h]
theorem yC {d:Dd}{ds:List Dd}{t:List FT}{g:Ev→Option Fl}{F:List D→Option D} (e:tab ds=t) (h:d.io=some []) (q:eB t d.b=g) (r:i7 d.N.length g=F):tab (d::ds)=.oo F::t:=by
 subst e q r
 show qN (tab ds) d::tab ds=_
 unfold qN
 rw [h]
theorem Vr {h:Heap}{bs:List String}{gs:List (Str×Gv)}{ds:List Dd}{st:Stmt}{N:List Str}{lv:Nat}{b:B}{t:List FT}{F:List D→Option (M×D)}{x:Str}{fa:Addr} (X:K.In h) (G:h.Ns mainGlobals mg) (A5:mg "law" = some (.ref fa)) (hb:wg K bs) (hg:wj K gs) (q:wd K (⟨"law",st,[x],N,lv,none,b⟩::ds)) (ba:wc (⟨"law",st,[x],N,lv,none,b⟩::ds)) (k:uU bs gs (⟨"law",st,[x],N,lv,none,b⟩::ds)=true)
  (e:tab (⟨"law",st,[x],N,lv,none,b⟩::ds)=.p F::t) (hs:∀ (kV doc pm:Value) (an:Option Addr) (bM ct:Value) (s:Shared) (v:Value),BindsTo s (PySem.W.fnOf "law" "law" (fM st) (eU st) (bY st) .none kV doc pm an bM ct) ⟨[v],[]⟩ [(x,v)]) :
  ∃ fd:FuncData,(∀ (s:Shared) (v:Value),BindsTo s fd ⟨[v],[]⟩ [(x,v)])∧∀ base:Heap,K.In base→base.Ns mainGlobals mg→jL P w K mg base j4 (lv+1) fa fd [x] (mG K 1 F):=by
 obtain ⟨k1,k2⟩:=cH k
 have hb:=Ft X G hb
 obtain ⟨va,hg⟩:=Gk X G hg
 obtain ⟨⟨f,oc,od,kV,dc,pm,an,cd,ct,sl,q1,q2,q3,q4⟩,qs⟩:=q
 have ef:=A5.symm.trans (PySem.W.mg_of X G q1)
 cases ef
 refine ⟨_,fun s v=>hs kV dc pm an cd ct s v,fun base _ _=>?_⟩
 have r:gO P w K mg base (ds.map zN) (tab ds):=Gm X G hb hg qs ba.2 k2
 have ht:fn N.length (eB (tab ds) b)=F:=by
  have e:FT.p (fn N.length (eB (tab ds) b))::tab ds=.p F::t:=e
  cases e;rfl
 have fk:=yn (x := "law") (qual := "law") (st:=st) q2 q3 q4
 refine fk.ok (zM k1) (fun vs H Q E h=>h.1) (fun bM A outer s H vs Q E hr q=>?_)
 obtain ⟨ts,p1,p2⟩:=sB (t:=tab ds) (va:=va) (K:=K) b (cH k1).2
 rw [←ht] at q
 exact ⟨ts,(p1 _ (ctx r hb hg k1 hr)).go,D5 p2 q⟩
end
end C
namespace aL
open PySem PySem.Spec L2 My J
noncomputable def top (i:Nat):PySem.Stmt:=PySem.Challenge.pw_lazyhoist_k30_wanted.main.body.getD i (.Pass ⟨0,0,0,0⟩)
noncomputable def bs:List String:=["bool", "dict", "enumerate", "int", "isinstance", "len", "list", "max", "range", "sum"]
noncomputable def gs:List (Str×C.Gv):=[]
noncomputable def t0:List C.FT:=[]
noncomputable def JD:List C.Dd:=[]
theorem e0:C.tab JD=t0:=rfl
noncomputable def Bs:Ev→Option Fl :=
 (aj (aM (jB (ag aN (ag ak (jV 0) (jC (.int 0))) (jC (.str "reckon"))))
  (aI (aQ (ae (ag ak (jV 0) (jC (.int 2))) (ae (ag ak (jV 0) (jC (.int 3))) (ae (ag ak (jV 0) (jC (.int 4))) ah)))))
  aR)
 (aI (jC .non)))
noncomputable def mW:List D→Option (M×D):=fn 1 Bs
noncomputable def d1:C.Dd:=⟨"reckoning_of",top 1,["row"],["row"],0,none,(.c (.ie (.c .eq (.ix (.v 0) (.ki 0)) (.ks "reckon")) (.o (.l (.rt (.tu (.c (.ix (.v 0) (.ki 2)) (.c (.ix (.v 0) (.ki 3)) (.c (.ix (.v 0) (.ki 4)) .n))))))) .n) (.o (.l (.rt .kn))))⟩
noncomputable def JF:List C.Dd:=d1::JD
noncomputable def t1:List C.FT:=.p mW::t0
theorem e1:C.tab JF=t1:=C.bJ e0 rfl rfl rfl
noncomputable def T7:Ev→Option Fl :=
 (aj (aM (cC (jB (ag aN (ag ak (jV 0) (jC (.int 0))) (jC (.str "reckon")))) (jB (ag aN (ag ak (jV 0) (jC (.int 0))) (jC (.str "copy")))))
  (aI (ag ak (jV 0) (jC (.int 1))))
  aR)
 (aI (jC .non)))
noncomputable def uC:List D→Option (M×D):=fn 1 T7
noncomputable def d2:C.Dd:=⟨"sets",top 2,["row"],["row"],0,none,(.c (.ie (.or (.c .eq (.ix (.v 0) (.ki 0)) (.ks "reckon")) (.c .eq (.ix (.v 0) (.ki 0)) (.ks "copy"))) (.o (.l (.rt (.ix (.v 0) (.ki 1))))) .n) (.o (.l (.rt .kn))))⟩
noncomputable def JH:List C.Dd:=d2::JF
noncomputable def t2:List C.FT:=.p uC::t1
theorem e2:C.tab JH=t2:=C.bJ e1 rfl rfl rfl
noncomputable def CK:Ev→Option Fl :=
 (aj (au 2 (aw uC (ae (jV 0) ah)))
 (aI (kJ (ag qu (jV 2) (jC .non)) (rq (ag aN (jV 2) (ag ak (jV 1) (jC (.int 1)))) (ag aN (jV 2) (ag ak (jV 1) (jC (.int 2))))))))
noncomputable def pR:List D→Option (M×D):=fn 3 CK
noncomputable def d3:C.Dd:=⟨"changes",top 3,["row", "reckoning"],["row", "reckoning", "name"],1,none,(.c (.l (.st 2 (.ca 0 (.c (.v 0) .n)))) (.o (.l (.rt (.an (.co .rK (.v 2) .kn) (.or (.co .eq (.v 2) (.ix (.v 1) (.ki 1))) (.co .eq (.v 2) (.ix (.v 1) (.ki 2)))))))))⟩
noncomputable def JK:List C.Dd:=d3::JH
noncomputable def t3:List C.FT:=.p pR::t2
theorem e3:C.tab JK=t3:=C.bJ e2 rfl rfl rfl
noncomputable def BP:Ev→Option Fl :=
 (aj (au 2 (ag ak (jV 0) (jV 1)))
 (aj (aM (jB (ag aN (ag ak (jV 2) (jC (.int 0))) (jC (.str "end"))))
  (aI (bA ah))
  aR)
 (aj (aM (jB (ag aN (ag ak (jV 2) (jC (.int 0))) (jC (.str "go"))))
  (aI (bA (ae (ag ak (jV 2) (jC (.int 1))) ah)))
  aR)
 (aj (aM (jB (ag aN (ag ak (jV 2) (jC (.int 0))) (jC (.str "part"))))
  (aI (bA (ae (ag bB (jV 1) (jC (.int 1))) (ae (ag ak (jV 2) (jC (.int 2))) ah))))
  aR)
 (aI (bA (ae (ag bB (jV 1) (jC (.int 1))) ah)))))))
noncomputable def pG:List D→Option (M×D):=fn 3 BP
noncomputable def d4:C.Dd:=⟨"followers",top 5,["program", "n"],["program", "n", "row"],0,none,(.c (.l (.st 2 (.ix (.v 0) (.v 1)))) (.c (.ie (.c .eq (.ix (.v 2) (.ki 0)) (.ks "end")) (.o (.l (.rt (.li .n)))) .n) (.c (.ie (.c .eq (.ix (.v 2) (.ki 0)) (.ks "go")) (.o (.l (.rt (.li (.c (.ix (.v 2) (.ki 1)) .n))))) .n) (.c (.ie (.c .eq (.ix (.v 2) (.ki 0)) (.ks "part")) (.o (.l (.rt (.li (.c (.bo .add (.v 1) (.ki 1)) (.c (.ix (.v 2) (.ki 2)) .n)))))) .n) (.o (.l (.rt (.li (.c (.bo .add (.v 1) (.ki 1)) .n)))))))))⟩
noncomputable def JL:List C.Dd:=d4::JK
noncomputable def t4:List C.FT:=.p pG::t3
theorem e4:C.tab JL=t4:=C.bJ e3 rfl rfl rfl
noncomputable def Bn:Ev→Option Fl :=
 (aI (b9 (bN (ae (aJ bq (ae (jV 0) ah)) ah)) [0] dz (aw pG (ae (jV 1) (ae (jV 0) ah)))))
noncomputable def pf:List D→Option (M×D):=fn 1 Bn
noncomputable def d5:C.Dd:=⟨"all_followers",top 6,["program"],["program"],1,none,(.o (.l (.rt (.cp (.r1 (.c (.fb .len (.c (.v 0) .n)) .n)) [0] .y (.ca 0 (.c (.v 1) (.c (.v 0) .n)))))))⟩
noncomputable def JM:List C.Dd:=d5::JL
noncomputable def t5:List C.FT:=.p pf::t4
theorem e5:C.tab JM=t5:=C.bJ e4 rfl rfl rfl
noncomputable def pJ:Ev→Option Fl :=
 (cy 1 (aQ (ae (jV 2) (ae (jV 4) ah))))
noncomputable def xt:Ev→Option Fl :=
 (cu 3 (aW (bP (jV 3)) (gN 4)
  pJ))
noncomputable def Dk:Ev→Option Fl :=
 (aj (au 1 (bA (ae (aQ (ae (cf ft (jC (.int 1))) (ae (jC (.int 0)) ah))) ah)))
 (aj (aW (eQ (ae (aw pf (ae (jV 0) ah)) ah)) (gT 2 (bx (gN 2) (bx (gN 3) cX)))
  xt)
 (aI (jV 1))))
noncomputable def tT:List D→Option (M×D):=fn 5 Dk
noncomputable def d6:C.Dd:=⟨"places",top 7,["program"],["program", "told", "n", "targets", "m"],2,none,(.c (.l (.st 1 (.li (.c (.tu (.c (.uo .neg (.ki 1)) (.c (.ki 0) .n))) .n)))) (.c (.fo (.en (.c (.ca 0 (.c (.v 0) .n)) .n)) (.t 2 (.c (.n 2) (.c (.n 3) .n))) (.o (.fz 3 (.fo (.l (.v 3)) (.n 4) (.o (.l (.ap 1 (.tu (.c (.v 2) (.c (.v 4) .n)))))))))) (.o (.l (.rt (.v 1))))))⟩
noncomputable def JN:List C.Dd:=d6::JM
noncomputable def t6:List C.FT:=.p tT::t5
theorem e6:C.tab JN=t6:=C.bJ e5 rfl rfl rfl
noncomputable def sE:Ev→Option Fl :=
 (aj (au 3 (aw mW (ae (jV 2) ah)))
 (aM (jB (ag qu (jV 3) (jC .non)))
  (iX 1 (jV 3) (jC (.bl true)))
  aR))
noncomputable def BF:Ev→Option Fl :=
 (aj (au 1 nV)
 (aj (cu 0 (aW (bP (jV 0)) (gN 2)
  sE))
 (aI (aJ qh (ae (jV 1) ah)))))
noncomputable def mZ:List D→Option (M×D):=fn 4 BF
noncomputable def d7:C.Dd:=⟨"reckonings",top 8,["program"],["program", "told", "row", "reckoning"],1,none,(.c (.l (.st 1 .dT)) (.c (.fz 0 (.fo (.l (.v 0)) (.n 2) (.c (.l (.st 3 (.ca 5 (.c (.v 2) .n)))) (.o (.ie (.c .rK (.v 3) .kn) (.o (.l (.tp 1 (.v 3) (.kb true)))) .n))))) (.o (.l (.rt (.fb .uS (.c (.v 1) .n)))))))⟩
noncomputable def JQ:List C.Dd:=d7::JN
noncomputable def t7:List C.FT:=.p mZ::t6
theorem e7:C.tab JQ=t7:=C.bJ e6 rfl rfl rfl
noncomputable def pL:Ev→Option Fl :=
 (uQ 1 (jV 4) (jV 2))
noncomputable def xu:Ev→Option Fl :=
 (cu 3 (aW (bP (jV 3)) (gN 4)
  pL))
noncomputable def Dl:Ev→Option Fl :=
 (aj (uP 1 (bN (ae (aJ bq (ae (jV 0) ah)) ah)))
 (aj (cu 0 (aW (eQ (ae (jV 0) ah)) (gT 2 (bx (gN 2) (bx (gN 3) cX)))
  xu))
 (aI (jV 1))))
noncomputable def tU:List D→Option (M×D):=fn 5 Dl
noncomputable def d8:C.Dd:=⟨"turned",top 9,["steps"],["steps", "back", "n", "targets", "m"],0,none,(.c (.l (.ne 1 (.r1 (.c (.fb .len (.c (.v 0) .n)) .n)))) (.c (.fz 0 (.fo (.en (.c (.v 0) .n)) (.t 2 (.c (.n 2) (.c (.n 3) .n))) (.o (.fz 3 (.fo (.l (.v 3)) (.n 4) (.o (.l (.na 1 (.v 4) (.v 2))))))))) (.o (.l (.rt (.v 1))))))⟩
noncomputable def JV:List C.Dd:=d8::JQ
noncomputable def t8:List C.FT:=.p tU::t7
theorem e8:C.tab JV=t8:=C.bJ e7 rfl rfl rfl
noncomputable def tD:Ev→Option Fl :=
 (aM (jB (jV 3))
  (au 1 (ag lX (jV 1) (ag lT (jC (.int 1)) (jV 2))))
  aR)
noncomputable def CL:Ev→Option Fl :=
 (aj (au 1 (jC (.int 0)))
 (aj (cu 0 (aW (eQ (ae (jV 0) ah)) (gT 2 (bx (gN 2) (bx (gN 3) cX)))
  tD))
 (aI (jV 1))))
noncomputable def pS:List D→Option (M×D):=fn 4 CL
noncomputable def d9:C.Dd:=⟨"bits_of",top 11,["truths"],["truths", "bits", "k", "there"],0,none,(.c (.l (.st 1 (.ki 0))) (.c (.fz 0 (.fo (.en (.c (.v 0) .n)) (.t 2 (.c (.n 2) (.c (.n 3) .n))) (.o (.ie (.b (.v 3)) (.o (.l (.st 1 (.bo .bor (.v 1) (.bo .shl (.ki 1) (.v 2)))))) .n)))) (.o (.l (.rt (.v 1))))))⟩
noncomputable def JW:List C.Dd:=d9::JV
noncomputable def t9:List C.FT:=.p pS::t8
theorem e9:C.tab JW=t9:=C.bJ e8 rfl rfl rfl
noncomputable def BQ:Ev→Option Fl :=
 (aI (aw pS (ae (b9 (bP (aw mZ (ae (jV 0) ah))) [] dz (jC (.bl true))) ah)))
noncomputable def pH:List D→Option (M×D):=fn 1 BQ
noncomputable def wm:C.Dd:=⟨"every_bit",top 12,["program"],["program"],2,none,(.o (.l (.rt (.ca 0 (.c (.cp (.l (.ca 2 (.c (.v 0) .n))) [] .y (.kb true)) .n)))))⟩
noncomputable def He:List C.Dd:=wm::JW
noncomputable def JX:List C.FT:=.p pH::t9
theorem Yy:C.tab He=JX:=C.bJ e9 rfl rfl rfl
noncomputable def r9:Ev→Option Fl :=
 (iX 1 (jV 3) (ag lT (jC (.int 1)) (jV 2)))
noncomputable def Bp:Ev→Option Fl :=
 (aj (au 1 nV)
 (aj (aW (eQ (ae (aw mZ (ae (jV 0) ah)) ah)) (gT 2 (bx (gN 2) (bx (gN 3) cX)))
  r9)
 (aI (b9 (bP (jV 0)) [1] dz (qg (jV 1) (aw mW (ae (jV 0) ah)) (jC (.int 0)))))))
noncomputable def sv:List D→Option (M×D):=fn 4 Bp
noncomputable def wo:C.Dd:=⟨"reckoned_bits",top 13,["program"],["program", "by_reckoning", "k", "reckoning"],2,none,(.c (.l (.st 1 .dT)) (.c (.fo (.en (.c (.ca 3 (.c (.v 0) .n)) .n)) (.t 2 (.c (.n 2) (.c (.n 3) .n))) (.o (.l (.tp 1 (.v 3) (.bo .shl (.ki 1) (.v 2)))))) (.o (.l (.rt (.cp (.l (.v 0)) [1] .y (.vX (.v 1) (.ca 9 (.c (.v 0) .n)) (.ki 0))))))))⟩
noncomputable def Hf:List C.Dd:=wo::He
noncomputable def JY:List C.FT:=.p sv::JX
theorem Yz:C.tab Hf=JY:=C.bJ Yy rfl rfl rfl
noncomputable def sg:Ev→Option Fl :=
 (aj (au 5 (aw uC (ae (jV 4) ah)))
 (aj (aM (jB (dF true (jV 5) (jV 2)))
  (cu 1 (iW 2 (jV 5) (aw pS (ae (b9 (bP (jV 1)) [4] dz (aw pR (ae (jV 1) (ae (jV 0) ah)))) ah))))
  aR)
 (cy 3 (qv (jV 2) (jV 5)))))
noncomputable def Bt:Ev→Option Fl :=
 (aj (au 1 (aw mZ (ae (jV 0) ah)))
 (aj (au 2 nG)
 (aj (au 3 (bA ah))
 (aj (cu 0 (aW (bP (jV 0)) (gN 4)
  sg))
 (aI (jV 3))))))
noncomputable def sF:List D→Option (M×D):=fn 6 Bt
noncomputable def wq:C.Dd:=⟨"changed_bits",top 14,["program"],["program", "told", "by_name", "bits", "row", "name"],2,none,(.c (.l (.st 1 (.ca 4 (.c (.v 0) .n)))) (.c (.l (.st 2 .dK)) (.c (.l (.st 3 (.li .n))) (.c (.fz 0 (.fo (.l (.v 0)) (.n 4) (.c (.l (.st 5 (.ca 9 (.c (.v 4) .n)))) (.c (.ie (.d true (.v 5) (.v 2)) (.o (.fz 1 (.l (.dp 2 (.v 5) (.ca 2 (.c (.cp (.l (.v 1)) [4] .y (.ca 8 (.c (.v 1) (.c (.v 0) .n)))) .n)))))) .n) (.o (.l (.ap 3 (.dg (.v 2) (.v 5))))))))) (.o (.l (.rt (.v 3))))))))⟩
noncomputable def Hg:List C.Dd:=wq::Hf
noncomputable def JZ:List C.FT:=.p sF::JY
theorem YB:C.tab Hg=JZ:=C.bJ Yz rfl rfl rfl
noncomputable def pM:Ev→Option Fl :=
 (aj (au 7 (ag lX (ag ak (jV 3) (jV 6)) (ag gM (ag ak (jV 3) (jV 5)) (ag ak (jV 2) (jV 6)))))
 (aM (jB (ag hU (jV 7) (ag ak (jV 3) (jV 6))))
  (aj (dB 3 (jV 6) (jV 7))
 (cy 4 (jV 6)))
  aR))
noncomputable def xv:Ev→Option Fl :=
 (aj (kM 5 4)
 (aW (bP (ag ak (jV 0) (jV 5))) (gN 6)
  pM))
noncomputable def pN:Ev→Option Bool :=
 (jB (ag gB (aJ bq (ae (jV 4) ah)) (jC (.int 0))))
noncomputable def Dm:Ev→Option Fl :=
 (aj (au 3 (aJ lI (ae (jV 1) ah)))
 (aj (au 4 (vU (ae (aJ bq (ae (jV 1) ah)) ah)))
 (aj (gi pN
  xv)
 (aI (jV 3)))))
noncomputable def tV:List D→Option (M×D):=fn 8 Dm
noncomputable def wt:C.Dd:=⟨"spread",top 15,["steps", "made", "passed"],["steps", "made", "passed", "told", "waiting", "n", "m", "more"],0,none,(.c (.l (.st 3 (.fb .list (.c (.v 1) .n)))) (.c (.l (.st 4 (.lr (.c (.fb .len (.c (.v 1) .n)) .n)))) (.c (.wh (.c .gt (.fb .len (.c (.v 4) .n)) (.ki 0)) (.c (.l (.po 5 4)) (.o (.fo (.l (.ix (.v 0) (.v 5))) (.n 6) (.c (.l (.st 7 (.bo .bor (.ix (.v 3) (.v 6)) (.bo .band (.ix (.v 3) (.v 5)) (.ix (.v 2) (.v 6)))))) (.o (.ie (.c .ne (.v 7) (.ix (.v 3) (.v 6))) (.c (.l (.si 3 (.v 6) (.v 7))) (.o (.l (.ap 4 (.v 6))))) .n))))))) (.o (.l (.rt (.v 3)))))))⟩
noncomputable def Hh:List C.Dd:=wt::Hg
noncomputable def J0:List C.FT:=.p tV::JZ
theorem YC:C.tab Hh=J0:=C.bJ YB rfl rfl rfl
noncomputable def se:Ev→Option Fl :=
 (cy 4 (n9 (jB (ag aN (ag ak (jV 6) (jC (.int 0))) (jC (.str "end")))) (ag ak (jV 2) (jV 5)) (ag gM (ag ak (jV 2) (jV 5)) (ag ak (jV 3) (jV 5)))))
noncomputable def Bq:Ev→Option Fl :=
 (aj (au 1 (aw pH (ae (jV 0) ah)))
 (aj (au 2 (b9 (bP (aw sv (ae (jV 0) ah))) [1] dz (ag gM (jV 1) (cf kN (jV 0)))))
 (aj (au 3 (aw sF (ae (jV 0) ah)))
 (aj (au 4 (bA ah))
 (aj (cu 0 (aW (eQ (ae (jV 0) ah)) (gT 2 (bx (gN 5) (bx (gN 6) cX)))
  se))
 (aI (aw tV (ae (aw tU (ae (aw pf (ae (jV 0) ah)) ah)) (ae (jV 4) (ae (jV 2) ah))))))))))
noncomputable def sx:List D→Option (M×D):=fn 7 Bq
noncomputable def wu:C.Dd:=⟨"unwanted_bits",top 18,["program"],["program", "every", "passed", "stopping", "made", "n", "row"],3,none,(.c (.l (.st 1 (.ca 3 (.c (.v 0) .n)))) (.c (.l (.sc 2 (.l (.ca 2 (.c (.v 0) .n))) [1] .y (.bo .band (.v 1) (.uo .inv (.v 0))))) (.c (.l (.st 3 (.ca 1 (.c (.v 0) .n)))) (.c (.l (.st 4 (.li .n))) (.c (.fz 0 (.fo (.en (.c (.v 0) .n)) (.t 2 (.c (.n 5) (.c (.n 6) .n))) (.o (.l (.ap 4 (.ie (.c .eq (.ix (.v 6) (.ki 0)) (.ks "end")) (.ix (.v 2) (.v 5)) (.bo .band (.ix (.v 2) (.v 5)) (.ix (.v 3) (.v 5))))))))) (.o (.l (.rt (.ca 0 (.c (.ca 5 (.c (.ca 8 (.c (.v 0) .n)) .n)) (.c (.v 4) (.c (.v 2) .n))))))))))))⟩
noncomputable def Hi:List C.Dd:=wu::Hh
noncomputable def J1:List C.FT:=.p sx::J0
theorem YD:C.tab Hi=J1:=C.bJ YC rfl rfl rfl
noncomputable def tK:Ev→Option Fl :=
 (iX 3 (jV 4) (ag gM (jV 1) (cf kN (ag ak (jV 2) (ag ak (jV 4) (jC (.int 1)))))))
noncomputable def Dp:Ev→Option Fl :=
 (aj (au 1 (aw pH (ae (jV 0) ah)))
 (aj (au 2 (aw sx (ae (jV 0) ah)))
 (aj (au 3 nV)
 (aj (aW (bP (aw tT (ae (jV 0) ah))) (gN 4)
  tK)
 (aI (jV 3))))))
noncomputable def ly:List D→Option (M×D):=fn 5 Dp
noncomputable def wx:C.Dd:=⟨"wanted",top 17,["program"],["program", "every", "missing", "told", "place"],4,none,(.c (.l (.st 1 (.ca 4 (.c (.v 0) .n)))) (.c (.l (.st 2 (.ca 0 (.c (.v 0) .n)))) (.c (.l (.st 3 .dT)) (.c (.fo (.l (.ca 8 (.c (.v 0) .n))) (.n 4) (.o (.l (.tp 3 (.v 4) (.bo .band (.v 1) (.uo .inv (.ix (.v 2) (.ix (.v 4) (.ki 1))))))))) (.o (.l (.rt (.v 3))))))))⟩
noncomputable def Hj:List C.Dd:=wx::Hi
noncomputable def J2:List C.FT:=.p ly::J1
theorem YF:C.tab Hj=J2:=C.bJ YD rfl rfl rfl
noncomputable def Cb:Ev→Option Fl :=
 (aj (aM (jB (ag fw (jV 1) (aJ bq (ae (jV 0) ah))))
  (aI (ag ak (jV 0) (jV 1)))
  aR)
 (aI (ag bB (ag dZ (jV 1) (jC (.int 7919))) (jC (.int 11)))))
noncomputable def iO:List D→Option (M×D):=fn 2 Cb
noncomputable def wy:C.Dd:=⟨"_law_cell",top 20,["_law_script", "_law_k"],["_law_script", "_law_k"],0,none,(.c (.ie (.c .lt (.v 1) (.fb .len (.c (.v 0) .n))) (.o (.l (.rt (.ix (.v 0) (.v 1))))) .n) (.o (.l (.rt (.bo .add (.bo .mul (.v 1) (.ki 7919)) (.ki 11))))))⟩
noncomputable def Hk:List C.Dd:=wy::Hj
noncomputable def J3:List C.FT:=.p iO::J2
theorem YG:C.tab Hk=J3:=C.bJ YF rfl rfl rfl
noncomputable def BR:Ev→Option Fl :=
 (aI (ag aS (ag dZ (ag bB (ag bB (jV 0) (ag dZ (jC (.int 7)) (jV 1))) (jC (.int 11))) (jC (.int 2862933555777941757))) (jC (.int 999999999999999989))))
noncomputable def iN:List D→Option (M×D):=fn 2 BR
noncomputable def wz:C.Dd:=⟨"_law_mixed",top 21,["_law_cell_here", "_law_k"],["_law_cell_here", "_law_k"],0,none,(.o (.l (.rt (.bo .mod (.bo .mul (.bo .add (.bo .add (.v 0) (.bo .mul (.ki 7) (.v 1))) (.ki 11)) (.ki 2862933555777941757)) (.ki 999999999999999989)))))⟩
noncomputable def Hl:List C.Dd:=wz::Hk
noncomputable def J4:List C.FT:=.p iN::J3
theorem YH:C.tab Hl=J4:=C.bJ YG rfl rfl rfl
noncomputable def Bw:Ev→Option Fl :=
 (aI (ag aN (ag aS (aw iO (ae (jV 0) (ae (jC (.int 0)) ah))) (jC (.int 2))) (jC (.int 1))))
noncomputable def mX:List D→Option (M×D):=fn 1 Bw
noncomputable def wA:C.Dd:=⟨"_law_is_free",top 22,["_law_script"],["_law_script"],1,none,(.o (.l (.rt (.co .eq (.bo .mod (.ca 1 (.c (.v 0) (.c (.ki 0) .n))) (.ki 2)) (.ki 1)))))⟩
noncomputable def Hm:List C.Dd:=wA::Hl
noncomputable def J5:List C.FT:=.p mX::J4
theorem YJ:C.tab Hm=J5:=C.bJ YH rfl rfl rfl
noncomputable def pA:Ev→Option Fl :=
 (aj (au 8 (ag bB (ag bW (ag bW (jV 0) (jC (.int 192))) (ag bB (jV 7) (jC (.int 1)))) (ag dZ (jC (.int 5)) (jV 7))))
 (aM (cC (jB (ag aN (jV 7) (jV 3))) (jB (ag aN (jV 7) (jC (.int 0)))))
  (au 6 (ag bB (jV 6) (ag ak (jV 1) (ag aS (ag bB (jV 8) (ag dZ (jV 5) (aJ kK (ae (ag aN (jV 7) (jV 3)) ah)))) (jC (.int 26))))))
  (au 6 (ag bB (jV 6) (ag ak (ag bB (jV 1) (jC (.str "0123456789"))) (ag aS (jV 8) (jC (.int 36))))))))
noncomputable def sN:Ev→Option Fl :=
 (aj (au 6 (jC (.str "")))
 (aj (aW (bN (ae (jV 2) ah)) (gN 7)
  pA)
 (aj (aM (jB (ag (dM false) (jV 6) (aQ (ae (jC (.str "say")) (ae (jC (.str "go")) (ae (jC (.str "part")) (ae (jC (.str "end")) ah)))))))
  (au 6 (ag bB (jV 6) (jC (.str "1"))))
  aR)
 (cy 4 (jV 6)))))
noncomputable def BU:Ev→Option Fl :=
 (aj (au 1 (jC (.str "abcdefghijklmnopqrstuvwxyz")))
 (aj (au 0 (aw iN (ae (jV 0) (ae (jC (.int 3)) ah))))
 (aj (au 2 (ag bB (jC (.int 1)) (ag aS (jV 0) (jC (.int 8)))))
 (aj (au 3 (ag aS (ag bW (jV 0) (jC (.int 8))) (jV 2)))
 (aj (au 4 (bA ah))
 (aj (aW (bN (ae (ag bB (jC (.int 3)) (ag aS (ag bW (jV 0) (jC (.int 64))) (jC (.int 3)))) ah)) (gN 5)
  sN)
 (aI (jV 4))))))))
noncomputable def m5:List D→Option (M×D):=fn 9 BU
noncomputable def wB:C.Dd:=⟨"_law_names",top 23,["_law_cell_here"],["_law_cell_here", "_law_signs", "_law_size", "_law_at", "_law_names_here", "_law_k", "_law_name", "_law_j", "_law_step"],1,none,(.c (.l (.st 1 (.ks "abcdefghijklmnopqrstuvwxyz"))) (.c (.l (.st 0 (.ca 1 (.c (.v 0) (.c (.ki 3) .n))))) (.c (.l (.st 2 (.bo .add (.ki 1) (.bo .mod (.v 0) (.ki 8))))) (.c (.l (.st 3 (.bo .mod (.bo .div (.v 0) (.ki 8)) (.v 2)))) (.c (.l (.st 4 (.li .n))) (.c (.fo (.r1 (.c (.bo .add (.ki 3) (.bo .mod (.bo .div (.v 0) (.ki 64)) (.ki 3))) .n)) (.n 5) (.c (.l (.st 6 (.ks ""))) (.c (.fo (.r1 (.c (.v 2) .n)) (.n 7) (.c (.l (.st 8 (.bo .add (.bo .div (.bo .div (.v 0) (.ki 192)) (.bo .add (.v 7) (.ki 1))) (.bo .mul (.ki 5) (.v 7))))) (.o (.ie (.or (.c .eq (.v 7) (.v 3)) (.c .eq (.v 7) (.ki 0))) (.o (.l (.st 6 (.bo .add (.v 6) (.ix (.v 1) (.bo .mod (.bo .add (.v 8) (.bo .mul (.v 5) (.fb .int (.c (.co .eq (.v 7) (.v 3)) .n)))) (.ki 26))))))) (.o (.l (.st 6 (.bo .add (.v 6) (.ix (.bo .add (.v 1) (.ks "0123456789")) (.bo .mod (.v 8) (.ki 36))))))))))) (.c (.ie (.c .k9 (.v 6) (.tu (.c (.ks "say") (.c (.ks "go") (.c (.ks "part") (.c (.ks "end") .n)))))) (.o (.l (.st 6 (.bo .add (.v 6) (.ks "1"))))) .n) (.o (.l (.ap 4 (.v 6)))))))) (.o (.l (.rt (.v 4))))))))))⟩
noncomputable def Hn:List C.Dd:=wB::Hm
noncomputable def J6:List C.FT:=.p m5::J5
theorem YK:C.tab Hn=J6:=C.bJ YJ rfl rfl rfl
noncomputable def Bx:Ev→Option Fl :=
 (aj (aM (jB (ag aN (ag aS (jV 0) (jC (.int 6))) (jC (.int 0))))
  (aI (ag ak (bA (ae (jC (.int 0)) (ae (jC (.int 1)) (ae (ag gR (ag gn (jC (.int 2)) (jC (.int 64))) (jC (.int 1))) (ae (ag aS (ag dZ (ag bW (jV 0) (jC (.int 24))) (jC (.int 48271))) (ag gn (jC (.int 2)) (jC (.int 64)))) ah))))) (ag aS (ag bW (jV 0) (jC (.int 6))) (jC (.int 4)))))
  aR)
 (aI (ag ak (jV 1) (ag aS (ag bW (jV 0) (jC (.int 6))) (aJ bq (ae (jV 1) ah))))))
noncomputable def hZ:List D→Option (M×D):=fn 2 Bx
noncomputable def wC:C.Dd:=⟨"_law_operand",top 24,["_law_cell_here", "_law_names_here"],["_law_cell_here", "_law_names_here"],0,none,(.c (.ie (.c .eq (.bo .mod (.v 0) (.ki 6)) (.ki 0)) (.o (.l (.rt (.ix (.li (.c (.ki 0) (.c (.ki 1) (.c (.bo .sub (.bo .pow (.ki 2) (.ki 64)) (.ki 1)) (.c (.bo .mod (.bo .mul (.bo .div (.v 0) (.ki 24)) (.ki 48271)) (.bo .pow (.ki 2) (.ki 64))) .n))))) (.bo .mod (.bo .div (.v 0) (.ki 6)) (.ki 4)))))) .n) (.o (.l (.rt (.ix (.v 1) (.bo .mod (.bo .div (.v 0) (.ki 6)) (.fb .len (.c (.v 1) .n))))))))⟩
noncomputable def Ho:List C.Dd:=wC::Hn
noncomputable def J7:List C.FT:=.p hZ::J6
theorem YL:C.tab Ho=J7:=C.bJ YK rfl rfl rfl
noncomputable def sO:Ev→Option Fl :=
 (aj (au 7 (aw iN (ae (jV 4) (ae (jV 6) ah))))
 (aj (au 8 (aw iN (ae (jV 4) (ae (ag bB (jV 6) (jC (.int 20))) ah))))
 (aj (au 9 (ag aS (aw iN (ae (jV 4) (ae (ag bB (jV 6) (jC (.int 40))) ah))) (jC (.int 8))))
 (aj (aM (jB (aw mX (ae (jV 0) ah)))
  (aj (au 7 (ag aS (jV 4) (ag gn (jC (.int 10)) (jC (.int 21)))))
 (aj (au 8 (ag aS (ag bW (jV 4) (ag gn (jC (.int 10)) (jC (.int 21)))) (ag gn (jC (.int 10)) (jC (.int 21)))))
 (aj (au 9 (ag aS (ag bW (jV 4) (ag gn (jC (.int 10)) (jC (.int 42)))) (jC (.int 8))))
 (au 4 (ag bW (jV 4) (ag dZ (jC (.int 8)) (ag gn (jC (.int 10)) (jC (.int 42)))))))))
  aR)
 (cy 5 (aQ (ae (ag ak (jC (.str "+-*&|^<=")) (jV 9)) (ae (aw hZ (ae (jV 7) (ae (jV 1) ah))) (ae (aw hZ (ae (jV 8) (ae (jV 1) ah))) ah)))))))))
noncomputable def BV:Ev→Option Fl :=
 (aj (au 2 (aw iO (ae (jV 0) (ae (jC (.int 1)) ah))))
 (aj (au 3 (ag bB (jC (.int 1)) (ag aS (jV 2) (jC (.int 4)))))
 (aj (aM (jB (ag aN (ag aS (ag bW (jV 2) (jC (.int 4))) (jC (.int 6))) (jC (.int 1))))
  (au 3 (jC (.int 12)))
  aR)
 (aj (au 4 (ag bW (jV 2) (jC (.int 24))))
 (aj (au 5 (bA ah))
 (aj (aW (bN (ae (jV 3) ah)) (gN 6)
  sO)
 (aj (aM (cZ (jB (ag aN (aJ bq (ae (jV 5) ah)) (jC (.int 2)))) (jB (ag aN (ag aS (ag bW (jV 2) (jC (.int 4))) (jC (.int 3))) (jC (.int 0)))))
  (dB 5 (jC (.int 1)) (aQ (ae (ag ak (ag ak (jV 5) (jC (.int 0))) (jC (.int 0))) (ae (ag ak (ag ak (jV 5) (jC (.int 0))) (jC (.int 2))) (ae (ag ak (ag ak (jV 5) (jC (.int 0))) (jC (.int 1))) ah)))))
  aR)
 (aI (jV 5)))))))))
noncomputable def m6:List D→Option (M×D):=fn 10 BV
noncomputable def wD:C.Dd:=⟨"_law_deeds",top 25,["_law_script", "_law_names_here"],["_law_script", "_law_names_here", "_law_cell_here", "_law_many", "_law_rest", "_law_found", "_law_k", "_law_one", "_law_other", "_law_sign"],2,none,(.c (.l (.st 2 (.ca 4 (.c (.v 0) (.c (.ki 1) .n))))) (.c (.l (.st 3 (.bo .add (.ki 1) (.bo .mod (.v 2) (.ki 4))))) (.c (.ie (.c .eq (.bo .mod (.bo .div (.v 2) (.ki 4)) (.ki 6)) (.ki 1)) (.o (.l (.st 3 (.ki 12)))) .n) (.c (.l (.st 4 (.bo .div (.v 2) (.ki 24)))) (.c (.l (.st 5 (.li .n))) (.c (.fo (.r1 (.c (.v 3) .n)) (.n 6) (.c (.l (.st 7 (.ca 3 (.c (.v 4) (.c (.v 6) .n))))) (.c (.l (.st 8 (.ca 3 (.c (.v 4) (.c (.bo .add (.v 6) (.ki 20)) .n))))) (.c (.l (.st 9 (.bo .mod (.ca 3 (.c (.v 4) (.c (.bo .add (.v 6) (.ki 40)) .n))) (.ki 8)))) (.c (.ie (.b (.ca 2 (.c (.v 0) .n))) (.c (.l (.st 7 (.bo .mod (.v 4) (.bo .pow (.ki 10) (.ki 21))))) (.c (.l (.st 8 (.bo .mod (.bo .div (.v 4) (.bo .pow (.ki 10) (.ki 21))) (.bo .pow (.ki 10) (.ki 21))))) (.c (.l (.st 9 (.bo .mod (.bo .div (.v 4) (.bo .pow (.ki 10) (.ki 42))) (.ki 8)))) (.o (.l (.st 4 (.bo .div (.v 4) (.bo .mul (.ki 8) (.bo .pow (.ki 10) (.ki 42)))))))))) .n) (.o (.l (.ap 5 (.tu (.c (.ix (.ks "+-*&|^<=") (.v 9)) (.c (.ca 0 (.c (.v 7) (.c (.v 1) .n))) (.c (.ca 0 (.c (.v 8) (.c (.v 1) .n))) .n)))))))))))) (.c (.ie (.an (.c .eq (.fb .len (.c (.v 5) .n)) (.ki 2)) (.c .eq (.bo .mod (.bo .div (.v 2) (.ki 4)) (.ki 3)) (.ki 0))) (.o (.l (.si 5 (.ki 1) (.tu (.c (.ix (.ix (.v 5) (.ki 0)) (.ki 0)) (.c (.ix (.ix (.v 5) (.ki 0)) (.ki 2)) (.c (.ix (.ix (.v 5) (.ki 0)) (.ki 1)) .n))))))) .n) (.o (.l (.rt (.v 5)))))))))))⟩
noncomputable def Hq:List C.Dd:=wD::Ho
noncomputable def J8:List C.FT:=.p m6::J7
theorem YM:C.tab Hq=J8:=C.bJ YL rfl rfl rfl
noncomputable def CM:Ev→Option Fl :=
 (aj (au 4 (ag ak (jV 2) (ag aS (ag aS (jV 1) (jC (.int 60))) (aJ bq (ae (jV 2) ah)))))
 (aj (au 5 (aw hZ (ae (ag bW (jV 1) (jC (.int 43200))) (ae (jV 2) ah))))
 (aj (aM (jB (ag fw (ag aS (jV 0) (jC (.int 11))) (jC (.int 5))))
  (aj (lW (gT 3 (bx (gN 6) (bx (gN 7) (bx (gN 8) cX)))) (ag ak (jV 3) (ag aS (ag aS (ag bW (jV 1) (jC (.int 60))) (jC (.int 12))) (aJ bq (ae (jV 3) ah)))))
 (aI (aQ (ae (jC (.str "reckon")) (ae (jV 4) (ae (jV 6) (ae (jV 7) (ae (jV 8) ah))))))))
  aR)
 (aj (aM (jB (ag aN (ag aS (jV 0) (jC (.int 11))) (jC (.int 5))))
  (aI (aQ (ae (jC (.str "copy")) (ae (jV 4) (ae (jV 5) ah)))))
  aR)
 (aj (aM (jB (ag aN (ag aS (jV 0) (jC (.int 11))) (jC (.int 6))))
  (aI (aQ (ae (jC (.str "say")) (ae (jV 5) ah))))
  aR)
 (aj (aM (jB (ag fw (ag aS (jV 0) (jC (.int 11))) (jC (.int 9))))
  (aI (aQ (ae (jC (.str "part")) (ae (jV 5) (ae (ag aS (ag bW (jV 1) (jC (.int 720))) (jC (.int 60))) ah)))))
  aR)
 (aI (aQ (ae (jC (.str "part")) (ae (jV 5) (ae (cf ft (jC (.int 1))) ah)))))))))))
noncomputable def pT:List D→Option (M×D):=fn 9 CM
noncomputable def wF:C.Dd:=⟨"_law_row",top 26,["_law_cell_here", "_law_other", "_law_names_here", "_law_deeds_here"],["_law_cell_here", "_law_other", "_law_names_here", "_law_deeds_here", "_law_name", "_law_operand_here", "_law_s", "_law_a", "_law_b"],1,none,(.c (.l (.st 4 (.ix (.v 2) (.bo .mod (.bo .mod (.v 1) (.ki 60)) (.fb .len (.c (.v 2) .n)))))) (.c (.l (.st 5 (.ca 1 (.c (.bo .div (.v 1) (.ki 43200)) (.c (.v 2) .n))))) (.c (.ie (.c .lt (.bo .mod (.v 0) (.ki 11)) (.ki 5)) (.c (.l (.as (.t 3 (.c (.n 6) (.c (.n 7) (.c (.n 8) .n)))) (.ix (.v 3) (.bo .mod (.bo .mod (.bo .div (.v 1) (.ki 60)) (.ki 12)) (.fb .len (.c (.v 3) .n)))))) (.o (.l (.rt (.tu (.c (.ks "reckon") (.c (.v 4) (.c (.v 6) (.c (.v 7) (.c (.v 8) .n)))))))))) .n) (.c (.ie (.c .eq (.bo .mod (.v 0) (.ki 11)) (.ki 5)) (.o (.l (.rt (.tu (.c (.ks "copy") (.c (.v 4) (.c (.v 5) .n))))))) .n) (.c (.ie (.c .eq (.bo .mod (.v 0) (.ki 11)) (.ki 6)) (.o (.l (.rt (.tu (.c (.ks "say") (.c (.v 5) .n)))))) .n) (.c (.ie (.c .lt (.bo .mod (.v 0) (.ki 11)) (.ki 9)) (.o (.l (.rt (.tu (.c (.ks "part") (.c (.v 5) (.c (.bo .mod (.bo .div (.v 1) (.ki 720)) (.ki 60)) .n))))))) .n) (.o (.l (.rt (.tu (.c (.ks "part") (.c (.v 5) (.c (.uo .neg (.ki 1)) .n)))))))))))))⟩
noncomputable def Hr:List C.Dd:=wF::Hq
noncomputable def J9:List C.FT:=.p pT::J8
theorem YN:C.tab Hr=J9:=C.bJ YM rfl rfl rfl
noncomputable def Cd:Ev→Option Fl :=
 (aj (au 2 (b9 (bN (ae (aJ bq (ae (jV 0) ah)) ah)) [0] (jB (ag aN (ag ak (ag ak (jV 1) (jV 0)) (jC (.int 0))) (jC (.str "end")))) (jV 0)))
 (aj (aM (cC (jB (ag gp (jV 2) (bA ah))) (jB (ag gB (ag aS (jV 1) (jC (.int 3))) (jC (.int 0)))))
  (aI (aQ (ae (jC (.str "end")) ah)))
  aR)
 (aI (aQ (ae (jC (.str "go")) (ae (ag aS (ag bW (jV 1) (jC (.int 3))) (ag ak (jV 2) (jC (.int 0)))) ah))))))
noncomputable def tL:List D→Option (M×D):=fn 3 Cd
noncomputable def wG:C.Dd:=⟨"_law_last",top 27,["_law_rows", "_law_number_here"],["_law_rows", "_law_number_here", "_law_ends"],0,none,(.c (.l (.sc 2 (.r1 (.c (.fb .len (.c (.v 0) .n)) .n)) [0] (.c .eq (.ix (.ix (.v 1) (.v 0)) (.ki 0)) (.ks "end")) (.v 0))) (.c (.ie (.or (.c .oQ (.v 2) (.li .n)) (.c .gt (.bo .mod (.v 1) (.ki 3)) (.ki 0))) (.o (.l (.rt (.tu (.c (.ks "end") .n))))) .n) (.o (.l (.rt (.tu (.c (.ks "go") (.c (.bo .mod (.bo .div (.v 1) (.ki 3)) (.ix (.v 2) (.ki 0))) .n))))))))⟩
noncomputable def Hs:List C.Dd:=wG::Hr
noncomputable def Ka:List C.FT:=.p tL::J9
theorem YQ:C.tab Hs=Ka:=C.bJ YN rfl rfl rfl
noncomputable def BG:Ev→Option Fl :=
 (aj (aM (jB (aw mX (ae (jV 0) ah)))
  (aI (aw iO (ae (jV 0) (ae (jV 1) ah))))
  aR)
 (aI (aw iN (ae (aJ qK (ae (fA f9 (jV 0) gS (dJ (jC (.int 4)))) ah)) (ae (jV 1) ah)))))
noncomputable def m3:List D→Option (M×D):=fn 2 BG
noncomputable def wH:C.Dd:=⟨"_law_number",top 29,["_law_script", "_law_k"],["_law_script", "_law_k"],2,none,(.c (.ie (.b (.ca 5 (.c (.v 0) .n))) (.o (.l (.rt (.ca 7 (.c (.v 0) (.c (.v 1) .n)))))) .n) (.o (.l (.rt (.ca 6 (.c (.fb .sum (.c (.sl (.v 0) .n (.s (.ki 4))) .n)) (.c (.v 1) .n)))))))⟩
noncomputable def Ht:List C.Dd:=wH::Hs
noncomputable def Kc:List C.FT:=.p m3::Ka
theorem YR:C.tab Ht=Kc:=C.bJ YQ rfl rfl rfl
noncomputable def sQ:Ev→Option Fl :=
 (aj (au 7 (aw iN (ae (jV 6) (ae (jV 5) ah))))
 (aj (cy 4 (aw pT (ae (jV 6) (ae (jV 7) (ae (jV 2) (ae (jV 3) ah))))))
 (aj (aM (jB (ag aN (ag aS (jV 6) (jC (.int 11))) (jC (.int 9))))
  (cy 4 (aQ (ae (jC (.str "end")) ah)))
  aR)
 (aM (jB (ag aN (ag aS (jV 6) (jC (.int 11))) (jC (.int 10))))
  (cy 4 (aQ (ae (jC (.str "go")) (ae (ag aS (ag bW (jV 7) (jC (.int 720))) (jC (.int 60))) ah))))
  aR))))
noncomputable def BW:Ev→Option Fl :=
 (aj (au 2 (aw m5 (ae (aw iO (ae (jV 0) (ae (jC (.int 0)) ah))) ah)))
 (aj (au 3 (aw m6 (ae (jV 0) (ae (jV 2) ah))))
 (aj (au 4 (bA ah))
 (aj (cu 1 (aW (eQ (ae (jV 1) ah)) (gT 2 (bx (gN 5) (bx (gN 6) cX)))
  sQ))
 (aI (ag bB (jV 4) (bA (ae (aw tL (ae (jV 4) (ae (aw m3 (ae (jV 0) (ae (jC (.int 58)) ah))) ah))) ah))))))))
noncomputable def tE:List D→Option (M×D):=fn 8 BW
noncomputable def wI:C.Dd:=⟨"_law_rough",top 28,["_law_script", "_law_cells"],["_law_script", "_law_cells", "_law_names_here", "_law_deeds_here", "_law_rows", "_law_k", "_law_cell_here", "_law_other"],3,none,(.c (.l (.st 2 (.ca 5 (.c (.ca 8 (.c (.v 0) (.c (.ki 0) .n))) .n)))) (.c (.l (.st 3 (.ca 3 (.c (.v 0) (.c (.v 2) .n))))) (.c (.l (.st 4 (.li .n))) (.c (.fz 1 (.fo (.en (.c (.v 1) .n)) (.t 2 (.c (.n 5) (.c (.n 6) .n))) (.c (.l (.st 7 (.ca 7 (.c (.v 6) (.c (.v 5) .n))))) (.c (.l (.ap 4 (.ca 2 (.c (.v 6) (.c (.v 7) (.c (.v 2) (.c (.v 3) .n))))))) (.c (.ie (.c .eq (.bo .mod (.v 6) (.ki 11)) (.ki 9)) (.o (.l (.ap 4 (.tu (.c (.ks "end") .n))))) .n) (.o (.ie (.c .eq (.bo .mod (.v 6) (.ki 11)) (.ki 10)) (.o (.l (.ap 4 (.tu (.c (.ks "go") (.c (.bo .mod (.bo .div (.v 7) (.ki 720)) (.ki 60)) .n)))))) .n))))))) (.o (.l (.rt (.bo .add (.v 4) (.li (.c (.ca 1 (.c (.v 4) (.c (.ca 0 (.c (.v 0) (.c (.ki 58) .n))) .n))) .n))))))))))⟩
noncomputable def Hu:List C.Dd:=wI::Ht
noncomputable def Kd:List C.FT:=.p tE::Kc
theorem YS:C.tab Hu=Kd:=C.bJ YR rfl rfl rfl
noncomputable def xq:Ev→Option Fl :=
 (au 1 (ag gR (jV 1) (jC (.int 1))))
noncomputable def sY:Ev→Option Bool :=
 (jB (ag aN (ag ak (ag ak (jV 0) (jV 1)) (jC (.int 0))) (jC (.str "go"))))
noncomputable def Ce:Ev→Option Fl :=
 (aj (au 1 (ag aS (jV 1) (aJ bq (ae (jV 0) ah))))
 (aj (gi sY
  xq)
 (aI (jV 1))))
noncomputable def tM:List D→Option (M×D):=fn 2 Ce
noncomputable def wJ:C.Dd:=⟨"_law_goal",top 30,["_law_rough_here", "_law_to"],["_law_rough_here", "_law_to"],0,none,(.c (.l (.st 1 (.bo .mod (.v 1) (.fb .len (.c (.v 0) .n))))) (.c (.wh (.c .eq (.ix (.ix (.v 0) (.v 1)) (.ki 0)) (.ks "go")) (.o (.l (.st 1 (.bo .sub (.v 1) (.ki 1)))))) (.o (.l (.rt (.v 1))))))⟩
noncomputable def Hv:List C.Dd:=wJ::Hu
noncomputable def Ke:List C.FT:=.p tM::Kd
theorem YT:C.tab Hv=Ke:=C.bJ YS rfl rfl rfl
noncomputable def Bl:Ev→Option Fl :=
 (aj (au 2 (b9 (qH (ae (jC (.int 2)) (ae (aJ bq (ae (jV 0) ah)) ah))) [0] (jB (ag (dM false) (ag ak (ag ak (jV 1) (jV 0)) (jC (.int 0))) (aQ (ae (jC (.str "reckon")) (ae (jC (.str "copy")) (ae (jC (.str "say")) ah)))))) (jV 0)))
 (aj (aM (cC (jB (ag gp (jV 2) (bA ah))) (jB (ag (dM true) (ag ak (ag ak (jV 0) (jC (.int 0))) (jC (.int 0))) (aQ (ae (jC (.str "reckon")) (ae (jC (.str "copy")) (ae (jC (.str "say")) ah)))))))
  (aI (jV 0))
  aR)
 (aj (au 3 (ag ak (jV 2) (ag aS (ag bW (jV 1) (jC (.int 4))) (aJ bq (ae (jV 2) ah)))))
 (aj (dB 0 (jV 3) (aQ (ae (jC (.str "part")) (ae (ag ak (ag ak (jV 0) (jV 3)) (jC (.int 1))) (ae (jC (.int 1)) ah)))))
 (aj (dB 0 (jC (.int 0)) (aQ (ae (jC (.str "go")) (ae (jV 3) ah))))
 (aI (jV 0)))))))
noncomputable def sj:List D→Option D:=i7 4 Bl
noncomputable def wK:C.Dd:=⟨"_law_with_while",top 31,["_law_rows", "_law_cell_here"],["_law_rows", "_law_cell_here", "_law_flat", "_law_last_here"],0,some [],(.c (.l (.sc 2 (.r2 (.c (.ki 2) (.c (.fb .len (.c (.v 0) .n)) .n))) [0] (.c .k9 (.ix (.ix (.v 1) (.v 0)) (.ki 0)) (.tu (.c (.ks "reckon") (.c (.ks "copy") (.c (.ks "say") .n))))) (.v 0))) (.c (.ie (.or (.c .oQ (.v 2) (.li .n)) (.c .vV (.ix (.ix (.v 0) (.ki 0)) (.ki 0)) (.tu (.c (.ks "reckon") (.c (.ks "copy") (.c (.ks "say") .n)))))) (.o (.l (.rt (.v 0)))) .n) (.c (.l (.st 3 (.ix (.v 2) (.bo .mod (.bo .div (.v 1) (.ki 4)) (.fb .len (.c (.v 2) .n)))))) (.c (.l (.si 0 (.v 3) (.tu (.c (.ks "part") (.c (.ix (.ix (.v 0) (.v 3)) (.ki 1)) (.c (.ki 1) .n)))))) (.c (.l (.si 0 (.ki 0) (.tu (.c (.ks "go") (.c (.v 3) .n))))) (.o (.l (.rt (.v 0)))))))))⟩
noncomputable def Hw:List C.Dd:=wK::Hv
noncomputable def Kf:List C.FT:=.oo sj::Ke
theorem YV:C.tab Hw=Kf:=C.yC YT rfl rfl rfl
noncomputable def Br:Ev→Option Fl :=
 (aj (au 2 (b9 (bN (ae (aJ bq (ae (jV 0) ah)) ah)) [0] (jB (ag (dM false) (ag ak (ag ak (jV 1) (jV 0)) (jC (.int 0))) (aQ (ae (jC (.str "reckon")) (ae (jC (.str "copy")) (ae (jC (.str "say")) ah)))))) (jV 0)))
 (aj (aM (jB (ag aN (ag aS (jV 1) (jC (.int 4))) (jC (.int 3))))
  (jE [0] [(0,0),(1,1)] sj (ae (jV 0) (ae (jV 1) ah)))
  aR)
 (aj (aM (cC (jB (ag fw (aJ bq (ae (jV 2) ah)) (jC (.int 2)))) (jB (ag aN (ag aS (jV 1) (jC (.int 2))) (jC (.int 0)))))
  (aI (jV 0))
  aR)
 (aj (au 3 (ag ak (jV 2) (ag aS (ag bW (jV 1) (jC (.int 4))) (ag gR (aJ bq (ae (jV 2) ah)) (jC (.int 1))))))
 (aj (cu 2 (au 4 (b9 (bP (jV 2)) [3] (jB (ag gB (jV 0) (jV 1))) (jV 0))))
 (aj (au 5 (ag ak (jV 4) (ag aS (ag bW (jV 1) (jC (.int 256))) (aJ bq (ae (jV 4) ah)))))
 (aj (au 6 (ag aS (ag bW (jV 1) (jC (.int 16384))) (aJ bq (ae (jV 0) ah))))
 (aj (aM (jB (ag aN (ag ak (ag ak (jV 0) (cf ft (jC (.int 1)))) (jC (.int 0))) (jC (.str "go"))))
  (au 6 (ag aS (jV 6) (ag bB (jV 3) (jC (.int 1)))))
  aR)
 (aj (aM (jB (nC fw oK (jV 3) (jV 6) (jV 5)))
  (au 6 (ag bB (jV 5) (jC (.int 1))))
  aR)
 (aj (aM (jB (ag aN (ag ak (ag ak (jV 0) (jV 6)) (jC (.int 0))) (jC (.str "go"))))
  (au 6 (jC (.int 0)))
  aR)
 (aj (dB 0 (jV 3) (aQ (ae (jC (.str "part")) (ae (ag ak (ag ak (jV 0) (jV 3)) (jC (.int 1))) (ae (ag bB (jV 5) (jC (.int 1))) ah)))))
 (aj (dB 0 (jV 5) (aQ (ae (jC (.str "go")) (ae (jV 6) ah))))
 (aI (jV 0))))))))))))))
noncomputable def sC:List D→Option D:=i7 7 Br
noncomputable def wL:C.Dd:=⟨"_law_with_else",top 32,["_law_rows", "_law_cell_here"],["_law_rows", "_law_cell_here", "_law_flat", "_law_first", "_law_later", "_law_last_here", "_law_to"],1,some [],(.c (.l (.sc 2 (.r1 (.c (.fb .len (.c (.v 0) .n)) .n)) [0] (.c .k9 (.ix (.ix (.v 1) (.v 0)) (.ki 0)) (.tu (.c (.ks "reckon") (.c (.ks "copy") (.c (.ks "say") .n))))) (.v 0))) (.c (.ie (.c .eq (.bo .mod (.v 1) (.ki 4)) (.ki 3)) (.o (.l (.rO 0 [0] (.c (.v 0) (.c (.v 1) .n))))) .n) (.c (.ie (.or (.c .lt (.fb .len (.c (.v 2) .n)) (.ki 2)) (.c .eq (.bo .mod (.v 1) (.ki 2)) (.ki 0))) (.o (.l (.rt (.v 0)))) .n) (.c (.l (.st 3 (.ix (.v 2) (.bo .mod (.bo .div (.v 1) (.ki 4)) (.bo .sub (.fb .len (.c (.v 2) .n)) (.ki 1)))))) (.c (.fz 2 (.l (.sc 4 (.l (.v 2)) [3] (.c .gt (.v 0) (.v 1)) (.v 0)))) (.c (.l (.st 5 (.ix (.v 4) (.bo .mod (.bo .div (.v 1) (.ki 256)) (.fb .len (.c (.v 4) .n)))))) (.c (.l (.st 6 (.bo .mod (.bo .div (.v 1) (.ki 16384)) (.fb .len (.c (.v 0) .n))))) (.c (.ie (.c .eq (.ix (.ix (.v 0) (.uo .neg (.ki 1))) (.ki 0)) (.ks "go")) (.o (.l (.st 6 (.bo .mod (.v 6) (.bo .add (.v 3) (.ki 1)))))) .n) (.c (.ie (.h .lt .le (.v 3) (.v 6) (.v 5)) (.o (.l (.st 6 (.bo .add (.v 5) (.ki 1))))) .n) (.c (.ie (.c .eq (.ix (.ix (.v 0) (.v 6)) (.ki 0)) (.ks "go")) (.o (.l (.st 6 (.ki 0)))) .n) (.c (.l (.si 0 (.v 3) (.tu (.c (.ks "part") (.c (.ix (.ix (.v 0) (.v 3)) (.ki 1)) (.c (.bo .add (.v 5) (.ki 1)) .n)))))) (.c (.l (.si 0 (.v 5) (.tu (.c (.ks "go") (.c (.v 6) .n))))) (.o (.l (.rt (.v 0))))))))))))))))⟩
noncomputable def Hx:List C.Dd:=wL::Hw
noncomputable def Kg:List C.FT:=.oo sC::Kf
theorem YW:C.tab Hx=Kg:=C.yC YV rfl rfl rfl
noncomputable def sH:Ev→Option Fl :=
 (aj (au 6 (aw iO (ae (jV 0) (ae (ag bB (jC (.int 2)) (jV 5)) ah))))
 (aj (cy 4 (aw pT (ae (ag bB (ag dZ (ag bW (jV 6) (jC (.int 11))) (jC (.int 11))) (ag aS (jV 6) (jC (.int 7)))) (ae (aw iN (ae (jV 6) (ae (jV 5) ah))) (ae (jV 2) (ae (jV 3) ah))))))
 (cy 4 (aQ (ae (jC (.str "go")) (ae (ag gR (ag dZ (jC (.int 2)) (jV 5)) (jC (.int 1))) ah))))))
noncomputable def BH:Ev→Option Fl :=
 (aj (au 2 (aw m5 (ae (aw iO (ae (jV 0) (ae (jC (.int 0)) ah))) ah)))
 (aj (au 3 (aw m6 (ae (jV 0) (ae (jV 2) ah))))
 (aj (au 4 (bA (ae (aQ (ae (jC (.str "go")) (ae (ag gR (ag dZ (jC (.int 2)) (jV 1)) (jC (.int 1))) ah))) ah)))
 (aj (aW (bN (ae (jV 1) ah)) (gN 5)
  sH)
 (aj (dB 4 (jC (.int 2)) (aQ (ae (jC (.str "go")) (ae (ag bB (ag dZ (jC (.int 2)) (jV 1)) (jC (.int 1))) ah))))
 (aI (ag bB (jV 4) (bA (ae (aQ (ae (jC (.str "end")) ah)) ah)))))))))
noncomputable def sZ:List D→Option (M×D):=fn 7 BH
noncomputable def wM:C.Dd:=⟨"_law_stairs",top 33,["_law_script", "_law_many"],["_law_script", "_law_many", "_law_names_here", "_law_deeds_here", "_law_rows", "_law_k", "_law_cell_here"],3,none,(.c (.l (.st 2 (.ca 9 (.c (.ca 12 (.c (.v 0) (.c (.ki 0) .n))) .n)))) (.c (.l (.st 3 (.ca 7 (.c (.v 0) (.c (.v 2) .n))))) (.c (.l (.st 4 (.li (.c (.tu (.c (.ks "go") (.c (.bo .sub (.bo .mul (.ki 2) (.v 1)) (.ki 1)) .n))) .n)))) (.c (.fo (.r1 (.c (.v 1) .n)) (.n 5) (.c (.l (.st 6 (.ca 12 (.c (.v 0) (.c (.bo .add (.ki 2) (.v 5)) .n))))) (.c (.l (.ap 4 (.ca 6 (.c (.bo .add (.bo .mul (.bo .div (.v 6) (.ki 11)) (.ki 11)) (.bo .mod (.v 6) (.ki 7))) (.c (.ca 11 (.c (.v 6) (.c (.v 5) .n))) (.c (.v 2) (.c (.v 3) .n))))))) (.o (.l (.ap 4 (.tu (.c (.ks "go") (.c (.bo .sub (.bo .mul (.ki 2) (.v 5)) (.ki 1)) .n))))))))) (.c (.l (.si 4 (.ki 2) (.tu (.c (.ks "go") (.c (.bo .add (.bo .mul (.ki 2) (.v 1)) (.ki 1)) .n))))) (.o (.l (.rt (.bo .add (.v 4) (.li (.c (.tu (.c (.ks "end") .n)) .n)))))))))))⟩
noncomputable def Hy:List C.Dd:=wM::Hx
noncomputable def Kh:List C.FT:=.p sZ::Kg
theorem YX:C.tab Hy=Kh:=C.bJ YW rfl rfl rfl
noncomputable def By:Ev→Option Fl :=
 (aj (au 5 (ag aS (jV 0) (jC (.int 14))))
 (aj (au 6 (ag bW (jV 0) (jC (.int 14))))
 (aj (aM (jB (ag fw (jV 5) (jC (.int 6))))
  (aj (lW (gT 3 (bx (gN 7) (bx (gN 8) (bx (gN 9) cX)))) (ag ak (jV 4) (ag aS (ag bW (jV 6) (aJ bq (ae (jV 3) ah))) (aJ bq (ae (jV 4) ah)))))
 (aI (aQ (ae (jC (.str "reckon")) (ae (ag ak (jV 3) (ag aS (jV 6) (aJ bq (ae (jV 3) ah)))) (ae (jV 7) (ae (jV 8) (ae (jV 9) ah))))))))
  aR)
 (aj (aM (jB (ag fw (jV 5) (jC (.int 8))))
  (aI (aQ (ae (jC (.str "copy")) (ae (ag ak (jV 3) (ag aS (jV 6) (aJ bq (ae (jV 3) ah)))) (ae (aw hZ (ae (ag bW (jV 6) (aJ bq (ae (jV 3) ah))) (ae (jV 3) ah))) ah)))))
  aR)
 (aj (aM (jB (ag fw (jV 5) (jC (.int 10))))
  (aI (aQ (ae (jC (.str "say")) (ae (aw hZ (ae (jV 6) (ae (jV 3) ah))) ah))))
  aR)
 (aj (aM (cZ (jB (ag fw (jV 5) (jC (.int 12)))) (jB (ag gB (jV 2) (jC (.int 1)))))
  (aI (aQ (ae (jC (.str "part")) (ae (aw hZ (ae (ag bW (jV 6) (ag gR (jV 2) (jC (.int 1)))) (ae (jV 3) ah))) (ae (ag aS (ag bB (ag bB (jV 1) (jC (.int 2))) (ag aS (jV 6) (ag gR (jV 2) (jC (.int 1))))) (jV 2)) ah)))))
  aR)
 (aj (aM (jB (ag aN (jV 5) (jC (.int 12))))
  (aI (aQ (ae (jC (.str "go")) (ae (ag aS (jV 6) (jV 2)) ah))))
  aR)
 (aI (aQ (ae (jC (.str "end")) ah))))))))))
noncomputable def pB:List D→Option (M×D):=fn 10 By
noncomputable def wN:C.Dd:=⟨"_law_any_row",top 34,["_law_cell_here", "_law_n", "_law_many", "_law_names_here", "_law_deeds_here"],["_law_cell_here", "_law_n", "_law_many", "_law_names_here", "_law_deeds_here", "_law_kind", "_law_rest", "_law_s", "_law_a", "_law_b"],1,none,(.c (.l (.st 5 (.bo .mod (.v 0) (.ki 14)))) (.c (.l (.st 6 (.bo .div (.v 0) (.ki 14)))) (.c (.ie (.c .lt (.v 5) (.ki 6)) (.c (.l (.as (.t 3 (.c (.n 7) (.c (.n 8) (.c (.n 9) .n)))) (.ix (.v 4) (.bo .mod (.bo .div (.v 6) (.fb .len (.c (.v 3) .n))) (.fb .len (.c (.v 4) .n)))))) (.o (.l (.rt (.tu (.c (.ks "reckon") (.c (.ix (.v 3) (.bo .mod (.v 6) (.fb .len (.c (.v 3) .n)))) (.c (.v 7) (.c (.v 8) (.c (.v 9) .n)))))))))) .n) (.c (.ie (.c .lt (.v 5) (.ki 8)) (.o (.l (.rt (.tu (.c (.ks "copy") (.c (.ix (.v 3) (.bo .mod (.v 6) (.fb .len (.c (.v 3) .n)))) (.c (.ca 9 (.c (.bo .div (.v 6) (.fb .len (.c (.v 3) .n))) (.c (.v 3) .n))) .n))))))) .n) (.c (.ie (.c .lt (.v 5) (.ki 10)) (.o (.l (.rt (.tu (.c (.ks "say") (.c (.ca 9 (.c (.v 6) (.c (.v 3) .n))) .n)))))) .n) (.c (.ie (.an (.c .lt (.v 5) (.ki 12)) (.c .gt (.v 2) (.ki 1))) (.o (.l (.rt (.tu (.c (.ks "part") (.c (.ca 9 (.c (.bo .div (.v 6) (.bo .sub (.v 2) (.ki 1))) (.c (.v 3) .n))) (.c (.bo .mod (.bo .add (.bo .add (.v 1) (.ki 2)) (.bo .mod (.v 6) (.bo .sub (.v 2) (.ki 1)))) (.v 2)) .n))))))) .n) (.c (.ie (.c .eq (.v 5) (.ki 12)) (.o (.l (.rt (.tu (.c (.ks "go") (.c (.bo .mod (.v 6) (.v 2)) .n)))))) .n) (.o (.l (.rt (.tu (.c (.ks "end") .n))))))))))))⟩
noncomputable def Hz:List C.Dd:=wN::Hy
noncomputable def Ki:List C.FT:=.p pB::Kh
theorem YY:C.tab Hz=Ki:=C.bJ YX rfl rfl rfl
noncomputable def K2:Ev→Option Fl :=
 (aj (au 2 (ag ak (jV 0) (jV 1)))
 (aj (aM (jB (ag aN (ag ak (jV 2) (jC (.int 0))) (jC (.str "end"))))
  (aI (bA ah))
  aR)
 (aj (aM (jB (ag aN (ag ak (jV 2) (jC (.int 0))) (jC (.str "go"))))
  (aI (bA (ae (ag ak (jV 2) (jC (.int 1))) ah)))
  aR)
 (aj (aM (jB (ag aN (ag ak (jV 2) (jC (.int 0))) (jC (.str "part"))))
  (aI (bA (ae (ag bB (jV 1) (jC (.int 1))) (ae (ag ak (jV 2) (jC (.int 2))) ah))))
  aR)
 (aI (bA (ae (ag bB (jV 1) (jC (.int 1))) ah)))))))
noncomputable def ph:List D→Option (M×D):=fn 3 K2
noncomputable def wO:C.Dd:=⟨"_law_followers",top 39,["_law_program_here", "_law_n"],["_law_program_here", "_law_n", "_law_row_here"],0,none,(.c (.l (.st 2 (.ix (.v 0) (.v 1)))) (.c (.ie (.c .eq (.ix (.v 2) (.ki 0)) (.ks "end")) (.o (.l (.rt (.li .n)))) .n) (.c (.ie (.c .eq (.ix (.v 2) (.ki 0)) (.ks "go")) (.o (.l (.rt (.li (.c (.ix (.v 2) (.ki 1)) .n))))) .n) (.c (.ie (.c .eq (.ix (.v 2) (.ki 0)) (.ks "part")) (.o (.l (.rt (.li (.c (.bo .add (.v 1) (.ki 1)) (.c (.ix (.v 2) (.ki 2)) .n)))))) .n) (.o (.l (.rt (.li (.c (.bo .add (.v 1) (.ki 1)) .n)))))))))⟩
noncomputable def HB:List C.Dd:=wO::Hz
noncomputable def Kj:List C.FT:=.p ph::Ki
theorem YZ:C.tab HB=Kj:=C.bJ YY rfl rfl rfl
noncomputable def oZ:Ev→Option Fl :=
 (aM (jB (ag aN (ag ak (ag ak (jV 0) (jV 3)) (jC (.int 0))) (jC (.str "end"))))
  (iW 2 (jV 3) (jC (.bl true)))
  aR)
noncomputable def sk:Ev→Option Fl :=
 (aj (lW (gT 2 (bx (gN 6) (bx (gN 7) cX))) (ag ak (bA (ae (aQ (ae (jV 5) (ae (jV 3) ah))) (ae (aQ (ae (jV 3) (ae (jV 5) ah))) ah))) (aJ kK (ae (jV 1) ah))))
 (aM (cZ (jB (dF false (jV 6) (jV 2))) (jB (dF true (jV 7) (jV 2))))
  (aj (iW 2 (jV 7) (jC (.bl true)))
 (au 4 (jC (.bl true))))
  aR))
noncomputable def sr:Ev→Option Fl :=
 (aW (bP (aw ph (ae (jV 0) (ae (jV 3) ah)))) (gN 5)
  sk)
noncomputable def su:Ev→Option Fl :=
 (aj (au 4 (jC (.bl false)))
 (aW (bN (ae (aJ bq (ae (jV 0) ah)) ah)) (gN 3)
  sr))
noncomputable def xn:Ev→Option Bool :=
 (jB (jV 4))
noncomputable def Bu:Ev→Option Fl :=
 (aj (au 2 (yV (jC (.int 0)) (jC (.bl true))))
 (aj (aM (fD (jB (jV 1)))
  (aj (au 2 nG)
 (aW (bN (ae (aJ bq (ae (jV 0) ah)) ah)) (gN 3)
  oZ))
  aR)
 (aj (au 4 (jC (.bl true)))
 (aj (gi xn
  su)
 (aI (jV 2))))))
noncomputable def pj:List D→Option (M×D):=fn 8 Bu
noncomputable def wQ:C.Dd:=⟨"_law_comes_to",top 35,["_law_rows", "_law_ahead"],["_law_rows", "_law_ahead", "_law_seen", "_law_n", "_law_more", "_law_m", "_law_one", "_law_other"],1,none,(.c (.l (.st 2 (.d1 (.ki 0) (.kb true)))) (.c (.ie (.nt (.b (.v 1))) (.c (.l (.st 2 .dK)) (.o (.fo (.r1 (.c (.fb .len (.c (.v 0) .n)) .n)) (.n 3) (.o (.ie (.c .eq (.ix (.ix (.v 0) (.v 3)) (.ki 0)) (.ks "end")) (.o (.l (.dp 2 (.v 3) (.kb true)))) .n))))) .n) (.c (.l (.st 4 (.kb true))) (.c (.wh (.b (.v 4)) (.c (.l (.st 4 (.kb false))) (.o (.fo (.r1 (.c (.fb .len (.c (.v 0) .n)) .n)) (.n 3) (.o (.fo (.l (.ca 0 (.c (.v 0) (.c (.v 3) .n)))) (.n 5) (.c (.l (.as (.t 2 (.c (.n 6) (.c (.n 7) .n))) (.ix (.li (.c (.tu (.c (.v 5) (.c (.v 3) .n))) (.c (.tu (.c (.v 3) (.c (.v 5) .n))) .n))) (.fb .int (.c (.v 1) .n))))) (.o (.ie (.an (.d false (.v 6) (.v 2)) (.d true (.v 7) (.v 2))) (.c (.l (.dp 2 (.v 7) (.kb true))) (.o (.l (.st 4 (.kb true))))) .n))))))))) (.o (.l (.rt (.v 2))))))))⟩
noncomputable def HC:List C.Dd:=wQ::HB
noncomputable def Kk:List C.FT:=.p pj::Kj
theorem Y0:C.tab HC=Kk:=C.bJ YZ rfl rfl rfl
noncomputable def pv:Ev→Option Fl :=
 (aj (au 3 (aw pj (ae (jV 0) (ae (jC (.bl true)) ah))))
 (aj (au 4 (aw pj (ae (jV 0) (ae (jC (.bl false)) ah))))
 (aj (au 5 (b9 (bN (ae (aJ bq (ae (jV 0) ah)) ah)) [3] (jB (dF true (jV 0) (jV 1))) (jV 0)))
 (aj (au 6 (b9 (bN (ae (aJ bq (ae (jV 0) ah)) ah)) [4] (jB (dF true (jV 0) (jV 1))) (jV 0)))
 (aM (jB (ag fS (jV 5) (bA ah)))
  (dB 0 (ag gR (ag ak (jV 5) (jC (.int 0))) (jC (.int 1))) (aQ (ae (jC (.str "say")) (ae (jV 2) ah))))
  (aM (cZ (jB (ag fS (jV 6) (bA ah))) (jB (ag aN (ag ak (jV 6) (cf ft (jC (.int 1)))) (jV 1))))
  (dB 0 (jV 1) (aQ (ae (jC (.str "end")) ah)))
  (aM (jB (ag fS (jV 6) (bA ah)))
  (dB 0 (ag ak (jV 6) (cf ft (jC (.int 1)))) (aQ (ae (jC (.str "say")) (ae (jV 2) ah))))
  (aI (jV 0)))))))))
noncomputable def BI:Ev→Option Fl :=
 (aj (au 1 (ag gR (aJ bq (ae (jV 0) ah)) (jC (.int 1))))
 (aj (aM (jB (ag hU (ag ak (ag ak (jV 0) (jV 1)) (jC (.int 0))) (jC (.str "go"))))
  (dB 0 (jV 1) (aQ (ae (jC (.str "end")) ah)))
  aR)
 (aj (aW (bN (ae (ag dZ (jC (.int 2)) (aJ bq (ae (jV 0) ah))) ah)) (gN 2)
  pv)
 (aI (jV 0)))))
noncomputable def pD:List D→Option D:=i7 7 BI
noncomputable def wR:C.Dd:=⟨"_law_mended",top 36,["_law_rows"],["_law_rows", "_law_last_here", "_law_turn", "_law_seen", "_law_near", "_law_lost", "_law_dead"],2,some [],(.c (.l (.st 1 (.bo .sub (.fb .len (.c (.v 0) .n)) (.ki 1)))) (.c (.ie (.c .ne (.ix (.ix (.v 0) (.v 1)) (.ki 0)) (.ks "go")) (.o (.l (.si 0 (.v 1) (.tu (.c (.ks "end") .n))))) .n) (.c (.fo (.r1 (.c (.bo .mul (.ki 2) (.fb .len (.c (.v 0) .n))) .n)) (.n 2) (.c (.l (.st 3 (.ca 0 (.c (.v 0) (.c (.kb true) .n))))) (.c (.l (.st 4 (.ca 0 (.c (.v 0) (.c (.kb false) .n))))) (.c (.l (.sc 5 (.r1 (.c (.fb .len (.c (.v 0) .n)) .n)) [3] (.d true (.v 0) (.v 1)) (.v 0))) (.c (.l (.sc 6 (.r1 (.c (.fb .len (.c (.v 0) .n)) .n)) [4] (.d true (.v 0) (.v 1)) (.v 0))) (.o (.ie (.c .mO (.v 5) (.li .n)) (.o (.l (.si 0 (.bo .sub (.ix (.v 5) (.ki 0)) (.ki 1)) (.tu (.c (.ks "say") (.c (.v 2) .n)))))) (.o (.ie (.an (.c .mO (.v 6) (.li .n)) (.c .eq (.ix (.v 6) (.uo .neg (.ki 1))) (.v 1))) (.o (.l (.si 0 (.v 1) (.tu (.c (.ks "end") .n))))) (.o (.ie (.c .mO (.v 6) (.li .n)) (.o (.l (.si 0 (.ix (.v 6) (.uo .neg (.ki 1))) (.tu (.c (.ks "say") (.c (.v 2) .n)))))) (.o (.l (.rt (.v 0))))))))))))))) (.o (.l (.rt (.v 0)))))))⟩
noncomputable def HD:List C.Dd:=wR::HC
noncomputable def Kl:List C.FT:=.oo pD::Kk
theorem Y1:C.tab HD=Kl:=C.yC Y0 rfl rfl rfl
noncomputable def Bi:Ev→Option Fl :=
 (aj (au 2 (aw m5 (ae (aw iO (ae (jV 0) (ae (jC (.int 0)) ah))) ah)))
 (aj (au 3 (aw m6 (ae (jV 0) (ae (jV 2) ah))))
 (aj (au 4 (aJ qG (ae (jC (.int 1)) (ae (aJ bq (ae (jV 1) ah)) ah))))
 (aj (au 5 (bA (ae (aQ (ae (jC (.str "end")) ah)) ah)))
 (aj (aM (jB (ag gB (aJ bq (ae (jV 1) ah)) (jC (.int 0))))
  (au 5 (b9 (bN (ae (jV 4) ah)) [4,2,3,1] dz (aw pB (ae (ag ak (jV 4) (jV 0)) (ae (jV 0) (ae (jV 1) (ae (jV 2) (ae (jV 3) ah))))))))
  aR)
 (jE [5] [(0,5)] pD (ae (jV 5) ah)))))))
noncomputable def sf:List D→Option (M×D):=fn 6 Bi
noncomputable def wU:C.Dd:=⟨"_law_any_program",top 37,["_law_script", "_law_cells"],["_law_script", "_law_cells", "_law_names_here", "_law_deeds_here", "_law_many", "_law_rows"],3,none,(.c (.l (.st 2 (.ca 14 (.c (.ca 17 (.c (.v 0) (.c (.ki 0) .n))) .n)))) (.c (.l (.st 3 (.ca 12 (.c (.v 0) (.c (.v 2) .n))))) (.c (.l (.st 4 (.fb .max (.c (.ki 1) (.c (.fb .len (.c (.v 1) .n)) .n))))) (.c (.l (.st 5 (.li (.c (.tu (.c (.ks "end") .n)) .n)))) (.c (.ie (.c .gt (.fb .len (.c (.v 1) .n)) (.ki 0)) (.o (.l (.sc 5 (.r1 (.c (.v 4) .n)) [4,2,3,1] .y (.ca 3 (.c (.ix (.v 4) (.v 0)) (.c (.v 0) (.c (.v 1) (.c (.v 2) (.c (.v 3) .n))))))))) .n) (.o (.l (.rO 0 [5] (.c (.v 5) .n)))))))))⟩
noncomputable def HF:List C.Dd:=wU::HD
noncomputable def Km:List C.FT:=.p sf::Kl
theorem Y2:C.tab HF=Km:=C.bJ Y1 rfl rfl rfl
noncomputable def sD:Ev→Option Fl :=
 (aj (aM (cZ (jB (ag aN (ag ak (jV 6) (jC (.int 0))) (jC (.str "part")))) (jB (ag aN (ag ak (jV 6) (jC (.int 2))) (cf ft (jC (.int 1))))))
  (au 6 (aQ (ae (jC (.str "part")) (ae (ag ak (jV 6) (jC (.int 1))) (ae (ag bB (jV 5) (jC (.int 2))) ah)))))
  (aM (cZ (jB (ag aN (ag ak (jV 6) (jC (.int 0))) (jC (.str "part")))) (jB (ag aN (ag aS (ag ak (jV 6) (jC (.int 2))) (aJ bq (ae (jV 3) ah))) (ag bB (jV 5) (jC (.int 1))))))
  (au 6 (aQ (ae (jC (.str "part")) (ae (ag ak (jV 6) (jC (.int 1))) (ae (jV 5) ah)))))
  (aM (jB (ag aN (ag ak (jV 6) (jC (.int 0))) (jC (.str "part"))))
  (au 6 (aQ (ae (jC (.str "part")) (ae (ag ak (jV 6) (jC (.int 1))) (ae (ag aS (ag ak (jV 6) (jC (.int 2))) (aJ bq (ae (jV 3) ah))) ah)))))
  (aM (jB (ag aN (ag ak (jV 6) (jC (.int 0))) (jC (.str "go"))))
  (au 6 (aQ (ae (jC (.str "go")) (ae (aw tM (ae (jV 3) (ae (ag ak (jV 6) (jC (.int 1))) ah))) ah))))
  aR))))
 (cy 4 (jV 6)))
noncomputable def Bz:Ev→Option Fl :=
 (aj (aM (jB (aw mX (ae (jV 0) ah)))
  (aI (aw sf (ae (jV 0) (ae (jV 1) ah))))
  aR)
 (aj (au 2 (aw m3 (ae (jV 0) (ae (jC (.int 57)) ah))))
 (aj (aM (jB (ag aN (ag aS (jV 2) (jC (.int 8))) (jC (.int 1))))
  (aI (aw sZ (ae (jV 0) (ae (ag bB (jC (.int 1)) (ag aS (ag bW (jV 2) (jC (.int 8))) (jC (.int 28)))) ah))))
  aR)
 (aj (au 3 (aw tE (ae (jV 0) (ae (jV 1) ah))))
 (aj (au 4 (bA ah))
 (aj (cu 3 (aW (eQ (ae (jV 3) ah)) (gT 2 (bx (gN 5) (bx (gN 6) cX)))
  sD))
 (jE [4] [(0,4)] sC (ae (jV 4) (ae (aw m3 (ae (jV 0) (ae (jC (.int 59)) ah))) ah)))))))))
noncomputable def pC:List D→Option (M×D):=fn 7 Bz
noncomputable def wV:C.Dd:=⟨"_law_program",top 38,["_law_script", "_law_cells"],["_law_script", "_law_cells", "_law_turn", "_law_rough_here", "_law_rows", "_law_n", "_law_row_here"],4,none,(.c (.ie (.b (.ca 16 (.c (.v 0) .n))) (.o (.l (.rt (.ca 0 (.c (.v 0) (.c (.v 1) .n)))))) .n) (.c (.l (.st 2 (.ca 10 (.c (.v 0) (.c (.ki 57) .n))))) (.c (.ie (.c .eq (.bo .mod (.v 2) (.ki 8)) (.ki 1)) (.o (.l (.rt (.ca 5 (.c (.v 0) (.c (.bo .add (.ki 1) (.bo .mod (.bo .div (.v 2) (.ki 8)) (.ki 28))) .n)))))) .n) (.c (.l (.st 3 (.ca 9 (.c (.v 0) (.c (.v 1) .n))))) (.c (.l (.st 4 (.li .n))) (.c (.fz 3 (.fo (.en (.c (.v 3) .n)) (.t 2 (.c (.n 5) (.c (.n 6) .n))) (.c (.ie (.an (.c .eq (.ix (.v 6) (.ki 0)) (.ks "part")) (.c .eq (.ix (.v 6) (.ki 2)) (.uo .neg (.ki 1)))) (.o (.l (.st 6 (.tu (.c (.ks "part") (.c (.ix (.v 6) (.ki 1)) (.c (.bo .add (.v 5) (.ki 2)) .n))))))) (.o (.ie (.an (.c .eq (.ix (.v 6) (.ki 0)) (.ks "part")) (.c .eq (.bo .mod (.ix (.v 6) (.ki 2)) (.fb .len (.c (.v 3) .n))) (.bo .add (.v 5) (.ki 1)))) (.o (.l (.st 6 (.tu (.c (.ks "part") (.c (.ix (.v 6) (.ki 1)) (.c (.v 5) .n))))))) (.o (.ie (.c .eq (.ix (.v 6) (.ki 0)) (.ks "part")) (.o (.l (.st 6 (.tu (.c (.ks "part") (.c (.ix (.v 6) (.ki 1)) (.c (.bo .mod (.ix (.v 6) (.ki 2)) (.fb .len (.c (.v 3) .n))) .n))))))) (.o (.ie (.c .eq (.ix (.v 6) (.ki 0)) (.ks "go")) (.o (.l (.st 6 (.tu (.c (.ks "go") (.c (.ca 8 (.c (.v 3) (.c (.ix (.v 6) (.ki 1)) .n))) .n)))))) .n))))))) (.o (.l (.ap 4 (.v 6))))))) (.o (.l (.rO 6 [4] (.c (.v 4) (.c (.ca 10 (.c (.v 0) (.c (.ki 59) .n))) .n)))))))))))⟩
noncomputable def HG:List C.Dd:=wV::HF
noncomputable def Kn:List C.FT:=.p pC::Km
theorem Y3:C.tab HG=Kn:=C.bJ Y2 rfl rfl rfl
noncomputable def sJ:Ev→Option Fl :=
 (cy 1 (aQ (ae (jV 2) (ae (jV 3) ah))))
noncomputable def sM:Ev→Option Fl :=
 (aW (bP (aw ph (ae (jV 0) (ae (jV 2) ah)))) (gN 3)
  sJ)
noncomputable def BJ:Ev→Option Fl :=
 (aj (au 1 (bA (ae (aQ (ae (cf ft (jC (.int 1))) (ae (jC (.int 0)) ah))) ah)))
 (aj (aW (bN (ae (aJ bq (ae (jV 0) ah)) ah)) (gN 2)
  sM)
 (aI (jV 1))))
noncomputable def tf:List D→Option (M×D):=fn 4 BJ
noncomputable def wW:C.Dd:=⟨"_law_places",top 40,["_law_program_here"],["_law_program_here", "_law_found", "_law_n", "_law_m"],1,none,(.c (.l (.st 1 (.li (.c (.tu (.c (.uo .neg (.ki 1)) (.c (.ki 0) .n))) .n)))) (.c (.fo (.r1 (.c (.fb .len (.c (.v 0) .n)) .n)) (.n 2) (.o (.fo (.l (.ca 4 (.c (.v 0) (.c (.v 2) .n)))) (.n 3) (.o (.l (.ap 1 (.tu (.c (.v 2) (.c (.v 3) .n))))))))) (.o (.l (.rt (.v 1))))))⟩
noncomputable def HJ:List C.Dd:=wW::HG
noncomputable def Kp:List C.FT:=.p tf::Kn
theorem Y4:C.tab HJ=Kp:=C.bJ Y3 rfl rfl rfl
noncomputable def CN:Ev→Option Fl :=
 (aI (kJ (ag aN (ag ak (jV 0) (jC (.int 0))) (jC (.str "reckon"))) (ag gp (fA f9 (jV 0) (dJ (jC (.int 2))) gS) (jV 1))))
noncomputable def ll:List D→Option (M×D):=fn 2 CN
noncomputable def wX:C.Dd:=⟨"_law_has",top 41,["_law_row_here", "_law_deed"],["_law_row_here", "_law_deed"],0,none,(.o (.l (.rt (.an (.co .eq (.ix (.v 0) (.ki 0)) (.ks "reckon")) (.co .oQ (.sl (.v 0) (.s (.ki 2)) .n) (.v 1))))))⟩
noncomputable def HK:List C.Dd:=wX::HJ
noncomputable def Kq:List C.FT:=.p ll::Kp
theorem Y5:C.tab HK=Kq:=C.bJ Y4 rfl rfl rfl
noncomputable def BD:Ev→Option Fl :=
 (aI (kJ (ag (dM false) (ag ak (jV 0) (jC (.int 0))) (aQ (ae (jC (.str "reckon")) (ae (jC (.str "copy")) ah)))) (ag (dM false) (ag ak (jV 0) (jC (.int 1))) (fA f9 (jV 1) (dJ (jC (.int 1))) gS))))
noncomputable def mY:List D→Option (M×D):=fn 2 BD
noncomputable def wY:C.Dd:=⟨"_law_changes",top 42,["_law_row_here", "_law_deed"],["_law_row_here", "_law_deed"],0,none,(.o (.l (.rt (.an (.co .k9 (.ix (.v 0) (.ki 0)) (.tu (.c (.ks "reckon") (.c (.ks "copy") .n)))) (.co .k9 (.ix (.v 0) (.ki 1)) (.sl (.v 1) (.s (.ki 1)) .n))))))⟩
noncomputable def HL:List C.Dd:=wY::HK
noncomputable def Kr:List C.FT:=.p mY::Kq
theorem Y6:C.tab HL=Kr:=C.bJ Y5 rfl rfl rfl
noncomputable def sR:Ev→Option Fl :=
 (aM (cZ (jB (ag aN (ag ak (jV 2) (jC (.int 0))) (jC (.str "reckon")))) (jB (ag (lZ true) (fA f9 (jV 2) (dJ (jC (.int 2))) gS) (jV 1))))
  (cy 1 (fA f9 (jV 2) (dJ (jC (.int 2))) gS))
  aR)
noncomputable def BX:Ev→Option Fl :=
 (aj (au 1 (bA ah))
 (aj (cu 0 (aW (bP (jV 0)) (gN 2)
  sR))
 (aI (jV 1))))
noncomputable def tF:List D→Option (M×D):=fn 3 BX
noncomputable def wZ:C.Dd:=⟨"_law_known",top 43,["_law_program_here"],["_law_program_here", "_law_found", "_law_row_here"],0,none,(.c (.l (.st 1 (.li .n))) (.c (.fz 0 (.fo (.l (.v 0)) (.n 2) (.o (.ie (.an (.c .eq (.ix (.v 2) (.ki 0)) (.ks "reckon")) (.c .vW (.sl (.v 2) (.s (.ki 2)) .n) (.v 1))) (.o (.l (.ap 1 (.sl (.v 2) (.s (.ki 2)) .n)))) .n)))) (.o (.l (.rt (.v 1))))))⟩
noncomputable def HM:List C.Dd:=wZ::HL
noncomputable def Ks:List C.FT:=.p tF::Kr
theorem Y7:C.tab HM=Ks:=C.bJ Y6 rfl rfl rfl
noncomputable def sU:Ev→Option Fl :=
 (aM (cC (fD (jB (aJ jO (ae (jV 2) (ae (jC (.ty "int")) ah))))) (jB (aJ jO (ae (jV 2) (ae (jC (.ty "bool")) ah)))))
  (aI (jC (.bl false)))
  aR)
noncomputable def BZ:Ev→Option Fl :=
 (aj (aM (cC (fD (jB (aJ jO (ae (jV 0) (ae (jC (.ty "dict")) ah))))) (jB (ag ot (jV 0) (jV 1))))
  (aI (jC (.bl false)))
  aR)
 (aj (qw 0 (gN 2)
  sU)
 (aI (jC (.bl true)))))
noncomputable def lh:List D→Option (M×D):=fn 3 BZ
noncomputable def w4:C.Dd:=⟨"_law_right",top 44,["_law_found", "_law_due_here"],["_law_found", "_law_due_here", "_law_bits"],0,none,(.c (.ie (.or (.nt (.b (.fb .oR (.c (.v 0) (.c (.ty "dict") .n))))) (.c .neT (.v 0) (.v 1))) (.o (.l (.rt (.kb false)))) .n) (.c (.fv 0 (.n 2) (.o (.ie (.or (.nt (.b (.fb .oR (.c (.v 2) (.c (.ty "int") .n))))) (.b (.fb .oR (.c (.v 2) (.c (.ty "bool") .n))))) (.o (.l (.rt (.kb false)))) .n))) (.o (.l (.rt (.kb true))))))⟩
noncomputable def HN:List C.Dd:=w4::HM
noncomputable def Kt:List C.FT:=.p lh::Ks
theorem Y8:C.tab HN=Kt:=C.bJ Y7 rfl rfl rfl
noncomputable def xo:Ev→Option Fl :=
 (aj (kM 5 4)
 (aj (aM (cC (jB (dF false (jV 5) (jV 3))) (jB (aw ll (ae (ag ak (jV 0) (jV 5)) (ae (jV 1) ah)))))
  uM
  aR)
 (aj (aM (cC (jB (aw mY (ae (ag ak (jV 0) (jV 5)) (ae (jV 1) ah)))) (jB (ag aN (ag ak (ag ak (jV 0) (jV 5)) (jC (.int 0))) (jC (.str "end")))))
  (aI (jC (.bl true)))
  aR)
 (aj (iW 3 (jV 5) (jC (.bl true)))
 (au 4 (ag bB (jV 4) (aw ph (ae (jV 0) (ae (jV 5) ah)))))))))
noncomputable def pw:Ev→Option Bool :=
 (jB (ag gB (aJ bq (ae (jV 4) ah)) (jC (.int 0))))
noncomputable def BK:Ev→Option Fl :=
 (aj (au 3 nG)
 (aj (au 4 (bA (ae (jV 2) ah)))
 (aj (gi pw
  xo)
 (aI (jC (.bl false))))))
noncomputable def pE:List D→Option (M×D):=fn 6 BK
noncomputable def w5:C.Dd:=⟨"_law_missed",top 45,["_law_program_here", "_law_deed", "_law_m"],["_law_program_here", "_law_deed", "_law_m", "_law_seen", "_law_left", "_law_n"],1,none,(.c (.l (.st 3 .dK)) (.c (.l (.st 4 (.li (.c (.v 2) .n)))) (.c (.wh (.c .gt (.fb .len (.c (.v 4) .n)) (.ki 0)) (.c (.l (.po 5 4)) (.c (.ie (.or (.d false (.v 5) (.v 3)) (.b (.ca 3 (.c (.ix (.v 0) (.v 5)) (.c (.v 1) .n))))) (.o (.l .ct)) .n) (.c (.ie (.or (.b (.ca 2 (.c (.ix (.v 0) (.v 5)) (.c (.v 1) .n)))) (.c .eq (.ix (.ix (.v 0) (.v 5)) (.ki 0)) (.ks "end"))) (.o (.l (.rt (.kb true)))) .n) (.c (.l (.dp 3 (.v 5) (.kb true))) (.o (.l (.st 4 (.bo .add (.v 4) (.ca 9 (.c (.v 0) (.c (.v 5) .n)))))))))))) (.o (.l (.rt (.kb false)))))))⟩
noncomputable def HQ:List C.Dd:=w5::HN
noncomputable def Ku:List C.FT:=.p pE::Kt
theorem Y9:C.tab HQ=Ku:=C.bJ Y8 rfl rfl rfl
noncomputable def tG:Ev→Option Fl :=
 (aM (fD (jB (aw pE (ae (jV 0) (ae (jV 3) (ae (jV 4) ah))))))
  (dB 1 (jV 4) (ag lX (ag ak (jV 1) (jV 4)) (ag lT (jC (.int 1)) (jV 2))))
  aR)
noncomputable def tH:Ev→Option Fl :=
 (aW (bN (ae (aJ bq (ae (jV 0) ah)) ah)) (gN 4)
  tG)
noncomputable def tI:Ev→Option Fl :=
 (iX 5 (jV 6) (ag ak (jV 1) (ag ak (jV 6) (jC (.int 1)))))
noncomputable def CP:Ev→Option Fl :=
 (aj (cu 0 (au 1 (b9 (bP (jV 0)) [] dz (jC (.int 0)))))
 (aj (aW (eQ (ae (aw tF (ae (jV 0) ah)) ah)) (gT 2 (bx (gN 2) (bx (gN 3) cX)))
  tH)
 (aj (au 5 nV)
 (aj (aW (bP (aw tf (ae (jV 0) ah))) (gN 6)
  tI)
 (aI (jV 5))))))
noncomputable def m9:List D→Option (M×D):=fn 7 CP
noncomputable def w6:C.Dd:=⟨"_law_due",top 46,["_law_program_here"],["_law_program_here", "_law_asked", "_law_k", "_law_deed", "_law_m", "_law_due_here", "_law_place"],2,none,(.c (.fz 0 (.l (.sc 1 (.l (.v 0)) [] .y (.ki 0)))) (.c (.fo (.en (.c (.ca 2 (.c (.v 0) .n)) .n)) (.t 2 (.c (.n 2) (.c (.n 3) .n))) (.o (.fo (.r1 (.c (.fb .len (.c (.v 0) .n)) .n)) (.n 4) (.o (.ie (.nt (.b (.ca 0 (.c (.v 0) (.c (.v 3) (.c (.v 4) .n)))))) (.o (.l (.si 1 (.v 4) (.bo .bor (.ix (.v 1) (.v 4)) (.bo .shl (.ki 1) (.v 2)))))) .n))))) (.c (.l (.st 5 .dT)) (.c (.fo (.l (.ca 5 (.c (.v 0) .n))) (.n 6) (.o (.l (.tp 5 (.v 6) (.ix (.v 1) (.ix (.v 6) (.ki 1))))))) (.o (.l (.rt (.v 5))))))))⟩
noncomputable def HR:List C.Dd:=w6::HQ
noncomputable def Kv:List C.FT:=.p m9::Ku
theorem Za:C.tab HR=Kv:=C.bJ Y9 rfl rfl rfl
noncomputable def Gn:Ev→Option Fl :=
 (aj (au 1 (aw pC (ae (jV 0) (ae (fA f9 (jV 0) (dJ (jC (.int 2))) (dJ (jC (.int 22)))) ah))))
 (aj (au 2 (aw pC (ae (jV 0) (ae (uR (fA f9 (jV 0) (dJ (jC (.int 2))) (dJ (jC (.int 22)))) (dJ (cf ft (jC (.int 1))))) ah))))
 (aj (au 3 (aw m9 (ae (jV 1) ah)))
 (aj (au 4 (aJ lI (ae (jV 1) ah)))
 (aj (au 5 (aw ly (ae (jV 4) ah)))
 (aj (aM (cC (fD (jB (aw lh (ae (jV 5) (ae (jV 3) ah))))) (jB (ag fS (jV 4) (jV 1))))
  (aI (jC (.bl false)))
  aR)
 (aj (xY 5)
 (aj (yo 4)
 (aj (aM (fD (jB (aw lh (ae (aw ly (ae (jV 2) ah)) (ae (aw m9 (ae (jV 2) ah)) ah)))))
  (aI (jC (.bl false)))
  aR)
 (aI (aw lh (ae (aw ly (ae (jV 1) ah)) (ae (jV 3) ah)))))))))))))
noncomputable def uV:List D→Option (M×D):=fn 6 Gn
noncomputable def w9:C.Dd:=⟨"law",top 47,["_law_script"],["_law_script", "_law_program_here", "_law_other", "_law_due_here", "_law_handed", "_law_found"],5,none,(.c (.l (.st 1 (.ca 7 (.c (.v 0) (.c (.sl (.v 0) (.s (.ki 2)) (.s (.ki 22))) .n))))) (.c (.l (.st 2 (.ca 7 (.c (.v 0) (.c (.rs (.sl (.v 0) (.s (.ki 2)) (.s (.ki 22))) (.s (.uo .neg (.ki 1)))) .n))))) (.c (.l (.st 3 (.ca 0 (.c (.v 1) .n)))) (.c (.l (.st 4 (.fb .list (.c (.v 1) .n)))) (.c (.l (.st 5 (.ca 27 (.c (.v 4) .n)))) (.c (.ie (.or (.nt (.b (.ca 2 (.c (.v 5) (.c (.v 3) .n))))) (.c .mO (.v 4) (.v 1))) (.o (.l (.rt (.kb false)))) .n) (.c (.l (.tc 5)) (.c (.l (.cl 4)) (.c (.ie (.nt (.b (.ca 2 (.c (.ca 27 (.c (.v 2) .n)) (.c (.ca 0 (.c (.v 2) .n)) .n))))) (.o (.l (.rt (.kb false)))) .n) (.o (.l (.rt (.ca 2 (.c (.ca 27 (.c (.v 1) .n)) (.c (.v 3) .n)))))))))))))))⟩
noncomputable def vq:List C.Dd:=w9::HR
noncomputable def Zb:List C.FT:=.p uV::Kv
theorem Zc:C.tab vq=Zb:=C.bJ Za rfl rfl rfl
theorem ok:C.uU bs gs vq=true:=by decide +kernel
theorem W6:C.BA d1.nm d1.st d1.ps:=C.dQ fun _ _ _ _ _ _ _=>rfl
theorem W7:C.BA d2.nm d2.st d2.ps:=C.dQ fun _ _ _ _ _ _ _=>rfl
theorem W8:C.BA d3.nm d3.st d3.ps:=C.dI fun _ _ _ _ _ _ _ _=>rfl
theorem W9:C.BA d4.nm d4.st d4.ps:=C.dI fun _ _ _ _ _ _ _ _=>rfl
theorem Xa:C.BA d5.nm d5.st d5.ps:=C.dQ fun _ _ _ _ _ _ _=>rfl
theorem Xb:C.BA d6.nm d6.st d6.ps:=C.dQ fun _ _ _ _ _ _ _=>rfl
theorem Xc:C.BA d7.nm d7.st d7.ps:=C.dQ fun _ _ _ _ _ _ _=>rfl
theorem Xd:C.BA d8.nm d8.st d8.ps:=C.dQ fun _ _ _ _ _ _ _=>rfl
theorem Xe:C.BA d9.nm d9.st d9.ps:=C.dQ fun _ _ _ _ _ _ _=>rfl
theorem Vs:C.BA wm.nm wm.st wm.ps:=C.dQ fun _ _ _ _ _ _ _=>rfl
theorem Vt:C.BA wo.nm wo.st wo.ps:=C.dQ fun _ _ _ _ _ _ _=>rfl
theorem Vu:C.BA wq.nm wq.st wq.ps:=C.dQ fun _ _ _ _ _ _ _=>rfl
theorem Vv:C.BA wt.nm wt.st wt.ps:=C.JC fun _ _ _ _ _ _ _ _ _=>rfl
theorem Vw:C.BA wu.nm wu.st wu.ps:=C.dQ fun _ _ _ _ _ _ _=>rfl
theorem Vx:C.BA wx.nm wx.st wx.ps:=C.dQ fun _ _ _ _ _ _ _=>rfl
theorem Vy:C.BA wy.nm wy.st wy.ps:=C.dI fun _ _ _ _ _ _ _ _=>rfl
theorem Vz:C.BA wz.nm wz.st wz.ps:=C.dI fun _ _ _ _ _ _ _ _=>rfl
theorem VA:C.BA wA.nm wA.st wA.ps:=C.dQ fun _ _ _ _ _ _ _=>rfl
theorem VB:C.BA wB.nm wB.st wB.ps:=C.dQ fun _ _ _ _ _ _ _=>rfl
theorem VC:C.BA wC.nm wC.st wC.ps:=C.dI fun _ _ _ _ _ _ _ _=>rfl
theorem VD:C.BA wD.nm wD.st wD.ps:=C.dI fun _ _ _ _ _ _ _ _=>rfl
theorem VF:C.BA wF.nm wF.st wF.ps:=C.Yw fun _ _ _ _ _ _ _ _ _ _=>rfl
theorem VG:C.BA wG.nm wG.st wG.ps:=C.dI fun _ _ _ _ _ _ _ _=>rfl
theorem VH:C.BA wH.nm wH.st wH.ps:=C.dI fun _ _ _ _ _ _ _ _=>rfl
theorem VJ:C.BA wI.nm wI.st wI.ps:=C.dI fun _ _ _ _ _ _ _ _=>rfl
theorem VL:C.BA wJ.nm wJ.st wJ.ps:=C.dI fun _ _ _ _ _ _ _ _=>rfl
theorem VM:C.BA wK.nm wK.st wK.ps:=C.dI fun _ _ _ _ _ _ _ _=>rfl
theorem VN:C.BA wL.nm wL.st wL.ps:=C.dI fun _ _ _ _ _ _ _ _=>rfl
theorem VP:C.BA wM.nm wM.st wM.ps:=C.dI fun _ _ _ _ _ _ _ _=>rfl
theorem VQ:C.BA wN.nm wN.st wN.ps:=C.Yx fun _ _ _ _ _ _ _ _ _ _ _=>rfl
theorem VR:C.BA wO.nm wO.st wO.ps:=C.dI fun _ _ _ _ _ _ _ _=>rfl
theorem VW:C.BA wQ.nm wQ.st wQ.ps:=C.dI fun _ _ _ _ _ _ _ _=>rfl
theorem VX:C.BA wR.nm wR.st wR.ps:=C.dQ fun _ _ _ _ _ _ _=>rfl
theorem VY:C.BA wU.nm wU.st wU.ps:=C.dI fun _ _ _ _ _ _ _ _=>rfl
theorem VZ:C.BA wV.nm wV.st wV.ps:=C.dI fun _ _ _ _ _ _ _ _=>rfl
theorem V0:C.BA wW.nm wW.st wW.ps:=C.dQ fun _ _ _ _ _ _ _=>rfl
theorem V1:C.BA wX.nm wX.st wX.ps:=C.dI fun _ _ _ _ _ _ _ _=>rfl
theorem V2:C.BA wY.nm wY.st wY.ps:=C.dI fun _ _ _ _ _ _ _ _=>rfl
theorem V3:C.BA wZ.nm wZ.st wZ.ps:=C.dQ fun _ _ _ _ _ _ _=>rfl
theorem V4:C.BA w4.nm w4.st w4.ps:=C.dI fun _ _ _ _ _ _ _ _=>rfl
theorem V5:C.BA w5.nm w5.st w5.ps:=C.JC fun _ _ _ _ _ _ _ _ _=>rfl
theorem V6:C.BA w6.nm w6.st w6.ps:=C.dQ fun _ _ _ _ _ _ _=>rfl
theorem V7:C.BA w9.nm w9.st w9.ps:=C.dQ fun _ _ _ _ _ _ _=>rfl
theorem ba:C.wc vq:=⟨V7,V6,V5,V4,V3,V2,V1,V0,VZ,VY,VX,VW,VR,VQ,VP,VN,VM,VL,VJ,VH,VG,VF,VD,VC,VB,VA,Vz,Vy,Vx,Vw,Vv,Vu,Vt,Vs,Xe,Xd,Xc,Xb,Xa,W9,W8,W7,W6,trivial⟩
end aL
namespace aL
open PySem L2 J
theorem ck {d:D}{ds:List D}{n:Nat}:((d::ds).map (fun d=>some (M.al,d))++List.replicate (n+1-(d::ds).length) none:Ev)=some (.al,d)::(ds.map (fun d=>some (M.al,d))++List.replicate (n-ds.length) none):=by simp
theorem bj {n:Nat}:(([]:List D).map (fun d=>some (M.al,d))++List.replicate (n+1-([]:List D).length) none:Ev)=none::(([]:List D).map (fun d=>some (M.al,d))++List.replicate (n-([]:List D).length) none):=rfl
theorem bt:(([]:List D).map (fun d=>some (M.al,d))++List.replicate (0-([]:List D).length) none:Ev)=[]:=rfl
theorem an {a b:Prop} (x:a) (y:b):a∧b:=⟨x,y⟩
def Zd :=
 an @lJ <| an @cT <| an @Ga <| an @Gb <| an @nE <| an @yq <| an @U7 <| an @U8 <| an @nS <| an @lK <| an @cN <| an @cU <| an @Vb <| an @bf <| an @iR <| an @fN <| an @Qc <| an @fO <| an @nF <| an @yt <| an @yu <| an @eV <| an @uv <| an @oi <| an @G4 <| an @cS <| an @km <| an @S6 <| an @jA <| an @Bool.and_self <| an @Bool.and_true <| an @Bool.true_and <| an @Bool.false_eq_true <| an @decide_true <| an @decide_false <| an @Bool.not_true <| an @Bool.not_false <| an @IK <| an @mul_r <| an @jz <| an @div_ii <| an @U6 <| an @Lp @Lb
local macro_rules|`(tactic| walk_at "ev")=>`(tactic| simp -implicitDefEqProofs only [Zd,aj,aM,jB,ag,cf,jV,aJ,ae,ah,aI,au,aR,jC,aw,kJ,rq,zu,cZ,cC,fD,n9,aQ,bA,jG,fP,cy,dB,lW,gL,bx,cX,cu,aX,aW,bP,bN,bV,dE,own,gN,zy,eC,dz,List.map_cons,List.map_nil,List.length_cons,List.length_nil,List.cons_append,List.nil_append,List.replicate,List.getElem?_cons_zero,List.getElem?_cons_succ,List.set_cons_zero,List.set_cons_succ,List.all_cons,List.all_nil,Option.bind_some,Option.bind_none,Option.map_some,Option.map_none,id_eq,if_true,if_false,reduceIte,reduceCtorEq,List.length_map,Nat.reduceAdd,Nat.reduceSub,Nat.reduceLeDiff,Int.reducePow,Int.reduceNeg,Int.reduceLT,Int.reduceLE,Int.reduceToNat,and_self,and_true,true_and,Nat.reduceLT,ne_eq,not_false_eq_true,fA,dJ,gS,nC,As,Int.reduceEq,Int.reduceSub,Int.reduceAdd])
local macro_rules|`(tactic| walk_at "go")=>`(tactic| ((try walk_at "ev");repeat ((first|rw [div_ii (by omega)]|rw [jz (by omega)]|rw [mul_r (by omega)]|rw [Gd (by omega)]|rw [mul_r (by split<;>omega)]);try walk_at "ev")))
theorem gz {α:Type}{a:α}{l:List α}:(a::l)[0]?=some a:=rfl
theorem gy {α:Type}{a:α}{l:List α}{i:Nat}:(a::l)[i+1]?=l[i]?:=List.getElem?_cons_succ
theorem oq {α β:Type}{a:α}{f:α→Option β}:(some a).bind f=f a:=rfl
theorem tz {α:Type}{a b:α}{l:List α}:(a::l).set 0 b=b::l:=rfl
theorem tq {α:Type}{a b:α}{l:List α}{i:Nat}:(a::l).set (i+1) b=a::l.set i b:=rfl
theorem mq {α β:Type}{a:α}{l:List α}{f:α→β}:(a::l).map f=f a::l.map f:=rfl
theorem mn {α β:Type}{f:α→β}:[].map f=[]:=rfl
theorem oy {α β:Type}{a:α}{f:α→β}:(some a).map f=some (f a):=rfl
theorem ln {α β:Type}{l:List α}{f:α→β}:(l.map f).length=l.length:=List.length_map _
theorem dR {c:Ev→Option Bool}{f g:Ev→Option Fl}{e:Ev} (h:c e=some false):aj (aM c f aR) g e=g e:=by simp [aj,aM,h,aR]
noncomputable abbrev AB:Str := "abcdefghijklmnopqrstuvwxyz"
theorem yD (x y:Str):(x++y).length=x.length+y.length:=by
 show (x.cps++y.cps).size=_
 rw [Array.size_append];rfl
theorem lB (ns:List Int) (k:Int) (h0:0≤k):∃ c,iO [.lst (ns.map .int),.int k]=some (.fr,.int c):=by
 unfold iO fn Cb
 walk_at "ev"
 by_cases h:k < ns.length
 ·obtain ⟨c,hc⟩:=C8 h0 h
  refine ⟨c,?_⟩
  simp only [h,hc]
  walk_at "ev"
  simp only [E7,oi]
 ·simp only [h]
  walk_at "go"
  exact ⟨_,rfl⟩
theorem lz (c k:Int):∃ x,iN [.int c,.int k]=some (.fr,.int x):=by
 unfold iN fn BR
 walk_at "go"
 exact ⟨_,rfl⟩
theorem x5 (ns:List Int):∃ b,mX [.lst (ns.map .int)]=some (.fr,.bl b):=by
 obtain ⟨c,hc⟩:=lB ns 0 (by omega)
 unfold mX fn Bw
 walk_at "ev"
 rw [hc]
 walk_at "go"
 exact ⟨_,rfl⟩
theorem Od (c sz a k j:Int) (L:Option (M×D)) (z:Str) (o:Option (M×D)) (hz:z.length≤20) (h0:0≤j) (h1:j < 9) :
  ∃ z' o',pA [some (.fr,.int c),some (.fr,.str AB),some (.fr,.int sz),some (.fr,.int a),L,some (.fr,.int k),some (.fr,.str z),some (.fr,.int j),o]=some (.nx [some (.fr,.int c),some (.fr,.str AB),some (.fr,.int sz),some (.fr,.int a),L,some (.fr,.int k),some (.fr,.str z'),some (.fr,.int j),o'])∧z'.length≤z.length+1:=by
 have Ze:AB.length≤sizeLine:=by decide
 have la:AB.cps.toList.length=26:=by decide +kernel
 have lb:(AB++("0123456789" : Str)).cps.toList.length=36:=by decide +kernel
 have sb:(AB++("0123456789" : Str)).length≤sizeLine:=by decide +kernel
 have sc:AB.length+("0123456789" : Str).length≤sizeLine:=by decide
 have h8:pA [some (.fr,.int c),some (.fr,.str AB),some (.fr,.int sz),some (.fr,.int a),L,some (.fr,.int k),some (.fr,.str z),some (.fr,.int j),o] =
  (aM (cC (jB (ag aN (jV 7) (jV 3))) (jB (ag aN (jV 7) (jC (.int 0)))))
   (au 6 (ag bB (jV 6) (ag ak (jV 1) (ag aS (ag bB (jV 8) (ag dZ (jV 5) (aJ kK (ae (ag aN (jV 7) (jV 3)) ah)))) (jC (.int 26))))))
   (au 6 (ag bB (jV 6) (ag ak (ag bB (jV 1) (jC (.str "0123456789"))) (ag aS (jV 8) (jC (.int 36)))))))
   [some (.fr,.int c),some (.fr,.str AB),some (.fr,.int sz),some (.fr,.int a),L,some (.fr,.int k),some (.fr,.str z),some (.fr,.int j),some (.fr,.int (c / 192 / (j+1)+5*j))]:=by
  unfold pA
  refine av ?_
  walk_at "go"
 rw [h8]
 generalize c / 192 / (j+1)+5*j=st
 have fin:∀ d,J.One d→∃ y:Str,d=.str y∧y.length=1:=fun d ⟨cc,e⟩=>⟨_,e,rfl⟩
 have hc:∃ b,(cC (jB (ag aN (jV 7) (jV 3))) (jB (ag aN (jV 7) (jC (.int 0))))) [some (.fr,.int c),some (.fr,.str AB),some (.fr,.int sz),some (.fr,.int a),L,some (.fr,.int k),some (.fr,.str z),some (.fr,.int j),some (.fr,.int st)]=some b:=by
  walk_at "ev"
  by_cases q:j=a
  ·simp only [q,decide_true];exact ⟨_,rfl⟩
  ·simp only [q,decide_false];exact ⟨_,rfl⟩
 obtain ⟨b,hb⟩:=hc
 cases b with
 |true =>
  rw [bh hb]
  have hm:∀ i:Int,∃ y:Str,ak (.fr,.str AB) (.fr,.int (i%26))=some (.fr,.str y)∧y.length=1:=fun i=>by
   obtain ⟨d,e,od⟩:=xW (m:=.fr) (n:=.fr) (x:=AB) (i:=i%26) Ze (by omega) (by rw [la];omega)
   obtain ⟨y,rfl,hy⟩:=fin d od
   exact ⟨y,e,hy⟩
  walk_at "go"
  obtain ⟨y,e,hy⟩:=hm (st+k*if decide (j=a)=true then 1 else 0)
  rw [e]
  walk_at "ev"
  rw [ur (by rw [hy];exact Nat.le_trans (show z.length+1≤21 by omega) (by decide))]
  walk_at "ev"
  exact ⟨_,_,rfl,by rw [yD];omega⟩
 |false =>
  rw [bK hb]
  walk_at "ev"
  rw [ur sc]
  walk_at "go"
  obtain ⟨d,e,od⟩:=xW (m:=.fr) (n:=.fr) (x:=AB++("0123456789" : Str)) (i:=st%36) sb (by omega) (by rw [lb];omega)
  obtain ⟨y,rfl,hy⟩:=fin d od
  rw [e]
  walk_at "ev"
  rw [ur (by rw [hy];exact Nat.le_trans (show z.length+1≤21 by omega) (by decide))]
  walk_at "ev"
  exact ⟨_,_,rfl,by rw [yD];omega⟩
theorem Oe (c sz a k:Int) (fs:List Str) (o6 o7 o8:Option (M×D)) (hs:0≤sz∧sz≤8) (hf:fs.length≤50) :
  ∃ z bC gd,sN [some (.fr,.int c),some (.fr,.str AB),some (.fr,.int sz),some (.fr,.int a),some (.bo,.lst (fs.map .str)),some (.fr,.int k),o6,o7,o8]=some (.nx [some (.fr,.int c),some (.fr,.str AB),some (.fr,.int sz),some (.fr,.int a),some (.bo,.lst ((fs++[z]).map .str)),some (.fr,.int k),some (.fr,.str z),bC,gd])∧z.length≤20:=by
 obtain ⟨e',l1,z,bC,gd,he,hz⟩:=cL (g:=gN 7) (b:=pA) (m:=.fr) (ds:=bO 0 sz.toNat) (e:=[some (.fr,.int c),some (.fr,.str AB),some (.fr,.int sz),some (.fr,.int a),some (.bo,.lst (fs.map .str)),some (.fr,.int k),some (.fr,.str ""),o7,o8])
  (fun i e=>∃ (z:Str) (o7 o8:Option (M×D)),e=[some (.fr,.int c),some (.fr,.str AB),some (.fr,.int sz),some (.fr,.int a),some (.bo,.lst (fs.map .str)),some (.fr,.int k),some (.fr,.str z),o7,o8]∧z.length≤i) ⟨"",o7,o8,rfl,Nat.le_refl _⟩
  (fun i d e hd aZ=>by
   obtain ⟨z,o7,o8,he,hz⟩:=aZ
   subst he
   obtain ⟨hi,rfl⟩:=jD hd
   obtain ⟨z',o',q,hl⟩:=Od c sz a k (0+(i:Int)) (some (.bo,.lst (fs.map .str))) z o8 (by omega) (by omega) (by omega)
   exact ⟨_,_,rfl,q,z',_,o',rfl,by omega⟩)
 subst he
 rw [ig] at hz
 have hz8:z.length≤8:=by omega
 unfold sN
 rw [av (e':=[some (.fr,.int c),some (.fr,.str AB),some (.fr,.int sz),some (.fr,.int a),some (.bo,.lst (fs.map .str)),some (.fr,.int k),some (.fr,.str ""),o7,o8]) rfl]
 rw [av (e':=[some (.fr,.int c),some (.fr,.str AB),some (.fr,.int sz),some (.fr,.int a),some (.bo,.lst (fs.map .str)),some (.fr,.int k),some (.fr,.str z),bC,gd]) (by
  have bT:-4611686018427387904≤sz∧sz < 4611686018427387904:=by omega
  simp -implicitDefEqProofs only [aW,bN,ae,ah,jV,gz,gy,id_eq,oq,bT,and_self,if_true]
  exact l1)]
 have s5:fs.length < sizeLine:=Nat.lt_of_le_of_lt hf (by decide)
 have hb:∃ b,(jB (ag (dM false) (jV 6) (aQ (ae (jC (.str "say")) (ae (jC (.str "go")) (ae (jC (.str "part")) (ae (jC (.str "end")) ah))))))) [some (.fr,.int c),some (.fr,.str AB),some (.fr,.int sz),some (.fr,.int a),some (.bo,.lst (fs.map .str)),some (.fr,.int k),some (.fr,.str z),bC,gd]=some b:=⟨dH (.str z) [.str "say",.str "go",.str "part",.str "end"],by with_unfolding_all rfl⟩
 obtain ⟨b,hb⟩:=hb
 cases b with
 |false =>
  rw [av (e':=[some (.fr,.int c),some (.fr,.str AB),some (.fr,.int sz),some (.fr,.int a),some (.bo,.lst (fs.map .str)),some (.fr,.int k),some (.fr,.str z),bC,gd]) (by rw [bK hb];rfl)]
  refine ⟨z,bC,gd,?_,by omega⟩
  simp -implicitDefEqProofs only [cy,jV,gz,gy,id_eq,oq,eV,if_true,dE,own,ln,s5,tz,tq,List.map_append,mq,mn]
 |true =>
  have s1:z.length+("1" : Str).length≤sizeLine:=Nat.le_trans (show z.length+1≤9 by omega) (by decide)
  rw [av (e':=[some (.fr,.int c),some (.fr,.str AB),some (.fr,.int sz),some (.fr,.int a),some (.bo,.lst (fs.map .str)),some (.fr,.int k),some (.fr,.str (z ++ "1")),bC,gd]) (by
   rw [bh hb]
   simp -implicitDefEqProofs only [au,ag,jV,jC,gz,gy,id_eq,oq,ur s1,fN,tz,tq])]
  refine ⟨z ++ "1",bC,gd,?_,by
   rw [yD];have:("1" : Str).length=1:=rfl
   omega⟩
  simp -implicitDefEqProofs only [cy,jV,gz,gy,id_eq,oq,eV,if_true,dE,own,ln,s5,tz,tq,List.map_append,mq,mn]
theorem xI (c:Int):∃ fs:List Str,(3≤fs.length∧fs.length≤5)∧m5 [.int c]=some (.un,.lst (fs.map .str)):=by
 obtain ⟨x,hx⟩:=lz c 3
 obtain ⟨e',l1,fs,o5,o6,o7,o8,he,hl⟩:=cL (g:=gN 5) (b:=sN) (m:=.fr) (ds:=bO 0 (3+x / 64%3).toNat) (e:=[some (.fr,.int x),some (.fr,.str AB),some (.fr,.int (1+x%8)),some (.fr,.int (x / 8%(1+x%8))),some (.bo,.lst []),none,none,none,none])
  (fun i e=>∃ (fs:List Str) (o5 o6 o7 o8:Option (M×D)),e=[some (.fr,.int x),some (.fr,.str AB),some (.fr,.int (1+x%8)),some (.fr,.int (x / 8%(1+x%8))),some (.bo,.lst (fs.map .str)),o5,o6,o7,o8]∧fs.length=i) ⟨[],none,none,none,none,rfl,rfl⟩
  (fun i d e hd aZ=>by
   obtain ⟨fs,o5,o6,o7,o8,he,hl⟩:=aZ
   subst he
   obtain ⟨hi,rfl⟩:=jD hd
   obtain ⟨z,bC,gd,q,hz⟩:=Oe x (1+x%8) (x / 8%(1+x%8)) (0+(i:Int)) fs o6 o7 o8 (by omega) (by omega)
   exact ⟨_,_,rfl,q,fs++[z],_,_,bC,gd,rfl,by simp [hl]⟩)
 subst he
 rw [ig] at hl
 refine ⟨fs,by omega,?_⟩
 unfold m5 fn BU
 simp only [ck,bj,bt]
 rw [av (e':=[some (.al,.int c),some (.fr,.str AB),none,none,none,none,none,none,none]) rfl]
 rw [av (e':=[some (.fr,.int x),some (.fr,.str AB),none,none,none,none,none,none,none]) (by walk_at "ev"; rw [hx];walk_at "ev")]
 rw [av (e':=[some (.fr,.int x),some (.fr,.str AB),some (.fr,.int (1+x%8)),none,none,none,none,none,none]) (by walk_at "go")]
 rw [av (e':=[some (.fr,.int x),some (.fr,.str AB),some (.fr,.int (1+x%8)),some (.fr,.int (x / 8%(1+x%8))),none,none,none,none,none]) (by walk_at "go")]
 rw [av (e':=[some (.fr,.int x),some (.fr,.str AB),some (.fr,.int (1+x%8)),some (.fr,.int (x / 8%(1+x%8))),some (.bo,.lst []),none,none,none,none]) rfl]
 rw [av (e':=[some (.fr,.int x),some (.fr,.str AB),some (.fr,.int (1+x%8)),some (.fr,.int (x / 8%(1+x%8))),some (.bo,.lst (fs.map .str)),o5,o6,o7,o8]) (by
  have bT:-4611686018427387904≤3+x / 64%3∧3+x / 64%3 < 4611686018427387904:=by omega
  walk_at "go"
  simp -implicitDefEqProofs only [bT,and_self,if_true,oq]
  exact l1)]
 rfl
theorem MT {ns:List Str}{k:Int} (h0:0≤k) (h1:k < ns.length):∃ c,L2.bw (ns.map D.str) k=some (.str c):=N3 h0 h1
theorem m7 (c:Int) (ns:List Str) (h:0 < ns.length):∃ k:Ko,hZ [.int c,.lst (ns.map .str)]=some (.fr,kD k):=by
 unfold hZ fn Bx
 simp only [ck,bj,bt]
 have hb:(jB (ag aN (ag aS (jV 0) (jC (.int 6))) (jC (.int 0)))) [some (.al,.int c),some (.al,.lst (ns.map .str))]=some (decide (c%6=0)):=by walk_at "go"
 by_cases q:c%6=0
 ·rw [dC (e':=[some (.al,.int c),some (.al,.lst (ns.map .str))]) (m:=.fr) (d:=kD (.inl ((L2.bw [0,1,18446744073709551615,c / 24*48271%18446744073709551616] (c / 6%4)).getD 0))) (by
   rw [bh (by rw [hb,q];rfl)]
   walk_at "go"
   have e:=gF (l:=[D.int 0,.int 1,.int 18446744073709551615,.int (c / 24*48271%18446744073709551616)]) (k:=c / 6%4) (by omega) (by simp;omega)
   have e2:=gF (l:=[(0:Int),1,18446744073709551615,c / 24*48271%18446744073709551616]) (k:=c / 6%4) (by omega) (by simp;omega)
   rw [e,e2]
   have:∀ (l:List Int) (i:Nat) (h:i < l.length) (h':i < (l.map D.int).length),(l.map D.int)[i]=D.int l[i]:=fun l i h h'=>by simp
   have e3:=this [(0:Int),1,18446744073709551615,c / 24*48271%18446744073709551616] (c / 6%4).toNat (by simp;omega) (by simp;omega)
   simp -implicitDefEqProofs only [mq,mn] at e3
   rw [e3]
   rfl)]
  exact ⟨_,rfl⟩
 ·rw [dR (by rw [hb,decide_eq_false q])]
  walk_at "go"
  obtain ⟨z,e⟩:=MT (ns:=ns) (k:=c / 6%ns.length) (Int.emod_nonneg _ (by omega)) (Int.emod_lt_of_pos _ (by omega))
  rw [e]
  walk_at "ev"
  exact ⟨.inr z,by simp only [E7,G4];rfl⟩
noncomputable abbrev De:=Str×Ko×Ko
noncomputable def ao (q:De):D:=.tup [.str q.1,kD q.2.1,kD q.2.2]
theorem T8 (q:De):(ao q).bR=true:=by simp only [ao,D.bR,D.cP,qf,Bool.and_self]
theorem ng {α β:Type}{f:α→β}{l:List α}{k:Int} (h0:0≤k) (h1:k < l.length):∃ c∈l,L2.bw (l.map f) k=some (f c):=by
 rw [gF h0 (by simpa using h1)]
 exact ⟨l[k.toNat]'(by omega),List.getElem_mem _,by simp⟩
section
variable {m n:M}
theorem V8:gn (m,.int 10) (n,.int 21)=some (.fr,.int 1000000000000000000000):=by
 rw [yr (by decide),show (10:Int) ^ (21:Int).toNat=1000000000000000000000 by decide]
theorem V9:gn (m,.int 10) (n,.int 42)=some (.fr,.int 1000000000000000000000000000000000000000000):=by
 rw [yr (by decide),show (10:Int) ^ (42:Int).toNat=1000000000000000000000000000000000000000000 by decide]
end
theorem T9 {m n:M}{i:Int} (h0:0≤i) (h1:i < 8):∃ s:Str,ak (m,.str "+-*&|^<=") (n,.int i)=some (.fr,.str s):=by
 obtain ⟨d,e,c,rfl⟩:=xW (m:=m) (n:=n) (x := "+-*&|^<=") (i:=i) (by decide) h0 (by rw [show (("+-*&|^<=" : Str).cps.toList.length:Int)=8 by decide +kernel];exact h1)
 exact ⟨_,e⟩
theorem QI (ns:List Int) (fs:List Str) (hf:0 < fs.length) (A2 A3:Option (M×D)) (r k:Int) (ds:List De) (hd:ds.length≤50) (o7 o8 o9:Option (M×D)) :
  ∃ r' q bC gd A6,sO [some (.al,.lst (ns.map .int)),some (.al,.lst (fs.map .str)),A2,A3,some (.fr,.int r),some (.bo,.lst (ds.map ao)),some (.fr,.int k),o7,o8,o9]=some (.nx [some (.al,.lst (ns.map .int)),some (.al,.lst (fs.map .str)),A2,A3,some (.fr,.int r'),some (.bo,.lst ((ds++[q]).map ao)),some (.fr,.int k),bC,gd,A6]):=by
 obtain ⟨x1,h1⟩:=lz r k
 obtain ⟨x2,h2⟩:=lz r (k+20)
 obtain ⟨x3,h3⟩:=lz r (k+40)
 obtain ⟨b,hb⟩:=x5 ns
 have s5:ds.length < sizeLine:=Nat.lt_of_le_of_lt hd (by decide)
 unfold sO
 rw [av (e':=[some (.al,.lst (ns.map .int)),some (.al,.lst (fs.map .str)),A2,A3,some (.fr,.int r),some (.bo,.lst (ds.map ao)),some (.fr,.int k),some (.fr,.int x1),o8,o9]) (by walk_at "ev"; rw [h1];walk_at "ev")]
 rw [av (e':=[some (.al,.lst (ns.map .int)),some (.al,.lst (fs.map .str)),A2,A3,some (.fr,.int r),some (.bo,.lst (ds.map ao)),some (.fr,.int k),some (.fr,.int x1),some (.fr,.int x2),o9]) (by walk_at "ev"; rw [h2];walk_at "ev")]
 rw [av (e':=[some (.al,.lst (ns.map .int)),some (.al,.lst (fs.map .str)),A2,A3,some (.fr,.int r),some (.bo,.lst (ds.map ao)),some (.fr,.int k),some (.fr,.int x1),some (.fr,.int x2),some (.fr,.int (x3%8))]) (by walk_at "ev"; rw [h3];walk_at "go")]
 have fin:∀ (r' y1 y2 y3:Int),0≤y3→y3 < 8→∃ q,cy 5 (aQ (ae (ag ak (jC (.str "+-*&|^<=")) (jV 9)) (ae (aw hZ (ae (jV 7) (ae (jV 1) ah))) (ae (aw hZ (ae (jV 8) (ae (jV 1) ah))) ah)))) [some (.al,.lst (ns.map .int)),some (.al,.lst (fs.map .str)),A2,A3,some (.fr,.int r'),some (.bo,.lst (ds.map ao)),some (.fr,.int k),some (.fr,.int y1),some (.fr,.int y2),some (.fr,.int y3)]=some (.nx [some (.al,.lst (ns.map .int)),some (.al,.lst (fs.map .str)),A2,A3,some (.fr,.int r'),some (.bo,.lst ((ds++[q]).map ao)),some (.fr,.int k),some (.fr,.int y1),some (.fr,.int y2),some (.fr,.int y3)]):=fun r' y1 y2 y3 z0 z1=>by
  obtain ⟨s,hs⟩:=T9 (m:=.fr) (n:=.fr) z0 z1
  obtain ⟨a,ha⟩:=m7 y1 fs hf
  obtain ⟨b,hb⟩:=m7 y2 fs hf
  refine ⟨(s,a,b),?_⟩
  walk_at "ev"
  rw [hs]
  walk_at "ev"
  rw [ha]
  walk_at "ev"
  rw [hb]
  walk_at "ev"
  simp -implicitDefEqProofs only [s5,if_true,List.map_append,mq,mn,ao]
 cases b with
 |false =>
  rw [av (e':=[some (.al,.lst (ns.map .int)),some (.al,.lst (fs.map .str)),A2,A3,some (.fr,.int r),some (.bo,.lst (ds.map ao)),some (.fr,.int k),some (.fr,.int x1),some (.fr,.int x2),some (.fr,.int (x3%8))]) (by walk_at "ev"; rw [hb];walk_at "ev")]
  obtain ⟨q,hq⟩:=fin r x1 x2 (x3%8) (by omega) (by omega)
  exact ⟨_,q,_,_,_,hq⟩
 |true =>
  rw [av (e':=[some (.al,.lst (ns.map .int)),some (.al,.lst (fs.map .str)),A2,A3,some (.fr,.int (r / 8000000000000000000000000000000000000000000)),some (.bo,.lst (ds.map ao)),some (.fr,.int k),some (.fr,.int (r%1000000000000000000000)),some (.fr,.int (r / 1000000000000000000000%1000000000000000000000)),some (.fr,.int (r / 1000000000000000000000000000000000000000000%8))]) (by
   rw [bh (by walk_at "ev"; rw [hb];rfl)]
   walk_at "ev"
   simp -implicitDefEqProofs only [V8,V9]
   walk_at "go"
   rfl)]
  obtain ⟨q,hq⟩:=fin (r / 8000000000000000000000000000000000000000000) (r%1000000000000000000000) (r / 1000000000000000000000%1000000000000000000000) (r / 1000000000000000000000000000000000000000000%8) (by omega) (by omega)
  exact ⟨_,q,_,_,_,hq⟩
theorem xJ (ns:List Int) (fs:List Str) (hf:0 < fs.length):∃ ds:List De,(1≤ds.length∧ds.length≤12)∧m6 [.lst (ns.map .int),.lst (fs.map .str)]=some (.un,.lst (ds.map ao)):=by
 obtain ⟨c,hc⟩:=lB ns 1 (by omega)
 unfold m6 fn BV
 simp only [ck,bj,bt]
 rw [av (e':=[some (.al,.lst (ns.map .int)),some (.al,.lst (fs.map .str)),some (.fr,.int c),none,none,none,none,none,none,none]) (by walk_at "ev"; rw [hc];walk_at "ev")]
 rw [av (e':=[some (.al,.lst (ns.map .int)),some (.al,.lst (fs.map .str)),some (.fr,.int c),some (.fr,.int (1+c%4)),none,none,none,none,none,none]) (by walk_at "go")]
 have hm:∃ many:Int,(1≤many∧many≤12)∧aM (jB (ag aN (ag aS (ag bW (jV 2) (jC (.int 4))) (jC (.int 6))) (jC (.int 1)))) (au 3 (jC (.int 12))) aR [some (.al,.lst (ns.map .int)),some (.al,.lst (fs.map .str)),some (.fr,.int c),some (.fr,.int (1+c%4)),none,none,none,none,none,none]=some (.nx [some (.al,.lst (ns.map .int)),some (.al,.lst (fs.map .str)),some (.fr,.int c),some (.fr,.int many),none,none,none,none,none,none]):=by
  by_cases q:c / 4%6=1
  ·exact ⟨12,by omega,by rw [bh (by walk_at "go"; simp only [q,decide_true])];rfl⟩
  ·exact ⟨1+c%4,by omega,by rw [bK (by walk_at "go"; simp only [q,decide_false])];rfl⟩
 obtain ⟨many,rS,em⟩:=hm
 rw [av em]
 rw [av (e':=[some (.al,.lst (ns.map .int)),some (.al,.lst (fs.map .str)),some (.fr,.int c),some (.fr,.int many),some (.fr,.int (c / 24)),none,none,none,none,none]) (by walk_at "go")]
 rw [av (e':=[some (.al,.lst (ns.map .int)),some (.al,.lst (fs.map .str)),some (.fr,.int c),some (.fr,.int many),some (.fr,.int (c / 24)),some (.bo,.lst []),none,none,none,none]) rfl]
 obtain ⟨e',l1,ds,r,o6,o7,o8,o9,he,hl⟩:=cL (g:=gN 6) (b:=sO) (m:=.fr) (ds:=bO 0 many.toNat) (e:=[some (.al,.lst (ns.map .int)),some (.al,.lst (fs.map .str)),some (.fr,.int c),some (.fr,.int many),some (.fr,.int (c / 24)),some (.bo,.lst []),none,none,none,none])
  (fun i e=>∃ (ds:List De) (r:Int) (o6 o7 o8 o9:Option (M×D)),e=[some (.al,.lst (ns.map .int)),some (.al,.lst (fs.map .str)),some (.fr,.int c),some (.fr,.int many),some (.fr,.int r),some (.bo,.lst (ds.map ao)),o6,o7,o8,o9]∧ds.length=i) ⟨[],_,none,none,none,none,rfl,rfl⟩
  (fun i d e hd aZ=>by
   obtain ⟨ds,r,o6,o7,o8,o9,he,hl⟩:=aZ
   subst he
   obtain ⟨hi,rfl⟩:=jD hd
   obtain ⟨r',q,bC,gd,A6,e⟩:=QI ns fs hf (some (.fr,.int c)) (some (.fr,.int many)) r (0+(i:Int)) ds (by omega) o7 o8 o9
   exact ⟨_,_,rfl,e,ds++[q],r',_,bC,gd,A6,rfl,by simp [hl]⟩)
 subst he
 rw [ig] at hl
 rw [av (e':=[some (.al,.lst (ns.map .int)),some (.al,.lst (fs.map .str)),some (.fr,.int c),some (.fr,.int many),some (.fr,.int r),some (.bo,.lst (ds.map ao)),o6,o7,o8,o9]) (by
  have bT:-4611686018427387904≤many∧many < 4611686018427387904:=by omega
  simp -implicitDefEqProofs only [aW,bN,ae,ah,jV,gz,gy,id_eq,oq,bT,and_self,if_true]
  exact l1)]
 by_cases q2:ds.length=2
 ·obtain ⟨d0,d1,rfl⟩:∃ a b,ds=[a,b]:=by
   clear hl l1
   obtain _|⟨a,_|⟨b,_|_⟩⟩:=ds
   ·cases q2
   ·cases q2
   ·exact ⟨a,b,rfl⟩
   ·cases q2
  by_cases q3:c / 4%3=0
  ·refine ⟨[d0,(d0.1,d0.2.2,d0.2.1)],by simp,?_⟩
   rw [av (e':=[some (.al,.lst (ns.map .int)),some (.al,.lst (fs.map .str)),some (.fr,.int c),some (.fr,.int many),some (.fr,.int r),some (.bo,.lst ([d0,(d0.1,d0.2.2,d0.2.1)].map ao)),o6,o7,o8,o9]) (by
    rw [bh (by walk_at "go"; simp [q3])]
    rfl)]
   rfl
  ·refine ⟨[d0,d1],by simp,?_⟩
   rw [av (e':=[some (.al,.lst (ns.map .int)),some (.al,.lst (fs.map .str)),some (.fr,.int c),some (.fr,.int many),some (.fr,.int r),some (.bo,.lst ([d0,d1].map ao)),o6,o7,o8,o9]) (by
    rw [bK (by walk_at "go"; simp [q3])]
    rfl)]
   rfl
 ·refine ⟨ds,by omega,?_⟩
  rw [av (e':=[some (.al,.lst (ns.map .int)),some (.al,.lst (fs.map .str)),some (.fr,.int c),some (.fr,.int many),some (.fr,.int r),some (.bo,.lst (ds.map ao)),o6,o7,o8,o9]) (by
   rw [bK (by
    walk_at "ev"
    have:¬ ((ds.length:Int)=2):=by omega
    simp only [this,decide_false]
    walk_at "ev")]
   rfl)]
  rfl
noncomputable def Row.flat:Row→Bool
 |.rk _ _ _ _=>true
 |.cp _ _=>true
 |.sy _=>true
 |_=>false
theorem Fu (c o:Int) (fs:List Str) (hf:0 < fs.length) (ds:List De) (hd:0 < ds.length):∃ r:Row,pT [.int c,.int o,.lst (fs.map .str),.lst (ds.map ao)]=some (.fr,r.d)∧(c%11 < 7→Row.flat r=true)∧(7≤c%11→c%11 < 9→∃ a t,r=.pt a t∧0≤t)∧(9≤c%11→∃ a,r=.pt a (-1)):=by
 obtain ⟨nm,_,hn⟩:=ng (f:=D.str) (l:=fs) (k:=o%60%fs.length) (Int.emod_nonneg _ (by omega)) (Int.emod_lt_of_pos _ (by omega))
 obtain ⟨op,ho⟩:=m7 (o / 43200) fs hf
 obtain ⟨q,_,hq⟩:=ng (f:=ao) (l:=ds) (k:=o / 60%12%ds.length) (Int.emod_nonneg _ (by omega)) (Int.emod_lt_of_pos _ (by omega))
 unfold pT fn CM
 simp only [ck,bj,bt]
 rw [av (e':=[some (.al,.int c),some (.al,.int o),some (.al,.lst (fs.map .str)),some (.al,.lst (ds.map ao)),some (.al,.str nm),none,none,none,none]) (by
  walk_at "go"
  rw [hn]
  walk_at "ev")]
 rw [av (e':=[some (.al,.int c),some (.al,.int o),some (.al,.lst (fs.map .str)),some (.al,.lst (ds.map ao)),some (.al,.str nm),some (.fr,kD op),none,none,none]) (by
  walk_at "go"
  rw [ho]
  walk_at "ev")]
 by_cases q1:c%11 < 5
 ·refine ⟨.rk nm q.1 q.2.1 q.2.2,?_,fun _=>rfl,fun z=>by omega,fun z=>by omega⟩
  rw [dC (e':=[some (.al,.int c),some (.al,.int o),some (.al,.lst (fs.map .str)),some (.al,.lst (ds.map ao)),some (.al,.str nm),some (.fr,kD op),some (.al,.str q.1),some (.al,kD q.2.1),some (.al,kD q.2.2)]) (m:=.fr) (d:=Row.d (.rk nm q.1 q.2.1 q.2.2)) (by
   rw [bh (by walk_at "go"; simp only [q1,decide_true])]
   rw [av (e':=[some (.al,.int c),some (.al,.int o),some (.al,.lst (fs.map .str)),some (.al,.lst (ds.map ao)),some (.al,.str nm),some (.fr,kD op),some (.al,.str q.1),some (.al,kD q.2.1),some (.al,kD q.2.2)]) (by
    walk_at "go"
    rw [hq]
    rfl)]
   walk_at "ev"
   simp -implicitDefEqProofs only [qf,Bool.and_self,if_true]
   rfl)]
  rfl
 rw [dR (by walk_at "go"; simp only [q1,decide_false])]
 by_cases q2:c%11=5
 ·refine ⟨.cp nm op,?_,fun _=>rfl,fun z=>by omega,fun z=>by omega⟩
  rw [dC (e':=[some (.al,.int c),some (.al,.int o),some (.al,.lst (fs.map .str)),some (.al,.lst (ds.map ao)),some (.al,.str nm),some (.fr,kD op),none,none,none]) (m:=.fr) (d:=Row.d (.cp nm op)) (by
   rw [bh (by walk_at "go"; simp only [q2,decide_true])]
   walk_at "ev"
   rfl)]
  rfl
 rw [dR (by walk_at "go"; simp only [q2,decide_false])]
 by_cases q3:c%11=6
 ·refine ⟨.sy op,?_,fun _=>rfl,fun z=>by omega,fun z=>by omega⟩
  rw [dC (e':=[some (.al,.int c),some (.al,.int o),some (.al,.lst (fs.map .str)),some (.al,.lst (ds.map ao)),some (.al,.str nm),some (.fr,kD op),none,none,none]) (m:=.fr) (d:=Row.d (.sy op)) (by
   rw [bh (by walk_at "go"; simp only [q3,decide_true])]
   walk_at "ev"
   rfl)]
  rfl
 rw [dR (by walk_at "go"; simp only [q3,decide_false])]
 by_cases q4:c%11 < 9
 ·refine ⟨.pt op (o / 720%60),?_,fun z=>by omega,fun _ _=>⟨_,_,rfl,by omega⟩,fun z=>by omega⟩
  rw [dC (e':=[some (.al,.int c),some (.al,.int o),some (.al,.lst (fs.map .str)),some (.al,.lst (ds.map ao)),some (.al,.str nm),some (.fr,kD op),none,none,none]) (m:=.fr) (d:=Row.d (.pt op (o / 720%60))) (by
   rw [bh (by walk_at "go"; simp only [q4,decide_true])]
   walk_at "go"
   rfl)]
  rfl
 ·refine ⟨.pt op (-1),?_,fun z=>by omega,fun _ z=>by omega,fun _=>⟨_,rfl⟩⟩
  rw [dR (by walk_at "go"; simp only [q4,decide_false])]
  walk_at "ev"
  rfl
noncomputable def Row.cA:Row→Bool
 |.go _=>true
 |_=>false
noncomputable def Row.fu:Row→Bool
 |.pt _ _=>true
 |_=>false
noncomputable def Row.cQ:Row→Bool
 |.en=>true
 |_=>false
theorem fT (r:Row):decide (r.word=("go" : Str))=Row.cA r:=by
 cases r with
 |rk x s a b=>exact (by decide +kernel:decide (("reckon" : Str) = "go")=false)
 |cp x a=>exact (by decide +kernel:decide (("copy" : Str) = "go")=false)
 |sy a=>exact (by decide +kernel:decide (("say" : Str) = "go")=false)
 |go t=>exact (by decide +kernel:decide (("go" : Str) = "go")=true)
 |pt a t=>exact (by decide +kernel:decide (("part" : Str) = "go")=false)
 |en=>exact (by decide +kernel:decide (("end" : Str) = "go")=false)
theorem iD (r:Row):decide (r.word=("part" : Str))=Row.fu r:=by
 cases r with
 |rk x s a b=>exact (by decide +kernel:decide (("reckon" : Str) = "part")=false)
 |cp x a=>exact (by decide +kernel:decide (("copy" : Str) = "part")=false)
 |sy a=>exact (by decide +kernel:decide (("say" : Str) = "part")=false)
 |go t=>exact (by decide +kernel:decide (("go" : Str) = "part")=false)
 |pt a t=>exact (by decide +kernel:decide (("part" : Str) = "part")=true)
 |en=>exact (by decide +kernel:decide (("end" : Str) = "part")=false)
theorem fU (r:Row):decide (r.word=("end" : Str))=Row.cQ r:=by
 cases r with
 |rk x s a b=>exact (by decide +kernel:decide (("reckon" : Str) = "end")=false)
 |cp x a=>exact (by decide +kernel:decide (("copy" : Str) = "end")=false)
 |sy a=>exact (by decide +kernel:decide (("say" : Str) = "end")=false)
 |go t=>exact (by decide +kernel:decide (("go" : Str) = "end")=false)
 |pt a t=>exact (by decide +kernel:decide (("part" : Str) = "end")=false)
 |en=>exact (by decide +kernel:decide (("end" : Str) = "end")=true)
theorem cI (m n:M) (r:Row):ak (m,r.d) (n,.int 0)=some (aV m,.str r.word):=by
 show (L2.bw r.ds 0).map (fun d=>(aV m,d))=_
 rw [Row.X7];rfl
theorem Eg {rs:List Row}{i:Nat}{d:D} (h:(bG (rs.map Row.d))[i]?=some d):∃ r,rs[i]?=some r∧d=.tup [.int i,r.d]:=by
 unfold bG at h
 rw [List.getElem?_mapIdx,List.getElem?_map] at h
 cases e:rs[i]? with
 |none=>rw [e] at h;cases h
 |some r=>rw [e] at h;cases h;exact ⟨r,rfl,rfl⟩
noncomputable def a9 (n:Int):Row→List Int
 |.en=>[]
 |.go t=>[t]
 |.pt _ t=>[n+1,t]
 |_=>[n+1]
def aO (rs:List Row) (i j:Nat):Prop:=∃ r,rs[i]?=some r∧(j:Int)∈a9 i r∧j < rs.length
theorem Fv (rs:List Row) (n:Nat) (r:Row) (h:rs[n]?=some r):pG [.lst (rs.map Row.d),.int n]=some (.un,.lst ((a9 n r).map .int)):=by
 have aU:n < rs.length:=(List.getElem?_eq_some_iff.mp h).1
 have xa:L2.bw (rs.map Row.d) (n:Int)=some r.d:=by
  rw [lA (by rw [ln];exact aU),List.getElem_map]
  rw [List.getElem?_eq_getElem aU] at h
  rw [Option.some.inj h]
 generalize (n:Int)=nn at xa ⊢
 unfold pG fn BP
 walk_at "ev"
 rw [xa]
 walk_at "ev"
 simp -implicitDefEqProofs only [cI,oq,cS,cT,bf,fU,fT,iD]
 cases r with
 |en=>simp only [Row.cQ,a9];walk_at "ev"
 |go t =>
  have q:∀ {m n:M},ak (m,Row.d (.go t)) (n,.int 1)=some (aV m,.int t):=fun {m n}=>rfl
  simp only [Row.cQ,Row.cA,a9]
  walk_at "ev"
  simp -implicitDefEqProofs only [cI,oq,cS,cT,bf,fU,fT,iD,Row.cA]
  walk_at "ev"
  rw [q]
  walk_at "ev"
 |pt a t =>
  have q:∀ {m n:M},ak (m,Row.d (.pt a t)) (n,.int 2)=some (aV m,.int t):=fun {m n}=>rfl
  simp only [Row.cQ,Row.cA,Row.fu,a9]
  walk_at "ev"
  simp -implicitDefEqProofs only [cI,oq,cS,cT,bf,fU,fT,iD,Row.cA,Row.fu]
  walk_at "ev"
  simp -implicitDefEqProofs only [cI,oq,cS,cT,bf,fU,fT,iD,Row.cA,Row.fu]
  walk_at "ev"
  rw [q]
  walk_at "ev"
 |rk x s a b =>
  simp only [Row.cQ,a9]
  walk_at "ev"
  simp -implicitDefEqProofs only [cI,oq,cS,cT,bf,fU,fT,iD,Row.cA,Row.fu]
  walk_at "ev"
  simp -implicitDefEqProofs only [cI,oq,cS,cT,bf,fU,fT,iD,Row.cA,Row.fu]
  walk_at "ev"
 |cp x a =>
  simp only [Row.cQ,a9]
  walk_at "ev"
  simp -implicitDefEqProofs only [cI,oq,cS,cT,bf,fU,fT,iD,Row.cA,Row.fu]
  walk_at "ev"
  simp -implicitDefEqProofs only [cI,oq,cS,cT,bf,fU,fT,iD,Row.cA,Row.fu]
  walk_at "ev"
 |sy a =>
  simp only [Row.cQ,a9]
  walk_at "ev"
  simp -implicitDefEqProofs only [cI,oq,cS,cT,bf,fU,fT,iD,Row.cA,Row.fu]
  walk_at "ev"
  simp -implicitDefEqProofs only [cI,oq,cS,cT,bf,fU,fT,iD,Row.cA,Row.fu]
  walk_at "ev"
theorem x6 (rs:List Row) (n:Nat) (r:Row) (h:rs[n]?=some r):ph [.lst (rs.map Row.d),.int n]=some (.un,.lst ((a9 n r).map .int)):=Fv rs n r h
structure Good (rs:List Row):Prop where
 pos:0 < rs.length
 a9:∀ (n:Nat) r,rs[n]?=some r→∀ m∈aL.a9 n r,0≤m∧m < rs.length
theorem lq:∀ (N:Nat) (l:List Nat),l.Nodup→(∀ x∈l,x < N)→l.length≤N
 |0,l,_,h=>by
  cases l with
  |nil=>exact Nat.le_refl _
  |cons a l=>exact absurd (h a List.mem_cons_self) (Nat.not_lt_zero a)
 |N+1,l,hn,h=>by
  have ih:=lq N (l.erase N) (hn.erase N) (fun x hx=>by
   have h1:=h x (List.mem_of_mem_erase hx)
   have h2:x≠N:=fun e=>by subst e;exact (List.Nodup.not_mem_erase hn) hx
   omega)
  rw [List.length_erase] at ih
  split at ih<;>omega
noncomputable def aq (l:List Nat):List D:=l.map fun (n:Nat)=>D.int (n:Int)
theorem dq (l:List Nat):(aq l).length=l.length:=by simp [aq]
theorem Dq (l:List Nat) (x:Nat):aq l++[D.int (x:Int)]=aq (l++[x]):=by simp [aq]
noncomputable def cB (rs:List Row) (n:Nat):List Int:=match rs[n]? with
 |some r=>a9 n r
 |none=>[]
noncomputable def eD (rs:List Row) (n:Nat):List Nat:=(cB rs n).map Int.toNat
theorem xK {rs:List Row} (g:Good rs) {n:Nat}{m:Int} (h:m∈cB rs n):0≤m∧m < rs.length:=by
 unfold cB at h
 split at h
 ·rename_i r hr;exact g.a9 _ _ hr _ h
 ·cases h
theorem yE {rs:List Row} (g:Good rs) (n:Nat):(cB rs n).map D.int=aq (eD rs n):=by
 unfold aq eD
 rw [List.map_map]
 refine List.map_congr_left fun m hm=>?_
 have:=xK g hm
 show D.int m=D.int ((m.toNat:Nat):Int)
 rw [Int.toNat_of_nonneg this.1]
theorem pY {rs:List Row} (g:Good rs) {n m:Nat} (h:m∈eD rs n):aO rs n m:=by
 obtain ⟨x,hx,rfl⟩:=List.mem_map.mp h
 have b:=xK g hx
 unfold cB at hx
 split at hx
 ·rename_i r hr
  exact ⟨r,hr,by rw [Int.toNat_of_nonneg b.1];exact hx,by omega⟩
 ·cases hx
theorem Dr {rs:List Row}{n m:Nat} (h:aO rs n m):m∈eD rs n:=by
 obtain ⟨r,hr,hm,_⟩:=h
 refine List.mem_map.mpr ⟨(m:Int),?_,by simp⟩
 unfold cB;rw [hr];exact hm
noncomputable def di (rs:List Row):List D:=(List.range rs.length).map fun n=>D.lst ((cB rs n).map D.int)
theorem CQ {fe:Ev→Option (M×D)}{m m':M}{fr:Ev}:∀ {ds:List D}{G:Nat→D},(∀ (k:Nat) d,ds[k]?=some d→fe (some (m,d)::fr)=some (m',G k))→cY dz fe m fr ds=some ((List.range ds.length).map fun k=>(m',G k))
 |[],G,_=>rfl
 |d::ds,G,h=>by
  have ih:=CQ (fe:=fe) (m:=m) (m':=m') (fr:=fr) (ds:=ds) (G:=fun k=>G (k+1)) fun k e he=>h (k+1) e (by simpa using he)
  rw [cY,show dz (some (m,d)::fr)=some true from rfl,oq,if_pos rfl,h 0 d rfl,oq,ih,oq,List.length_cons,List.range_succ_eq_map,mq,List.map_map]
  rfl
theorem Ua {m:M} (hm:m=.fr∨m=.un) {N:Nat} (h:N≤1000) (G:Nat→D):fP ((List.range N).map fun k=>(m,G k))=some (.un,.lst ((List.range N).map G)):=by
 unfold fP
 rw [if_pos (by rw [ln,List.length_range];exact Nat.le_trans h (by decide)),if_pos (by rw [List.all_map];exact List.all_eq_true.mpr fun _ _=>by rcases hm with rfl|rfl<;>rfl),List.map_map]
 rfl
theorem Cg {rs:List Row} (hl:rs.length≤800):pf [.lst (rs.map Row.d)]=some (.un,.lst (di rs)):=by
 have ex:=CQ (fe:=aw pG (ae (jV 1) (ae (jV 0) ah))) (m:=.fr) (m':=.un) (fr:=[some (.al,.lst (rs.map Row.d))]) (ds:=bO 0 rs.length) (G:=fun n=>D.lst ((cB rs n).map D.int)) (fun k d hd=>by
  obtain ⟨hk,rfl⟩:=jD hd
  have hr:rs[k]?=some (rs[k]'hk):=by simp
  have e:=Fv rs k _ hr
  have ef:cB rs k=a9 k (rs[k]'hk):=by unfold cB;rw [hr]
  rw [ef,show (0:Int)+(k:Int)=(k:Int) by omega]
  simp -implicitDefEqProofs only [aw,ae,ah,jV,gz,gy,id_eq,oq,mq,mn,e])
 rw [ig] at ex
 have bT:-4611686018427387904≤(rs.length:Int)∧(rs.length:Int) < 4611686018427387904:=by omega
 have ht:(rs.length:Int).toNat=rs.length:=by omega
 unfold pf fn Bn
 simp -implicitDefEqProofs only [aI,b9,bN,aJ,ae,ah,jV,mq,mn,List.length_cons,List.length_nil,List.replicate,List.nil_append,List.cons_append,List.append_nil,gz,id_eq,oq,cU,ln,bT,and_self,if_true,ht,Nat.sub_self,Nat.reduceAdd,Nat.reduceSub]
 rw [show eY [some (M.al,D.lst (rs.map Row.d))] [0]=[some (.al,.lst (rs.map Row.d))] from rfl]
 rw [ex,oq,Ua (.inr rfl) (by omega),oq]
 rfl
noncomputable def A7 (k:Nat) (e:Ev):Nat:=match e[k]? with
 |some (some (_,.dk ks))=>ks.length
 |_=>0
noncomputable def aK (ks:List Nat):List (Key×D):=ks.map fun (n:Nat)=>(.inl (n:Int),.bl true)
theorem uW:∀ (ks:List Nat) (n:Nat),(cW (aK ks) (.inl (n:Int))).isSome=decide (n∈ks)
 |[],n=>rfl
 |k::ks,n=>by
  have ih:=uW ks n
  show (((((Key.inl (k:Int):Key),D.bl true)::aK ks).find? fun kv=>decide (kv.1=.inl (n:Int))).map (·.2)).isSome=_
  rw [List.find?_cons]
  by_cases h:k=n
  ·subst h
   rw [decide_eq_true rfl]
   simp
  ·have eE:¬ ((Key.inl (k:Int):Key)=.inl (n:Int)):=fun e=>h (Int.ofNat_inj.mp (Key.inl.inj e))
   rw [decide_eq_false eE]
   have h':¬ n=k:=fun z=>h z.symm
   simp only [List.mem_cons,h',false_or]
   exact ih
theorem yF {ks:List Nat}{n:Nat} (h:n∉ks):putD (aK ks) (.inl (n:Int)) (.bl true)=aK (ks++[n]):=by
 have ha:((aK ks).any fun kv=>decide (kv.1=.inl (n:Int)))=false:=by
  rw [List.any_eq_false]
  intro kv bS
  obtain ⟨q,hq,rfl⟩:=List.mem_map.mp bS
  simp only [decide_eq_true_eq]
  intro e
  exact h ((Int.ofNat_inj.mp (Key.inl.inj e))▸hq)
 unfold putD
 rw [ha,if_neg Bool.false_ne_true]
 simp only [aK,List.map_append,mq,mn]
theorem qk (ks:List Nat):(aK ks).length=ks.length:=by simp [aK]
noncomputable def dm (S:List (List Nat)):List D:=S.map fun l=>.lst (aq l)
noncomputable def fh (Bk:List (List Nat)):D:=.lst ((Bk.map aq).map D.lst)
theorem QJ (Bk:List (List Nat)):fh Bk=.lst (dm Bk):=by unfold fh dm;rw [List.map_map];rfl
theorem QK {A0 A3:Option (M×D)}{Bk:List (List Nat)}{n m:Nat} (hm:m < Bk.length) (hl:(Bk.getD m []).length≤5000) :
  pL [A0,some (.nb,fh Bk),some (.al,.int (n:Int)),A3,some (.al,.int (m:Int))]=some (.nx [A0,some (.nb,fh (Bk.set m (Bk.getD m []++[n]))),some (.al,.int (n:Int)),A3,some (.al,.int (m:Int))]):=by
 have mS:df (Bk.map aq).length (m:Int)=some m:=by
  unfold df
  rw [ln,if_pos (by omega),if_pos (by omega)];simp
 have hd:(Bk.map aq)[m]?=some (aq (Bk.getD m [])):=by
  rw [List.getElem?_map,List.getElem?_eq_getElem hm,List.getD_eq_getElem?_getD,List.getElem?_eq_getElem hm];rfl
 have hs:(aq (Bk.getD m [])).length < sizeLine:=by rw [dq];exact Nat.lt_of_le_of_lt hl (by decide)
 have e1:(Bk.map aq).set m (aq (Bk.getD m []++[n]))=(Bk.set m (Bk.getD m []++[n])).map aq:=by rw [List.map_set]
 unfold pL fh
 simp -implicitDefEqProofs only [uQ,jV,gz,gy,id_eq,oq,iR,uv,oi,if_true,vR,Dg,mS,hd,hs,Dq,e1,tz,tq]
theorem tW {Bk:List (List Nat)}{m j:Nat}{v:List Nat} (hm:m < Bk.length):(Bk.set m v).getD j []=if j=m then v else Bk.getD j []:=by
 rw [List.getD_eq_getElem?_getD,List.getD_eq_getElem?_getD,List.getElem?_set]
 by_cases h:m=j
 ·subst h;simp [hm]
 ·have h':¬ j=m:=fun z=>h z.symm
  simp [h,h']
theorem Ci {A0 A3:Option (M×D)}{n:Nat}:∀ (ms:List Nat) (Bk:List (List Nat)) (c:Nat) (o4:Option (M×D)),(∀ m∈ms,m < Bk.length)→(∀ j,(Bk.getD j []).length≤c)→c+ms.length≤5000 →
  ∃ jj fj,forL (gN 4) pL .al (aq ms) [A0,some (.nb,fh Bk),some (.al,.int (n:Int)),A3,o4]=some (.nx [A0,some (.nb,fh jj),some (.al,.int (n:Int)),A3,fj])∧jj.length=Bk.length∧(∀ j,(jj.getD j []).length≤c+ms.length)∧(∀ j x,x∈Bk.getD j []→x∈jj.getD j [])∧(∀ m∈ms,n∈jj.getD m [])∧∀ j x,x∈jj.getD j []→x∈Bk.getD j []∨(x=n∧j∈ms)
 |[],Bk,c,o4,_,hc,_=>⟨Bk,o4,by simp [aq,forL],rfl,fun j=>by have:=hc j;simp;exact this,fun j x h=>h,(fun m hm=>nomatch hm),fun j x h=>.inl h⟩
 |m::ms,Bk,c,o4,hm,hc,hl=>by
  have mN:=hm m List.mem_cons_self
  have xc:=hc m
  rw [List.length_cons] at hl
  obtain ⟨jj,fj,q1,q2,q3,q4,q5,q6⟩:=Ci (A0:=A0) (A3:=A3) (n:=n) ms (Bk.set m (Bk.getD m []++[n])) (c+1) (some (.al,.int (m:Int))) (fun x hx=>by rw [List.length_set];exact hm x (List.mem_cons_of_mem _ hx)) (fun j=>by
   rw [tW mN]
   split
   ·rw [List.length_append];simp only [List.length_cons,List.length_nil];omega
   ·have:=hc j;omega) (by omega)
  refine ⟨jj,fj,?_,by rw [q2,List.length_set],fun j=>by have:=q3 j;rw [List.length_cons];omega,fun j x hx=>q4 j x ?_,fun x hx=>?_,fun j x hx=>?_⟩
  ·rw [show aq (m::ms)=D.int (m:Int)::aq ms from rfl,forL,show gN 4 (M.al,D.int (m:Int)) [A0,some (.nb,fh Bk),some (.al,.int (n:Int)),A3,o4]=some [A0,some (.nb,fh Bk),some (.al,.int (n:Int)),A3,some (.al,.int (m:Int))] from rfl,oq,QK mN (by omega),oq]
   exact q1
  ·rw [tW mN]
   split
   ·rename_i e;subst e;exact List.mem_append_left _ hx
   ·exact hx
  ·rcases List.mem_cons.mp hx with rfl|hx
   ·refine q4 x n ?_
    rw [tW mN,if_pos rfl];simp
   ·exact q5 x hx
  ·rcases q6 j x hx with z|z
   ·rw [tW mN] at z
    split at z
    ·rename_i e;subst e
     rcases List.mem_append.mp z with y|y
     ·exact .inl y
     ·exact .inr ⟨by simpa using y,List.mem_cons_self⟩
    ·exact .inl z
   ·exact .inr ⟨z.1,List.mem_cons_of_mem _ z.2⟩
theorem xM (rs:List Row) (n:Nat):(eD rs n).length≤2:=by
 unfold eD cB
 rw [ln]
 split
 ·rename_i r _;cases r<;>simp [a9]
 ·simp
theorem Og {rs:List Row} (g:Good rs) {i:Nat}{d:D} (h:(bG (di rs))[i]?=some d):i < rs.length∧d=.tup [.int (i:Int),.lst (aq (eD rs i))]:=by
 unfold bG di at h
 rw [List.getElem?_mapIdx,List.getElem?_map] at h
 rcases Nat.lt_or_ge i rs.length with z|z
 ·rw [List.getElem?_range z] at h
  cases h
  exact ⟨z,by show D.tup [D.int (i:Int),D.lst ((cB rs i).map D.int)]=_;rw [yE g]⟩
 ·rw [List.getElem?_eq_none (by simpa using z)] at h;cases h
theorem L3 {rs:List Row} (g:Good rs) (hl:rs.length≤800):∃ Bk:List (List Nat),tU [.lst (di rs)]=some (.fr,.lst (dm Bk))∧Bk.length=rs.length∧(∀ n m,aO rs n m→n∈Bk.getD m [])∧∀ n m,n∈Bk.getD m []→aO rs n m:=by
 have bT:-4611686018427387904≤(rs.length:Int)∧(rs.length:Int) < 4611686018427387904:=by omega
 have ht:(rs.length:Int).toNat=rs.length:=by omega
 have sl:(di rs).length=rs.length:=by simp [di]
 have r0:∀ j,(List.replicate rs.length ([]:List Nat)).getD j []=[]:=fun j=>by
  rw [List.getD_eq_getElem?_getD,List.getElem?_replicate];split<;>rfl
 obtain ⟨e',l1,Bk,o2,o3,o4,he,b1,b2,b3,b4⟩:=cL (g:=gT 2 (bx (gN 2) (bx (gN 3) cX))) (b:=xu) (m:=.al) (ds:=bG (di rs)) (e:=[some (.al,.lst (di rs)),some (.nb,fh (List.replicate rs.length [])),none,none,none])
  (fun i e=>∃ (Bk:List (List Nat)) (o2 o3 o4:Option (M×D)),e=[some (.al,.lst (di rs)),some (.nb,fh Bk),o2,o3,o4]∧Bk.length=rs.length∧(∀ j,(Bk.getD j []).length≤2*i)∧(∀ n,n < i→∀ m,aO rs n m→n∈Bk.getD m [])∧∀ j x,x∈Bk.getD j []→aO rs x j)
  ⟨List.replicate rs.length [],none,none,none,rfl,by simp,fun j=>by rw [r0];simp,fun n h=>absurd h (Nat.not_lt_zero n),fun j x h=>by rw [r0] at h;cases h⟩
  (fun i d e hd aZ=>by
   obtain ⟨Bk,o2,o3,o4,he,b1,b2,b3,b4⟩:=aZ
   subst he
   obtain ⟨hi,rfl⟩:=Og g hd
   have jm:=xM rs i
   obtain ⟨jj,fj,q1,q2,q3,q4,q5,q6⟩:=Ci (A0:=some (.al,.lst (di rs))) (A3:=some (.al,.lst (aq (eD rs i)))) (n:=i) (eD rs i) Bk (2*i) o4 (fun m hm=>by
    rw [b1];obtain ⟨_,_,_,z⟩:=pY g hm;exact z) b2 (by omega)
   refine ⟨_,_,rfl,?_,jj,some (.al,.int (i:Int)),some (.al,.lst (aq (eD rs i))),fj,rfl,by rw [q2,b1],fun j=>by have:=q3 j;omega,fun n hn m hs=>?_,fun j x hx=>?_⟩
   ·unfold xu
    rw [cu]
    show aW (bP (jV 3)) (gN 4) pL [some (.al,.lst (di rs)),some (.nb,fh Bk),some (.al,.int (i:Int)),some (.al,.lst (aq (eD rs i))),o4]=_
    simp -implicitDefEqProofs only [aW,bP,jV,gz,gy,id_eq,oq,bV,oy]
    exact q1
   ·by_cases e:n=i
    ·subst e;exact q5 m (Dr hs)
    ·exact q4 m n (b3 n (by omega) m hs)
   ·rcases q6 j x hx with z|z
    ·exact b4 j x z
    ·obtain ⟨rfl,hj⟩:=z;exact pY g hj)
 subst he
 have hE:(bG (di rs)).length=rs.length:=by simp [bG,sl]
 rw [hE] at b3
 refine ⟨Bk,?_,b1,fun n m hs=>b3 n ?_ m hs,fun n m h=>b4 m n h⟩
 ·have n0:((bO 0 rs.length).map fun _=>([]:List D))=(List.replicate rs.length ([]:List Nat)).map aq:=by
   unfold bO
   rw [List.map_map]
   exact List.ext_getElem (by simp) fun i h1 h2=>by simp [aq]
  have Zf:zF 1 [some (.al,.lst (di rs)),none,none,none,none]=true:=rfl
  have hs:(bO 0 rs.length).length < sizeLine:=by rw [ig];exact Nat.lt_of_le_of_lt hl (by decide)
  unfold tU fn Dl
  simp only [ck,bj,bt]
  rw [av (e':=[some (.al,.lst (di rs)),some (.nb,fh (List.replicate rs.length [])),none,none,none]) (by
   simp -implicitDefEqProofs only [uP,bN,aJ,ae,ah,jV,gz,id_eq,oq,cU,sl,bT,and_self,if_true,ht,Zf,hs,n0,tz,tq,fh])]
  rw [av (e':=[some (.al,.lst (di rs)),some (.nb,fh Bk),o2,o3,o4]) (by
   rw [cu,show aX 0 [some (.al,.lst (di rs)),some (.nb,fh (List.replicate rs.length [])),none,none,none]=[some (.al,.lst (di rs)),some (.nb,fh (List.replicate rs.length [])),none,none,none] from rfl]
   simp -implicitDefEqProofs only [aW,eQ,ae,jV,ah,gz,gy,oq,id_eq,bV,oy]
   exact l1)]
  rw [←QJ]
  rfl
 ·obtain ⟨r,hr,_⟩:=hs;exact (List.getElem?_eq_some_iff.mp hr).1
theorem ui (N:Nat):bO 0 N=aq (List.range N):=by
 unfold bO aq
 exact List.map_congr_left fun k _=>by rw [Int.zero_add]
theorem pF {fc:Ev→Option Bool}{fe:Ev→Option (M×D)}{m:M}{fr:Ev}{p:Nat→Bool}:∀ (ks:List Nat),(∀ k∈ks,fc (some (m,.int (k:Int))::fr)=some (p k)∧fe (some (m,.int (k:Int))::fr)=some (.fr,.int (k:Int)))→cY fc fe m fr (aq ks)=some ((aq (ks.filter p)).map fun x=>(M.fr,x))
 |[],_=>rfl
 |k::ks,h=>by
  obtain ⟨h1,h2⟩:=h k List.mem_cons_self
  have ih:=pF (fc:=fc) (fe:=fe) (m:=m) (fr:=fr) (p:=p) ks fun x hx=>h x (List.mem_cons_of_mem _ hx)
  rw [show aq (k::ks)=D.int (k:Int)::aq ks from rfl,cY,h1,oq,List.filter_cons]
  cases p k with
  |true=>rw [if_pos rfl,h2,oq,ih,if_pos rfl];rfl
  |false=>rw [if_neg Bool.false_ne_true,ih,if_neg Bool.false_ne_true]
mutual
theorem Dt:∀ d:D,J.plain d=true→PyData.eqv (toPy d) (toPy d)=true
 |.non,_=>by simp [toPy,PyData.eqv]
 |.bl b,_=>by simp [toPy,PyData.eqv]
 |.int i,_=>by simp [toPy,PyData.eqv]
 |.str x,_=>by simp [toPy,PyData.eqv]
 |.ty n,h=>by simp [J.plain] at h
 |.dk _,h=>by simp [J.plain] at h
 |.dt _,h=>by simp [J.plain] at h
 |.tup ds,h=>by
  simp only [toPy,PyData.eqv]
  exact xD ds (by simpa only [J.plain] using h)
 |.lst ds,h=>by
  simp only [toPy,PyData.eqv]
  exact xD ds (by simpa only [J.plain] using h)
theorem xD:∀ ds:List D,J.dX ds=true→PyData.eqvAll (cO ds) (cO ds)=true
 |[],_=>by simp [cO,PyData.eqvAll]
 |d::ds,h=>by
  have h':J.plain d=true∧J.dX ds=true:=by simpa [J.dX] using h
  simp only [cO,PyData.eqvAll,Dt d h'.1,xD ds h'.2,Bool.and_self]
end
theorem CT {n:Nat}:∀ {ds:List D},(∀ d∈ds,(toPy d).depth≤n)→PyData.depthAll (cO ds)≤n
 |[],_=>by simp [cO,PyData.depthAll]
 |d::ds,h=>by
  have:=CT (ds:=ds) fun x hx=>h x (List.mem_cons_of_mem _ hx)
  have h1:=h d List.mem_cons_self
  simp only [cO,PyData.depthAll];omega
theorem pO:∀ {ds:List D},(∀ d∈ds,J.plain d=true)→J.dX ds=true
 |[],_=>by simp [J.dX]
 |d::ds,h=>by simp only [J.dX,h d List.mem_cons_self,pO fun x hx=>h x (List.mem_cons_of_mem _ hx),Bool.and_self]
theorem Oh {ds:List D} (h1:∀ d∈ds,J.plain d=true) (h2:∀ d∈ds,(toPy d).depth≤10):i3 (.lst ds) (.lst ds)=true:=by
 have hd:(toPy (.lst ds)).depth≤60:=by
  simp only [toPy,PyData.depth]
  have:=CT h2;omega
 simp only [i3,J.plain,pO h1,lL,Bool.and_self,Bool.true_and]
 exact decide_eq_true (by omega)
theorem Ub {m n:M}{ds:List D} (h1:∀ d∈ds,J.plain d=true) (h2:∀ d∈ds,(toPy d).depth≤10):fS (m,.lst ds) (n,.lst ds)=some (.fr,.bl false):=by
 have e:=Dt (.lst ds) (by simp only [J.plain];exact pO h1)
 simp only [fS,Oh h1 h2,if_true,e,Bool.not_true]
noncomputable def jn (q:Int×Int):D:=.tup [.int q.1,.int q.2]
noncomputable def bU (l:List (Int×Int)):List D:=l.map jn
theorem uj (l:List (Int×Int)):(bU l).length=l.length:=by simp [bU]
theorem Du (l:List (Int×Int)) (a b:Int):bU l++[.tup [.int a,.int b]]=bU (l++[(a,b)]):=by simp [bU,jn]
theorem L4 (l:List Row):∀ d∈l.map Row.d,J.plain d=true:=fun d hd=>by
 obtain ⟨r,_,rfl⟩:=List.mem_map.mp hd
 have k:∀ a:Ko,J.plain (kD a)=true:=fun a=>by cases a<;>simp [kD,J.plain]
 cases r<;>simp [Row.d,Row.ds,J.plain,J.dX,k]
theorem L5 (l:List Row):∀ d∈l.map Row.d,(toPy d).depth≤10:=fun d hd=>by
 obtain ⟨r,_,rfl⟩:=List.mem_map.mp hd
 have k:∀ a:Ko,(toPy (kD a)).depth=0:=fun a=>by cases a<;>simp [kD,toPy,PyData.depth]
 cases r<;>simp [Row.d,Row.ds,toPy,cO,PyData.depth,PyData.depthAll,k]
noncomputable def bH (rs:List Row) (k:Nat):List (Int×Int):=(-1,0)::(List.range k).flatMap fun n=>(cB rs n).map fun m=>((n:Int),m)
theorem xN (rs:List Row) (k:Nat):bH rs (k+1)=bH rs k++(cB rs k).map fun m=>((k:Int),m):=by
 unfold bH
 rw [List.range_succ,List.flatMap_append]
 simp
theorem xO (rs:List Row) (n:Nat):(cB rs n).length≤2:=by
 have:=xM rs n
 unfold eD at this
 rwa [ln] at this
theorem p8 (rs:List Row):∀ k,(bH rs k).length≤2*k+1
 |0=>by simp [bH]
 |k+1=>by
  have:=p8 rs k
  have:=xO rs k
  rw [xN,List.length_append,ln];omega
theorem BL {A0 A3:Option (M×D)}{n:Int}:∀ (ms:List Int) (l:List (Int×Int)) (o4:Option (M×D)),l.length+ms.length≤5000→∃ fj,forL (gN 4) pJ .fr (ms.map D.int) [A0,some (.bo,.lst (bU l)),some (.fr,.int n),A3,o4]=some (.nx [A0,some (.bo,.lst (bU (l++ms.map fun m=>(n,m)))),some (.fr,.int n),A3,fj])
 |[],l,o4,_=>⟨o4,by simp [forL]⟩
 |m::ms,l,o4,hl=>by
  rw [List.length_cons] at hl
  obtain ⟨fj,q⟩:=BL (A0:=A0) (A3:=A3) (n:=n) ms (l++[(n,m)]) (some (.fr,.int m)) (by rw [List.length_append];simp only [List.length_cons,List.length_nil];omega)
  refine ⟨fj,?_⟩
  have hs:l.length < sizeLine:=Nat.lt_of_le_of_lt (show l.length≤5000 by omega) (by decide)
  rw [mq,forL,show gN 4 (M.fr,D.int m) [A0,some (.bo,.lst (bU l)),some (.fr,.int n),A3,o4]=some [A0,some (.bo,.lst (bU l)),some (.fr,.int n),A3,some (.fr,.int m)] from rfl,oq]
  have hb:pJ [A0,some (.bo,.lst (bU l)),some (.fr,.int n),A3,some (.fr,.int m)]=some (.nx [A0,some (.bo,.lst (bU (l++[(n,m)]))),some (.fr,.int n),A3,some (.fr,.int m)]):=by
   unfold pJ
   walk_at "ev"
   rw [uj,if_pos hs,Du]
  rw [hb,oq]
  simpa using q
theorem Oi {rs:List Row}{i:Nat}{d:D} (h:(bG (di rs))[i]?=some d):i < rs.length∧d=.tup [.int (i:Int),.lst ((cB rs i).map D.int)]:=by
 unfold bG di at h
 rw [List.getElem?_mapIdx,List.getElem?_map] at h
 rcases Nat.lt_or_ge i rs.length with z|z
 ·rw [List.getElem?_range z] at h
  cases h
  exact ⟨z,rfl⟩
 ·rw [List.getElem?_eq_none (by simpa using z)] at h;cases h
theorem MV {rs:List Row} (hl:rs.length≤800):tT [.lst (rs.map Row.d)]=some (.un,.lst (bU (bH rs rs.length))):=by
 have af:=Cg hl
 obtain ⟨e',l1,o2,o3,o4,he⟩:=cL (g:=gT 2 (bx (gN 2) (bx (gN 3) cX))) (b:=xt) (m:=.fr) (ds:=bG (di rs)) (e:=[some (.al,.lst (rs.map Row.d)),some (.bo,.lst (bU (bH rs 0))),none,none,none])
  (fun i e=>∃ (o2 o3 o4:Option (M×D)),e=[some (.al,.lst (rs.map Row.d)),some (.bo,.lst (bU (bH rs i))),o2,o3,o4])
  ⟨none,none,none,rfl⟩
  (fun i d e hd aZ=>by
   obtain ⟨o2,o3,o4,he⟩:=aZ
   subst he
   obtain ⟨hi,rfl⟩:=Oi hd
   have h1:=p8 rs i
   have h2:=xO rs i
   obtain ⟨fj,q⟩:=BL (A0:=some (.al,.lst (rs.map Row.d))) (A3:=some (.fr,.lst ((cB rs i).map D.int))) (n:=(i:Int)) (cB rs i) (bH rs i) o4 (by omega)
   refine ⟨_,_,rfl,?_,some (.fr,.int (i:Int)),some (.fr,.lst ((cB rs i).map D.int)),fj,by rw [xN]⟩
   unfold xt
   rw [cu]
   show aW (bP (jV 3)) (gN 4) pJ [some (.al,.lst (rs.map Row.d)),some (.bo,.lst (bU (bH rs i))),some (.fr,.int (i:Int)),some (.fr,.lst ((cB rs i).map D.int)),o4]=_
   simp -implicitDefEqProofs only [aW,bP,jV,gz,gy,id_eq,oq,bV,oy]
   exact q)
 subst he
 have hE:(bG (di rs)).length=rs.length:=by simp [bG,di]
 rw [hE] at l1
 unfold tT fn Dk
 simp only [ck,bj,bt]
 rw [av (e':=[some (.al,.lst (rs.map Row.d)),some (.bo,.lst (bU (bH rs 0))),none,none,none]) rfl]
 rw [av (e':=[some (.al,.lst (rs.map Row.d)),some (.bo,.lst (bU (bH rs rs.length))),o2,o3,o4]) (by
  simp -implicitDefEqProofs only [aW,eQ,ae,jV,ah,aw,gz,gy,oq,id_eq,mq,mn,af,bV,oy]
  exact l1)]
 rfl
theorem Dv {m:M} (ws:List Int):eO m (ws.map .int)=some (.un,.lst (ws.map .int)):=by
 unfold eO
 rw [if_pos (xC ws),if_pos (xC ws),ite_self,ite_self]
theorem QL (ws:List Int) (lo hi:Option Int):J.cut (ws.map D.int) lo hi=(J.cut ws lo hi).map D.int:=by
 unfold J.cut
 rw [ln,List.map_take,List.map_drop]
theorem x8 {m:M} (ws:List Int) (lo hi:Option Int):f9 (m,.lst (ws.map .int)) lo hi=some (.un,.lst ((J.cut ws lo hi).map .int)):=by
 unfold f9 qI zv
 simp only [QL,Dv]
theorem CV:∀ xs:List Int,nU (xs.map .int)=some xs
 |[]=>rfl
 |x::xs=>by rw [mq,nU,CV xs];rfl
theorem xE (ns:List Int) (k:Int) (h:0≤k):∃ x,m3 [.lst (ns.map .int),.int k]=some (.fr,.int x):=by
 obtain ⟨b,hb⟩:=x5 ns
 obtain ⟨c,hc⟩:=lB ns k h
 obtain ⟨x,hx⟩:=lz (J.cut ns none (some 4)).sum k
 unfold m3 fn BG
 simp only [ck,bj,bt]
 cases b with
 |true =>
  refine ⟨c,?_⟩
  rw [dC (e':=[some (.al,.lst (ns.map .int)),some (.al,.int k)]) (m:=.fr) (d:=.int c) (by
   rw [bh (by walk_at "ev"; rw [hb];rfl)]
   walk_at "ev"
   rw [hc]
   rfl)]
  rfl
 |false =>
  refine ⟨x,?_⟩
  rw [dR (by walk_at "ev"; rw [hb];rfl)]
  walk_at "ev"
  rw [x8]
  walk_at "ev"
  simp -implicitDefEqProofs only [qK,CV,oq]
  walk_at "ev"
  rw [hx]
  walk_at "ev"
theorem jF {rs:List Row}{n:Nat}{r:Row} (h:rs[n]?=some r):L2.bw (rs.map Row.d) (n:Int)=some r.d:=by
 have aU:n < rs.length:=(List.getElem?_eq_some_iff.mp h).1
 rw [lA (by rw [ln];exact aU),List.getElem_map]
 rw [List.getElem?_eq_getElem aU] at h
 rw [Option.some.inj h]
theorem Uc {r:Row}:Row.cQ r=true↔r=.en:=by cases r<;>simp [Row.cQ]
theorem yG {r:Row}:Row.cA r=true↔∃ t,r=.go t:=by cases r<;>simp [Row.cA]
noncomputable def pick (rs:List Row) (p:Row→Bool) (n:Nat):Bool:=match rs[n]? with
 |some r=>p r
 |none=>false
theorem uD (es:List Nat):i3 (.lst (aq es)) (.lst [])=true∧PyData.eqv (toPy (.lst (aq es))) (toPy (.lst []))=es.isEmpty:=by
 have p1:J.dX (aq es)=true:=pO fun d hd=>by
  obtain ⟨q,_,rfl⟩:=List.mem_map.mp hd;simp [J.plain]
 refine ⟨?_,?_⟩
 ·simp only [i3,J.plain,p1,J.dX,lL,Bool.and_self,Bool.true_and]
  exact decide_eq_true (by simp [toPy,cO,PyData.depth,PyData.depthAll])
 ·cases es<;>simp [aq,toPy,cO,PyData.eqv,PyData.eqvAll]
theorem Eh {m n:M} (es:List Nat):gp (m,.lst (aq es)) (n,.lst [])=some (.fr,.bl es.isEmpty):=by
 simp only [gp,(uD es).1,if_true,(uD es).2]
theorem Ei {m n:M} (es:List Nat):fS (m,.lst (aq es)) (n,.lst [])=some (.fr,.bl (!es.isEmpty)):=by
 simp only [fS,(uD es).1,if_true,(uD es).2]
theorem Gp {α:Type}{a:α}{l:List α}:L2.bw (a::l) 0=some a:=by
 have:=lA (l:=a::l) (k:=0) (by simp)
 simpa using this
theorem QM (rs:List Row) (n:Int) (hl:rs.length≤100) (h0:rs[0]?≠some .en):∃ r:Row,tL [.lst (rs.map Row.d),.int n]=some (.fr,r.d)∧(r=.en∨(0 < rs.length∧∃ t,r=.go t)):=by
 have bT:-4611686018427387904≤(rs.length:Int)∧(rs.length:Int) < 4611686018427387904:=by omega
 have ht:(rs.length:Int).toNat=rs.length:=by omega
 have ex:=pF (fc:=jB (ag aN (ag ak (ag ak (jV 1) (jV 0)) (jC (.int 0))) (jC (.str "end")))) (fe:=jV 0) (m:=.fr) (fr:=[some (.al,.lst (rs.map Row.d))]) (p:=pick rs Row.cQ) (List.range rs.length) (fun k hk=>by
  have hk:=List.mem_range.mp hk
  have hr:rs[k]?=some (rs[k]'hk):=by simp
  have e:=jF hr
  refine ⟨?_,rfl⟩
  walk_at "ev"
  rw [e]
  walk_at "ev"
  simp -implicitDefEqProofs only [cI,oq,cS,cT,bf,fU,pick,hr])
 generalize he:(List.range rs.length).filter (pick rs Row.cQ)=es at ex
 have Ap:es.length≤100:=by rw [←he];have:=List.length_filter_le (pick rs Row.cQ) (List.range rs.length);simp at this;omega
 have Zg:au 2 (b9 (bN (ae (aJ bq (ae (jV 0) ah)) ah)) [0] (jB (ag aN (ag ak (ag ak (jV 1) (jV 0)) (jC (.int 0))) (jC (.str "end")))) (jV 0)) [some (.al,.lst (rs.map Row.d)),some (.al,.int n),none]=some (.nx [some (.al,.lst (rs.map Row.d)),some (.al,.int n),some (.bo,.lst (aq es))]):=by
  simp -implicitDefEqProofs only [au,b9,bN,aJ,ae,ah,jV,gz,gy,id_eq,oq,cU,ln,bT,and_self,if_true,ht]
  rw [show eY [some (M.al,D.lst (rs.map Row.d)),some (M.al,D.int n),none] [0]=[some (.al,.lst (rs.map Row.d))] from rfl,ui,ex,oq,gG (by rw [dq];omega),oq]
  rfl
 unfold tL fn Cd
 simp only [ck,bj,bt]
 rw [av Zg]
 have hq:=Eh (m:=.bo) (n:=.un) es
 generalize iE:es.isEmpty=b at hq
 have hb:b=false→es≠[]:=fun z e=>by subst e;rw [←iE] at z;cases z
 have hc:∀ c,(cC (jB (ag gp (jV 2) (bA ah))) (jB (ag gB (ag aS (jV 1) (jC (.int 3))) (jC (.int 0))))) [some (.al,.lst (rs.map Row.d)),some (.al,.int n),some (.bo,.lst (aq es))]=some c→(c=false→b=false):=fun c h hf=>by
  subst hf
  revert h
  walk_at "go"
  rw [hq]
  walk_at "ev"
  cases b with
  |true=>intro h;cases h
  |false=>intro _;rfl
 have fX:∃ c,(cC (jB (ag gp (jV 2) (bA ah))) (jB (ag gB (ag aS (jV 1) (jC (.int 3))) (jC (.int 0))))) [some (.al,.lst (rs.map Row.d)),some (.al,.int n),some (.bo,.lst (aq es))]=some c:=by
  walk_at "go"
  rw [hq]
  walk_at "ev"
  cases b<;>exact ⟨_,rfl⟩
 obtain ⟨c,fX⟩:=fX
 cases c with
 |true =>
  refine ⟨.en,?_,.inl rfl⟩
  rw [dC (e':=[some (.al,.lst (rs.map Row.d)),some (.al,.int n),some (.bo,.lst (aq es))]) (m:=.fr) (d:=Row.d .en) (by rw [bh fX];rfl)]
  rfl
 |false =>
  have eE:=hb (hc false fX rfl)
  obtain ⟨a,l,rfl⟩:=List.exists_cons_of_ne_nil eE
  have hm:a∈(List.range rs.length).filter (pick rs Row.cQ):=by rw [he];exact List.mem_cons_self
  obtain ⟨h1,h2⟩:=List.mem_filter.mp hm
  have h1:=List.mem_range.mp h1
  have ha:a≠0:=fun z=>by
   subst z
   unfold pick at h2
   split at h2
   ·rename_i r hr;rw [Uc.mp h2] at hr;exact h0 hr
   ·cases h2
  refine ⟨.go (n / 3%(a:Int)),?_,.inr ⟨by omega,_,rfl⟩⟩
  rw [av (e':=[some (.al,.lst (rs.map Row.d)),some (.al,.int n),some (.bo,.lst (aq (a::l)))]) (by rw [bK fX];rfl)]
  walk_at "go"
  rw [show aq (a::l)=.int (a:Int)::aq l from rfl,Gp]
  walk_at "ev"
  rw [jz (by omega)]
  walk_at "ev"
  rfl
structure RG (rs:List Row):Prop where
 r0:∀ r,rs[0]?=some r→Row.cQ r=false∧Row.cA r=false
 pt:∀ (i:Nat) a t,rs[i]?=some (.pt a t)→(t=-1∧i+1 < rs.length)∨0≤t
theorem RG.nil:RG []:=⟨fun r h=>by simp at h,fun i a t h=>by simp at h⟩
theorem gg {rs:List Row}{x r:Row}{i:Nat} (h:(rs++[x])[i]?=some r):rs[i]?=some r∨(i=rs.length∧r=x):=by
 rw [List.getElem?_append] at h
 split at h
 ·exact .inl h
 ·rename_i hi
  have:i-rs.length=0:=by
   rcases Nat.eq_zero_or_pos (i-rs.length) with z|z
   ·exact z
   ·rw [List.getElem?_eq_none (by simp;omega)] at h;cases h
  rw [this] at h
  simp at h
  exact .inr ⟨by omega,h.symm⟩
theorem RG.one {rs:List Row}{r:Row} (h:RG rs) (e:Row.cQ r=false) (g:Row.cA r=false) (p:∀ a t,r=.pt a t→0≤t):RG (rs++[r]):=by
 refine ⟨fun x hx=>?_,fun i a t hx=>?_⟩
 ·rcases gg hx with z|⟨_,rfl⟩
  ·exact h.r0 x z
  ·exact ⟨e,g⟩
 ·rcases gg hx with z|⟨_,z⟩
  ·rcases h.pt i a t z with ⟨w,y⟩|w
   ·exact .inl ⟨w,by simp;omega⟩
   ·exact .inr w
  ·exact .inr (p a t z.symm)
theorem RG.two {rs:List Row}{a:Ko}{y:Row} (h:RG rs) (hy:∀ b t,y≠.pt b t):RG (rs++[.pt a (-1)]++[y]):=by
 refine ⟨fun x hx=>?_,fun i b t hx=>?_⟩
 ·rcases gg hx with z|⟨z,_⟩
  ·rcases gg z with z|⟨_,rfl⟩
   ·exact h.r0 x z
   ·exact ⟨rfl,rfl⟩
  ·simp at z
 ·rcases gg hx with z|⟨_,z⟩
  ·rcases gg z with z|⟨z,w⟩
   ·rcases h.pt i b t z with ⟨w,y⟩|w
    ·exact .inl ⟨w,by simp;omega⟩
    ·exact .inr w
   ·cases w;exact .inl ⟨rfl,by simp;omega⟩
  ·exact absurd z.symm (hy b t)
theorem nI {e:Ev}{k:Nat}{rs:List Row}{r:Row}{f:Ev→Option (M×D)} (he:e[k]?=some (some (.bo,.lst (rs.map Row.d)))) (hf:f e=some (.fr,r.d)) (hl:rs.length≤1000):cy k f e=some (.nx (e.set k (some (.bo,.lst ((rs++[r]).map Row.d))))):=by
 have s:rs.length < sizeLine:=Nat.lt_of_le_of_lt hl (by decide)
 simp -implicitDefEqProofs only [cy,hf,oq,eV,if_true,dE,he,own,ln,s,List.map_append,mq,mn]
theorem QN (A0 A1:Option (M×D)) (fs:List Str) (hf:0 < fs.length) (ds:List De) (hd:0 < ds.length) (rs:List Row) (h:RG rs) (hl:rs.length≤200) (k c:Int) (o7:Option (M×D)) :
  ∃ bD bC,sQ [A0,A1,some (.bo,.lst (fs.map .str)),some (.bo,.lst (ds.map ao)),some (.bo,.lst (rs.map Row.d)),some (.al,.int k),some (.al,.int c),o7]=some (.nx [A0,A1,some (.bo,.lst (fs.map .str)),some (.bo,.lst (ds.map ao)),some (.bo,.lst (bD.map Row.d)),some (.al,.int k),some (.al,.int c),bC])∧RG bD∧bD.length≤rs.length+2:=by
 obtain ⟨x,hx⟩:=lz c k
 obtain ⟨r,hr,p1,p2,p3⟩:=Fu c x fs hf ds hd
 unfold sQ
 rw [av (e':=[A0,A1,some (.bo,.lst (fs.map .str)),some (.bo,.lst (ds.map ao)),some (.bo,.lst (rs.map Row.d)),some (.al,.int k),some (.al,.int c),some (.fr,.int x)]) (by walk_at "ev"; rw [hx];walk_at "ev")]
 rw [av (nI (rs:=rs) (r:=r) rfl (by walk_at "ev"; rw [hr]) (by omega))]
 simp -implicitDefEqProofs only [tz,tq]
 by_cases q1:c%11=9
 ·obtain ⟨a,rfl⟩:=p3 (by omega)
  rw [av (e':=[A0,A1,some (.bo,.lst (fs.map .str)),some (.bo,.lst (ds.map ao)),some (.bo,.lst ((rs++[Row.pt a (-1)]++[Row.en]).map Row.d)),some (.al,.int k),some (.al,.int c),some (.fr,.int x)]) (by
   rw [bh (by walk_at "go"; simp only [q1,decide_true])]
   exact nI (r:=.en) rfl rfl (by simp;omega))]
  rw [bK (by walk_at "go"; simp only [q1];rfl)]
  exact ⟨_,_,rfl,h.two (fun _ _ z=>nomatch z),by simp⟩
 rw [av (e':=[A0,A1,some (.bo,.lst (fs.map .str)),some (.bo,.lst (ds.map ao)),some (.bo,.lst ((rs++[r]).map Row.d)),some (.al,.int k),some (.al,.int c),some (.fr,.int x)]) (by
  rw [bK (by walk_at "go"; simp only [q1,decide_false])];rfl)]
 by_cases q2:c%11=10
 ·obtain ⟨a,rfl⟩:=p3 (by omega)
  rw [bh (by walk_at "go"; simp only [q2,decide_true])]
  exact ⟨_,_,nI (r:=.go (x / 720%60)) rfl (by walk_at "go"; rfl) (by simp;omega),h.two (fun _ _ z=>nomatch z),by simp⟩
 ·rw [bK (by walk_at "go"; simp only [q2,decide_false])]
  refine ⟨_,_,rfl,?_,by simp⟩
  by_cases q3:c%11 < 7
  ·have:=p1 q3
   refine h.one ?_ ?_ ?_<;>cases r<;>simp_all [Row.flat,Row.cQ,Row.cA]
  ·obtain ⟨a,t,rfl,ht⟩:=p2 (by omega) (by omega)
   exact h.one rfl rfl fun b s e=>by cases e;exact ht
theorem Oj {cs:List Int}{i:Nat}{d:D} (h:(bG (cs.map D.int))[i]?=some d):∃ c:Int,d=.tup [.int i,.int c]:=by
 unfold bG at h
 rw [List.getElem?_mapIdx,List.getElem?_map] at h
 cases e:cs[i]? with
 |none=>rw [e] at h;cases h
 |some r=>rw [e] at h;cases h;exact ⟨r,rfl⟩
structure RF (rs:List Row):Prop where
 pos:0 < rs.length
 r0:∀ t,rs[0]?≠some (.go t)
 pt:∀ (i:Nat) a t,rs[i]?=some (.pt a t)→i+1 < rs.length∧((t=-1∧i+2 < rs.length)∨0≤t)
 fl:∀ (i:Nat) r,rs[i]?=some r→Row.flat r=true→i+1 < rs.length
theorem RG.rf {rs:List Row}{x:Row} (h:RG rs) (hx:x=.en∨(0 < rs.length∧∃ t,x=.go t)):RF (rs++[x]):=by
 have lt:∀ {i:Nat}{r:Row},rs[i]?=some r→i < rs.length:=fun z=>(List.getElem?_eq_some_iff.mp z).1
 refine ⟨by simp,fun t ht=>?_,fun i a t ht=>?_,fun i r hr hf=>?_⟩
 ·rcases gg ht with z|⟨z,w⟩
  ·have:=(h.r0 _ z).2;simp [Row.cA] at this
  ·rcases hx with rfl|⟨hp,_⟩
   ·cases w
   ·omega
 ·rcases gg ht with z|⟨z,w⟩
  ·have:=lt z
   refine ⟨by simp;omega,?_⟩
   rcases h.pt i a t z with ⟨w,y⟩|w
   ·exact .inl ⟨w,by simp;omega⟩
   ·exact .inr w
  ·rcases hx with rfl|⟨_,t,rfl⟩<;>cases w
 ·rcases gg hr with z|⟨z,rfl⟩
  ·have:=lt z;simp;omega
  ·rcases hx with rfl|⟨_,t,rfl⟩<;>cases hf
theorem Ol (ns cs:List Int) (hc:cs.length≤40):∃ rs,tE [.lst (ns.map .int),.lst (cs.map .int)]=some (.un,.lst (rs.map Row.d))∧RF rs∧rs.length≤100:=by
 obtain ⟨c0,h0⟩:=lB ns 0 (by omega)
 obtain ⟨fs,jm,rT⟩:=xI c0
 obtain ⟨ds,xg,iI⟩:=xJ ns fs (by omega)
 obtain ⟨nu,A8⟩:=xE ns 58 (by omega)
 obtain ⟨e',l1,rs,o5,o6,o7,he,hg,hl⟩:=cL (g:=gT 2 (bx (gN 5) (bx (gN 6) cX))) (b:=sQ) (m:=.al) (ds:=bG (cs.map D.int)) (e:=[some (.al,.lst (ns.map .int)),some (.al,.lst (cs.map .int)),some (.bo,.lst (fs.map .str)),some (.bo,.lst (ds.map ao)),some (.bo,.lst ([].map Row.d)),none,none,none])
  (fun i e=>∃ (rs:List Row) (o5 o6 o7:Option (M×D)),e=[some (.al,.lst (ns.map .int)),some (.al,.lst (cs.map .int)),some (.bo,.lst (fs.map .str)),some (.bo,.lst (ds.map ao)),some (.bo,.lst (rs.map Row.d)),o5,o6,o7]∧RG rs∧(i≤cs.length→rs.length≤2*i))
  ⟨[],none,none,none,rfl,RG.nil,fun _=>Nat.le_refl _⟩
  (fun i d e hd aZ=>by
   obtain ⟨rs,o5,o6,o7,he,hg,hl⟩:=aZ
   subst he
   have hi:i < cs.length:=by
    have:=(List.getElem?_eq_some_iff.mp hd).1
    simpa [bG] using this
   obtain ⟨c,rfl⟩:=Oj hd
   have hl:=hl (by omega)
   obtain ⟨bD,bC,q1,q2,q3⟩:=QN (some (.al,.lst (ns.map .int))) (some (.al,.lst (cs.map .int))) fs (by omega) ds (by omega) rs hg (by omega) (i:Int) c o7
   exact ⟨_,_,rfl,q1,bD,_,_,bC,rfl,q2,fun _=>by omega⟩)
 subst he
 have hl:rs.length≤80:=by
  have:=hl (by simp [bG])
  simp [bG] at this;omega
 obtain ⟨x,hx,Zh⟩:=QM rs nu (by omega) (fun z=>by have:=(hg.r0 _ z).1;simp [Row.cQ] at this)
 refine ⟨rs++[x],?_,hg.rf Zh,by simp;omega⟩
 unfold tE fn BW
 simp only [ck,bj,bt]
 rw [av (e':=[some (.al,.lst (ns.map .int)),some (.al,.lst (cs.map .int)),some (.bo,.lst (fs.map .str)),none,none,none,none,none]) (by walk_at "ev"; rw [h0];walk_at "ev"; rw [rT];walk_at "ev")]
 rw [av (e':=[some (.al,.lst (ns.map .int)),some (.al,.lst (cs.map .int)),some (.bo,.lst (fs.map .str)),some (.bo,.lst (ds.map ao)),none,none,none,none]) (by walk_at "ev"; rw [iI];walk_at "ev")]
 rw [av (e':=[some (.al,.lst (ns.map .int)),some (.al,.lst (cs.map .int)),some (.bo,.lst (fs.map .str)),some (.bo,.lst (ds.map ao)),some (.bo,.lst ([].map Row.d)),none,none,none]) rfl]
 rw [av (e':=[some (.al,.lst (ns.map .int)),some (.al,.lst (cs.map .int)),some (.bo,.lst (fs.map .str)),some (.bo,.lst (ds.map ao)),some (.bo,.lst (rs.map Row.d)),o5,o6,o7]) (by
  rw [cu,show aX 1 [some (.al,.lst (ns.map .int)),some (.al,.lst (cs.map .int)),some (.bo,.lst (fs.map .str)),some (.bo,.lst (ds.map ao)),some (.bo,.lst ([].map Row.d)),none,none,none]=[some (.al,.lst (ns.map .int)),some (.al,.lst (cs.map .int)),some (.bo,.lst (fs.map .str)),some (.bo,.lst (ds.map ao)),some (.bo,.lst ([].map Row.d)),none,none,none] from rfl]
  simp -implicitDefEqProofs only [aW,eQ,ae,jV,ah,gz,gy,oq,id_eq,bV,oy]
  exact l1)]
 walk_at "ev"
 rw [A8]
 walk_at "ev"
 rw [hx]
 walk_at "ev"
 rw [yp (by decide) (by decide) (by simp only [ln,List.length_cons,List.length_nil];exact Nat.le_trans (show rs.length+(0+1)≤200 by omega) (by decide))]
 rw [show mJ .bo .un=.fr from rfl,yv]
 walk_at "ev"
 rw [List.map_append];rfl
noncomputable def intAt (k:Nat) (e:Ev):Nat:=match e[k]? with
 |some (some (_,.int g))=>g.toNat
 |_=>0
theorem QO {rs:List Row} (h:RF rs) (hl:rs.length≤200) (t:Int):∃ g:Int,tM [.lst (rs.map Row.d),.int t]=some (.fr,.int g)∧0≤g∧g < rs.length:=by
 have hp:=h.pos
 obtain ⟨e',l1,⟨g,he,hg⟩,_⟩:=CD (c:=sY) (b:=xq) (e:=[some (.al,.lst (rs.map Row.d)),some (.fr,.int (t%rs.length))])
  (fun e=>∃ g:Nat,e=[some (.al,.lst (rs.map Row.d)),some (.fr,.int (g:Int))]∧g < rs.length)
  (intAt 1)
  ⟨(t%rs.length).toNat,by rw [Int.toNat_of_nonneg (Int.emod_nonneg _ (by omega))],by have:=Int.emod_lt_of_pos t (show (0:Int) < rs.length by omega);have:=Int.emod_nonneg t (show (rs.length:Int)≠0 by omega);omega⟩
  (fun e aZ=>by
   obtain ⟨g,he,hg⟩:=aZ
   subst he
   have hr:rs[g]?=some (rs[g]'hg):=by simp
   generalize rs[g]'hg=r at hr
   have e1:=jF hr
   have hC:sY [some (.al,.lst (rs.map Row.d)),some (.fr,.int (g:Int))]=some (Row.cA r):=by
    unfold sY
    walk_at "ev"
    rw [e1]
    walk_at "ev"
    simp -implicitDefEqProofs only [cI,oq,cS,cT,bf,fT]
   cases jo:Row.cA r with
   |false=>exact .inl (by rw [hC,jo])
   |true =>
    obtain ⟨t',rfl⟩:=yG.mp jo
    have h0:g≠0:=fun z=>by subst z;exact h.r0 t' hr
    refine .inr ⟨by rw [hC,jo],[some (.al,.lst (rs.map Row.d)),some (.fr,.int ((g-1:Nat):Int))],?_,⟨g-1,rfl,by omega⟩,?_⟩
    ·unfold xq
     walk_at "ev"
     rw [show (g:Int)-1=((g-1:Nat):Int) by omega]
    ·simp only [intAt,gz,gy];omega)
 subst he
 refine ⟨g,?_,by omega,by omega⟩
 unfold tM fn Ce
 simp only [ck,bj,bt]
 rw [av (e':=[some (.al,.lst (rs.map Row.d)),some (.fr,.int (t%rs.length))]) (by walk_at "go")]
 rw [av l1]
 rfl
theorem Ud {r:Row}:Row.fu r=true↔∃ a t,r=.pt a t:=by cases r<;>simp [Row.fu]
theorem A9 (m n:M) (a:Ko) (t:Int):ak (m,Row.d (.pt a t)) (n,.int 1)=some (aV m,kD a):=rfl
theorem oV (m n:M) (a:Ko) (t:Int):ak (m,Row.d (.pt a t)) (n,.int 2)=some (aV m,.int t):=rfl
theorem Zi (m n:M) (t:Int):ak (m,Row.d (.go t)) (n,.int 1)=some (aV m,.int t):=rfl
theorem Ba (a:Ko) (t:Int):jG [(M.fr,D.str "part"),(.fr,kD a),(.fr,.int t)]=some (.fr,Row.d (.pt a t)):=rfl
theorem Zj (t:Int):jG [(M.fr,D.str "go"),(.fr,.int t)]=some (.fr,Row.d (.go t)):=rfl
theorem Ue {ro:List Row} (h:RF ro) (hl:ro.length≤200) (A0 A1 A2:Option (M×D)) (rs:List Row) (hr:rs.length≤200) {i:Nat}{r:Row} (hi:ro[i]?=some r) :
  ∃ r' o6,sD [A0,A1,A2,some (.fr,.lst (ro.map Row.d)),some (.bo,.lst (rs.map Row.d)),some (.fr,.int (i:Int)),some (.fr,r.d)]=some (.nx [A0,A1,A2,some (.fr,.lst (ro.map Row.d)),some (.bo,.lst ((rs++[r']).map Row.d)),some (.fr,.int (i:Int)),o6])∧∀ m∈a9 i r',0≤m∧m < ro.length:=by
 have hp:=h.pos
 have aU:i < ro.length:=(List.getElem?_eq_some_iff.mp hi).1
 have fin:∀ r':Row,(∀ m∈a9 i r',0≤m∧m < ro.length)→∀ f,f [A0,A1,A2,some (.fr,.lst (ro.map Row.d)),some (.bo,.lst (rs.map Row.d)),some (.fr,.int (i:Int)),some (.fr,r.d)]=some (.nx [A0,A1,A2,some (.fr,.lst (ro.map Row.d)),some (.bo,.lst (rs.map Row.d)),some (.fr,.int (i:Int)),some (.fr,r'.d)]) →
   ∃ r' o6,aj f (cy 4 (jV 6)) [A0,A1,A2,some (.fr,.lst (ro.map Row.d)),some (.bo,.lst (rs.map Row.d)),some (.fr,.int (i:Int)),some (.fr,r.d)]=some (.nx [A0,A1,A2,some (.fr,.lst (ro.map Row.d)),some (.bo,.lst ((rs++[r']).map Row.d)),some (.fr,.int (i:Int)),o6])∧∀ m∈a9 i r',0≤m∧m < ro.length:=fun r' h1 f h2=>by
  refine ⟨r',some (.fr,r'.d),?_,h1⟩
  rw [av h2]
  exact nI (r:=r') rfl rfl (by omega)
 have w1:∀ e:Ev,e[6]?=some (some (.fr,r.d))→(jB (ag aN (ag ak (jV 6) (jC (.int 0))) (jC (.str "part")))) e=some (Row.fu r):=fun e he=>by
  simp -implicitDefEqProofs only [jB,ag,jV,jC,he,id_eq,oq,cI,km,cT,bf,iD]
 have w2:∀ e:Ev,e[6]?=some (some (.fr,r.d))→(jB (ag aN (ag ak (jV 6) (jC (.int 0))) (jC (.str "go")))) e=some (Row.cA r):=fun e he=>by
  simp -implicitDefEqProofs only [jB,ag,jV,jC,he,id_eq,oq,cI,km,cT,bf,fT]
 have vt:∀ {a b:Ev→Option Bool}{e:Ev},a e=some false→cZ a b e=some false:=fun {a b e} h=>by simp [cZ,h]
 have qP:∀ {a b:Ev→Option Bool}{e:Ev},a e=some true→cZ a b e=b e:=fun {a b e} h=>by simp [cZ,h]
 unfold sD
 by_cases fB:Row.fu r=true
 ·obtain ⟨a,t,rfl⟩:=Ud.mp fB
  obtain ⟨n1,n2⟩:=h.pt i a t hi
  by_cases q1:t=-1
  ·refine fin (.pt a ((i:Int)+2)) (fun m hm=>?_) _ ?_
   ·have:m=(i:Int)+1∨m=(i:Int)+2:=by simpa [aL.a9] using hm
    rcases n2 with ⟨_,z⟩|z<;>omega
   ·rw [bh (by rw [qP (by rw [w1 _ rfl,fB])];simp -implicitDefEqProofs only [jB,ag,cf,jV,jC,gz,gy,id_eq,oq,oV,lK,lJ,bf,q1,decide_true])]
    simp -implicitDefEqProofs only [au,aQ,ae,ah,ag,jV,jC,gz,gy,id_eq,oq,A9,km,nE,Ba,fN,tz,tq]
  ·have n3:0≤t:=by rcases n2 with ⟨z,_⟩|z<;>omega
   have m0:=Int.emod_nonneg t (show (ro.length:Int)≠0 by omega)
   have m1:=Int.emod_lt_of_pos t (show (0:Int) < ro.length by omega)
   by_cases q2:t%ro.length=(i:Int)+1
   ·refine fin (.pt a (i:Int)) (fun m hm=>?_) _ ?_
    ·have:m=(i:Int)+1∨m=(i:Int):=by simpa [aL.a9] using hm
     omega
    ·rw [bK (by rw [qP (by rw [w1 _ rfl,fB])];simp -implicitDefEqProofs only [jB,ag,cf,jV,jC,gz,gy,id_eq,oq,oV,lK,lJ,bf,q1,decide_false])]
     rw [bh (by rw [qP (by rw [w1 _ rfl,fB])];simp -implicitDefEqProofs only [jB,ag,cf,jV,jC,aJ,ae,ah,gz,gy,id_eq,oq,oV,cU,ln,nE];rw [jz (by omega)];simp -implicitDefEqProofs only [oq,lJ,bf,q2,decide_true])]
     simp -implicitDefEqProofs only [au,aQ,ae,ah,ag,jV,jC,gz,gy,id_eq,oq,A9,km,nE,Ba,fN,tz,tq]
   ·refine fin (.pt a (t%ro.length)) (fun m hm=>?_) _ ?_
    ·have:m=(i:Int)+1∨m=t%ro.length:=by simpa [aL.a9] using hm
     omega
    ·rw [bK (by rw [qP (by rw [w1 _ rfl,fB])];simp -implicitDefEqProofs only [jB,ag,cf,jV,jC,gz,gy,id_eq,oq,oV,lK,lJ,bf,q1,decide_false])]
     rw [bK (by rw [qP (by rw [w1 _ rfl,fB])];simp -implicitDefEqProofs only [jB,ag,cf,jV,jC,aJ,ae,ah,gz,gy,id_eq,oq,oV,cU,ln,nE];rw [jz (by omega)];simp -implicitDefEqProofs only [oq,lJ,bf,q2,decide_false])]
     rw [bh (by rw [w1 _ rfl,fB])]
     simp -implicitDefEqProofs only [au,aQ,ae,ah,ag,jV,jC,aJ,gz,gy,id_eq,oq,A9,oV,km,cU,ln]
     rw [jz (by omega)]
     simp -implicitDefEqProofs only [oq,Ba,fN,tz,tq]
 ·have fB:Row.fu r=false:=by simpa using fB
  by_cases jo:Row.cA r=true
  ·obtain ⟨t,rfl⟩:=yG.mp jo
   obtain ⟨g,eg,g0,g1⟩:=QO h hl t
   refine fin (.go g) (fun m hm=>?_) _ ?_
   ·have:m=g:=by simpa [aL.a9] using hm
    omega
   ·rw [bK (vt (by rw [w1 _ rfl,fB])),bK (vt (by rw [w1 _ rfl,fB])),bK (by rw [w1 _ rfl,fB]),bh (by rw [w2 _ rfl,jo])]
    simp -implicitDefEqProofs only [au,aQ,ae,ah,ag,jV,jC,aw,gz,gy,id_eq,oq,Zi,km,mq,mn,eg,Zj,fN,tz,tq]
  ·have jo:Row.cA r=false:=by simpa using jo
   refine fin r (fun m hm=>?_) _ ?_
   ·cases r with
    |en=>simp [aL.a9] at hm
    |go t=>cases jo
    |pt a t=>cases fB
    |rk x s a b =>
     have:=h.fl i _ hi rfl;have:m=(i:Int)+1:=by simpa [aL.a9] using hm
     omega
    |cp x a =>
     have:=h.fl i _ hi rfl;have:m=(i:Int)+1:=by simpa [aL.a9] using hm
     omega
    |sy a =>
     have:=h.fl i _ hi rfl;have:m=(i:Int)+1:=by simpa [aL.a9] using hm
     omega
   ·rw [bK (vt (by rw [w1 _ rfl,fB])),bK (vt (by rw [w1 _ rfl,fB])),bK (by rw [w1 _ rfl,fB]),bK (by rw [w2 _ rfl,jo])]
    rfl
theorem Good.set {rs:List Row}{j:Nat}{r:Row} (h:Good rs) (hj:∀ m∈aL.a9 j r,0≤m∧m < rs.length):Good (rs.set j r):=by
 refine ⟨by rw [List.length_set];exact h.pos,fun n x hx m hm=>?_⟩
 rw [List.length_set]
 rw [List.getElem?_set] at hx
 split at hx
 ·rename_i e;subst e
  split at hx
  ·cases hx;exact hj m hm
  ·cases hx
 ·exact h.a9 n x hx m hm
theorem jv {e:Ev}{k j:Nat}{mo m':M}{rs:List Row}{r:Row}{f g:Ev→Option (M×D)} (ho:own mo=true) (he:e[k]?=some (some (mo,.lst (rs.map Row.d)))) (hf:f e=some (.fr,r.d)) (hg:g e=some (m',.int (j:Int))) (hj:j < rs.length) :
  dB k g f e=some (.nx (e.set k (some (mo,.lst ((rs.set j r).map Row.d))))):=by
 have mS:df (rs.map Row.d).length (j:Int)=some j:=by
  unfold df
  rw [ln,if_pos (by omega),if_pos (by omega)];simp
 simp -implicitDefEqProofs only [dB,hf,hg,oq,iR,eV,if_true,dE,he,ho,mS,List.map_set]
theorem Ug (r:Row):dH (.str r.word) [.str "reckon",.str "copy",.str "say"]=Row.flat r:=by
 cases r with
 |rk x s a b=>exact (by decide +kernel:dH (.str ("reckon" : Str)) [.str "reckon",.str "copy",.str "say"]=true)
 |cp x a=>exact (by decide +kernel:dH (.str ("copy" : Str)) [.str "reckon",.str "copy",.str "say"]=true)
 |sy a=>exact (by decide +kernel:dH (.str ("say" : Str)) [.str "reckon",.str "copy",.str "say"]=true)
 |go t=>exact (by decide +kernel:dH (.str ("go" : Str)) [.str "reckon",.str "copy",.str "say"]=false)
 |pt a t=>exact (by decide +kernel:dH (.str ("part" : Str)) [.str "reckon",.str "copy",.str "say"]=false)
 |en=>exact (by decide +kernel:dH (.str ("end" : Str)) [.str "reckon",.str "copy",.str "say"]=false)
theorem Ej (m n:M) (r:Row) (neg:Bool):dM neg (m,.str r.word) (n,.tup [.str "reckon",.str "copy",.str "say"])=some (.fr,.bl (if neg then !Row.flat r else Row.flat r)):=by
 rw [←Ug r];rfl
theorem Gq {r:Row} (h:Row.flat r=true):∃ a:Ko,∀ m n:M,ak (m,r.d) (n,.int 1)=some (aV m,kD a):=by
 cases r with
 |rk x s a b=>exact ⟨.inr x,fun _ _=>rfl⟩
 |cp x a=>exact ⟨.inr x,fun _ _=>rfl⟩
 |sy a=>exact ⟨a,fun _ _=>rfl⟩
 |go t=>cases h
 |pt a t=>cases h
 |en=>cases h
theorem x9 {rs:List Row} (h:Good rs) {i:Nat}{r:Row} (hi:rs[i]?=some r) (hf:Row.flat r=true):i+1 < rs.length:=by
 have:=h.a9 i r hi ((i:Int)+1) (by cases r<;>simp_all [Row.flat,aL.a9])
 omega
theorem Ek {rs:List Row}{p:Row→Bool}{n:Nat} (h:pick rs p n=true):∃ r,rs[n]?=some r∧p r=true:=by
 unfold pick at h
 split at h
 ·rename_i r hr;exact ⟨r,hr,h⟩
 ·cases h
theorem CW {rs:List Row}{mo:M} (he:aV mo=.fr) (hn:∀ d:D,¬ (mo=.nb)) {ks:List Nat} (hk:∀ k∈ks,k < rs.length) :
  cY (jB (ag (dM false) (ag ak (ag ak (jV 1) (jV 0)) (jC (.int 0))) (aQ (ae (jC (.str "reckon")) (ae (jC (.str "copy")) (ae (jC (.str "say")) ah)))))) (jV 0) .fr [some (mo,.lst (rs.map Row.d))] (aq ks)=some ((aq (ks.filter (pick rs Row.flat))).map fun x=>(M.fr,x)):=by
 refine pF ks fun k mU=>?_
 have aU:=hk k mU
 have hr:rs[k]?=some (rs[k]'aU):=by simp
 have e:=jF hr
 refine ⟨?_,rfl⟩
 simp -implicitDefEqProofs only [jB,ag,jV,jC,aQ,ae,ah,gz,gy,id_eq,oq,cN,e,oy,he,cI,km]
 rw [show jG [(M.fr,D.str "reckon"),(.fr,.str "copy"),(.fr,.str "say")]=some (.fr,.tup [.str "reckon",.str "copy",.str "say"]) from rfl,oq,Ej,oq,if_neg Bool.false_ne_true]
 simp only [bf,pick,hr]
theorem Om (N:Nat):bO 2 N=aq ((List.range N).map fun k=>k+2):=by
 unfold bO aq
 rw [List.map_map]
 exact List.map_congr_left fun k _=>by show D.int (2+(k:Int))=D.int ((k+2:Nat):Int);congr 1;omega
theorem Oo {rs:List Row} (h:Good rs) (hl:rs.length≤200) (c:Int):∃ bD:List Row,sj [.lst (rs.map Row.d),.int c]=some (.lst (bD.map Row.d))∧Good bD∧bD.length=rs.length:=by
 have hp:=h.pos
 have bT:-4611686018427387904≤(2:Int)∧(2:Int) < 4611686018427387904∧-4611686018427387904≤(rs.length:Int)∧(rs.length:Int) < 4611686018427387904:=by omega
 have fin:∀ {bD:List Row}{e:Ev},ku (.rt e .bi (.lst (bD.map Row.d)))=some (.lst (bD.map Row.d)):=fun {bD e}=>by
  simp only [ku,own,gD,lu,and_self,if_true]
 have ex:=CW (rs:=rs) (mo:=.bi) rfl (fun _ z=>nomatch z) (ks:=(List.range ((rs.length:Int)-2).toNat).map fun k=>k+2) (fun k hk=>by
  obtain ⟨j,hj,rfl⟩:=List.mem_map.mp hk
  have:=List.mem_range.mp hj;omega)
 generalize jm:((List.range ((rs.length:Int)-2).toNat).map fun k=>k+2).filter (pick rs Row.flat)=fl at ex
 have zO:fl.length≤1000:=by
  rw [←jm]
  have:=List.length_filter_le (pick rs Row.flat) ((List.range ((rs.length:Int)-2).toNat).map fun k=>k+2)
  simp at this;simp;omega
 have s1:au 2 (b9 (qH (ae (jC (.int 2)) (ae (aJ bq (ae (jV 0) ah)) ah))) [0] (jB (ag (dM false) (ag ak (ag ak (jV 1) (jV 0)) (jC (.int 0))) (aQ (ae (jC (.str "reckon")) (ae (jC (.str "copy")) (ae (jC (.str "say")) ah)))))) (jV 0)) [some (.bi,.lst (rs.map Row.d)),some (.al,.int c),none,none]=some (.nx [some (.bi,.lst (rs.map Row.d)),some (.al,.int c),some (.bo,.lst (aq fl)),none]):=by
  simp -implicitDefEqProofs only [au,b9,qH,aJ,ae,ah,jV,jC,gz,gy,id_eq,oq,cU,ln,bT,and_self,if_true]
  rw [show eY [some (M.bi,D.lst (rs.map Row.d)),some (M.al,D.int c),none,none] [0]=[some (.bi,.lst (rs.map Row.d))] from rfl,Om,ex,oq,gG (by rw [dq];exact zO),oq]
  rfl
 unfold sj i7 Bl
 rw [show (iQ [0] [D.lst (rs.map Row.d),.int c]++List.replicate (4 - [D.lst (rs.map Row.d),.int c].length) none:Ev)=[some (.bi,.lst (rs.map Row.d)),some (.al,.int c),none,none] from rfl]
 rw [av s1]
 have Kw:rs[0]?=some (rs[0]'hp):=by simp
 generalize hx0:rs[0]'hp=x0 at Kw
 have a0:=jF Kw
 have hb:(cC (jB (ag gp (jV 2) (bA ah))) (jB (ag (dM true) (ag ak (ag ak (jV 0) (jC (.int 0))) (jC (.int 0))) (aQ (ae (jC (.str "reckon")) (ae (jC (.str "copy")) (ae (jC (.str "say")) ah))))))) [some (.bi,.lst (rs.map Row.d)),some (.al,.int c),some (.bo,.lst (aq fl)),none]=some (fl.isEmpty||!Row.flat x0):=by
  have e2:(jB (ag (dM true) (ag ak (ag ak (jV 0) (jC (.int 0))) (jC (.int 0))) (aQ (ae (jC (.str "reckon")) (ae (jC (.str "copy")) (ae (jC (.str "say")) ah)))))) [some (.bi,.lst (rs.map Row.d)),some (.al,.int c),some (.bo,.lst (aq fl)),none]=some (!Row.flat x0):=by
   simp -implicitDefEqProofs only [jB,ag,jV,jC,aQ,ae,ah,gz,gy,id_eq,oq,cN]
   rw [show (0:Int)=((0:Nat):Int) from rfl,a0]
   simp -implicitDefEqProofs only [oy,oq,Int.natCast_zero,cI]
   rw [show jG [(M.fr,D.str "reckon"),(.fr,.str "copy"),(.fr,.str "say")]=some (.fr,.tup [.str "reckon",.str "copy",.str "say"]) from rfl,oq,Ej,oq,if_pos rfl]
   rfl
  have e1:(jB (ag gp (jV 2) (bA ah))) [some (.bi,.lst (rs.map Row.d)),some (.al,.int c),some (.bo,.lst (aq fl)),none]=some fl.isEmpty:=by
   simp -implicitDefEqProofs only [jB,ag,jV,bA,ah,gz,gy,id_eq,oq]
   rw [show fP []=some (.un,.lst []) from rfl,oq,Eh]
   rfl
  unfold cC
  rw [e1,oq]
  cases fl.isEmpty with
  |true=>rfl
  |false=>rw [e2];rfl
 cases j3:(fl.isEmpty||!Row.flat x0) with
 |true =>
  rw [dC (e':=[some (.bi,.lst (rs.map Row.d)),some (.al,.int c),some (.bo,.lst (aq fl)),none]) (m:=.bi) (d:=.lst (rs.map Row.d)) (by rw [bh (by rw [hb,j3])];rfl)]
  exact ⟨rs,by rw [oq];exact fin,h,rfl⟩
 |false =>
  obtain ⟨Zk,hx⟩:fl.isEmpty=false∧Row.flat x0=true:=by simpa using j3
  rw [dR (by rw [hb,j3])]
  have hfp:0 < fl.length:=by
   cases fl with
   |nil=>cases Zk
   |cons a l=>simp
  obtain ⟨la,hV,Bb⟩:=ng (f:=fun (n:Nat)=>D.int (n:Int)) (l:=fl) (k:=c / 4%fl.length) (Int.emod_nonneg _ (by omega)) (Int.emod_lt_of_pos _ (by omega))
  rw [←jm] at hV
  obtain ⟨rV,rW⟩:=List.mem_filter.mp hV
  obtain ⟨r,hr,lg⟩:=Ek rW
  have HS:2≤la:=by obtain ⟨j,_,rfl⟩:=List.mem_map.mp rV;omega
  have hnx:=x9 h hr lg
  obtain ⟨a,ha⟩:=Gq lg
  have ar:=jF hr
  rw [av (e':=[some (.bi,.lst (rs.map Row.d)),some (.al,.int c),some (.bo,.lst (aq fl)),some (.fr,.int (la:Int))]) (by
   simp -implicitDefEqProofs only [au,ag,jV,jC,aJ,ae,ah,gz,gy,id_eq,oq,cU,dq]
   rw [div_ii (by omega),oq,jz (by omega),oq,cN,show aq fl=fl.map (fun (n:Nat)=>D.int (n:Int)) from rfl,Bb]
   rfl)]
  rw [av (jv (j:=la) (r:=.pt a 1) (mo:=.bi) (m':=.fr) rfl rfl (by
   simp -implicitDefEqProofs only [aQ,ae,ah,ag,jV,jC,gz,gy,id_eq,oq,cN,ar,oy,ha]
   rfl) rfl (by omega))]
  simp -implicitDefEqProofs only [tz,tq]
  rw [av (jv (rs:=rs.set la (.pt a 1)) (j:=0) (r:=.go (la:Int)) (mo:=.bi) (m':=.fr) rfl rfl rfl rfl (by rw [List.length_set];omega))]
  refine ⟨(rs.set la (.pt a 1)).set 0 (.go (la:Int)),by rw [show (aI (jV 0)) _=some (.rt _ .bi (.lst (((rs.set la (.pt a 1)).set 0 (.go (la:Int))).map Row.d))) from rfl,oq];exact fin,?_,by simp⟩
  refine (h.set fun m hm=>?_).set fun m hm=>?_
  ·have:m=(la:Int)+1∨m=1:=by simpa [aL.a9] using hm
   omega
  ·have:m=(la:Int):=by simpa [aL.a9] using hm
   rw [List.length_set];omega
theorem QP {R:List D}{c:Int} (h1:D.cP R=true):j7 [0] [0] [(0,0),(1,1)] [(.bi,.lst R),(.al,.int c)]=true:=by
 simp [j7,List.range_succ,own,gD,f6,h1]
theorem Oq {m:M}{f:Int}:∀ ks:List Nat,cY (jB (ag gB (jV 0) (jV 1))) (jV 0) .fr [some (m,.int f)] (aq ks)=some ((aq (ks.filter fun k=>decide (f < (k:Int)))).map fun x=>(M.fr,x)):=fun ks =>
 pF ks fun k _=>⟨by
  simp -implicitDefEqProofs only [jB,ag,jV,gz,gy,id_eq,oq,nS,bf],rfl⟩
theorem MX {fl:List Nat} (hs:fl.Pairwise (· < ·)) {i:Nat} (hi:i+1 < fl.length):∃ f∈fl,fl[i]?=some f∧∃ l∈fl,f < l:=by
 have h1:fl[i]?=some (fl[i]'(by omega)):=by simp
 refine ⟨fl[i]'(by omega),List.getElem_mem _,h1,fl[i+1]'hi,List.getElem_mem _,?_⟩
 exact (List.pairwise_iff_getElem.mp hs) i (i+1) (by omega) hi (by omega)
theorem QQ {rs:List Row} (h:Good rs) (hl:rs.length≤200) (c:Int):∃ bD:List Row,sC [.lst (rs.map Row.d),.int c]=some (.lst (bD.map Row.d))∧Good bD∧bD.length=rs.length:=by
 have hp:=h.pos
 have bT:-4611686018427387904≤(rs.length:Int)∧(rs.length:Int) < 4611686018427387904:=by omega
 have ht:(rs.length:Int).toNat=rs.length:=by omega
 have fin:∀ {bD:List Row}{e:Ev},ku (.rt e .bi (.lst (bD.map Row.d)))=some (.lst (bD.map Row.d)):=fun {bD e}=>by
  simp only [ku,own,gD,lu,and_self,if_true]
 have ex:=CW (rs:=rs) (mo:=.bi) rfl (fun _ z=>nomatch z) (ks:=List.range rs.length) (fun k hk=>List.mem_range.mp hk)
 generalize jm:(List.range rs.length).filter (pick rs Row.flat)=fl at ex
 have zO:fl.length≤1000:=by
  rw [←jm]
  have:=List.length_filter_le (pick rs Row.flat) (List.range rs.length)
  simp at this;simp;omega
 have Wa:fl.Pairwise (· < ·):=by rw [←jm];exact List.Pairwise.filter _ List.pairwise_lt_range
 have Kx:∀ n∈fl,∃ r,rs[n]?=some r∧Row.flat r=true:=fun n hn=>by
  rw [←jm] at hn
  exact Ek (List.mem_filter.mp hn).2
 have s1:au 2 (b9 (bN (ae (aJ bq (ae (jV 0) ah)) ah)) [0] (jB (ag (dM false) (ag ak (ag ak (jV 1) (jV 0)) (jC (.int 0))) (aQ (ae (jC (.str "reckon")) (ae (jC (.str "copy")) (ae (jC (.str "say")) ah)))))) (jV 0)) [some (.bi,.lst (rs.map Row.d)),some (.al,.int c),none,none,none,none,none]=some (.nx [some (.bi,.lst (rs.map Row.d)),some (.al,.int c),some (.bo,.lst (aq fl)),none,none,none,none]):=by
  simp -implicitDefEqProofs only [au,b9,bN,aJ,ae,ah,jV,jC,gz,gy,id_eq,oq,cU,ln,bT,and_self,if_true,ht]
  rw [show eY [some (M.bi,D.lst (rs.map Row.d)),some (M.al,D.int c),none,none,none,none,none] [0]=[some (.bi,.lst (rs.map Row.d))] from rfl,ui,ex,oq,gG (by rw [dq];exact zO),oq]
  rfl
 unfold sC i7 Br
 rw [show (iQ [0] [D.lst (rs.map Row.d),.int c]++List.replicate (7 - [D.lst (rs.map Row.d),.int c].length) none:Ev)=[some (.bi,.lst (rs.map Row.d)),some (.al,.int c),none,none,none,none,none] from rfl]
 rw [av s1]
 by_cases q1:c%4=3
 ·obtain ⟨bD,e1,g1,l1⟩:=Oo h hl c
  rw [dC (e':=[none,none,none,none,none,none,none]) (m:=.bi) (d:=.lst (bD.map Row.d)) (by
   rw [bh (by walk_at "go"; simp only [q1,decide_true])]
   simp -implicitDefEqProofs only [jE,ae,ah,jV,gz,gy,id_eq,oq,QP (lu rs),if_true,mq,mn,e1])]
  exact ⟨bD,by rw [oq];exact fin,g1,l1⟩
 rw [dR (by walk_at "go"; simp only [q1,decide_false])]
 have hb:(cC (jB (ag fw (aJ bq (ae (jV 2) ah)) (jC (.int 2)))) (jB (ag aN (ag aS (jV 1) (jC (.int 2))) (jC (.int 0))))) [some (.bi,.lst (rs.map Row.d)),some (.al,.int c),some (.bo,.lst (aq fl)),none,none,none,none]=some (decide ((fl.length:Int) < 2)||decide (c%2=0)):=by
  walk_at "go"
  rw [dq]
  cases decide ((fl.length:Int) < 2)<;>rfl
 cases j3:(decide ((fl.length:Int) < 2)||decide (c%2=0)) with
 |true =>
  rw [dC (e':=[some (.bi,.lst (rs.map Row.d)),some (.al,.int c),some (.bo,.lst (aq fl)),none,none,none,none]) (m:=.bi) (d:=.lst (rs.map Row.d)) (by rw [bh (by rw [hb,j3])];rfl)]
  exact ⟨rs,by rw [oq];exact fin,h,rfl⟩
 |false =>
  have h2:2≤fl.length:=by
   have:¬ ((fl.length:Int) < 2):=by
    intro z;simp [z] at j3
   omega
  rw [dR (by rw [hb,j3])]
  have k0:=Int.emod_nonneg (c / 4) (show ((fl.length:Int)-1)≠0 by omega)
  have k1:=Int.emod_lt_of_pos (c / 4) (show (0:Int) < (fl.length:Int)-1 by omega)
  obtain ⟨f,hf,Zm,l0,Zn,Xf⟩:=MX Wa (i:=(c / 4%((fl.length:Int)-1)).toNat) (by omega)
  have ef:L2.bw (aq fl) (c / 4%((fl.length:Int)-1))=some (.int (f:Int)):=by
   rw [gF k0 (by rw [dq];omega)]
   have:=(List.getElem?_eq_some_iff.mp Zm).2
   simp only [aq,List.getElem_map,this]
  rw [av (e':=[some (.bi,.lst (rs.map Row.d)),some (.al,.int c),some (.bo,.lst (aq fl)),some (.fr,.int (f:Int)),none,none,none]) (by
   simp -implicitDefEqProofs only [au,ag,jV,jC,aJ,ae,ah,gz,gy,id_eq,oq,cU,dq,yq]
   rw [div_ii (by omega),oq,jz (by omega),oq,cN,ef]
   rfl)]
  generalize aU:fl.filter (fun (k:Nat)=>decide ((f:Int) < (k:Int)))=lt
  have ZZ:0 < lt.length:=by
   rw [←aU]
   exact List.length_pos_of_mem (List.mem_filter.mpr ⟨Zn,by simpa using Xf⟩)
  have Xg:lt.length≤1000:=by
   rw [←aU]
   have:=List.length_filter_le (fun k=>decide ((f:Int) < ((k:Nat):Int))) fl
   omega
  rw [av (e':=[some (.bi,.lst (rs.map Row.d)),some (.al,.int c),some (.fr,.lst (aq fl)),some (.fr,.int (f:Int)),some (.bo,.lst (aq lt)),none,none]) (by
   rw [cu,show aX 2 [some (.bi,.lst (rs.map Row.d)),some (.al,.int c),some (.bo,.lst (aq fl)),some (.fr,.int (f:Int)),none,none,none]=[some (.bi,.lst (rs.map Row.d)),some (.al,.int c),some (.fr,.lst (aq fl)),some (.fr,.int (f:Int)),none,none,none] from rfl]
   simp -implicitDefEqProofs only [au,b9,bP,jV,gz,gy,id_eq,oq,bV,oy]
   rw [show eY [some (M.bi,D.lst (rs.map Row.d)),some (M.al,D.int c),some (.fr,.lst (aq fl)),some (M.fr,D.int (f:Int)),none,none,none] [3]=[some (.fr,.int (f:Int))] from rfl,Oq,aU,oq,gG (by rw [dq];exact Xg),oq]
   rfl)]
  obtain ⟨la,hV,Bb⟩:=ng (f:=fun (n:Nat)=>D.int (n:Int)) (l:=lt) (k:=c / 256%lt.length) (Int.emod_nonneg _ (by omega)) (Int.emod_lt_of_pos _ (by omega))
  rw [av (e':=[some (.bi,.lst (rs.map Row.d)),some (.al,.int c),some (.fr,.lst (aq fl)),some (.fr,.int (f:Int)),some (.bo,.lst (aq lt)),some (.fr,.int (la:Int)),none]) (by
   simp -implicitDefEqProofs only [au,ag,jV,jC,aJ,ae,ah,gz,gy,id_eq,oq,cU,dq]
   rw [div_ii (by omega),oq,jz (by omega),oq,cN,show aq lt=lt.map (fun (n:Nat)=>D.int (n:Int)) from rfl,Bb]
   rfl)]
  rw [←aU] at hV
  obtain ⟨Xh,HS⟩:=List.mem_filter.mp hV
  have Z0:f < la:=by simpa using HS
  obtain ⟨rf,lg,Ky⟩:=Kx f hf
  obtain ⟨rl,Kz,Zo⟩:=Kx la Xh
  have nf:=x9 h lg Ky
  have nl:=x9 h Kz Zo
  obtain ⟨a,ha⟩:=Gq Ky
  have Zq:=jF lg
  have t0:=Int.emod_nonneg (c / 16384) (show (rs.length:Int)≠0 by omega)
  have t1:=Int.emod_lt_of_pos (c / 16384) (show (0:Int) < rs.length by omega)
  rw [av (e':=[some (.bi,.lst (rs.map Row.d)),some (.al,.int c),some (.fr,.lst (aq fl)),some (.fr,.int (f:Int)),some (.bo,.lst (aq lt)),some (.fr,.int (la:Int)),some (.fr,.int (c / 16384%rs.length))]) (by walk_at "go")]
  generalize c / 16384%(rs.length:Int)=t at t0 t1 ⊢
  have lP:rs[rs.length-1]?=some (rs[rs.length-1]'(by omega)):=by simp
  generalize rs[rs.length-1]'(by omega)=rz at lP
  have az:L2.bw (rs.map Row.d) (-1)=some rz.d:=by
   unfold L2.bw L2.df
   rw [if_neg (by decide),ln,if_pos (by omega),oq,show (-1+(rs.length:Int)).toNat=rs.length-1 by omega,List.getElem?_map,lP]
   rfl
  have T1:∃ t':Int,(0≤t'∧t' < rs.length)∧aM (jB (ag aN (ag ak (ag ak (jV 0) (cf ft (jC (.int 1)))) (jC (.int 0))) (jC (.str "go")))) (au 6 (ag aS (jV 6) (ag bB (jV 3) (jC (.int 1))))) aR [some (.bi,.lst (rs.map Row.d)),some (.al,.int c),some (.fr,.lst (aq fl)),some (.fr,.int (f:Int)),some (.bo,.lst (aq lt)),some (.fr,.int (la:Int)),some (.fr,.int t)]=some (.nx [some (.bi,.lst (rs.map Row.d)),some (.al,.int c),some (.fr,.lst (aq fl)),some (.fr,.int (f:Int)),some (.bo,.lst (aq lt)),some (.fr,.int (la:Int)),some (.fr,.int t')]):=by
   have hc:(jB (ag aN (ag ak (ag ak (jV 0) (cf ft (jC (.int 1)))) (jC (.int 0))) (jC (.str "go")))) [some (.bi,.lst (rs.map Row.d)),some (.al,.int c),some (.fr,.lst (aq fl)),some (.fr,.int (f:Int)),some (.bo,.lst (aq lt)),some (.fr,.int (la:Int)),some (.fr,.int t)]=some (Row.cA rz):=by
    simp -implicitDefEqProofs only [jB,ag,cf,jV,jC,gz,gy,id_eq,oq,lK,cN,az,oy,cI,cT,bf,fT]
   cases hg:Row.cA rz with
   |true =>
    have m0:=Int.emod_nonneg t (show ((f:Int)+1)≠0 by omega)
    have m1:=Int.emod_lt_of_pos t (show (0:Int) < (f:Int)+1 by omega)
    exact ⟨t%((f:Int)+1),by omega,by rw [bh (by rw [hc,hg])];walk_at "go"⟩
   |false=>exact ⟨t,⟨t0,t1⟩,by rw [bK (by rw [hc,hg])];rfl⟩
  obtain ⟨t',b1,e1⟩:=T1
  rw [av e1]
  have T2:∃ t2:Int,(0≤t2∧t2 < rs.length)∧aM (jB (nC fw oK (jV 3) (jV 6) (jV 5))) (au 6 (ag bB (jV 5) (jC (.int 1)))) aR [some (.bi,.lst (rs.map Row.d)),some (.al,.int c),some (.fr,.lst (aq fl)),some (.fr,.int (f:Int)),some (.bo,.lst (aq lt)),some (.fr,.int (la:Int)),some (.fr,.int t')]=some (.nx [some (.bi,.lst (rs.map Row.d)),some (.al,.int c),some (.fr,.lst (aq fl)),some (.fr,.int (f:Int)),some (.bo,.lst (aq lt)),some (.fr,.int (la:Int)),some (.fr,.int t2)]):=by
   have hc:∃ b,(jB (nC fw oK (jV 3) (jV 6) (jV 5))) [some (.bi,.lst (rs.map Row.d)),some (.al,.int c),some (.fr,.lst (aq fl)),some (.fr,.int (f:Int)),some (.bo,.lst (aq lt)),some (.fr,.int (la:Int)),some (.fr,.int t')]=some b:=by
    walk_at "ev"
    cases decide ((f:Int) < t')<;>exact ⟨_,rfl⟩
   obtain ⟨b,hc⟩:=hc
   cases b with
   |true=>exact ⟨(la:Int)+1,by omega,by rw [bh hc];walk_at "ev"⟩
   |false=>exact ⟨t',b1,by rw [bK hc];rfl⟩
  obtain ⟨t2,b2,e2⟩:=T2
  rw [av e2]
  have T3:∃ t3:Int,(0≤t3∧t3 < rs.length)∧aM (jB (ag aN (ag ak (ag ak (jV 0) (jV 6)) (jC (.int 0))) (jC (.str "go")))) (au 6 (jC (.int 0))) aR [some (.bi,.lst (rs.map Row.d)),some (.al,.int c),some (.fr,.lst (aq fl)),some (.fr,.int (f:Int)),some (.bo,.lst (aq lt)),some (.fr,.int (la:Int)),some (.fr,.int t2)]=some (.nx [some (.bi,.lst (rs.map Row.d)),some (.al,.int c),some (.fr,.lst (aq fl)),some (.fr,.int (f:Int)),some (.bo,.lst (aq lt)),some (.fr,.int (la:Int)),some (.fr,.int t3)]):=by
   have at2:=N4 (rs:=rs) b2.1 b2.2
   have hc:∃ b,(jB (ag aN (ag ak (ag ak (jV 0) (jV 6)) (jC (.int 0))) (jC (.str "go")))) [some (.bi,.lst (rs.map Row.d)),some (.al,.int c),some (.fr,.lst (aq fl)),some (.fr,.int (f:Int)),some (.bo,.lst (aq lt)),some (.fr,.int (la:Int)),some (.fr,.int t2)]=some b:=by
    simp -implicitDefEqProofs only [jB,ag,jV,jC,gz,gy,id_eq,oq,cN,at2,oy,cI,cT,bf]
    exact ⟨_,rfl⟩
   obtain ⟨b,hc⟩:=hc
   cases b with
   |true=>exact ⟨0,by omega,by rw [bh hc];rfl⟩
   |false=>exact ⟨t2,b2,by rw [bK hc];rfl⟩
  obtain ⟨t3,b3,e3⟩:=T3
  rw [av e3]
  rw [av (jv (j:=f) (r:=.pt a ((la:Int)+1)) (mo:=.bi) (m':=.fr) rfl rfl (by
   simp -implicitDefEqProofs only [aQ,ae,ah,ag,jV,jC,gz,gy,id_eq,oq,cN,Zq,oy,ha,nE]
   rfl) rfl (by omega))]
  simp -implicitDefEqProofs only [tz,tq]
  rw [av (jv (rs:=rs.set f (.pt a ((la:Int)+1))) (j:=la) (r:=.go t3) (mo:=.bi) (m':=.fr) rfl rfl rfl rfl (by rw [List.length_set];omega))]
  refine ⟨(rs.set f (.pt a ((la:Int)+1))).set la (.go t3),by rw [show (aI (jV 0)) _=some (.rt _ .bi (.lst (((rs.set f (.pt a ((la:Int)+1))).set la (.go t3)).map Row.d))) from rfl,oq];exact fin,?_,by simp⟩
  refine (h.set fun m hm=>?_).set fun m hm=>?_
  ·have:m=(f:Int)+1∨m=(la:Int)+1:=by simpa [aL.a9] using hm
   omega
  ·have:m=t3:=by simpa [aL.a9] using hm
   rw [List.length_set];omega
theorem Ot (ns:List Int) (A1:Option (M×D)) (fs:List Str) (hf:0 < fs.length) (ds:List De) (hd:0 < ds.length) (rs:List Row) (hl:rs.length≤200) (i:Nat) (o6:Option (M×D)) :
  ∃ (r:Row) (cg:Option (M×D)),sH [some (.al,.lst (ns.map .int)),A1,some (.bo,.lst (fs.map .str)),some (.bo,.lst (ds.map ao)),some (.bo,.lst (rs.map Row.d)),some (.fr,.int (i:Int)),o6]=some (.nx [some (.al,.lst (ns.map .int)),A1,some (.bo,.lst (fs.map .str)),some (.bo,.lst (ds.map ao)),some (.bo,.lst ((rs++[r]++[Row.go (2*(i:Int)-1)]).map Row.d)),some (.fr,.int (i:Int)),cg])∧Row.flat r=true:=by
 obtain ⟨c,hc⟩:=lB ns (2+(i:Int)) (by omega)
 obtain ⟨x,hx⟩:=lz c (i:Int)
 obtain ⟨r,hr,p1,_,_⟩:=Fu (c / 11*11+c%7) x fs hf ds hd
 refine ⟨r,some (.fr,.int c),?_,p1 (by omega)⟩
 unfold sH
 rw [av (e':=[some (.al,.lst (ns.map .int)),A1,some (.bo,.lst (fs.map .str)),some (.bo,.lst (ds.map ao)),some (.bo,.lst (rs.map Row.d)),some (.fr,.int (i:Int)),some (.fr,.int c)]) (by walk_at "ev"; rw [hc];walk_at "ev")]
 rw [av (nI (rs:=rs) (r:=r) rfl (by walk_at "go"; rw [hx];walk_at "go"; rw [hr]) (by omega))]
 simp -implicitDefEqProofs only [tz,tq]
 exact nI (rs:=rs++[r]) (r:=.go (2*(i:Int)-1)) rfl (by walk_at "go"; rfl) (by simp;omega)
theorem MY (ns:List Int) (many:Int) (h1:1≤many) (h2:many≤28):∃ rs:List Row,sZ [.lst (ns.map .int),.int many]=some (.un,.lst (rs.map Row.d))∧Good rs∧rs.length≤100:=by
  obtain ⟨c0,h0⟩:=lB ns 0 (by omega)
  obtain ⟨fs,jm,rT⟩:=xI c0
  obtain ⟨ds,xg,iI⟩:=xJ ns fs (by omega)
  obtain ⟨e',l1,rs,o5,o6,he,hl,hP⟩:=cL (g:=gN 5) (b:=sH) (m:=.fr) (ds:=bO 0 many.toNat) (e:=[some (.al,.lst (ns.map .int)),some (.al,.int many),some (.bo,.lst (fs.map .str)),some (.bo,.lst (ds.map ao)),some (.bo,.lst ([Row.go (2*many-1)].map Row.d)),none,none])
    (fun i e=>∃ (rs:List Row) (o5 o6:Option (M×D)),e=[some (.al,.lst (ns.map .int)),some (.al,.int many),some (.bo,.lst (fs.map .str)),some (.bo,.lst (ds.map ao)),some (.bo,.lst (rs.map Row.d)),o5,o6]∧rs.length=2*i+1∧((i:Int)≤many→∀ (n:Nat) r,rs[n]?=some r→Row.flat r=true∨∃ t,r=.go t∧(0≤t∨n=2)∧t < 2*many+2))
    ⟨[Row.go (2*many-1)],none,none,rfl,rfl,fun _ n r hr=>by
      cases n with
      |zero=>simp at hr;subst hr;exact .inr ⟨_,rfl,.inl (by omega),by omega⟩
      |succ n=>simp at hr⟩
    (fun i d e hd aZ=>by
      obtain ⟨rs,o5,o6,he,hl,hP⟩:=aZ
      subst he
      obtain ⟨hi,rfl⟩:=jD hd
      rw [show (0:Int)+(i:Int)=(i:Int) by omega]
      obtain ⟨r,cg,q,hr⟩:=Ot ns (some (.al,.int many)) fs (by omega) ds (by omega) rs (by omega) i o6
      refine ⟨_,_,rfl,q,_,_,cg,rfl,by simp;omega,fun rN n x hx=>?_⟩
      rcases gg hx with z|⟨z,rfl⟩
      · rcases gg z with z|⟨z,rfl⟩
        · exact hP (by omega) n x z
        · exact .inl hr
      · refine .inr ⟨_,rfl,?_,by omega⟩
        simp at z
        omega)
  subst he
  rw [ig] at hl
  have hP:=hP (by rw [ig];omega)
  unfold sZ fn BH
  simp only [ck,bj,bt]
  rw [av (e':=[some (.al,.lst (ns.map .int)),some (.al,.int many),some (.bo,.lst (fs.map .str)),none,none,none,none]) (by walk_at "ev"; rw [h0];walk_at "ev"; rw [rT];walk_at "ev")]
  rw [av (e':=[some (.al,.lst (ns.map .int)),some (.al,.int many),some (.bo,.lst (fs.map .str)),some (.bo,.lst (ds.map ao)),none,none,none]) (by walk_at "ev"; rw [iI];walk_at "ev")]
  rw [av (e':=[some (.al,.lst (ns.map .int)),some (.al,.int many),some (.bo,.lst (fs.map .str)),some (.bo,.lst (ds.map ao)),some (.bo,.lst ([Row.go (2*many-1)].map Row.d)),none,none]) (by walk_at "go"; rfl)]
  rw [av (e':=[some (.al,.lst (ns.map .int)),some (.al,.int many),some (.bo,.lst (fs.map .str)),some (.bo,.lst (ds.map ao)),some (.bo,.lst (rs.map Row.d)),o5,o6]) (by
    have bT:-4611686018427387904≤many∧many < 4611686018427387904:=by omega
    simp -implicitDefEqProofs only [aW,bN,ae,ah,jV,gz,gy,id_eq,oq,bT,and_self,if_true]
    exact l1)]
  rw [av (jv (j:=2) (r:=.go (2*many+1)) (mo:=.bo) (m':=.fr) rfl rfl (by walk_at "go"; rfl) rfl (by omega))]
  simp -implicitDefEqProofs only [tz,tq]
  refine ⟨rs.set 2 (.go (2*many+1))++[.en],?_,⟨by simp,fun n r hr m hm=>?_⟩,by simp;omega⟩
  · walk_at "ev"
    rw [yp (by decide) (by decide) (by simp only [ln,List.length_set,List.length_cons,List.length_nil];exact Nat.le_trans (show rs.length+(0+1)≤200 by omega) (by decide))]
    rw [show mJ .bo .un=.fr from rfl,yv]
    walk_at "ev"
    rw [List.map_append];rfl
  · have hlen:((rs.set 2 (.go (2*many+1))++[Row.en]).length:Int)=2*many+2:=by simp;omega
    rw [hlen]
    rcases gg hr with z|⟨_,rfl⟩
    · rw [List.getElem?_set] at z
      split at z
      · split at z
        · cases z
          have:m=2*many+1:=by simpa [aL.a9] using hm
          omega
        · cases z
      · rename_i n2
        have hn:n < rs.length:=(List.getElem?_eq_some_iff.mp z).1
        rcases hP n r z with w|⟨t,rfl,w,y⟩
        · have:m=(n:Int)+1:=by cases r<;>simp_all [Row.flat,aL.a9]
          omega
        · have:m=t:=by simpa [aL.a9] using hm
          rcases w with w|w<;>omega
    · simp [aL.a9] at hm
def Tg (many:Int) (r:Row):Prop:=(∀ t,r=.go t→0≤t∧t < many)∧∀ a t,r=.pt a t→0≤t∧t < many
theorem L6 (c n many:Int) (hm:1≤many∧many≤100) (fs:List Str) (hf:0 < fs.length∧fs.length≤100) (ds:List De) (hd:0 < ds.length):∃ r:Row,pB [.int c,.int n,.int many,.lst (fs.map .str),.lst (ds.map ao)]=some (.fr,r.d)∧Tg many r:=by
 obtain ⟨nm,_,hn⟩:=ng (f:=D.str) (l:=fs) (k:=c / 14%fs.length) (Int.emod_nonneg _ (by omega)) (Int.emod_lt_of_pos _ (by omega))
 obtain ⟨q,_,hq⟩:=ng (f:=ao) (l:=ds) (k:=c / 14 / fs.length%ds.length) (Int.emod_nonneg _ (by omega)) (Int.emod_lt_of_pos _ (by omega))
 obtain ⟨KC,Zr⟩:=m7 (c / 14 / fs.length) fs hf.1
 obtain ⟨KD,gY⟩:=m7 (c / 14) fs hf.1
 obtain ⟨KG,Zt⟩:=m7 (c / 14 / (many-1)) fs hf.1
 have np:∀ {r:Row},Row.cA r=false→Row.fu r=false→Tg many r:=fun {r} h1 h2=>⟨fun t e=>(by subst e;cases h1),fun a t e=>(by subst e;cases h2)⟩
 unfold pB fn By
 simp only [ck,bj,bt]
 rw [av (e':=[some (.al,.int c),some (.al,.int n),some (.al,.int many),some (.al,.lst (fs.map .str)),some (.al,.lst (ds.map ao)),some (.fr,.int (c%14)),none,none,none,none]) (by walk_at "go")]
 rw [av (e':=[some (.al,.int c),some (.al,.int n),some (.al,.int many),some (.al,.lst (fs.map .str)),some (.al,.lst (ds.map ao)),some (.fr,.int (c%14)),some (.fr,.int (c / 14)),none,none,none]) (by walk_at "go")]
 by_cases q1:c%14 < 6
 ·refine ⟨.rk nm q.1 q.2.1 q.2.2,?_,np rfl rfl⟩
  rw [dC (e':=[some (.al,.int c),some (.al,.int n),some (.al,.int many),some (.al,.lst (fs.map .str)),some (.al,.lst (ds.map ao)),some (.fr,.int (c%14)),some (.fr,.int (c / 14)),some (.al,.str q.1),some (.al,kD q.2.1),some (.al,kD q.2.2)]) (m:=.fr) (d:=Row.d (.rk nm q.1 q.2.1 q.2.2)) (by
   rw [bh (by walk_at "go"; simp only [q1,decide_true])]
   rw [av (e':=[some (.al,.int c),some (.al,.int n),some (.al,.int many),some (.al,.lst (fs.map .str)),some (.al,.lst (ds.map ao)),some (.fr,.int (c%14)),some (.fr,.int (c / 14)),some (.al,.str q.1),some (.al,kD q.2.1),some (.al,kD q.2.2)]) (by
    walk_at "go"
    rw [hq]
    rfl)]
   walk_at "go"
   rw [hn]
   walk_at "ev"
   simp -implicitDefEqProofs only [qf,Bool.and_self,if_true]
   rfl)]
  rfl
 rw [dR (by walk_at "go"; simp only [q1,decide_false])]
 by_cases q2:c%14 < 8
 ·refine ⟨.cp nm KC,?_,np rfl rfl⟩
  rw [dC (e':=[some (.al,.int c),some (.al,.int n),some (.al,.int many),some (.al,.lst (fs.map .str)),some (.al,.lst (ds.map ao)),some (.fr,.int (c%14)),some (.fr,.int (c / 14)),none,none,none]) (m:=.fr) (d:=Row.d (.cp nm KC)) (by
   rw [bh (by walk_at "go"; simp only [q2,decide_true])]
   walk_at "go"
   rw [hn]
   walk_at "go"
   rw [Zr]
   walk_at "ev"
   rfl)]
  rfl
 rw [dR (by walk_at "go"; simp only [q2,decide_false])]
 by_cases q3:c%14 < 10
 ·refine ⟨.sy KD,?_,np rfl rfl⟩
  rw [dC (e':=[some (.al,.int c),some (.al,.int n),some (.al,.int many),some (.al,.lst (fs.map .str)),some (.al,.lst (ds.map ao)),some (.fr,.int (c%14)),some (.fr,.int (c / 14)),none,none,none]) (m:=.fr) (d:=Row.d (.sy KD)) (by
   rw [bh (by walk_at "go"; simp only [q3,decide_true])]
   walk_at "go"
   rw [gY]
   walk_at "ev"
   rfl)]
  rfl
 rw [dR (by walk_at "go"; simp only [q3,decide_false])]
 have KH:(cZ (jB (ag fw (jV 5) (jC (.int 12)))) (jB (ag gB (jV 2) (jC (.int 1))))) [some (.al,.int c),some (.al,.int n),some (.al,.int many),some (.al,.lst (fs.map .str)),some (.al,.lst (ds.map ao)),some (.fr,.int (c%14)),some (.fr,.int (c / 14)),none,none,none]=some (decide (c%14 < 12)&&decide (1 < many)):=by
  walk_at "ev"
  cases decide (c%14 < 12)<;>rfl
 cases q4:(decide (c%14 < 12)&&decide (1 < many)) with
 |true =>
  have h1m:1 < many:=by simp at q4;exact q4.2
  have m0:=Int.emod_nonneg (n+2+c / 14%(many-1)) (show many≠0 by omega)
  have m1:=Int.emod_lt_of_pos (n+2+c / 14%(many-1)) (show 0 < many by omega)
  refine ⟨.pt KG ((n+2+c / 14%(many-1))%many),?_,(fun t e=>nomatch e),fun a t e=>(by cases e;exact ⟨m0,m1⟩)⟩
  rw [dC (e':=[some (.al,.int c),some (.al,.int n),some (.al,.int many),some (.al,.lst (fs.map .str)),some (.al,.lst (ds.map ao)),some (.fr,.int (c%14)),some (.fr,.int (c / 14)),none,none,none]) (m:=.fr) (d:=Row.d (.pt KG ((n+2+c / 14%(many-1))%many))) (by
   rw [bh (by rw [KH,q4])]
   walk_at "go"
   rw [Zt]
   walk_at "go"
   rfl)]
  rfl
 |false =>
  rw [dR (by rw [KH,q4])]
  by_cases q5:c%14=12
  ·have m0:=Int.emod_nonneg (c / 14) (show many≠0 by omega)
   have m1:=Int.emod_lt_of_pos (c / 14) (show 0 < many by omega)
   refine ⟨.go (c / 14%many),?_,(fun t e=>by cases e;exact ⟨m0,m1⟩),(fun a t e=>nomatch e)⟩
   rw [dC (e':=[some (.al,.int c),some (.al,.int n),some (.al,.int many),some (.al,.lst (fs.map .str)),some (.al,.lst (ds.map ao)),some (.fr,.int (c%14)),some (.fr,.int (c / 14)),none,none,none]) (m:=.fr) (d:=Row.d (.go (c / 14%many))) (by
    rw [bh (by walk_at "ev"; simp only [q5,decide_true])]
    walk_at "go"
    rfl)]
   rfl
  ·refine ⟨.en,?_,np rfl rfl⟩
   rw [dR (by walk_at "ev"; simp only [q5,decide_false])]
   rfl
noncomputable def zP (k:Nat) (e:Ev):Nat:=match e[k]? with
 |some (some (_,.bl true))=>1
 |_=>0
theorem ya {ks:List Nat}{x N:Nat} (h1:ks.Nodup) (h2:∀ y∈ks,y < N) (hx:x∉ks) (hN:x < N):(ks++[x]).Nodup∧∀ y∈ks++[x],y < N:=by
 refine ⟨?_,fun y hy=>?_⟩
 ·rw [List.nodup_append]
  refine ⟨h1,by simp,fun a ha b hb=>?_⟩
  have:b=x:=by simpa using hb
  subst this
  exact fun z=>hx (z▸ha)
 ·rcases List.mem_append.mp hy with z|z
  ·exact h2 y z
  ·have:y=x:=by simpa using z
   omega
structure Gr (N:Nat) (ks:List Nat) (mo:Bool) (cJ:List Nat) (c9:Bool):Prop where
 nd:cJ.Nodup
 lt:∀ x∈cJ,x < N
 sub:∀ x∈ks,x∈cJ
 le:ks.length≤cJ.length
 more:c9=true→mo=true∨ks.length < cJ.length
theorem Gr.refl {N:Nat}{ks:List Nat}{mo:Bool} (h1:ks.Nodup) (h2:∀ x∈ks,x < N):Gr N ks mo ks mo:=⟨h1,h2,fun _ h=>h,Nat.le_refl _,fun h=>.inl h⟩
theorem Gr.trans {N:Nat}{ks xh oW:List Nat}{mo oX oY:Bool} (a:Gr N ks mo xh oX) (b:Gr N xh oX oW oY):Gr N ks mo oW oY:=by
 have h1:=a.le
 have h2:=b.le
 refine ⟨b.nd,b.lt,fun x h=>b.sub x (a.sub x h),by omega,fun h=>?_⟩
 rcases b.more h with z|z
 ·rcases a.more z with w|w
  ·exact .inl w
  ·exact .inr (by omega)
 ·exact .inr (by omega)
theorem Wb {N:Nat} (hN:N≤800) (A0:Option (M×D)) (b:Bool) {ks:List Nat}{mo:Bool} (h1:ks.Nodup) (h2:∀ x∈ks,x < N) {n m:Nat} (hn:n < N) (hm:m < N) (o6 o7:Option (M×D)) :
  ∃ cJ c9 cg bC,sk [A0,some (.al,.bl b),some (.bo,.dk (aK ks)),some (.fr,.int (n:Int)),some (.fr,.bl mo),some (.fr,.int (m:Int)),o6,o7]=some (.nx [A0,some (.al,.bl b),some (.bo,.dk (aK cJ)),some (.fr,.int (n:Int)),some (.fr,.bl c9),some (.fr,.int (m:Int)),cg,bC])∧Gr N ks mo cJ c9:=by
 have xi:=lq N ks h1 h2
 have s1:ks.length < sizeLine:=Nat.lt_of_le_of_lt (show ks.length≤800 by omega) (by decide)
 obtain ⟨x,y,hx,hy,e⟩:∃ x y:Nat,x < N∧y < N∧lW (gT 2 (bx (gN 6) (bx (gN 7) cX))) (ag ak (bA (ae (aQ (ae (jV 5) (ae (jV 3) ah))) (ae (aQ (ae (jV 3) (ae (jV 5) ah))) ah))) (aJ kK (ae (jV 1) ah))) [A0,some (.al,.bl b),some (.bo,.dk (aK ks)),some (.fr,.int (n:Int)),some (.fr,.bl mo),some (.fr,.int (m:Int)),o6,o7]=some (.nx [A0,some (.al,.bl b),some (.bo,.dk (aK ks)),some (.fr,.int (n:Int)),some (.fr,.bl mo),some (.fr,.int (m:Int)),some (.fr,.int (x:Int)),some (.fr,.int (y:Int))]):=by
  cases b with
  |true=>exact ⟨n,m,hn,hm,rfl⟩
  |false=>exact ⟨m,n,hm,hn,rfl⟩
 unfold sk
 rw [av e]
 have hc:(cZ (jB (dF false (jV 6) (jV 2))) (jB (dF true (jV 7) (jV 2)))) [A0,some (.al,.bl b),some (.bo,.dk (aK ks)),some (.fr,.int (n:Int)),some (.fr,.bl mo),some (.fr,.int (m:Int)),some (.fr,.int (x:Int)),some (.fr,.int (y:Int))]=some (decide (x∈ks)&&!decide (y∈ks)):=by
  simp -implicitDefEqProofs only [cZ,jB,dF,jV,jQ,keyOf,gz,gy,id_eq,oq,uW,bf,if_true,Bool.false_eq_true,if_false]
  cases decide (x∈ks)<;>rfl
 cases hb:(decide (x∈ks)&&!decide (y∈ks)) with
 |false =>
  rw [bK (by rw [hc,hb])]
  exact ⟨ks,mo,_,_,rfl,.refl h1 h2⟩
 |true =>
  have KJ:y∉ks:=by
   intro z;simp [z] at hb
  rw [bh (by rw [hc,hb])]
  obtain ⟨n1,n2⟩:=ya h1 h2 KJ hy
  refine ⟨ks++[y],true,some (.fr,.int (x:Int)),some (.fr,.int (y:Int)),?_,n1,n2,(fun z hz=>List.mem_append_left _ hz),by simp,fun _=>.inr (by simp)⟩
  simp -implicitDefEqProofs only [aj,iW,au,jV,jC,keyOf,gz,gy,id_eq,oq,eV,if_true,jR,own,qk,s1,yF KJ,tz,tq,fN]
theorem Wc {rs:List Row} (g:Good rs) (hN:rs.length≤800) (b:Bool) {ks:List Nat}{mo:Bool} (h1:ks.Nodup) (h2:∀ x∈ks,x < rs.length) {n:Nat} (hn:n < rs.length) (o5 o6 o7:Option (M×D)) :
  ∃ cJ c9 dS cg bC,sr [some (.al,.lst (rs.map Row.d)),some (.al,.bl b),some (.bo,.dk (aK ks)),some (.fr,.int (n:Int)),some (.fr,.bl mo),o5,o6,o7]=some (.nx [some (.al,.lst (rs.map Row.d)),some (.al,.bl b),some (.bo,.dk (aK cJ)),some (.fr,.int (n:Int)),some (.fr,.bl c9),dS,cg,bC])∧Gr rs.length ks mo cJ c9:=by
 have hr:rs[n]?=some (rs[n]'hn):=by simp
 have ef:=x6 rs n _ hr
 have er:a9 n (rs[n]'hn)=cB rs n:=by unfold cB;rw [hr]
 rw [er,yE g] at ef
 have hm:∀ m∈eD rs n,m < rs.length:=fun m h=>by obtain ⟨_,_,_,z⟩:=pY g h;exact z
 generalize eD rs n=ms at ef hm
 obtain ⟨e',l1,cJ,c9,dS,cg,bC,he,hg⟩:=cL (g:=gN 5) (b:=sk) (m:=.fr) (ds:=aq ms) (e:=[some (.al,.lst (rs.map Row.d)),some (.al,.bl b),some (.bo,.dk (aK ks)),some (.fr,.int (n:Int)),some (.fr,.bl mo),o5,o6,o7])
  (fun _ e=>∃ (cJ:List Nat) (c9:Bool) (o5 o6 o7:Option (M×D)),e=[some (.al,.lst (rs.map Row.d)),some (.al,.bl b),some (.bo,.dk (aK cJ)),some (.fr,.int (n:Int)),some (.fr,.bl c9),o5,o6,o7]∧Gr rs.length ks mo cJ c9)
  ⟨ks,mo,o5,o6,o7,rfl,.refl h1 h2⟩
  (fun i d e hd aZ=>by
   obtain ⟨xh,oX,o5,o6,o7,he,hg⟩:=aZ
   subst he
   obtain ⟨m,Bc,rfl⟩:∃ m∈ms,d=.int (m:Int):=by
    obtain ⟨x,hx,rfl⟩:=List.mem_map.mp (List.mem_of_getElem? hd);exact ⟨x,hx,rfl⟩
   obtain ⟨oW,oY,cg,bC,q,Bd⟩:=Wb hN (some (.al,.lst (rs.map Row.d))) b (mo:=oX) hg.nd hg.lt hn (hm m Bc) o6 o7
   exact ⟨_,_,rfl,q,oW,oY,_,cg,bC,rfl,hg.trans Bd⟩)
 subst he
 refine ⟨cJ,c9,dS,cg,bC,?_,hg⟩
 unfold sr
 simp -implicitDefEqProofs only [aW,bP,aw,ae,ah,jV,gz,gy,id_eq,oq,mq,mn,ef,bV,oy]
 exact l1
theorem Wd {rs:List Row} (g:Good rs) (hN:rs.length≤800) (b:Bool) {ks:List Nat} (h1:ks.Nodup) (h2:∀ x∈ks,x < rs.length) (o3 o4 o5 o6 o7:Option (M×D)) :
  ∃ cJ c9 dU dS cg bC,su [some (.al,.lst (rs.map Row.d)),some (.al,.bl b),some (.bo,.dk (aK ks)),o3,o4,o5,o6,o7]=some (.nx [some (.al,.lst (rs.map Row.d)),some (.al,.bl b),some (.bo,.dk (aK cJ)),dU,some (.fr,.bl c9),dS,cg,bC])∧Gr rs.length ks false cJ c9:=by
 obtain ⟨e',l1,cJ,c9,dU,dS,cg,bC,he,hg⟩:=cL (g:=gN 3) (b:=sr) (m:=.fr) (ds:=bO 0 rs.length) (e:=[some (.al,.lst (rs.map Row.d)),some (.al,.bl b),some (.bo,.dk (aK ks)),o3,some (.fr,.bl false),o5,o6,o7])
  (fun _ e=>∃ (cJ:List Nat) (c9:Bool) (o3 o5 o6 o7:Option (M×D)),e=[some (.al,.lst (rs.map Row.d)),some (.al,.bl b),some (.bo,.dk (aK cJ)),o3,some (.fr,.bl c9),o5,o6,o7]∧Gr rs.length ks false cJ c9)
  ⟨ks,false,o3,o5,o6,o7,rfl,.refl h1 h2⟩
  (fun i d e hd aZ=>by
   obtain ⟨xh,oX,o3,o5,o6,o7,he,hg⟩:=aZ
   subst he
   obtain ⟨hi,rfl⟩:=jD hd
   rw [show (0:Int)+(i:Int)=(i:Int) by omega]
   obtain ⟨oW,oY,dS,cg,bC,q,Bd⟩:=Wc g hN b (mo:=oX) hg.nd hg.lt hi o5 o6 o7
   exact ⟨_,_,rfl,q,oW,oY,_,dS,cg,bC,rfl,hg.trans Bd⟩)
 subst he
 refine ⟨cJ,c9,dU,dS,cg,bC,?_,hg⟩
 have bT:-4611686018427387904≤(rs.length:Int)∧(rs.length:Int) < 4611686018427387904:=by omega
 have ht:(rs.length:Int).toNat=rs.length:=by omega
 unfold su
 rw [av (e':=[some (.al,.lst (rs.map Row.d)),some (.al,.bl b),some (.bo,.dk (aK ks)),o3,some (.fr,.bl false),o5,o6,o7]) rfl]
 simp -implicitDefEqProofs only [aW,bN,aJ,ae,ah,jV,gz,gy,id_eq,oq,cU,ln,bT,and_self,if_true,ht]
 exact l1
theorem Gu {rs:List Row} (g:Good rs) (hN:rs.length≤800) (b:Bool):∃ ks,pj [.lst (rs.map Row.d),.bl b]=some (.un,.dk (aK ks))∧ks.Nodup∧(∀ x∈ks,x < rs.length)∧(b=true→0∈ks):=by
 have bT:-4611686018427387904≤(rs.length:Int)∧(rs.length:Int) < 4611686018427387904:=by omega
 have ht:(rs.length:Int).toNat=rs.length:=by omega
 have hp:=g.pos
 unfold pj fn Bu
 simp only [ck,bj,bt]
 rw [av (e':=[some (.al,.lst (rs.map Row.d)),some (.al,.bl b),some (.bo,.dk (aK [0])),none,none,none,none,none]) rfl]
 have S:∃ ks o3,(aM (fD (jB (jV 1))) (aj (au 2 nG) (aW (bN (ae (aJ bq (ae (jV 0) ah)) ah)) (gN 3) oZ)) aR) [some (.al,.lst (rs.map Row.d)),some (.al,.bl b),some (.bo,.dk (aK [0])),none,none,none,none,none]=some (.nx [some (.al,.lst (rs.map Row.d)),some (.al,.bl b),some (.bo,.dk (aK ks)),o3,none,none,none,none])∧ks.Nodup∧(∀ x∈ks,x < rs.length)∧(b=true→0∈ks):=by
  cases b with
  |true =>
   exact ⟨[0],none,rfl,by simp,fun x h=>by simp at h;omega,fun _=>by simp⟩
  |false =>
   obtain ⟨e',l1,ks,o3,he,h1,h2⟩:=cL (g:=gN 3) (b:=oZ) (m:=.fr) (ds:=bO 0 rs.length) (e:=[some (.al,.lst (rs.map Row.d)),some (.al,.bl false),some (.bo,.dk (aK [])),none,none,none,none,none])
    (fun i e=>∃ (ks:List Nat) (o3:Option (M×D)),e=[some (.al,.lst (rs.map Row.d)),some (.al,.bl false),some (.bo,.dk (aK ks)),o3,none,none,none,none]∧ks.Nodup∧∀ x∈ks,x < i)
    ⟨[],none,rfl,List.nodup_nil,fun x h=>nomatch h⟩
    (fun i d e hd aZ=>by
     obtain ⟨ks,o3,he,h1,h2⟩:=aZ
     subst he
     obtain ⟨hi,rfl⟩:=jD hd
     rw [show (0:Int)+(i:Int)=(i:Int) by omega]
     have xi:=lq i ks h1 h2
     have s1:ks.length < sizeLine:=Nat.lt_of_le_of_lt (show ks.length≤800 by omega) (by decide)
     have hr:rs[i]?=some (rs[i]'hi):=by simp
     generalize rs[i]'hi=r at hr
     have ar:=jF hr
     have hc:(jB (ag aN (ag ak (ag ak (jV 0) (jV 3)) (jC (.int 0))) (jC (.str "end")))) [some (.al,.lst (rs.map Row.d)),some (.al,.bl false),some (.bo,.dk (aK ks)),some (.fr,.int (i:Int)),none,none,none,none]=some (Row.cQ r):=by
      simp -implicitDefEqProofs only [jB,ag,jV,jC,gz,gy,id_eq,oq,cN,ar,oy,cI,cT,bf,fU]
     have KL:i∉ks:=fun z=>by have:=h2 i z;omega
     cases hb:Row.cQ r with
     |false =>
      refine ⟨_,[some (.al,.lst (rs.map Row.d)),some (.al,.bl false),some (.bo,.dk (aK ks)),some (.fr,.int (i:Int)),none,none,none,none],rfl,?_,ks,_,rfl,h1,fun x hx=>by have:=h2 x hx;omega⟩
      unfold oZ
      exact (bK (hc.trans (by rw [hb]))).trans rfl
     |true =>
      obtain ⟨n1,n2⟩:=ya (N:=i+1) h1 (fun x hx=>by have:=h2 x hx;omega) KL (by omega)
      refine ⟨_,[some (.al,.lst (rs.map Row.d)),some (.al,.bl false),some (.bo,.dk (aK (ks++[i]))),some (.fr,.int (i:Int)),none,none,none,none],rfl,?_,ks++[i],_,rfl,n1,n2⟩
      unfold oZ
      refine (bh (by exact hc.trans (by rw [hb]))).trans ?_
      simp -implicitDefEqProofs only [iW,jV,jC,keyOf,gz,gy,id_eq,oq,eV,if_true,jR,own,qk,s1,yF KL,tz,tq])
   subst he
   rw [ig] at h2
   refine ⟨ks,o3,?_,h1,h2,fun z=>nomatch z⟩
   rw [bh rfl,av (e':=[some (.al,.lst (rs.map Row.d)),some (.al,.bl false),some (.bo,.dk (aK [])),none,none,none,none,none]) rfl]
   simp -implicitDefEqProofs only [aW,bN,aJ,ae,ah,jV,gz,gy,id_eq,oq,cU,ln,bT,and_self,if_true,ht]
   exact l1
 obtain ⟨Be,Bf,e0,a1,a2,a3⟩:=S
 rw [av e0]
 rw [av (e':=[some (.al,.lst (rs.map Row.d)),some (.al,.bl b),some (.bo,.dk (aK Be)),Bf,some (.fr,.bl true),none,none,none]) rfl]
 obtain ⟨e',l1,⟨ks,mo,o3,o5,o6,o7,he,h1,h2,h3⟩,_⟩:=CD (c:=xn) (b:=su) (e:=[some (.al,.lst (rs.map Row.d)),some (.al,.bl b),some (.bo,.dk (aK Be)),Bf,some (.fr,.bl true),none,none,none])
  (fun e=>∃ (ks:List Nat) (mo:Bool) (o3 o5 o6 o7:Option (M×D)),e=[some (.al,.lst (rs.map Row.d)),some (.al,.bl b),some (.bo,.dk (aK ks)),o3,some (.fr,.bl mo),o5,o6,o7]∧ks.Nodup∧(∀ x∈ks,x < rs.length)∧(b=true→0∈ks))
  (fun e=>rs.length-A7 2 e+zP 4 e)
  ⟨Be,true,Bf,none,none,none,rfl,a1,a2,a3⟩
  (fun e aZ=>by
   obtain ⟨ks,mo,o3,o5,o6,o7,he,h1,h2,h3⟩:=aZ
   subst he
   have hC:xn [some (.al,.lst (rs.map Row.d)),some (.al,.bl b),some (.bo,.dk (aK ks)),o3,some (.fr,.bl mo),o5,o6,o7]=some mo:=rfl
   cases mo with
   |false=>exact .inl hC
   |true =>
    obtain ⟨cJ,c9,dU,dS,cg,bC,q,hg⟩:=Wd g hN b h1 h2 o3 (some (.fr,.bl true)) o5 o6 o7
    refine .inr ⟨hC,_,q,⟨cJ,c9,dU,dS,cg,bC,rfl,hg.nd,hg.lt,fun z=>hg.sub 0 (h3 z)⟩,?_⟩
    have b1:=lq _ _ h1 h2
    have b2:=lq _ _ hg.nd hg.lt
    have b3:=hg.le
    cases c9 with
    |false=>simp only [A7,zP,gz,gy,qk];omega
    |true =>
     have:=hg.more rfl
     simp only [A7,zP,gz,gy,qk]
     rcases this with z|z
     ·cases z
     ·omega)
 subst he
 rw [av l1]
 exact ⟨ks,rfl,h1,h2,h3⟩
theorem El {g:M×D→Ev→Option Ev}{b:Ev→Option Fl}{m:M} (Iv:Ev→Prop) (Rt:M→D→Prop):∀ {ds:List D}{e:Ev},Iv e →
  (∀ d∈ds,∀ e,Iv e→∃ e1,g (m,d) e=some e1∧((∃ e2,b e1=some (.nx e2)∧Iv e2)∨∃ e2 m' d',b e1=some (.rt e2 m' d')∧Rt m' d')) →
  (∃ e',forL g b m ds e=some (.nx e')∧Iv e')∨∃ e' m' d',forL g b m ds e=some (.rt e' m' d')∧Rt m' d'
 |[],e,h0,_=>.inl ⟨e,rfl,h0⟩
 |d::ds,e,h0,hs=>by
  obtain ⟨e1,h1,⟨e2,h2,h3⟩|⟨e2,m',d',h2,h3⟩⟩:=hs d List.mem_cons_self e h0
  ·simp only [forL,h1,h2,oq]
   exact El Iv Rt h3 fun x hx=>hs x (List.mem_cons_of_mem _ hx)
  ·exact .inr ⟨e2,m',d',by simp only [forL,h1,h2,oq],h3⟩
noncomputable def fK (N:Nat) (ks:List Nat):List Nat:=(List.range N).filter fun n=>!decide (n∈ks)
theorem Dw {mo:M}{N:Nat}{ks:List Nat}:cY (jB (dF true (jV 0) (jV 1))) (jV 0) .fr [some (mo,.dk (aK ks))] (bO 0 N)=some ((aq (fK N ks)).map fun x=>(M.fr,x)):=by
 rw [ui]
 refine pF _ fun k _=>⟨?_,rfl⟩
 simp -implicitDefEqProofs only [jB,dF,jV,jQ,keyOf,gz,gy,id_eq,oq,uW,bf,if_true]
theorem Em (N:Nat) (ks:List Nat):(fK N ks).length≤N:=by
 have:=List.length_filter_le (fun n=>!decide (n∈ks)) (List.range N)
 rw [List.length_range] at this;exact this
theorem En {N:Nat}{ks:List Nat}{n:Nat} (h:n∈fK N ks):n < N∧n∉ks:=by
 obtain ⟨h1,h2⟩:=List.mem_filter.mp h
 exact ⟨List.mem_range.mp h1,by simpa using h2⟩
theorem Uh {l:List Nat} (h:l≠[]):∃ x∈l,L2.bw (aq l) (-1)=some (.int (x:Int)):=by
 have hp:0 < l.length:=List.length_pos_iff.mpr h
 refine ⟨l[l.length-1]'(by omega),List.getElem_mem _,?_⟩
 unfold L2.bw L2.df
 rw [if_neg (by decide),dq,if_pos (by omega),oq,show (-1+(l.length:Int)).toNat=l.length-1 by omega,aq,List.getElem?_map,List.getElem?_eq_getElem (by omega)]
 rfl
theorem Fw (t:Int):jG [(M.fr,D.str "say"),(.fr,.int t)]=some (.fr,Row.d (.sy (.inl t))):=rfl
theorem Ui {rs:List Row} (g:Good rs) (hN:rs.length≤200) (t:Int) (o3 o4 o5 o6:Option (M×D)) :
  (∃ bD dU fj dS cg,pv [some (.bi,.lst (rs.map Row.d)),some (.fr,.int ((rs.length:Int)-1)),some (.fr,.int t),o3,o4,o5,o6]=some (.nx [some (.bi,.lst (bD.map Row.d)),some (.fr,.int ((rs.length:Int)-1)),some (.fr,.int t),dU,fj,dS,cg])∧Good bD∧bD.length=rs.length) ∨
  ∃ e',pv [some (.bi,.lst (rs.map Row.d)),some (.fr,.int ((rs.length:Int)-1)),some (.fr,.int t),o3,o4,o5,o6]=some (.rt e' .bi (.lst (rs.map Row.d))):=by
 have bT:-4611686018427387904≤(rs.length:Int)∧(rs.length:Int) < 4611686018427387904:=by omega
 have ht:(rs.length:Int).toNat=rs.length:=by omega
 have hp:=g.pos
 obtain ⟨k1,e1,n1,b1,z1⟩:=Gu g (by omega) true
 obtain ⟨k2,e2,n2,b2,_⟩:=Gu g (by omega) false
 have ml1:=Em rs.length k1
 have ml2:=Em rs.length k2
 unfold pv
 rw [av (e':=[some (.bi,.lst (rs.map Row.d)),some (.fr,.int ((rs.length:Int)-1)),some (.fr,.int t),some (.bo,.dk (aK k1)),o4,o5,o6]) (by
  simp -implicitDefEqProofs only [au,aw,ae,ah,jV,jC,gz,gy,id_eq,oq,mq,mn,e1,fO,tz,tq])]
 rw [av (e':=[some (.bi,.lst (rs.map Row.d)),some (.fr,.int ((rs.length:Int)-1)),some (.fr,.int t),some (.bo,.dk (aK k1)),some (.bo,.dk (aK k2)),o5,o6]) (by
  simp -implicitDefEqProofs only [au,aw,ae,ah,jV,jC,gz,gy,id_eq,oq,mq,mn,e2,fO,tz,tq])]
 rw [av (e':=[some (.bi,.lst (rs.map Row.d)),some (.fr,.int ((rs.length:Int)-1)),some (.fr,.int t),some (.bo,.dk (aK k1)),some (.bo,.dk (aK k2)),some (.bo,.lst (aq (fK rs.length k1))),o6]) (by
  simp -implicitDefEqProofs only [au,b9,bN,aJ,ae,ah,jV,gz,gy,id_eq,oq,cU,ln,bT,and_self,if_true,ht]
  rw [show eY [some (.bi,.lst (rs.map Row.d)),some (.fr,.int ((rs.length:Int)-1)),some (.fr,.int t),some (.bo,.dk (aK k1)),some (.bo,.dk (aK k2)),o5,o6] [3]=[some (.bo,.dk (aK k1))] from rfl,Dw,oq,gG (by rw [dq];omega),oq]
  rfl)]
 rw [av (e':=[some (.bi,.lst (rs.map Row.d)),some (.fr,.int ((rs.length:Int)-1)),some (.fr,.int t),some (.bo,.dk (aK k1)),some (.bo,.dk (aK k2)),some (.bo,.lst (aq (fK rs.length k1))),some (.bo,.lst (aq (fK rs.length k2)))]) (by
  simp -implicitDefEqProofs only [au,b9,bN,aJ,ae,ah,jV,gz,gy,id_eq,oq,cU,ln,bT,and_self,if_true,ht]
  rw [show eY [some (.bi,.lst (rs.map Row.d)),some (.fr,.int ((rs.length:Int)-1)),some (.fr,.int t),some (.bo,.dk (aK k1)),some (.bo,.dk (aK k2)),some (.bo,.lst (aq (fK rs.length k1))),o6] [4]=[some (.bo,.dk (aK k2))] from rfl,Dw,oq,gG (by rw [dq];omega),oq]
  rfl)]
 have c5:(jB (ag fS (jV 5) (bA ah))) [some (.bi,.lst (rs.map Row.d)),some (.fr,.int ((rs.length:Int)-1)),some (.fr,.int t),some (.bo,.dk (aK k1)),some (.bo,.dk (aK k2)),some (.bo,.lst (aq (fK rs.length k1))),some (.bo,.lst (aq (fK rs.length k2)))]=some (!(fK rs.length k1).isEmpty):=by
  simp -implicitDefEqProofs only [jB,ag,jV,bA,ah,gz,gy,id_eq,oq]
  rw [show fP []=some (.un,.lst []) from rfl,oq,Ei]
  rfl
 have c6:(jB (ag fS (jV 6) (bA ah))) [some (.bi,.lst (rs.map Row.d)),some (.fr,.int ((rs.length:Int)-1)),some (.fr,.int t),some (.bo,.dk (aK k1)),some (.bo,.dk (aK k2)),some (.bo,.lst (aq (fK rs.length k1))),some (.bo,.lst (aq (fK rs.length k2)))]=some (!(fK rs.length k2).isEmpty):=by
  simp -implicitDefEqProofs only [jB,ag,jV,bA,ah,gz,gy,id_eq,oq]
  rw [show fP []=some (.un,.lst []) from rfl,oq,Ei]
  rfl
 cases rV:fK rs.length k1 with
 |cons l0 lr =>
  rw [rV] at c5 c6
  obtain ⟨q1,q2⟩:=En (N:=rs.length) (ks:=k1) (n:=l0) (by rw [rV];exact List.mem_cons_self)
  have h0:l0≠0:=fun z=>q2 (z▸z1 rfl)
  rw [bh (by rw [c5];rfl)]
  refine .inl ⟨rs.set (l0-1) (.sy (.inl t)),_,_,_,_,jv (j:=l0-1) (r:=.sy (.inl t)) (mo:=.bi) (m':=.fr) rfl rfl ?_ ?_ (by omega),g.set fun m hm=>?_,by simp⟩
  ·simp -implicitDefEqProofs only [aQ,ae,ah,jV,jC,gz,gy,id_eq,oq,Fw]
  ·simp -implicitDefEqProofs only [ag,jV,jC,gz,gy,id_eq,oq,cN]
   rw [show aq (l0::lr)=.int (l0:Int)::aq lr from rfl,Gp]
   simp -implicitDefEqProofs only [oy,oq,yq]
   rw [show (l0:Int)-1=((l0-1:Nat):Int) by omega]
  ·have:m=((l0-1:Nat):Int)+1:=by simpa [aL.a9] using hm
   omega
 |nil =>
  rw [rV] at c5 c6
  rw [bK (by rw [c5];rfl)]
  cases rW:fK rs.length k2 with
  |nil =>
   rw [rW] at c6
   right
   rw [bK (by unfold cZ;rw [c6];rfl),bK (by rw [c6];rfl)]
   exact ⟨_,rfl⟩
  |cons d0 dr =>
   rw [rW] at c6
   left
   obtain ⟨x,hx,ex⟩:=Uh (l:=d0::dr) (List.cons_ne_nil _ _)
   obtain ⟨q1,_⟩:=En (N:=rs.length) (ks:=k2) (n:=x) (by rw [rW];exact hx)
   have ix:(ag ak (jV 6) (cf ft (jC (.int 1)))) [some (.bi,.lst (rs.map Row.d)),some (.fr,.int ((rs.length:Int)-1)),some (.fr,.int t),some (.bo,.dk (aK k1)),some (.bo,.dk (aK k2)),some (.bo,.lst (aq [])),some (.bo,.lst (aq (d0::dr)))]=some (.fr,.int (x:Int)):=by
    simp -implicitDefEqProofs only [ag,cf,jV,jC,gz,gy,id_eq,oq,lK,cN,ex,oy,jA]
   have c7:(cZ (jB (ag fS (jV 6) (bA ah))) (jB (ag aN (ag ak (jV 6) (cf ft (jC (.int 1)))) (jV 1)))) [some (.bi,.lst (rs.map Row.d)),some (.fr,.int ((rs.length:Int)-1)),some (.fr,.int t),some (.bo,.dk (aK k1)),some (.bo,.dk (aK k2)),some (.bo,.lst (aq [])),some (.bo,.lst (aq (d0::dr)))]=some (decide ((x:Int)=(rs.length:Int)-1)):=by
    unfold cZ
    rw [c6,show (some (!(d0::dr).isEmpty):Option Bool)=some true from rfl,oq,if_pos rfl]
    unfold jB ag
    rw [show (((jV 6) [some (.bi,.lst (rs.map Row.d)),some (.fr,.int ((rs.length:Int)-1)),some (.fr,.int t),some (.bo,.dk (aK k1)),some (.bo,.dk (aK k2)),some (.bo,.lst (aq [])),some (.bo,.lst (aq (d0::dr)))]).bind fun Zu=>((cf ft (jC (.int 1))) [some (.bi,.lst (rs.map Row.d)),some (.fr,.int ((rs.length:Int)-1)),some (.fr,.int t),some (.bo,.dk (aK k1)),some (.bo,.dk (aK k2)),some (.bo,.lst (aq [])),some (.bo,.lst (aq (d0::dr)))]).bind fun y=>ak Zu y)=some (.fr,.int (x:Int)) from ix]
    simp -implicitDefEqProofs only [jV,gz,gy,id_eq,oq,lJ,bf]
   by_cases q2:(x:Int)=(rs.length:Int)-1
   ·rw [bh (by rw [c7,decide_eq_true q2])]
    refine ⟨rs.set (rs.length-1) .en,_,_,_,_,jv (j:=rs.length-1) (r:=.en) (mo:=.bi) (m':=.fr) rfl rfl rfl ?_ (by omega),g.set fun m hm=>by simp [aL.a9] at hm,by simp⟩
    simp -implicitDefEqProofs only [jV,gz,gy,id_eq,oq]
    rw [show (rs.length:Int)-1=((rs.length-1:Nat):Int) by omega]
   ·rw [bK (by rw [c7,decide_eq_false q2]),bh (by rw [c6];rfl)]
    refine ⟨rs.set x (.sy (.inl t)),_,_,_,_,jv (j:=x) (r:=.sy (.inl t)) (mo:=.bi) (m':=.fr) rfl rfl ?_ ix (by omega),g.set fun m hm=>?_,by simp⟩
    ·simp -implicitDefEqProofs only [aQ,ae,ah,jV,jC,gz,gy,id_eq,oq,Fw]
    ·have:m=(x:Int)+1:=by simpa [aL.a9] using hm
     omega
theorem QR {rs:List Row} (hp:0 < rs.length) (hN:rs.length≤200) (hT:∀ r∈rs,Tg rs.length r):∃ bD:List Row,pD [.lst (rs.map Row.d)]=some (.lst (bD.map Row.d))∧Good bD∧bD.length=rs.length:=by
 have fin:∀ {bD:List Row}{e:Ev},ku (.rt e .bi (.lst (bD.map Row.d)))=some (.lst (bD.map Row.d)):=fun {bD e}=>by
  simp only [ku,own,gD,lu,and_self,if_true]
 unfold pD i7 BI
 rw [show (iQ [0] [D.lst (rs.map Row.d)]++List.replicate (7 - [D.lst (rs.map Row.d)].length) none:Ev)=[some (.bi,.lst (rs.map Row.d)),none,none,none,none,none,none] from rfl]
 rw [av (e':=[some (.bi,.lst (rs.map Row.d)),some (.fr,.int ((rs.length:Int)-1)),none,none,none,none,none]) (by walk_at "ev")]
 have lP:rs[rs.length-1]?=some (rs[rs.length-1]'(by omega)):=by simp
 generalize rs[rs.length-1]'(by omega)=rz at lP
 have az:=jF lP
 rw [show ((rs.length-1:Nat):Int)=(rs.length:Int)-1 by omega] at az
 have S:∃ r1:List Row,Good r1∧r1.length=rs.length∧aM (jB (ag hU (ag ak (ag ak (jV 0) (jV 1)) (jC (.int 0))) (jC (.str "go")))) (dB 0 (jV 1) (aQ (ae (jC (.str "end")) ah))) aR [some (.bi,.lst (rs.map Row.d)),some (.fr,.int ((rs.length:Int)-1)),none,none,none,none,none]=some (.nx [some (.bi,.lst (r1.map Row.d)),some (.fr,.int ((rs.length:Int)-1)),none,none,none,none,none]):=by
  have hc:(jB (ag hU (ag ak (ag ak (jV 0) (jV 1)) (jC (.int 0))) (jC (.str "go")))) [some (.bi,.lst (rs.map Row.d)),some (.fr,.int ((rs.length:Int)-1)),none,none,none,none,none]=some (!Row.cA rz):=by
   simp -implicitDefEqProofs only [jB,ag,jV,jC,gz,gy,id_eq,oq,cN,az,oy,cI,Gb,bf,fT]
  have KN:∀ (n:Nat) r,rs[n]?=some r→n+1 < rs.length→∀ m∈a9 n r,0≤m∧m < rs.length:=fun n r hr hn m hm=>by
   obtain ⟨t1,t2⟩:=hT r (List.mem_of_getElem? hr)
   cases r with
   |en=>simp [aL.a9] at hm
   |go t =>
    have:m=t:=by simpa [aL.a9] using hm
    have:=t1 t rfl;omega
   |pt a t =>
    have:m=(n:Int)+1∨m=t:=by simpa [aL.a9] using hm
    have:=t2 a t rfl;omega
   |rk x s a b =>
    have:m=(n:Int)+1:=by simpa [aL.a9] using hm
    omega
   |cp x a =>
    have:m=(n:Int)+1:=by simpa [aL.a9] using hm
    omega
   |sy a =>
    have:m=(n:Int)+1:=by simpa [aL.a9] using hm
    omega
  cases hg:Row.cA rz with
  |true =>
   refine ⟨rs,⟨hp,fun n r hr m hm=>?_⟩,rfl,by rw [bK (by rw [hc,hg];rfl)];rfl⟩
   by_cases hn:n+1 < rs.length
   ·exact KN n r hr hn m hm
   ·have aU:n < rs.length:=(List.getElem?_eq_some_iff.mp hr).1
    have:n=rs.length-1:=by omega
    subst this
    rw [lP] at hr;cases hr
    obtain ⟨t,rfl⟩:=yG.mp hg
    have:m=t:=by simpa [aL.a9] using hm
    have:=(hT _ (List.mem_of_getElem? lP)).1 t rfl;omega
  |false =>
   refine ⟨rs.set (rs.length-1) .en,⟨by simpa using hp,fun n r hr m hm=>?_⟩,by simp,by
    rw [bh (by rw [hc,hg];rfl)]
    refine jv (j:=rs.length-1) (r:=.en) (mo:=.bi) (m':=.fr) rfl rfl rfl ?_ (by omega)
    simp -implicitDefEqProofs only [jV,gz,gy,id_eq,oq]
    rw [show (rs.length:Int)-1=((rs.length-1:Nat):Int) by omega]⟩
   rw [List.length_set]
   rw [List.getElem?_set] at hr
   split at hr
   ·split at hr
    ·cases hr;simp [aL.a9] at hm
    ·cases hr
   ·rename_i eE
    have aU:n < rs.length:=(List.getElem?_eq_some_iff.mp hr).1
    exact KN n r hr (by omega) m hm
 obtain ⟨r1,g1,l1,e1⟩:=S
 rw [av e1]
 have bT:-4611686018427387904≤2*(rs.length:Int)∧2*(rs.length:Int) < 4611686018427387904:=by omega
 have L:=El (g:=gN 2) (b:=pv) (m:=.fr) (ds:=bO 0 (2*(rs.length:Int)).toNat) (e:=[some (.bi,.lst (r1.map Row.d)),some (.fr,.int ((rs.length:Int)-1)),none,none,none,none,none])
  (fun e=>∃ (r2:List Row) (o2 o3 o4 o5 o6:Option (M×D)),e=[some (.bi,.lst (r2.map Row.d)),some (.fr,.int ((rs.length:Int)-1)),o2,o3,o4,o5,o6]∧Good r2∧r2.length=rs.length)
  (fun m d=>m=.bi∧∃ r2:List Row,d=.lst (r2.map Row.d)∧Good r2∧r2.length=rs.length)
  ⟨r1,none,none,none,none,none,rfl,g1,l1⟩
  (fun d hd e aZ=>by
   obtain ⟨r2,o2,o3,o4,o5,o6,he,g2,l2⟩:=aZ
   subst he
   obtain ⟨t,rfl⟩:∃ t:Int,d=.int t:=by
    obtain ⟨k,_,rfl⟩:=List.mem_map.mp hd;exact ⟨_,rfl⟩
   refine ⟨_,rfl,?_⟩
   rcases Ui g2 (by omega) t o3 o4 o5 o6 with ⟨r3,dU,fj,dS,cg,q,g3,l3⟩|⟨e',q⟩
   ·rw [l2] at q
    exact .inl ⟨_,q,r3,_,dU,fj,dS,cg,rfl,g3,by omega⟩
   ·rw [l2] at q
    exact .inr ⟨e',.bi,_,q,rfl,r2,rfl,g2,l2⟩)
 have it:(bN (ae (ag dZ (jC (.int 2)) (aJ bq (ae (jV 0) ah))) ah)) [some (.bi,.lst (r1.map Row.d)),some (.fr,.int ((rs.length:Int)-1)),none,none,none,none,none]=some (.fr,bO 0 (2*(rs.length:Int)).toNat):=by
  simp -implicitDefEqProofs only [bN,aJ,ag,jC,ae,ah,jV,gz,gy,id_eq,oq,cU,ln,l1]
  rw [Gd (by omega)]
  simp -implicitDefEqProofs only [oq,bT,and_self,if_true]
 rcases L with ⟨e',q,r2,o2,o3,o4,o5,o6,rfl,g2,l2⟩|⟨e',m',d',q,rfl,r2,rfl,g2,l2⟩
 ·refine ⟨r2,?_,g2,l2⟩
  rw [av (e':=[some (.bi,.lst (r2.map Row.d)),some (.fr,.int ((rs.length:Int)-1)),o2,o3,o4,o5,o6]) (by unfold aW;rw [it,oq];exact q)]
  rw [show (aI (jV 0)) [some (.bi,.lst (r2.map Row.d)),some (.fr,.int ((rs.length:Int)-1)),o2,o3,o4,o5,o6]=some (.rt _ .bi (.lst (r2.map Row.d))) from rfl,oq]
  exact fin
 ·refine ⟨r2,?_,g2,l2⟩
  rw [dC (e':=e') (m:=.bi) (d:=.lst (r2.map Row.d)) (by unfold aW;rw [it,oq];exact q),oq]
  exact fin
theorem Eo {P:Row→Prop}:∀ {xs:List D},(∀ x∈xs,∃ r:Row,x=r.d∧P r)→∃ rs:List Row,xs=rs.map Row.d∧∀ r∈rs,P r
 |[],_=>⟨[],rfl,fun _ h=>nomatch h⟩
 |x::xs,h=>by
  obtain ⟨r,rfl,hr⟩:=h x List.mem_cons_self
  obtain ⟨rs,rfl,hs⟩:=Eo fun y hy=>h y (List.mem_cons_of_mem _ hy)
  exact ⟨r::rs,rfl,fun y hy=>by
   rcases List.mem_cons.mp hy with rfl|hy
   ·exact hr
   ·exact hs y hy⟩
theorem Uj {k:Nat}{R:List D} (h1:D.cP R=true):j7 [0] [k] [(0,k)] [(.bo,.lst R)]=true:=by
 simp [j7,List.range_succ,own,gD,h1]
theorem Uk (ns cs:List Int) (hc:cs.length≤40):∃ rs:List Row,sf [.lst (ns.map .int),.lst (cs.map .int)]=some (.un,.lst (rs.map Row.d))∧Good rs∧rs.length≤100:=by
 obtain ⟨c0,h0⟩:=lB ns 0 (by omega)
 obtain ⟨fs,jm,rT⟩:=xI c0
 obtain ⟨ds,xg,iI⟩:=xJ ns fs (by omega)
 generalize rS:(if (cs.length:Int) > 1 then (cs.length:Int) else 1)=many
 have hm:1≤many∧many≤40∧(0 < cs.length→many=cs.length):=by rw [←rS];split<;>omega
 have fin:∀ rs:List Row,0 < rs.length→rs.length≤40→(∀ r∈rs,Tg rs.length r)→∃ bD:List Row,(jE [5] [(0,5)] pD (ae (jV 5) ah) [some (.al,.lst (ns.map .int)),some (.al,.lst (cs.map .int)),some (.bo,.lst (fs.map .str)),some (.bo,.lst (ds.map ao)),some (.fr,.int many),some (.bo,.lst (rs.map Row.d))]).bind out=some (.un,.lst (bD.map Row.d))∧Good bD∧bD.length≤100:=fun rs h1 h2 h3=>by
  obtain ⟨bD,e,g,l⟩:=QR h1 (by omega) h3
  refine ⟨bD,?_,g,by omega⟩
  simp -implicitDefEqProofs only [jE,ae,ah,jV,gz,gy,id_eq,oq,Uj (lu rs),if_true,mq,mn,e,yu]
 unfold sf fn Bi
 simp only [ck,bj,bt]
 rw [av (e':=[some (.al,.lst (ns.map .int)),some (.al,.lst (cs.map .int)),some (.bo,.lst (fs.map .str)),none,none,none]) (by walk_at "ev"; rw [h0];walk_at "ev"; rw [rT];walk_at "ev")]
 rw [av (e':=[some (.al,.lst (ns.map .int)),some (.al,.lst (cs.map .int)),some (.bo,.lst (fs.map .str)),some (.bo,.lst (ds.map ao)),none,none]) (by walk_at "ev"; rw [iI];walk_at "ev")]
 rw [av (e':=[some (.al,.lst (ns.map .int)),some (.al,.lst (cs.map .int)),some (.bo,.lst (fs.map .str)),some (.bo,.lst (ds.map ao)),some (.fr,.int many),none]) (by
  walk_at "ev"
  simp -implicitDefEqProofs only [qG,oq,fN,rS])]
 rw [av (e':=[some (.al,.lst (ns.map .int)),some (.al,.lst (cs.map .int)),some (.bo,.lst (fs.map .str)),some (.bo,.lst (ds.map ao)),some (.fr,.int many),some (.bo,.lst ([Row.en].map Row.d))]) rfl]
 by_cases q:0 < cs.length
 ·have bT:-4611686018427387904≤many∧many < 4611686018427387904:=by omega
  have hme:=hm.2.2 q
  obtain ⟨xs,ex,xl,xp⟩:=J.CF (fc:=dz) (fe:=aw pB (ae (ag ak (jV 4) (jV 0)) (ae (jV 0) (ae (jV 1) (ae (jV 2) (ae (jV 3) ah)))))) (m:=.fr) (fr:=[some (.fr,.int many),some (.bo,.lst (fs.map .str)),some (.bo,.lst (ds.map ao)),some (.al,.lst (cs.map .int))]) (P:=fun x=>∃ r:Row,x=r.d∧Tg many r) (ds:=bO 0 many.toNat) (fun d hd=>by
   obtain ⟨k,hk,rfl⟩:=List.mem_map.mp hd
   have hk:=List.mem_range.mp hk
   obtain ⟨c,vy⟩:=C8 (ns:=cs) (k:=0+(k:Int)) (by omega) (by omega)
   obtain ⟨r,er,hr⟩:=L6 c (0+(k:Int)) many (by omega) fs (by omega) ds (by omega)
   refine ⟨rfl,r.d,?_,r,rfl,hr⟩
   simp -implicitDefEqProofs only [aw,ae,ah,ag,jV,gz,gy,id_eq,oq,cN,vy,oy,mq,mn,er])
  obtain ⟨rs,rfl,hT⟩:=Eo xp
  rw [ig,ln] at xl
  rw [av (e':=[some (.al,.lst (ns.map .int)),some (.al,.lst (cs.map .int)),some (.bo,.lst (fs.map .str)),some (.bo,.lst (ds.map ao)),some (.fr,.int many),some (.bo,.lst (rs.map Row.d))]) (by
   rw [bh (by walk_at "ev"; rw [decide_eq_true (show (0:Int) < cs.length by omega)])]
   simp -implicitDefEqProofs only [au,b9,bN,ae,ah,jV,gz,gy,id_eq,oq,bT,and_self,if_true]
   rw [show eY [some (.al,.lst (ns.map .int)),some (.al,.lst (cs.map .int)),some (.bo,.lst (fs.map .str)),some (.bo,.lst (ds.map ao)),some (.fr,.int many),some (.bo,.lst ([Row.en].map Row.d))] [4,2,3,1]=[some (.fr,.int many),some (.bo,.lst (fs.map .str)),some (.bo,.lst (ds.map ao)),some (.al,.lst (cs.map .int))] from rfl,ex,oq,gG (by rw [ln];omega),oq]
   rfl)]
  exact fin rs (by omega) (by omega) fun r hr=>by
   have:=hT r hr
   rw [show (rs.length:Int)=many by omega]
   exact this
 ·rw [av (e':=[some (.al,.lst (ns.map .int)),some (.al,.lst (cs.map .int)),some (.bo,.lst (fs.map .str)),some (.bo,.lst (ds.map ao)),some (.fr,.int many),some (.bo,.lst ([Row.en].map Row.d))]) (by
   rw [bK (by walk_at "ev"; rw [decide_eq_false (show ¬ (0:Int) < cs.length by omega)])];rfl)]
  exact fin [.en] (by simp) (by simp) fun r hr=>by
   have:r=.en:=by simpa using hr
   subst this
   exact ⟨(fun t e=>nomatch e),fun a t e=>nomatch e⟩
theorem Cj (ns cs:List Int) (hc:cs.length≤40):∃ rs:List Row,pC [.lst (ns.map .int),.lst (cs.map .int)]=some (.un,.lst (rs.map Row.d))∧Good rs∧rs.length≤100:=by
 obtain ⟨b,hb⟩:=x5 ns
 obtain ⟨nu,A8⟩:=xE ns 57 (by omega)
 unfold pC fn Bz
 simp only [ck,bj,bt]
 cases b with
 |true =>
  obtain ⟨rs,e,g,l⟩:=Uk ns cs hc
  refine ⟨rs,?_,g,l⟩
  rw [dC (e':=[some (.al,.lst (ns.map .int)),some (.al,.lst (cs.map .int)),none,none,none,none,none]) (m:=.un) (d:=.lst (rs.map Row.d)) (by
   rw [bh (by walk_at "ev"; rw [hb];rfl)]
   walk_at "ev"
   rw [e]
   rfl)]
  rfl
 |false =>
  rw [dR (by walk_at "ev"; rw [hb];rfl)]
  rw [av (e':=[some (.al,.lst (ns.map .int)),some (.al,.lst (cs.map .int)),some (.fr,.int nu),none,none,none,none]) (by walk_at "ev"; rw [A8];walk_at "ev")]
  by_cases q:nu%8=1
  ·obtain ⟨rs,e,g,l⟩:=MY ns (1+nu / 8%28) (by omega) (by omega)
   refine ⟨rs,?_,g,l⟩
   rw [dC (e':=[some (.al,.lst (ns.map .int)),some (.al,.lst (cs.map .int)),some (.fr,.int nu),none,none,none,none]) (m:=.un) (d:=.lst (rs.map Row.d)) (by
    rw [bh (by walk_at "go"; simp only [q,decide_true])]
    walk_at "go"
    rw [e]
    rfl)]
   rfl
  rw [dR (by walk_at "go"; simp only [q,decide_false])]
  obtain ⟨ro,er,lg,Kz⟩:=Ol ns cs hc
  obtain ⟨n2,Ac⟩:=xE ns 59 (by omega)
  rw [av (e':=[some (.al,.lst (ns.map .int)),some (.al,.lst (cs.map .int)),some (.fr,.int nu),some (.bo,.lst (ro.map Row.d)),none,none,none]) (by walk_at "ev"; rw [er];walk_at "ev")]
  rw [av (e':=[some (.al,.lst (ns.map .int)),some (.al,.lst (cs.map .int)),some (.fr,.int nu),some (.bo,.lst (ro.map Row.d)),some (.bo,.lst ([].map Row.d)),none,none]) rfl]
  obtain ⟨e',l1,rs,o5,o6,he,hl,hP⟩:=cL (g:=gT 2 (bx (gN 5) (bx (gN 6) cX))) (b:=sD) (m:=.fr) (ds:=bG (ro.map Row.d)) (e:=[some (.al,.lst (ns.map .int)),some (.al,.lst (cs.map .int)),some (.fr,.int nu),some (.fr,.lst (ro.map Row.d)),some (.bo,.lst ([].map Row.d)),none,none])
   (fun i e=>∃ (rs:List Row) (o5 o6:Option (M×D)),e=[some (.al,.lst (ns.map .int)),some (.al,.lst (cs.map .int)),some (.fr,.int nu),some (.fr,.lst (ro.map Row.d)),some (.bo,.lst (rs.map Row.d)),o5,o6]∧rs.length=i∧∀ (n:Nat) r,rs[n]?=some r→∀ m∈a9 n r,0≤m∧m < ro.length)
   ⟨[],none,none,rfl,rfl,fun n r h=>by simp at h⟩
   (fun i d e hd aZ=>by
    obtain ⟨rs,o5,o6,he,hl,hP⟩:=aZ
    subst he
    obtain ⟨r,hr,rfl⟩:=Eg hd
    have hi:i < ro.length:=(List.getElem?_eq_some_iff.mp hr).1
    obtain ⟨r',cg,q,hm⟩:=Ue lg (by omega) (some (.al,.lst (ns.map .int))) (some (.al,.lst (cs.map .int))) (some (.fr,.int nu)) rs (by omega) hr
    refine ⟨_,_,rfl,q,rs++[r'],_,cg,rfl,by simp [hl],fun n x hx m mV=>?_⟩
    rcases gg hx with z|⟨z,rfl⟩
    ·exact hP n x z m mV
    ·rw [z,hl] at mV;exact hm m mV)
  subst he
  have hE:(bG (ro.map Row.d)).length=ro.length:=by simp [bG]
  rw [hE] at hl
  rw [av (e':=[some (.al,.lst (ns.map .int)),some (.al,.lst (cs.map .int)),some (.fr,.int nu),some (.fr,.lst (ro.map Row.d)),some (.bo,.lst (rs.map Row.d)),o5,o6]) (by
   rw [cu,show aX 3 [some (.al,.lst (ns.map .int)),some (.al,.lst (cs.map .int)),some (.fr,.int nu),some (.bo,.lst (ro.map Row.d)),some (.bo,.lst ([].map Row.d)),none,none]=[some (.al,.lst (ns.map .int)),some (.al,.lst (cs.map .int)),some (.fr,.int nu),some (.fr,.lst (ro.map Row.d)),some (.bo,.lst ([].map Row.d)),none,none] from rfl]
   simp -implicitDefEqProofs only [aW,eQ,ae,jV,ah,gz,gy,oq,id_eq,bV,oy]
   exact l1)]
  have g:Good rs:=⟨by have:=lg.pos;omega,fun n r hr m hm=>by rw [hl];exact hP n r hr m hm⟩
  obtain ⟨bD,e2,g2,l2⟩:=QQ g (by omega) n2
  refine ⟨bD,?_,g2,by omega⟩
  have io:j7 [0] [4] [(0,4)] [(.bo,.lst (rs.map Row.d)),(.fr,.int n2)]=true:=by
   simp [j7,List.range_succ,own,gD,f6,lu]
  simp -implicitDefEqProofs only [jE,ae,ah,jV,jC,aw,gz,gy,id_eq,oq,mq,mn,Ac,io,if_true,e2,yu]
noncomputable def bp (p:Nat→Bool):Nat→Nat
 |0=>0
 |k+1=>bp p k+(if p k=true then 2 ^ k else 0)
theorem yH (p:Nat→Bool):∀ k,bp p k < 2 ^ k
 |0=>by simp [bp]
 |k+1=>by
  have:=yH p k
  rw [bp,Nat.pow_succ]
  split<;>omega
theorem jw (p:Nat→Bool):∀ k j,(bp p k).testBit j=(decide (j < k)&&p j)
 |0,j=>by simp [bp]
 |k+1,j=>by
  have h:=yH p k
  have ih:=jw p k j
  rw [bp]
  by_cases hp:p k=true
  ·rw [if_pos hp,Nat.add_comm]
   rcases Nat.lt_trichotomy j k with hj|rfl|hj
   ·rw [Nat.testBit_two_pow_add_gt hj,ih]
    simp [hj,Nat.lt_succ_of_lt hj]
   ·rw [Nat.testBit_two_pow_add_eq,Nat.testBit_lt_two_pow h]
    simp [hp]
   ·rw [Nat.testBit_lt_two_pow (Nat.lt_of_lt_of_le (show 2 ^ k+bp p k < 2 ^ (k+1) by rw [Nat.pow_succ];omega) (Nat.pow_le_pow_right (by decide) hj))]
    have:¬ j < k+1:=by omega
    simp [this]
  ·rw [if_neg hp,Nat.add_zero,ih]
   by_cases hj:j < k
   ·simp [hj,Nat.lt_succ_of_lt hj]
   ·by_cases e:j=k
    ·subst e;simp [hp]
    ·have h2:¬ j < k+1:=by omega
     simp [hj,h2]
theorem p9 {p q:Nat→Bool}:∀ {k:Nat},(∀ j,j < k→p j=q j)→bp p k=bp q k
 |0,_=>rfl
 |k+1,h=>by rw [bp,bp,p9 fun j hj=>h j (by omega),h k (by omega)]
theorem QS {p q:Nat→Bool}{k:Nat} (h:bp p k=bp q k):∀ j,j < k→p j=q j:=fun j hj=>by
 have:=jw p k j
 rw [h,jw] at this
 simpa [hj] using this.symm
theorem Ep (p q:Nat→Bool) (k:Nat):bp p k&&&bp q k=bp (fun j=>p j&&q j) k:=by
 apply Nat.eq_of_testBit_eq
 intro j
 rw [Nat.testBit_and,jw,jw,jw]
 cases decide (j < k)<;>simp
theorem Ul (p q:Nat→Bool) (k:Nat):bp p k|||bp q k=bp (fun j=>p j||q j) k:=by
 apply Nat.eq_of_testBit_eq
 intro j
 rw [Nat.testBit_or,jw,jw,jw]
 cases decide (j < k)<;>simp
theorem CY (p q:Nat→Bool):∀ k,bp (fun j=>p j&&q j) k+bp (fun j=>p j&&!q j) k=bp p k
 |0=>rfl
 |k+1=>by
  have:=CY p q k
  simp only [bp]
  by_cases hp:p k=true<;>by_cases hq:q k=true<;>simp [hp,hq]<;>omega
theorem yb {p:Nat→Bool}:∀ {k i:Nat},i < k→(∀ j,j < k→(p j=true↔j=i))→bp p k=2 ^ i
 |0,i,h,_=>absurd h (Nat.not_lt_zero i)
 |k+1,i,h,hp=>by
  rw [bp]
  by_cases e:i=k
  ·subst e
   rw [if_pos ((hp i (by omega)).mpr rfl),show bp p i=bp (fun _=>false) i from p9 fun j hj=>by
    cases hh:p j with
    |false=>rfl
    |true=>have:=(hp j (by omega)).mp hh;omega]
   have z:∀ n,bp (fun _=>false) n=0:=fun n=>by
    induction n with
    |zero=>rfl
    |succ n ih=>rw [bp,ih];simp
   rw [z];simp
  ·rw [if_neg fun z=>e ((hp k (by omega)).mp z).symm,Nat.add_zero]
   exact yb (by omega) fun j hj=>hp j (by omega)
theorem Dx {p:Nat→Bool}{k:Nat} (h:∀ j,j < k→p j=false):bp p k=0:=by
 induction k with
 |zero=>rfl
 |succ k ih=>rw [bp,ih fun j hj=>h j (by omega),h k (by omega)];simp
noncomputable def bI (p:Nat→Bool) (k:Nat):D:=.int ((bp p k:Nat):Int)
theorem KP (x y:Nat):Builtin.bitOr (x:Int) (y:Int)=((x|||y:Nat):Int):=by
 unfold Builtin.bitOr
 rw [PyProof.Rows.bitAnd_nn (by unfold Builtin.bitNot;omega) (by unfold Builtin.bitNot;omega)]
 have nn:∀ z:Int,Builtin.bitNot (Builtin.bitNot z)=z:=fun z=>by unfold Builtin.bitNot;omega
 rw [nn,nn,nn,Int.toNat_natCast,Int.toNat_natCast]
theorem HV (x y:Nat):Builtin.bitAnd (x:Int) (y:Int)=((x&&&y:Nat):Int):=by
 rw [PyProof.Rows.bitAnd_pp (Int.natCast_nonneg x) (Int.natCast_nonneg y),Int.toNat_natCast,Int.toNat_natCast]
section
variable {m n:M}{p q:Nat→Bool}{k:Nat}
theorem Gw:lX (m,bI p k) (n,bI q k)=some (.fr,bI (fun j=>p j||q j) k):=by
 unfold bI
 rw [E6,KP,Ul]
theorem Fx:gM (m,bI p k) (n,bI q k)=some (.fr,bI (fun j=>p j&&q j) k):=by
 unfold bI
 rw [D8,HV,Ep]
theorem Fy:((kN (n,bI q k)).bind fun y=>gM (m,bI p k) y)=some (.fr,bI (fun j=>p j&&!q j) k):=by
 have:=CY p q k
 unfold bI
 rw [U9,oq,D8,PyProof.Rows.bitAnd_not,HV,Ep]
 have h:((bp p k:Nat):Int)-((bp (fun j=>p j&&q j) k:Nat):Int)=((bp (fun j=>p j&&!q j) k:Nat):Int):=by omega
 rw [h]
theorem Um:(bI p k).bR=true:=oi
theorem iS (h:∀ j,j < k→p j=q j):bI p k=bI q k:=by unfold bI;rw [p9 h]
end
theorem Ou {bs:List Bool}{i:Nat}{d:D} (h:(bG (bs.map D.bl))[i]?=some d):∃ b,bs[i]?=some b∧d=.tup [.int i,.bl b]:=by
 unfold bG at h
 rw [List.getElem?_mapIdx,List.getElem?_map] at h
 cases e:bs[i]? with
 |none=>rw [e] at h;cases h
 |some r=>rw [e] at h;cases h;exact ⟨r,rfl,rfl⟩
theorem yc {m n:M}{i:Nat} (h:i≤1000):lT (m,.int 1) (n,.int (i:Int))=some (.fr,.int ((2 ^ i:Nat):Int)):=by
 rw [S5 ⟨by omega,by omega,by decide⟩,Int.toNat_natCast,Int.one_mul]
 congr 3
theorem Er (bs:List Bool) (hl:bs.length≤500):pS [.lst (bs.map .bl)]=some (.fr,bI (fun j=>bs.getD j false) bs.length):=by
 obtain ⟨e',l1,o2,o3,he⟩:=cL (g:=gT 2 (bx (gN 2) (bx (gN 3) cX))) (b:=tD) (m:=.al) (ds:=bG (bs.map D.bl)) (e:=[some (.al,.lst (bs.map .bl)),some (.fr,.int 0),none,none])
  (fun i e=>∃ o2 o3,e=[some (.al,.lst (bs.map .bl)),some (.fr,bI (fun j=>bs.getD j false) i),o2,o3]) ⟨none,none,rfl⟩
  (fun i d e hd aZ=>by
   obtain ⟨o2,o3,he⟩:=aZ
   subst he
   obtain ⟨b,hb,rfl⟩:=Ou hd
   have hi:i < bs.length:=(List.getElem?_eq_some_iff.mp hb).1
   have hg:bs.getD i false=b:=by rw [List.getD_eq_getElem?_getD,hb];rfl
   refine ⟨_,[some (.al,.lst (bs.map .bl)),some (.fr,bI (fun j=>bs.getD j false) (i+1)),some (.al,.int (i:Int)),some (.al,.bl b)],rfl,?_,_,_,rfl⟩
   show tD [some (.al,.lst (bs.map .bl)),some (.fr,bI (fun j=>bs.getD j false) i),some (.al,.int (i:Int)),some (.al,.bl b)]=_
   unfold tD
   cases b with
   |false =>
    rw [bK rfl]
    unfold bI
    rw [bp,hg,if_neg Bool.false_ne_true]
    rfl
   |true =>
    rw [bh rfl]
    simp -implicitDefEqProofs only [au,ag,jV,jC,gz,gy,id_eq,oq,yc (show i≤1000 by omega)]
    unfold bI
    rw [E6,KP,bp,hg,if_pos rfl]
    have ho:bp (fun j=>bs.getD j false) i|||2 ^ i=bp (fun j=>bs.getD j false) i+2 ^ i:=by
     apply Nat.eq_of_testBit_eq
     intro j
     have h:=yH (fun j=>bs.getD j false) i
     rw [Nat.testBit_or,Nat.add_comm]
     rcases Nat.lt_trichotomy j i with hj|rfl|hj
     ·rw [Nat.testBit_two_pow_add_gt hj,Nat.testBit_two_pow_of_ne (by omega),Bool.or_false]
     ·rw [Nat.testBit_two_pow_add_eq,Nat.testBit_lt_two_pow h,Nat.testBit_two_pow_self];rfl
     ·rw [Nat.testBit_lt_two_pow (Nat.lt_of_lt_of_le h (Nat.pow_le_pow_right (by decide) (by omega))),Nat.testBit_two_pow_of_ne (by omega),Nat.testBit_lt_two_pow (Nat.lt_of_lt_of_le (show 2 ^ i+bp (fun j=>bs.getD j false) i < 2 ^ (i+1) by rw [Nat.pow_succ];omega) (Nat.pow_le_pow_right (by decide) hj))]
      rfl
    rw [ho]
    rfl)
 subst he
 have hE:(bG (bs.map D.bl)).length=bs.length:=by simp [bG]
 rw [hE] at l1
 unfold pS fn CL
 simp only [ck,bj,bt]
 rw [av (e':=[some (.al,.lst (bs.map .bl)),some (.fr,.int 0),none,none]) rfl]
 rw [av (e':=[some (.al,.lst (bs.map .bl)),some (.fr,bI (fun j=>bs.getD j false) bs.length),o2,o3]) (by
  rw [cu,show aX 0 [some (.al,.lst (bs.map .bl)),some (.fr,.int 0),none,none]=[some (.al,.lst (bs.map .bl)),some (.fr,.int 0),none,none] from rfl]
  simp -implicitDefEqProofs only [aW,eQ,ae,jV,ah,gz,gy,oq,id_eq,bV,oy]
  exact l1)]
 rfl
section
variable {κ:Type} [DecidableEq κ]
theorem QT {ks:List (κ×D)}{k:κ}{d:D} (h:∀ kv∈ks,kv.1=k→kv.2=d) (hi:∃ kv∈ks,kv.1=k):putD ks k d=ks:=by
 unfold putD
 rw [if_pos (by rw [List.any_eq_true];obtain ⟨kv,h1,h2⟩:=hi;exact ⟨kv,h1,decide_eq_true h2⟩)]
 conv=>rhs;rw [←List.map_id ks]
 refine List.map_congr_left fun kv bS=>?_
 by_cases e:kv.1=k
 ·rw [if_pos e,←h kv bS e];rfl
 ·rw [if_neg e];rfl
theorem Dy {ks:List (κ×D)}{k:κ}{d:D} (h:∀ kv∈ks,kv.1≠k):putD ks k d=ks++[(k,d)]:=by
 unfold putD
 rw [if_neg]
 intro z
 obtain ⟨kv,h1,h2⟩:=List.any_eq_true.mp z
 exact h kv h1 (of_decide_eq_true h2)
theorem xF {ks:List (κ×D)}{k:κ}{d:D} (h:∀ kv∈ks,kv.1=k→kv.2=d) (hi:∃ kv∈ks,kv.1=k):cW ks k=some d:=by
 unfold cW
 cases f:ks.find? fun kv=>decide (kv.1=k) with
 |none =>
  obtain ⟨kv,h1,h2⟩:=hi
  have:=List.find?_eq_none.mp f kv h1
  exact absurd (decide_eq_true h2) this
 |some kv =>
  have h1:=List.mem_of_find?_eq_some f
  have h2:kv.1=k:=of_decide_eq_true (List.find?_some (p:=fun (kv:κ×D)=>decide (kv.1=k)) f)
  rw [oy,h kv h1 h2]
theorem Lv {ks:List (κ×D)}{k:κ}:(cW ks k).isSome=true↔∃ kv∈ks,kv.1=k:=by
 unfold cW
 rw [Option.isSome_map,List.find?_isSome]
 constructor
 ·rintro ⟨kv,h1,h2⟩;exact ⟨kv,h1,of_decide_eq_true h2⟩
 ·rintro ⟨kv,h1,h2⟩;exact ⟨kv,h1,decide_eq_true h2⟩
theorem Dz (ks:List (κ×D)) (k:κ) (d:D):(putD ks k d).length≤ks.length+1:=by
 unfold putD
 split
 ·rw [ln];omega
 ·simp
theorem DB {ks:List (κ×D)}{k:κ}{d:D}{kv:κ×D} (h:kv∈putD ks k d):(kv∈ks∧kv.1≠k)∨kv=(k,d):=by
 unfold putD at h
 split at h
 ·obtain ⟨x,hx,e⟩:=List.mem_map.mp h
  by_cases z:x.1=k
  ·rw [if_pos z] at e;exact .inr (by rw [←e,z])
  ·rw [if_neg z] at e;exact .inl (by rw [←e];exact ⟨hx,z⟩)
 ·rename_i hn
  rcases List.mem_append.mp h with z|z
  ·by_cases e:kv.1=k
   ·exact absurd (List.any_eq_true.mpr ⟨kv,z,decide_eq_true e⟩) hn
   ·exact .inl ⟨z,e⟩
  ·exact .inr (by simpa using z)
theorem putD_has {ks:List (κ×D)}{k:κ}{d:D}:∃ kv∈putD ks k d,kv.1=k:=by
 unfold putD
 split
 ·rename_i h
  obtain ⟨x,hx,e⟩:=List.any_eq_true.mp h
  have e:=of_decide_eq_true e
  exact ⟨_,List.mem_map.mpr ⟨x,hx,rfl⟩,by rw [if_pos e];exact e⟩
 ·exact ⟨(k,d),by simp,rfl⟩
end
noncomputable def dG:Row→Option De
 |.rk _ s a b=>some (s,a,b)
 |_=>none
noncomputable def sets:Row→Option Str
 |.rk x _ _ _=>some x
 |.cp x _=>some x
 |_=>none
noncomputable def dd:Option De→D
 |some q=>ao q
 |none=>.non
noncomputable def dP:Option Str→D
 |some q=>.str q
 |none=>.non
theorem zQ (r:Row):decide (r.word=("reckon" : Str))=(dG r).isSome:=by
 cases r with
 |rk x s a b=>exact (by decide +kernel:decide (("reckon" : Str) = "reckon")=true)
 |cp x a=>exact (by decide +kernel:decide (("copy" : Str) = "reckon")=false)
 |sy a=>exact (by decide +kernel:decide (("say" : Str) = "reckon")=false)
 |go t=>exact (by decide +kernel:decide (("go" : Str) = "reckon")=false)
 |pt a t=>exact (by decide +kernel:decide (("part" : Str) = "reckon")=false)
 |en=>exact (by decide +kernel:decide (("end" : Str) = "reckon")=false)
theorem Et (r:Row):mW [r.d]=some (.fr,dd (dG r)):=by
 unfold mW fn Bs
 walk_at "ev"
 simp -implicitDefEqProofs only [cI,oq,cS,cT,bf,zQ]
 cases r with
 |rk x s a b =>
  simp -implicitDefEqProofs only [dG,Option.isSome_some,if_true]
  rw [show ak (.al,Row.d (.rk x s a b)) (.fr,.int 2)=some (.al,.str s) from rfl,show ak (.al,Row.d (.rk x s a b)) (.fr,.int 3)=some (.al,kD a) from rfl,show ak (.al,Row.d (.rk x s a b)) (.fr,.int 4)=some (.al,kD b) from rfl]
  walk_at "ev"
  simp -implicitDefEqProofs only [qf,Bool.and_self,if_true]
  rfl
 |_=>rfl
theorem Eu (r:Row):uC [r.d]=some (.fr,dP (sets r)):=by
 cases r<;>rfl
noncomputable def rX:Ko→Key
 |.inl i=>.inl i
 |.inr x=>.inr x
noncomputable def gf (q:De):List Key:=[.inr q.1,rX q.2.1,rX q.2.2]
theorem Ew {a b:Ko} (h:rX a=rX b):a=b:=by
 cases a<;>cases b<;>simp [rX] at h<;>rw [h]
theorem yd {p q:De} (h:gf p=gf q):p=q:=by
 obtain ⟨s,a,b⟩:=p;obtain ⟨s',a',b'⟩:=q
 simp only [gf,List.cons.injEq,and_true,Key.inr.injEq] at h
 rw [h.1,Ew h.2.1,Ew h.2.2]
theorem ye (q:De):mh (ao q)=some (gf q):=by
 obtain ⟨s,a,b⟩:=q
 cases a<;>cases b<;>rfl
theorem QV (q:De):zI (gf q)=ao q:=by
 obtain ⟨s,a,b⟩:=q
 cases a<;>cases b<;>rfl
noncomputable def fL (l:List De):List (List Key×D):=l.map fun q=>(gf q,.bl true)
noncomputable instance ZT (q:De) (l:List De):Decidable (q∈l):=@List.instDecidableMemOfLawfulBEq De instBEqOfDecidableEq inferInstance q l
noncomputable def iM (acc:List De) (r:Row):List De:=match dG r with
 |some q=>if q∈acc then acc else acc++[q]
 |none=>acc
noncomputable def kn (rs:List Row):List De:=rs.foldl iM []
theorem QW (acc:List De) (r:Row):(iM acc r).length≤acc.length+1:=by
 unfold iM
 split
 ·split<;>simp
 ·omega
theorem nh (rs:List Row) (i:Nat) (r:Row) (h:rs[i]?=some r):kn (rs.take (i+1))=iM (kn (rs.take i)) r:=by
 unfold kn
 rw [List.take_add_one,h,List.foldl_append]
 rfl
theorem uE (rs:List Row):∀ i,(kn (rs.take i)).length≤i
 |0=>by simp [kn]
 |i+1=>by
  have:=uE rs i
  cases h:rs[i]? with
  |none =>
   have e:rs.take (i+1)=rs.take i:=by rw [List.take_add_one,h];simp
   rw [e];omega
  |some r =>
   rw [nh rs i r h]
   have:=QW (kn (rs.take i)) r
   omega
theorem DC (rs:List Row):∀ i,(kn (rs.take i)).Nodup
 |0=>by simp [kn]
 |i+1=>by
  have ih:=DC rs i
  cases h:rs[i]? with
  |none =>
   have e:rs.take (i+1)=rs.take i:=by rw [List.take_add_one,h];simp
   rw [e];exact ih
  |some r =>
   rw [nh rs i r h]
   unfold iM
   split
   ·rename_i q _
    split
    ·exact ih
    ·rename_i hn
     rw [List.nodup_append]
     exact ⟨ih,by simp,fun a ha b hb=>fun z=>hn ((show b=q by simpa using hb)▸z▸ha)⟩
   ·exact ih
theorem Fz (rs:List Row) {q:De}:∀ (i:Nat),(∃ (n:Nat) (r:Row),n < i∧rs[n]?=some r∧dG r=some q)→q∈kn (rs.take i)
 |0,⟨n,_,h,_⟩=>absurd h (Nat.not_lt_zero n)
 |i+1,⟨n,r,hn,hr,hd⟩=>by
  have up:∀ x,x∈kn (rs.take i)→x∈kn (rs.take (i+1)):=fun x hx=>by
   cases h:rs[i]? with
   |none =>
    have e:rs.take (i+1)=rs.take i:=by rw [List.take_add_one,h];simp
    rw [e];exact hx
   |some r =>
    rw [nh rs i r h]
    unfold iM
    split
    ·split
     ·exact hx
     ·exact List.mem_append_left _ hx
    ·exact hx
  by_cases e:n=i
  ·subst e
   rw [nh rs n r hr]
   unfold iM
   rw [hd]
   simp only
   split
   ·assumption
   ·simp
  ·exact up q (Fz rs i ⟨n,r,by omega,hr,hd⟩)
theorem rY {rs:List Row}:kn (rs.take rs.length)=kn rs:=by rw [List.take_length]
theorem Wf {r:Row}{l:List De} (hl:l.length≤500) (A0 o3:Option (M×D)):∃ dU,sE [A0,some (.bo,.dt (fL l)),some (.al,r.d),o3]=some (.nx [A0,some (.bo,.dt (fL (iM l r))),some (.al,r.d),dU]):=by
 have s1:(fL l).length < sizeLine:=by simp only [fL,ln];exact Nat.lt_of_le_of_lt hl (by decide)
 unfold sE
 rw [av (e':=[A0,some (.bo,.dt (fL l)),some (.al,r.d),some (.fr,dd (dG r))]) (by
  simp -implicitDefEqProofs only [au,aw,ae,ah,jV,gz,gy,id_eq,oq,mq,mn,Et,fN,tz,tq])]
 unfold iM
 cases hd:dG r with
 |none =>
  rw [bK rfl]
  exact ⟨_,rfl⟩
 |some q =>
  rw [bh rfl]
  refine ⟨some (.fr,ao q),?_⟩
  have hp:putD (fL l) (gf q) (.bl true)=fL (if q∈l then l else l++[q]):=by
   by_cases hq:q∈l
   ·rw [if_pos hq]
    exact QT (fun kv bS _=>by obtain ⟨x,_,rfl⟩:=List.mem_map.mp bS;rfl) ⟨(gf q,.bl true),List.mem_map.mpr ⟨q,hq,rfl⟩,rfl⟩
   ·rw [if_neg hq,Dy (fun kv bS=>by obtain ⟨x,hx,rfl⟩:=List.mem_map.mp bS;exact fun z=>hq (yd z▸hx))]
    simp [fL]
  simp -implicitDefEqProofs only [iX,jV,jC,gz,gy,id_eq,oq,dd,ye,eV,if_true,i5,own,s1,hp,tz,tq]
theorem yf {rs:List Row}{i:Nat}{d:D} (h:(rs.map Row.d)[i]?=some d):∃ r,rs[i]?=some r∧d=r.d:=by
 rw [List.getElem?_map] at h
 cases e:rs[i]? with
 |none=>rw [e] at h;cases h
 |some r=>rw [e] at h;cases h;exact ⟨r,rfl,rfl⟩
theorem yg {rs:List Row} (hl:rs.length≤400):mZ [.lst (rs.map Row.d)]=some (.un,.lst ((kn rs).map ao)):=by
 obtain ⟨e',l1,o2,o3,he⟩:=cL (g:=gN 2) (b:=sE) (m:=.al) (ds:=rs.map Row.d) (e:=[some (.al,.lst (rs.map Row.d)),some (.bo,.dt (fL [])),none,none])
  (fun i e=>∃ o2 o3,e=[some (.al,.lst (rs.map Row.d)),some (.bo,.dt (fL (kn (rs.take i)))),o2,o3]) ⟨none,none,rfl⟩
  (fun i d e hd aZ=>by
   obtain ⟨o2,o3,he⟩:=aZ
   subst he
   obtain ⟨r,hr,rfl⟩:=yf hd
   have hi:i < rs.length:=(List.getElem?_eq_some_iff.mp hr).1
   have xi:=uE rs i
   obtain ⟨dU,q⟩:=Wf (r:=r) (l:=kn (rs.take i)) (by omega) (some (.al,.lst (rs.map Row.d))) o3
   rw [←nh rs i r hr] at q
   exact ⟨_,_,rfl,q,_,dU,rfl⟩)
 subst he
 rw [ln,rY] at l1
 unfold mZ fn BF
 simp only [ck,bj,bt]
 rw [av (e':=[some (.al,.lst (rs.map Row.d)),some (.bo,.dt (fL [])),none,none]) rfl]
 rw [av (e':=[some (.al,.lst (rs.map Row.d)),some (.bo,.dt (fL (kn rs))),o2,o3]) (by
  rw [cu,show aX 0 [some (.al,.lst (rs.map Row.d)),some (.bo,.dt (fL [])),none,none]=[some (.al,.lst (rs.map Row.d)),some (.bo,.dt (fL [])),none,none] from rfl]
  simp -implicitDefEqProofs only [aW,bP,jV,gz,gy,id_eq,oq,bV,oy]
  exact l1)]
 simp -implicitDefEqProofs only [aI,aJ,ae,ah,jV,gz,gy,id_eq,oq,qh,own,true_or,if_true,yt]
 congr 3
 unfold fL
 rw [List.map_map]
 exact List.map_congr_left fun q _=>QV q
theorem lQ (rs:List Row):(kn rs).length≤rs.length:=by have:=uE rs rs.length;rw [rY] at this;exact this
theorem Wg (rs:List Row):(kn rs).Nodup:=by have:=DC rs rs.length;rw [rY] at this;exact this
theorem Wh {rs:List Row}{n:Nat}{r:Row}{q:De} (hr:rs[n]?=some r) (hd:dG r=some q):q∈kn rs:=by
 have:=Fz rs (q:=q) rs.length ⟨n,r,(List.getElem?_eq_some_iff.mp hr).1,hr,hd⟩
 rw [rY] at this;exact this
theorem xG {fe:Ev→Option (M×D)}{m:M}{fr:Ev}{x:D} (h:∀ d,fe (some (m,d)::fr)=some (.fr,x)):∀ ds:List D,cY dz fe m fr ds=some ((List.replicate ds.length x).map fun y=>(M.fr,y))
 |[]=>rfl
 |d::ds=>by rw [cY,show dz (some (m,d)::fr)=some true from rfl,oq,if_pos rfl,h,oq,xG h ds,oq];rfl
theorem DF {rs:List Row} (hl:rs.length≤400):pH [.lst (rs.map Row.d)]=some (.fr,bI (fun _=>true) (kn rs).length):=by
 have hk:=lQ rs
 have hr:=yg hl
 have hb:=Er (List.replicate (kn rs).length true) (by simp;omega)
 rw [List.map_replicate,List.length_replicate] at hb
 unfold pH fn BQ
 simp only [ck,bj,bt]
 simp -implicitDefEqProofs only [aI,aw,ae,ah,b9,bP,jV,gz,gy,id_eq,oq,mq,mn,hr,bV,oy]
 rw [xG (x:=.bl true) (fun d=>rfl),oq,ln,gG (by rw [List.length_replicate];omega),oq]
 simp -implicitDefEqProofs only [mq,mn,oq,hb,nF]
 rw [iS (p:=fun j=>(List.replicate (kn rs).length true).getD j false) (q:=fun _=>true) fun j hj=>by rw [List.getD_eq_getElem?_getD,List.getElem?_replicate,if_pos hj];rfl]
noncomputable def gu (l:List De) (r:Row) (j:Nat):Bool:=match dG r,l[j]? with
 |some q,some q'=>decide (q=q')
 |_,_=>false
noncomputable def dn (l:List De):List (List Key×D):=l.mapIdx fun k q=>(gf q,.int ((2 ^ k:Nat):Int))
theorem yh (l:List De):(dn l).length=l.length:=by simp [dn]
theorem Ex {l:List De}{kv:List Key×D} (h:kv∈dn l):∃ (k:Nat) (q:De),l[k]?=some q∧kv=(gf q,.int ((2 ^ k:Nat):Int)):=by
 obtain ⟨i,hi,e⟩:=List.mem_iff_getElem.mp h
 simp only [dn,List.getElem_mapIdx] at e
 have rN:i < l.length:=by rw [yh] at hi;exact hi
 exact ⟨i,l[i]'rN,by simp,e.symm⟩
theorem Ov (l:List De) (q:De):dn (l++[q])=dn l++[(gf q,.int ((2 ^ l.length:Nat):Int))]:=by
 simp [dn,List.mapIdx_append]
theorem y0 {l:List De} (h:l.Nodup) {i j:Nat}{q:De} (hi:l[i]?=some q) (hj:l[j]?=some q):i=j:=by
 have rN:=(List.getElem?_eq_some_iff.mp hi).1
 exact (List.getElem?_inj rN h).mp (by rw [hi,hj])
theorem QX {l:List De} (h:l.Nodup) {k:Nat}{q:De} (hk:l[k]?=some q):cW (dn l) (gf q)=some (.int ((2 ^ k:Nat):Int)):=by
 refine xF (fun kv bS e=>?_) ?_
 ·obtain ⟨i,q',hi,rfl⟩:=Ex bS
  have:q'=q:=yd e
  subst this
  rw [y0 h hi hk]
 ·have mU:=(List.getElem?_eq_some_iff.mp hk).1
  refine ⟨_,List.getElem_mem (l:=dn l) (n:=k) (by rw [yh];exact mU),?_⟩
  simp only [dn,List.getElem_mapIdx]
  rw [(List.getElem?_eq_some_iff.mp hk).2]
theorem DG {l:List De}{i:Nat}{d:D} (h:(bG (l.map ao))[i]?=some d):∃ q,l[i]?=some q∧d=.tup [.int i,ao q]:=by
 unfold bG at h
 rw [List.getElem?_mapIdx,List.getElem?_map] at h
 cases e:l[i]? with
 |none=>rw [e] at h;cases h
 |some r=>rw [e] at h;cases h;exact ⟨r,rfl,rfl⟩
theorem QY {l:List De} (h:l.Nodup) {r:Row}{q:De}{k:Nat} (hd:dG r=some q) (hk:l[k]?=some q):bp (gu l r) l.length=2 ^ k:=by
 refine yb (List.getElem?_eq_some_iff.mp hk).1 fun j hj=>?_
 unfold gu
 rw [hd,List.getElem?_eq_getElem hj]
 simp only [decide_eq_true_eq]
 constructor
 ·intro e;exact y0 h (by rw [List.getElem?_eq_getElem hj,←e]) hk
 ·intro e;subst e;exact ((List.getElem?_eq_some_iff.mp hk).2).symm
theorem Ck {fe:Ev→Option (M×D)}{m m':M}{fr:Ev}{f:Row→D}:∀ rs:List Row,(∀ r∈rs,fe (some (m,r.d)::fr)=some (m',f r))→cY dz fe m fr (rs.map Row.d)=some ((rs.map f).map fun y=>(m',y))
 |[],_=>rfl
 |r::rs,h=>by
  have ih:=Ck (fe:=fe) (m:=m) (m':=m') (fr:=fr) (f:=f) rs fun x hx=>h x (List.mem_cons_of_mem _ hx)
  rw [mq,cY,show dz (some (m,r.d)::fr)=some true from rfl,oq,if_pos rfl,h r List.mem_cons_self,oq,ih,oq];rfl
theorem Ow {rs:List Row} (hl:rs.length≤400):sv [.lst (rs.map Row.d)]=some (.un,.lst (rs.map fun r=>bI (gu (kn rs) r) (kn rs).length)):=by
 have hk:=lQ rs
 have mF:=Wg rs
 have hr:=yg hl
 obtain ⟨e',l1,o2,o3,he⟩:=cL (g:=gT 2 (bx (gN 2) (bx (gN 3) cX))) (b:=r9) (m:=.fr) (ds:=bG ((kn rs).map ao)) (e:=[some (.al,.lst (rs.map Row.d)),some (.bo,.dt (dn [])),none,none])
  (fun i e=>∃ o2 o3,e=[some (.al,.lst (rs.map Row.d)),some (.bo,.dt (dn ((kn rs).take i))),o2,o3]) ⟨none,none,rfl⟩
  (fun i d e hd aZ=>by
   obtain ⟨o2,o3,he⟩:=aZ
   subst he
   obtain ⟨q,hq,rfl⟩:=DG hd
   have hi:i < (kn rs).length:=(List.getElem?_eq_some_iff.mp hq).1
   have s1:(dn ((kn rs).take i)).length < sizeLine:=by rw [yh];exact Nat.lt_of_le_of_lt (show ((kn rs).take i).length≤400 by rw [List.length_take];omega) (by decide)
   have e1:dn ((kn rs).take (i+1))=putD (dn ((kn rs).take i)) (gf q) (.int ((2 ^ i:Nat):Int)):=by
    rw [List.take_add_one,hq,Option.toList_some,Ov,Dy (fun kv bS z=>?_)]
    ·rw [List.length_take,Nat.min_eq_left (by omega)]
    ·obtain ⟨k,q',mU,rfl⟩:=Ex bS
     have:q'=q:=yd z
     subst this
     have aU:k < i:=by
      have:=(List.getElem?_eq_some_iff.mp mU).1
      rw [List.length_take] at this;omega
     rw [List.getElem?_take_of_lt aU] at mU
     have:=y0 mF mU hq
     omega
   refine ⟨_,[some (.al,.lst (rs.map Row.d)),some (.bo,.dt (dn ((kn rs).take (i+1)))),some (.fr,.int (i:Int)),some (.fr,ao q)],rfl,?_,_,_,rfl⟩
   show r9 [some (.al,.lst (rs.map Row.d)),some (.bo,.dt (dn ((kn rs).take i))),some (.fr,.int (i:Int)),some (.fr,ao q)]=_
   unfold r9
   simp -implicitDefEqProofs only [iX,ag,jV,jC,gz,gy,id_eq,oq,yc (show i≤1000 by omega),ye,eV,if_true,i5,own,s1,←e1,tz,tq])
 subst he
 have hE:(bG ((kn rs).map ao)).length=(kn rs).length:=by simp [bG]
 rw [hE,List.take_length] at l1
 have ex:=Ck (fe:=qg (jV 1) (aw mW (ae (jV 0) ah)) (jC (.int 0))) (m:=.al) (m':=.fr) (fr:=[some (.bo,.dt (dn (kn rs)))]) (f:=fun r=>bI (gu (kn rs) r) (kn rs).length) rs (fun r hr=>by
  simp -implicitDefEqProofs only [qg,aw,ae,ah,jV,jC,gz,gy,id_eq,oq,mq,mn,Et,vm]
  cases hd:dG r with
  |none =>
   simp -implicitDefEqProofs only [dd,oi,if_true]
   unfold bI
   rw [Dx fun j _=>by unfold gu;rw [hd]]
   rfl
  |some q =>
   obtain ⟨n,hn⟩:=List.mem_iff_getElem?.mp hr
   obtain ⟨k,hk⟩:=List.mem_iff_getElem?.mp (Wh hn hd)
   have hv:=QX mF hk
   rw [show dd (some q)=D.tup [.str q.1,kD q.2.1,kD q.2.2] from rfl]
   simp only
   rw [show mh (D.tup [.str q.1,kD q.2.1,kD q.2.2])=some (gf q) from ye q,oq,hv]
   simp only [aV]
   unfold bI
   rw [QY mF hd hk])
 unfold sv fn Bp
 simp only [ck,bj,bt]
 rw [av (e':=[some (.al,.lst (rs.map Row.d)),some (.bo,.dt (dn [])),none,none]) rfl]
 rw [av (e':=[some (.al,.lst (rs.map Row.d)),some (.bo,.dt (dn (kn rs))),o2,o3]) (by
  simp -implicitDefEqProofs only [aW,eQ,aw,ae,jV,ah,gz,gy,oq,id_eq,mq,mn,hr,bV,oy]
  exact l1)]
 simp -implicitDefEqProofs only [aI,b9,bP,jV,gz,gy,id_eq,oq,bV,oy]
 rw [show eY [some (M.al,D.lst (rs.map Row.d)),some (.bo,.dt (dn (kn rs))),o2,o3] [1]=[some (.bo,.dt (dn (kn rs)))] from rfl,ex,oq,gG (by rw [ln];omega),oq]
 rfl
noncomputable def isNm (a:Ko) (x:Str):Bool:=match a with
 |.inr y=>decide (x=y)
 |.inl _=>false
noncomputable def gE (o:Option Str) (q:De):Bool:=match o with
 |some x=>isNm q.2.1 x||isNm q.2.2 x
 |none=>false
theorem Xi {m n:M}{x:Str} (a:Ko):aN (m,.str x) (n,kD a)=some (.fr,.bl (isNm a x)):=by
 cases a with
 |inl i=>exact U5
 |inr y=>exact cT
theorem L7 (r:Row) (q:De):pR [r.d,ao q]=some (.fr,.bl (gE (sets r) q)):=by
 unfold pR fn CK
 simp only [ck,bj,bt]
 rw [av (e':=[some (.al,r.d),some (.al,ao q),some (.fr,dP (sets r))]) (by
  simp -implicitDefEqProofs only [au,aw,ae,ah,jV,gz,gy,id_eq,oq,mq,mn,Eu,fN,tz,tq])]
 cases sets r with
 |none=>rfl
 |some x =>
  have e1:ak (.al,ao q) (.fr,.int 1)=some (.al,kD q.2.1):=rfl
  have e2:ak (.al,ao q) (.fr,.int 2)=some (.al,kD q.2.2):=rfl
  simp -implicitDefEqProofs only [aI,kJ,rq,ag,jV,jC,gz,gy,id_eq,oq,dP,e1,e2,Xi]
  rw [show qu (.fr,.str x) (.fr,.non)=some (.fr,.bl true) from rfl]
  simp -implicitDefEqProofs only [oq,bf,if_true,gE]
  cases isNm q.2.1 x<;>rfl
noncomputable def bQ (l:List De) (o:Option Str) (j:Nat):Bool:=match l[j]? with
 |some q=>gE o q
 |none=>false
noncomputable def nK:Option Str→Key
 |some x=>.inr x
 |none=>.non
noncomputable def mj:Key→Option Str
 |.inr x=>some x
 |_=>none
theorem Ey (o:Option Str):mj (nK o)=o:=by cases o<;>rfl
theorem xP (o:Option Str):keyOf (dP o)=some (nK o):=by cases o<;>rfl
theorem Cm {fe:Ev→Option (M×D)}{m m':M}{fr:Ev}{f:De→D}:∀ rs:List De,(∀ r∈rs,fe (some (m,ao r)::fr)=some (m',f r))→cY dz fe m fr (rs.map ao)=some ((rs.map f).map fun y=>(m',y))
 |[],_=>rfl
 |r::rs,h=>by
  have ih:=Cm (fe:=fe) (m:=m) (m':=m') (fr:=fr) (f:=f) rs fun x hx=>h x (List.mem_cons_of_mem _ hx)
  rw [mq,cY,show dz (some (m,ao r)::fr)=some true from rfl,oq,if_pos rfl,h r List.mem_cons_self,oq,ih,oq];rfl
theorem Wi {l:List De} (hl:l.length≤400) {m1:M} (h1:m1=.bo∨m1=.fr) (A0:Option (M×D)) {nm:List (Key×D)} (hn:∀ kv∈nm,kv.2=bI (bQ l (mj kv.1)) l.length) (Zv:nm.length≤400) {bs:List D} (Zw:bs.length≤400) (r:Row) (o5:Option (M×D)) :
  ∃ rZ hX dS,sg [A0,some (m1,.lst (l.map ao)),some (.bo,.dk nm),some (.bo,.lst bs),some (.al,r.d),o5]=some (.nx [A0,some (rZ,.lst (l.map ao)),some (.bo,.dk hX),some (.bo,.lst (bs++[bI (bQ l (sets r)) l.length])),some (.al,r.d),dS])∧(rZ=.bo∨rZ=.fr)∧(∀ kv∈hX,kv.2=bI (bQ l (mj kv.1)) l.length)∧hX.length≤nm.length+1:=by
 have s1:nm.length < sizeLine:=Nat.lt_of_le_of_lt Zv (by decide)
 have s2:bs.length < sizeLine:=Nat.lt_of_le_of_lt Zw (by decide)
 have hc:(jB (dF true (jV 5) (jV 2))) [A0,some (m1,.lst (l.map ao)),some (.bo,.dk nm),some (.bo,.lst bs),some (.al,r.d),some (.fr,dP (sets r))]=some (!(cW nm (nK (sets r))).isSome):=by
  simp -implicitDefEqProofs only [jB,dF,jV,gz,gy,id_eq,oq,jQ,xP,if_true,bf]
 have fin:∀ (m2:M) (hX:List (Key×D)),(∀ kv∈hX,kv.2=bI (bQ l (mj kv.1)) l.length)→(∃ kv∈hX,kv.1=nK (sets r))→cy 3 (qv (jV 2) (jV 5)) [A0,some (m2,.lst (l.map ao)),some (.bo,.dk hX),some (.bo,.lst bs),some (.al,r.d),some (.fr,dP (sets r))]=some (.nx [A0,some (m2,.lst (l.map ao)),some (.bo,.dk hX),some (.bo,.lst (bs++[bI (bQ l (sets r)) l.length])),some (.al,r.d),some (.fr,dP (sets r))]):=fun m2 hX oA hi=>by
  have hv:cW hX (nK (sets r))=some (bI (bQ l (sets r)) l.length):=xF (fun kv bS e=>by rw [oA kv bS,e,Ey]) hi
  simp -implicitDefEqProofs only [cy,qv,jV,gz,gy,id_eq,oq,jQ,xP,hv,jA,eV,if_true,dE,own,s2,tz,tq]
 unfold sg
 rw [av (e':=[A0,some (m1,.lst (l.map ao)),some (.bo,.dk nm),some (.bo,.lst bs),some (.al,r.d),some (.fr,dP (sets r))]) (by
  simp -implicitDefEqProofs only [au,aw,ae,ah,jV,gz,gy,id_eq,oq,mq,mn,Eu,fN,tz,tq])]
 cases hb:(cW nm (nK (sets r))).isSome with
 |true =>
  rw [dR (by rw [hc,hb];rfl)]
  exact ⟨m1,nm,_,fin m1 nm hn (Lv.mp hb),h1,hn,by omega⟩
 |false =>
  have ex:=Cm (fe:=aw pR (ae (jV 1) (ae (jV 0) ah))) (m:=.fr) (m':=.fr) (fr:=[some (.al,r.d)]) (f:=fun q=>D.bl (gE (sets r) q)) l (fun q _=>by
   simp -implicitDefEqProofs only [aw,ae,ah,jV,gz,gy,id_eq,oq,mq,mn,L7])
  have Bg:=Er (l.map (gE (sets r))) (by rw [ln];omega)
  rw [List.map_map,ln] at Bg
  have iE:bI (fun j=>(l.map (gE (sets r))).getD j false) l.length=bI (bQ l (sets r)) l.length:=iS fun j hj=>by
   rw [List.getD_eq_getElem?_getD,List.getElem?_map,List.getElem?_eq_getElem hj]
   unfold bQ
   rw [List.getElem?_eq_getElem hj];rfl
  rw [iE] at Bg
  rw [av (e':=[A0,some (.fr,.lst (l.map ao)),some (.bo,.dk (putD nm (nK (sets r)) (bI (bQ l (sets r)) l.length))),some (.bo,.lst bs),some (.al,r.d),some (.fr,dP (sets r))]) (by
   rw [bh (by rw [hc,hb];rfl)]
   rw [cu,show aX 1 [A0,some (m1,.lst (l.map ao)),some (.bo,.dk nm),some (.bo,.lst bs),some (.al,r.d),some (.fr,dP (sets r))]=[A0,some (.fr,.lst (l.map ao)),some (.bo,.dk nm),some (.bo,.lst bs),some (.al,r.d),some (.fr,dP (sets r))] from by rcases h1 with rfl|rfl<;>rfl]
   simp -implicitDefEqProofs only [iW,aw,b9,bP,ae,ah,jV,gz,gy,id_eq,oq,bV,oy]
   rw [show eY [A0,some (.fr,.lst (l.map ao)),some (.bo,.dk nm),some (.bo,.lst bs),some (.al,r.d),some (.fr,dP (sets r))] [4]=[some (.al,r.d)] from rfl,ex,oq,gG (by rw [ln];omega),oq]
   simp -implicitDefEqProofs only [mq,mn,oq]
   rw [show (l.map fun q=>D.bl (gE (sets r) q))=l.map (D.bl∘gE (sets r)) from rfl,Bg]
   simp -implicitDefEqProofs only [oq,xP,eV,if_true,jR,own,gz,gy,s1,tz,tq])]
  have oA:∀ kv∈putD nm (nK (sets r)) (bI (bQ l (sets r)) l.length),kv.2=bI (bQ l (mj kv.1)) l.length:=fun kv bS=>by
   rcases DB bS with ⟨z,_⟩|rfl
   ·exact hn kv z
   ·show _=bI (bQ l (mj (nK (sets r)))) l.length
    rw [Ey]
  exact ⟨.fr,_,_,fin .fr _ oA putD_has,.inr rfl,oA,Dz _ _ _⟩
theorem Ox {rs:List Row} (hl:rs.length≤300):sF [.lst (rs.map Row.d)]=some (.un,.lst (rs.map fun r=>bI (bQ (kn rs) (sets r)) (kn rs).length)):=by
 have hk:=lQ rs
 have hr:=yg (rs:=rs) (by omega)
 obtain ⟨e',l1,m1,nm,o4,o5,he,_,_,_⟩:=cL (g:=gN 4) (b:=sg) (m:=.al) (ds:=rs.map Row.d) (e:=[some (.al,.lst (rs.map Row.d)),some (.bo,.lst ((kn rs).map ao)),some (.bo,.dk []),some (.bo,.lst []),none,none])
  (fun i e=>∃ (m1:M) (nm:List (Key×D)) (o4 o5:Option (M×D)),e=[some (.al,.lst (rs.map Row.d)),some (m1,.lst ((kn rs).map ao)),some (.bo,.dk nm),some (.bo,.lst ((rs.take i).map fun r=>bI (bQ (kn rs) (sets r)) (kn rs).length)),o4,o5]∧(m1=.bo∨m1=.fr)∧(∀ kv∈nm,kv.2=bI (bQ (kn rs) (mj kv.1)) (kn rs).length)∧nm.length≤i)
  ⟨.bo,[],none,none,rfl,.inl rfl,(fun kv h=>nomatch h),Nat.le_refl _⟩
  (fun i d e hd aZ=>by
   obtain ⟨m1,nm,o4,o5,he,h1,h2,h3⟩:=aZ
   subst he
   obtain ⟨r,hr,rfl⟩:=yf hd
   have hi:i < rs.length:=(List.getElem?_eq_some_iff.mp hr).1
   obtain ⟨rZ,hX,dS,q,g1,g2,g3⟩:=Wi (l:=kn rs) (by omega) h1 (some (.al,.lst (rs.map Row.d))) h2 (by omega) (bs:=(rs.take i).map fun r=>bI (bQ (kn rs) (sets r)) (kn rs).length) (by rw [ln,List.length_take];omega) r o5
   refine ⟨_,_,rfl,q,rZ,hX,some (.al,r.d),dS,?_,g1,g2,by omega⟩
   rw [List.take_add_one,hr,Option.toList_some,List.map_append]
   rfl)
 subst he
 rw [ln,List.take_length] at l1
 unfold sF fn Bt
 simp only [ck,bj,bt]
 rw [av (e':=[some (.al,.lst (rs.map Row.d)),some (.bo,.lst ((kn rs).map ao)),none,none,none,none]) (by
  simp -implicitDefEqProofs only [au,aw,ae,ah,jV,gz,gy,id_eq,oq,mq,mn,hr,fO,tz,tq])]
 rw [av (e':=[some (.al,.lst (rs.map Row.d)),some (.bo,.lst ((kn rs).map ao)),some (.bo,.dk []),none,none,none]) rfl]
 rw [av (e':=[some (.al,.lst (rs.map Row.d)),some (.bo,.lst ((kn rs).map ao)),some (.bo,.dk []),some (.bo,.lst []),none,none]) rfl]
 rw [av (e':=[some (.al,.lst (rs.map Row.d)),some (m1,.lst ((kn rs).map ao)),some (.bo,.dk nm),some (.bo,.lst (rs.map fun r=>bI (bQ (kn rs) (sets r)) (kn rs).length)),o4,o5]) (by
  rw [cu,show aX 0 [some (.al,.lst (rs.map Row.d)),some (.bo,.lst ((kn rs).map ao)),some (.bo,.dk []),some (.bo,.lst []),none,none]=[some (.al,.lst (rs.map Row.d)),some (.bo,.lst ((kn rs).map ao)),some (.bo,.dk []),some (.bo,.lst []),none,none] from rfl]
  simp -implicitDefEqProofs only [aW,bP,jV,gz,gy,id_eq,oq,bV,oy]
  exact l1)]
 rfl
theorem DH {c:Ev→Option Bool}{b:Ev→Option Fl} (Iv:Nat→Ev→Prop) (Rt:M→D→Prop)
    (hs:∀ n e,Iv n e→c e=some false∨(c e=some true∧((∃ e2 n2,(b e=some (.nx e2)∨b e=some (.ct e2))∧Iv n2 e2∧n2 < n)∨∃ e2 m d,b e=some (.rt e2 m d)∧Rt m d))) {n:Nat}{e:Ev} (h0:Iv n e) :
    (∃ e' n',gi c b e=some (.nx e')∧Iv n' e'∧c e'=some false)∨∃ e' m d,gi c b e=some (.rt e' m d)∧Rt m d:=by
  have:∀ (k n:Nat) e,n≤k→Iv n e→(∃ e' n',cM c b (k+1) e=some (.nx e')∧Iv n' e'∧c e'=some false)∨∃ e' m d,cM c b (k+1) e=some (.rt e' m d)∧Rt m d:=by
    intro k
    induction k with
    |zero =>
      intro n e hn hi
      rcases hs n e hi with h|⟨h,⟨e2,n2,_,_,z⟩|⟨e2,m,d,h1,h2⟩⟩
      · exact .inl ⟨e,n,by simp [cM,h],hi,h⟩
      · omega
      · exact .inr ⟨e2,m,d,by rw [cM,h,oq,if_pos rfl,h1,oq],h2⟩
    |succ k ih =>
      intro n e hn hi
      rcases hs n e hi with h|⟨h,⟨e2,n2,h1,h2,h3⟩|⟨e2,m,d,h1,h2⟩⟩
      · exact .inl ⟨e,n,by simp [cM,h],hi,h⟩
      · have w:cM c b (k+1+1) e=cM c b (k+1) e2:=by
          rw [cM,h,oq,if_pos rfl]
          rcases h1 with h1|h1<;>rw [h1,oq]
        rw [w]
        exact ih n2 e2 (by omega) h2
      · exact .inr ⟨e2,m,d,by rw [cM,h,oq,if_pos rfl,h1,oq],h2⟩
  rcases this n n e (Nat.le_refl _) h0 with ⟨e',n',h1,h2,h3⟩|⟨e',m,d,h1,h2⟩
  · exact .inl ⟨e',n',xB h1,h2,h3⟩
  · exact .inr ⟨e',m,d,xB h1,h2⟩
noncomputable def aE (P:Nat→Nat→Bool) (N K:Nat):List D:=(List.range N).map fun n=>bI (P n) K
theorem uk (P:Nat→Nat→Bool) (N K:Nat):(aE P N K).length=N:=by simp [aE]
theorem ql {P:Nat→Nat→Bool}{N K m:Nat} (h:m < N):L2.bw (aE P N K) (m:Int)=some (bI (P m) K):=by
 rw [lA (by rw [uk];exact h)]
 simp [aE]
theorem DI:∀ {ds:List D},(∀ d∈ds,d.bR=true)→D.cP ds=true
 |[],_=>by simp only [D.cP]
 |d::ds,h=>by simp only [D.cP,h d List.mem_cons_self,DI fun x hx=>h x (List.mem_cons_of_mem _ hx),Bool.and_self]
theorem QZ (P:Nat→Nat→Bool) (N K:Nat):D.cP (aE P N K)=true:=DI fun d hd=>by
 obtain ⟨n,_,rfl⟩:=List.mem_map.mp hd;exact Um
noncomputable def gU (P:Nat→Nat→Bool) (m:Nat) (q:Nat→Bool):Nat→Nat→Bool:=fun n=>if n=m then q else P n
theorem uq (P:Nat→Nat→Bool) (N K m:Nat) (q:Nat→Bool):(aE P N K).set m (bI q K)=aE (gU P m q) N K:=by
 refine List.ext_getElem (by simp [aE]) fun i h1 h2=>?_
 rw [List.getElem_set]
 simp only [aE,List.getElem_map,List.getElem_range,gU]
 by_cases e:m=i
 ·rw [if_pos e,if_pos e.symm]
 ·rw [if_neg e,if_neg fun z=>e z.symm]
noncomputable def cz (p:Nat→Bool):Nat→Nat
 |0=>0
 |k+1=>cz p k+(if p k=true then 0 else 1)
theorem Gx (p:Nat→Bool):∀ k,cz p k≤k
 |0=>Nat.le_refl _
 |k+1=>by have:=Gx p k;rw [cz];split<;>omega
theorem Ez {p q:Nat→Bool}:∀ {k:Nat},(∀ j,j < k→p j=true→q j=true)→cz q k≤cz p k∧(cz q k=cz p k→∀ j,j < k→p j=q j)
 |0,_=>⟨Nat.le_refl _,fun _ j h=>absurd h (Nat.not_lt_zero j)⟩
 |k+1,h=>by
  obtain ⟨h1,h2⟩:=Ez (k:=k) fun j hj=>h j (by omega)
  have hk:=h k (by omega)
  rw [cz,cz]
  cases hp:p k with
  |true =>
   rw [hk hp]
   simp only [if_true,Nat.add_zero]
   refine ⟨h1,fun e j hj=>?_⟩
   by_cases z:j=k
   ·subst z;rw [hp,hk hp]
   ·exact h2 e j (by omega)
  |false =>
   cases hq:q k with
   |true=>simp;exact ⟨by omega,fun e=>by omega⟩
   |false =>
    simp
    refine ⟨h1,fun e j hj=>?_⟩
    by_cases z:j=k
    ·subst z;rw [hp,hq]
    ·exact h2 e j (by omega)
noncomputable def cj (P:Nat→Nat→Bool) (K:Nat):Nat→Nat
 |0=>0
 |n+1=>cj P K n+cz (P n) K
theorem FC (P:Nat→Nat→Bool) (K:Nat):∀ N,cj P K N≤N*K
 |0=>by simp [cj]
 |n+1=>by have:=FC P K n;have:=Gx (P n) K;rw [cj,Nat.succ_mul];omega
theorem EA {P:Nat→Nat→Bool}{K m:Nat}{q:Nat→Bool}:∀ {N:Nat},N≤m→cj (gU P m q) K N=cj P K N
 |0,_=>rfl
 |n+1,h=>by
  rw [cj,cj,EA (by omega)]
  have:gU P m q n=P n:=if_neg (by omega)
  rw [this]
theorem FD {P:Nat→Nat→Bool}{K m:Nat}{q:Nat→Bool} (h:cz q K < cz (P m) K):∀ {N:Nat},m < N→cj (gU P m q) K N < cj P K N
 |0,hm=>absurd hm (Nat.not_lt_zero m)
 |n+1,hm=>by
  rw [cj,cj]
  by_cases e:m=n
  ·subst e
   rw [EA (Nat.le_refl m)]
   have:gU P m q m=q:=if_pos rfl
   rw [this]
   omega
  ·have ih:=FD h (N:=n) (by omega)
   have:gU P m q n=P n:=if_neg fun z=>e z.symm
   rw [this];omega
def Cl (Bk:List (List Nat)) (pass P:Nat→Nat→Bool) (K n:Nat):Prop:=∀ m∈Bk.getD n [],∀ j,j < K→P n j=true→pass m j=true→P m j=true
structure SI (Bk:List (List Nat)) (pass P0:Nat→Nat→Bool) (N K:Nat) (P:Nat→Nat→Bool):Prop where
 up:∀ n j,n < N→j < K→P0 n j=true→P n j=true
 sd:∀ Q:Nat→Nat→Prop,(∀ n j,n < N→j < K→P0 n j=true→Q n j)→(∀ n m j,n < N→m∈Bk.getD n []→j < K→Q n j→pass m j=true→Q m j)→∀ n j,n < N→j < K→P n j=true→Q n j
theorem Oy {Bk:List (List Nat)}{pass P0:Nat→Nat→Bool}{N K:Nat} (A1:Option (M×D)) (hN:N≤400) {n:Nat} (hn:n < N) {P:Nat→Nat→Bool} (si:SI Bk pass P0 N K P) {m:Nat} (hm:m < N) (rS:m∈Bk.getD n []) {ws:List Nat} (hw:ws.length≤1000000) (o7:Option (M×D)) :
  ∃ P' aY bC,pM [some (.al,.lst (dm Bk)),A1,some (.al,.lst (aE pass N K)),some (.bo,.lst (aE P N K)),some (.bo,.lst (aq ws)),some (.fr,.int (n:Int)),some (.al,.int (m:Int)),o7]=some (.nx [some (.al,.lst (dm Bk)),A1,some (.al,.lst (aE pass N K)),some (.bo,.lst (aE P' N K)),some (.bo,.lst (aq aY)),some (.fr,.int (n:Int)),some (.al,.int (m:Int)),bC]) ∧
   SI Bk pass P0 N K P'∧(∀ j,j < K→P' n j=P n j)∧(∀ x j,j < K→P x j=true→P' x j=true)∧(∀ j,j < K→P n j=true→pass m j=true→P' m j=true)∧(∀ x∈ws,x∈aY)∧(∀ x,x∉aY→∀ j,P' x j=P x j)∧2*cj P' K N+aY.length≤2*cj P K N+ws.length∧(∀ x∈aY,x∈ws∨x=m):=by
 have s1:ws.length < sizeLine:=Nat.lt_of_le_of_lt hw (by decide)
 let q:Nat→Bool:=fun j=>P m j||(P n j&&pass m j)
 have hq:q=fun j=>P m j||(P n j&&pass m j):=rfl
 unfold pM
 rw [av (e':=[some (.al,.lst (dm Bk)),A1,some (.al,.lst (aE pass N K)),some (.bo,.lst (aE P N K)),some (.bo,.lst (aq ws)),some (.fr,.int (n:Int)),some (.al,.int (m:Int)),some (.fr,bI q K)]) (by
  simp -implicitDefEqProofs only [au,ag,jV,gz,gy,id_eq,oq,cN,ql hm,ql hn,oy,jA,cS,Fx,Gw,fN,tz,tq,hq])]
 have hc:(jB (ag hU (jV 7) (ag ak (jV 3) (jV 6)))) [some (.al,.lst (dm Bk)),A1,some (.al,.lst (aE pass N K)),some (.bo,.lst (aE P N K)),some (.bo,.lst (aq ws)),some (.fr,.int (n:Int)),some (.al,.int (m:Int)),some (.fr,bI q K)]=some (!decide (((bp q K:Nat):Int)=((bp (P m) K:Nat):Int))):=by
  simp -implicitDefEqProofs only [jB,ag,jV,gz,gy,id_eq,oq,cN,ql hm,oy,jA]
  unfold bI
  rw [Ga]
  rfl
 by_cases he:bp q K=bp (P m) K
 ·rw [bK (by rw [hc,he];simp)]
  refine ⟨P,ws,_,rfl,si,fun _ _=>rfl,fun _ _ _ h=>h,fun j hj h1 h2=>?_,fun _ h=>h,fun _ _ _=>rfl,Nat.le_refl _,fun _ h=>.inl h⟩
  have:=QS he j hj
  rw [←this,hq]
  simp [h1,h2]
 ·have aU:cz q K < cz (P m) K:=by
   obtain ⟨h1,h2⟩:=Ez (p:=P m) (q:=q) (k:=K) fun j _ h=>by rw [hq];simp [h]
   rcases Nat.lt_or_eq_of_le h1 with z|z
   ·exact z
   ·exact absurd (p9 fun j hj=>(h2 z j hj).symm) he
  have eE:n≠m:=fun e=>he (p9 fun j _=>by
   show (P m j||(P n j&&pass m j))=P m j
   rw [e]
   by_cases h:P m j=true<;>simp [h])
  rw [bh (by rw [hc,decide_eq_false (fun z=>he (by omega))];rfl)]
  have mS:df (aE P N K).length (m:Int)=some m:=by
   unfold df
   rw [uk,if_pos (by omega),if_pos (by omega)];simp
  have um:gU P m q m=q:=if_pos rfl
  have ux:∀ x,x≠m→gU P m q x=P x:=fun x h=>if_neg h
  refine ⟨gU P m q,ws++[m],some (.fr,bI q K),?_,⟨fun x j hx hj h=>?_,fun Q h1 h2 x j hx hj h=>?_⟩,fun j _=>by rw [ux n eE],fun x j _ h=>?_,fun j _ h1 h2=>by rw [um,hq];simp [h1,h2],fun x h=>List.mem_append_left _ h,fun x hx j=>by rw [ux x fun e=>hx (by rw [e];simp)],?_,fun x hx=>by simpa using hx⟩
  ·simp -implicitDefEqProofs only [aj,dB,cy,jV,gz,gy,id_eq,oq,iR,eV,if_true,dE,own,mS,uq,tz,tq,uv,oi,dq,s1,Dq]
  ·by_cases e:x=m
   ·subst e;rw [um,hq];simp [si.up x j hx hj h]
   ·rw [ux x e];exact si.up x j hx hj h
  ·by_cases e:x=m
   ·subst e
    rw [um,hq] at h
    simp only [Bool.or_eq_true,Bool.and_eq_true] at h
    rcases h with h|⟨h,h'⟩
    ·exact si.sd Q h1 h2 x j hx hj h
    ·exact h2 n x j hn rS hj (si.sd Q h1 h2 n j hn hj h) h'
   ·rw [ux x e] at h;exact si.sd Q h1 h2 x j hx hj h
  ·by_cases e:x=m
   ·subst e;rw [um,hq];simp [h]
   ·rw [ux x e];exact h
  ·have:=FD aU hm
   rw [List.length_append];simp only [List.length_cons,List.length_nil];omega
theorem MZ {Bk:List (List Nat)}{pass P0:Nat→Nat→Bool}{N K:Nat} (A1:Option (M×D)) (hN:N≤400) {n:Nat} (hn:n < N) {P:Nat→Nat→Bool} (si:SI Bk pass P0 N K P) (hm:∀ m∈Bk.getD n [],m < N) {ws:List Nat} (hw:2*cj P K N+ws.length≤900000) (o6 o7:Option (M×D)) :
  ∃ P' aY cg bC,forL (gN 6) pM .al (aq (Bk.getD n [])) [some (.al,.lst (dm Bk)),A1,some (.al,.lst (aE pass N K)),some (.bo,.lst (aE P N K)),some (.bo,.lst (aq ws)),some (.fr,.int (n:Int)),o6,o7]=some (.nx [some (.al,.lst (dm Bk)),A1,some (.al,.lst (aE pass N K)),some (.bo,.lst (aE P' N K)),some (.bo,.lst (aq aY)),some (.fr,.int (n:Int)),cg,bC]) ∧
   SI Bk pass P0 N K P'∧(∀ j,j < K→P' n j=P n j)∧(∀ x j,j < K→P x j=true→P' x j=true)∧(∀ m∈Bk.getD n [],∀ j,j < K→P n j=true→pass m j=true→P' m j=true)∧(∀ x∈ws,x∈aY)∧(∀ x,x∉aY→∀ j,P' x j=P x j)∧2*cj P' K N+aY.length≤2*cj P K N+ws.length∧∀ x∈aY,x∈ws∨x < N:=by
 generalize Zx:Bk.getD n []=ms at hm
 obtain ⟨e',l1,P',aY,cg,bC,he,a1,a2,a3,a4,a5,a6,a7,a8⟩:=cL (g:=gN 6) (b:=pM) (m:=.al) (ds:=aq ms) (e:=[some (.al,.lst (dm Bk)),A1,some (.al,.lst (aE pass N K)),some (.bo,.lst (aE P N K)),some (.bo,.lst (aq ws)),some (.fr,.int (n:Int)),o6,o7])
  (fun i e=>∃ (P':Nat→Nat→Bool) (aY:List Nat) (o6 o7:Option (M×D)),e=[some (.al,.lst (dm Bk)),A1,some (.al,.lst (aE pass N K)),some (.bo,.lst (aE P' N K)),some (.bo,.lst (aq aY)),some (.fr,.int (n:Int)),o6,o7] ∧
   SI Bk pass P0 N K P'∧(∀ j,j < K→P' n j=P n j)∧(∀ x j,j < K→P x j=true→P' x j=true)∧(∀ m∈ms.take i,∀ j,j < K→P n j=true→pass m j=true→P' m j=true)∧(∀ x∈ws,x∈aY)∧(∀ x,x∉aY→∀ j,P' x j=P x j)∧2*cj P' K N+aY.length≤2*cj P K N+ws.length∧∀ x∈aY,x∈ws∨x < N)
  ⟨P,ws,o6,o7,rfl,si,(fun _ _=>rfl),(fun _ _ _ h=>h),(fun m h=>by simp at h),(fun _ h=>h),(fun _ _ _=>rfl),Nat.le_refl _,fun _ h=>.inl h⟩
  (fun i d e hd aZ=>by
   obtain ⟨P1,Zy,o6,o7,he,a1,a2,a3,a4,a5,a6,a7,a8⟩:=aZ
   subst he
   obtain ⟨m,jr,rfl⟩:∃ m,ms[i]?=some m∧d=.int (m:Int):=by
    unfold aq at hd
    rw [List.getElem?_map] at hd
    cases e:ms[i]? with
    |none=>rw [e] at hd;cases hd
    |some r=>rw [e] at hd;cases hd;exact ⟨r,rfl,rfl⟩
   have zR:=List.mem_of_getElem? jr
   obtain ⟨P2,xj,bC,q,b1,b2,b3,b4,b5,b6,b7,b8⟩:=Oy A1 hN hn a1 (hm m zR) (by rw [Zx];exact zR) (ws:=Zy) (by omega) o7
   refine ⟨_,_,rfl,q,P2,xj,_,bC,rfl,b1,fun j hj=>by rw [b2 j hj,a2 j hj],fun x j hj h=>b3 x j hj (a3 x j hj h),fun x hx j hj h1 h2=>?_,fun x h=>b5 x (a5 x h),fun x hx j=>?_,by omega,fun x hx=>?_⟩
   ·rw [List.take_add_one,jr] at hx
    rcases List.mem_append.mp hx with z|z
    ·exact b3 x j hj (a4 x z j hj h1 h2)
    ·have:x=m:=by simpa using z
     subst this
     exact b4 j hj (by rw [a2 j hj];exact h1) h2
   ·rw [b6 x hx j,a6 x (fun z=>hx (b5 x z)) j]
   ·rcases b8 x hx with z|z
    ·exact a8 x z
    ·exact .inr (z▸hm m zR))
 subst he
 rw [dq,List.take_length] at a4
 exact ⟨P',aY,cg,bC,l1,a1,a2,a3,a4,a5,a6,a7,a8⟩
theorem M0 {Bk:List (List Nat)}{pass P0:Nat→Nat→Bool}{N K:Nat} (hB:Bk.length=N) (hN:N≤400) (hK:K≤400) (hm:∀ n,∀ m∈Bk.getD n [],m < N) :
  ∃ P,tV [.lst (dm Bk),.lst (aE P0 N K),.lst (aE pass N K)]=some (.un,.lst (aE P N K))∧SI Bk pass P0 N K P∧∀ n,n < N→Cl Bk pass P K n:=by
 have hNK:N*K≤160000:=Nat.mul_le_mul hN hK
 obtain ⟨e',n',l1,⟨P,ws,o5,o6,o7,he,si,hw,Zz,xc⟩,hc⟩|⟨_,_,_,_,hf⟩:=DH (c:=pN) (b:=xv)
  (fun mu e=>∃ (P:Nat→Nat→Bool) (ws:List Nat) (o5 o6 o7:Option (M×D)),e=[some (.al,.lst (dm Bk)),some (.al,.lst (aE P0 N K)),some (.al,.lst (aE pass N K)),some (.bo,.lst (aE P N K)),some (.bo,.lst (aq ws)),o5,o6,o7]∧SI Bk pass P0 N K P∧(∀ x∈ws,x < N)∧(2*cj P K N+ws.length=mu∧mu≤900000)∧∀ n,n < N→n∉ws→Cl Bk pass P K n)
  (fun _ _=>False)
  (fun mu e aZ=>by
   obtain ⟨P,ws,o5,o6,o7,he,si,hw,Zz,xc⟩:=aZ
   subst he
   have hC:pN [some (.al,.lst (dm Bk)),some (.al,.lst (aE P0 N K)),some (.al,.lst (aE pass N K)),some (.bo,.lst (aE P N K)),some (.bo,.lst (aq ws)),o5,o6,o7]=some (decide ((0:Int) < (ws.length:Int))):=by
    unfold pN
    simp -implicitDefEqProofs only [jB,ag,aJ,ae,ah,jV,jC,gz,gy,id_eq,oq,cU,dq,nS,bf]
   rw [hC]
   rcases List.eq_nil_or_concat ws with rfl|⟨aY,n,rfl⟩
   ·exact .inl rfl
   rw [List.concat_eq_append] at *
   have r6:n < N:=hw n (by simp)
   refine .inr ⟨by rw [decide_eq_true (by rw [List.length_append];simp only [List.length_cons,List.length_nil];omega)],.inl ?_⟩
   have hl:(aY++[n]).length=aY.length+1:=by simp
   obtain ⟨P',xj,cg,bC,q,a1,a2,a3,a4,a5,a6,a7,a8⟩:=MZ (pass:=pass) (P0:=P0) (some (.al,.lst (aE P0 N K))) hN r6 si (hm n) (ws:=aY) (by omega) o6 o7
   refine ⟨_,2*cj P' K N+xj.length,.inl ?_,⟨P',xj,some (.fr,.int (n:Int)),cg,bC,rfl,a1,fun x hx=>?_,⟨rfl,by omega⟩,fun x hx KQ=>?_⟩,by omega⟩
   ·unfold xv
    have zS:kM 5 4 [some (.al,.lst (dm Bk)),some (.al,.lst (aE P0 N K)),some (.al,.lst (aE pass N K)),some (.bo,.lst (aE P N K)),some (.bo,.lst (aq (aY++[n]))),o5,o6,o7]=some (.nx [some (.al,.lst (dm Bk)),some (.al,.lst (aE P0 N K)),some (.al,.lst (aE pass N K)),some (.bo,.lst (aE P N K)),some (.bo,.lst (aq aY)),some (.fr,.int (n:Int)),o6,o7]):=by
     have e1:(aq (aY++[n]))[(aq (aY++[n])).length-1]?=some (.int (n:Int)):=by simp [aq]
     have e2:(aq (aY++[n])).dropLast=aq aY:=by simp [aq]
     simp -implicitDefEqProofs only [kM,dE,own,if_true,gz,gy,oq,e1,e2,tz,tq]
    rw [av zS]
    have KR:n < Bk.length:=by omega
    have xa:L2.bw (dm Bk) (n:Int)=some (.lst (aq (Bk.getD n []))):=by
     rw [J.lA (by simpa [dm] using KR)]
     simp only [dm,List.getElem_map]
     rw [List.getD_eq_getElem?_getD,List.getElem?_eq_getElem KR];rfl
    simp -implicitDefEqProofs only [aW,bP,ag,jV,gz,gy,id_eq,oq,cN,xa,oy,cS,bV]
    exact q
   ·rcases a8 x hx with z|z
    ·exact hw x (List.mem_append_left _ z)
    ·exact z
   ·by_cases KS:x=n
    ·subst KS
     exact fun m mV j hj h1 h2=>a4 m mV j hj (by rw [←a2 j hj];exact h1) h2
    ·have Xj:x∉aY++[n]:=fun z=>by
      rcases List.mem_append.mp z with y|y
      ·exact KQ (a5 x y)
      ·exact KS (by simpa using y)
     exact fun m mV j hj h1 h2=>a3 m j hj (xc x hx Xj m mV j hj (by rw [←a6 x KQ j];exact h1) h2))
  (n:=2*cj P0 K N+N) (e:=[some (.al,.lst (dm Bk)),some (.al,.lst (aE P0 N K)),some (.al,.lst (aE pass N K)),some (.bo,.lst (aE P0 N K)),some (.bo,.lst (aq (List.range N))),none,none,none])
  ⟨P0,List.range N,none,none,none,rfl,⟨fun _ _ _ _ h=>h,fun Q h1 _=>h1⟩,(fun x h=>List.mem_range.mp h),⟨by rw [List.length_range],by have:=FC P0 K N;omega⟩,fun n h1 h2=>absurd (List.mem_range.mpr h1) h2⟩
 ·subst he
  have hz:ws=[]:=by
   unfold pN at hc
   simp -implicitDefEqProofs only [jB,ag,aJ,ae,ah,jV,jC,gz,gy,id_eq,oq,cU,dq,nS,bf] at hc
   have:=Option.some.inj hc
   rw [decide_eq_false_iff_not] at this
   exact List.length_eq_zero_iff.mp (by omega)
  subst hz
  refine ⟨P,?_,si,fun n hn=>xc n hn (fun z=>nomatch z)⟩
  have bT:-4611686018427387904≤(N:Int)∧(N:Int)≤16777216:=by omega
  have ht:(N:Int).toNat=N:=by omega
  unfold tV fn Dm
  simp only [ck,bj,bt]
  rw [av (e':=[some (.al,.lst (dm Bk)),some (.al,.lst (aE P0 N K)),some (.al,.lst (aE pass N K)),some (.bo,.lst (aE P0 N K)),none,none,none,none]) (by
   simp -implicitDefEqProofs only [au,aJ,ae,ah,jV,lI,S7 (QZ P0 N K),gz,gy,id_eq,oq,fO,tz,tq])]
  rw [av (e':=[some (.al,.lst (dm Bk)),some (.al,.lst (aE P0 N K)),some (.al,.lst (aE pass N K)),some (.bo,.lst (aE P0 N K)),some (.bo,.lst (aq (List.range N))),none,none,none]) (by
   simp -implicitDefEqProofs only [au,vU,aJ,ae,ah,jV,gz,gy,id_eq,oq,cU,uk,bT,and_self,if_true,ht,fO,ui,tz,tq])]
  rw [av l1]
  rfl
 ·exact hf.elim
noncomputable def lift (rs:List Row) (g:Row→Nat→Bool) (n j:Nat):Bool:=match rs[n]? with
 |some r=>g r j
 |none=>false
theorem qa {rs:List Row}{g:Row→Nat→Bool}{n:Nat}{r:Row} (h:rs[n]?=some r) (j:Nat):lift rs g n j=g r j:=by unfold lift;rw [h]
theorem Oz (rs:List Row) (g:Row→Nat→Bool) (K:Nat):(rs.map fun r=>bI (g r) K)=aE (lift rs g) rs.length K:=by
 refine List.ext_getElem (by simp [aE]) fun i h1 h2=>?_
 simp only [aE,List.getElem_map,List.getElem_range]
 have hi:i < rs.length:=by simpa using h1
 exact iS fun j _=>(qa (by simp) j).symm
noncomputable def cK (l:List De) (r:Row) (j:Nat):Bool:=true&&!gu l r j
noncomputable def eR (l:List De) (r:Row) (j:Nat):Bool:=cK l r j&&(Row.cQ r||bQ l (sets r) j)
inductive gw (rs:List Row) (j:Nat):Nat→Prop
 |stop {n:Nat}{r:Row}:rs[n]?=some r→eR (kn rs) r j=true→gw rs j n
 |step {n m:Nat}{r:Row}:rs[n]?=some r→cK (kn rs) r j=true→aO rs n m→gw rs j m→gw rs j n
theorem Cp {α:Type}{fe:Ev→Option (M×D)}{m m':M}{fr:Ev}{g f:α→D}:∀ rs:List α,(∀ r∈rs,fe (some (m,g r)::fr)=some (m',f r))→cY dz fe m fr (rs.map g)=some ((rs.map f).map fun y=>(m',y))
 |[],_=>rfl
 |r::rs,h=>by
  have ih:=Cp (fe:=fe) (m:=m) (m':=m') (fr:=fr) (g:=g) (f:=f) rs fun x hx=>h x (List.mem_cons_of_mem _ hx)
  rw [mq,cY,show dz (some (m,g r)::fr)=some true from rfl,oq,if_pos rfl,h r List.mem_cons_self,oq,ih,oq];rfl
theorem Lw {rs:List Row} (g:Good rs) (hl:rs.length≤300):∃ P,sx [.lst (rs.map Row.d)]=some (.un,.lst (aE P rs.length (kn rs).length))∧∀ n j,n < rs.length→j < (kn rs).length→(P n j=true↔gw rs j n):=by
 have hk:=lQ rs
 have e1:=DF (rs:=rs) (by omega)
 have e2:=Ow (rs:=rs) (by omega)
 have e3:=Ox (rs:=rs) (by omega)
 have e4:=Cg (rs:=rs) (by omega)
 obtain ⟨Bk,e5,b1,b2,b3⟩:=L3 g (by omega)
 generalize hK:(kn rs).length=K at e1 e2 e3 hk
 obtain ⟨P,e6,si,cl⟩:=M0 (Bk:=Bk) (pass:=lift rs (cK (kn rs))) (P0:=lift rs (eR (kn rs))) (N:=rs.length) (K:=K) b1 (by omega) (by omega) (fun n m hm=>by obtain ⟨r,hr,_⟩:=b3 m n hm;exact (List.getElem?_eq_some_iff.mp hr).1)
 refine ⟨P,?_,fun n j hn hj=>⟨fun h=>?_,fun h=>?_⟩⟩
 ·have ex:=Cp (fe:=ag gM (jV 1) (cf kN (jV 0))) (m:=.fr) (m':=.fr) (fr:=[some (.fr,bI (fun _=>true) K)]) (g:=fun r=>bI (gu (kn rs) r) K) (f:=fun r=>bI (cK (kn rs) r) K) rs (fun r _=>by
   simp -implicitDefEqProofs only [ag,cf,jV,gz,gy,id_eq,oq]
   exact Fy)
  obtain ⟨e',l1,o5,o6,he⟩:=cL (g:=gT 2 (bx (gN 5) (bx (gN 6) cX))) (b:=se) (m:=.al) (ds:=bG (rs.map Row.d)) (e:=[some (.al,.lst (rs.map Row.d)),some (.fr,bI (fun _=>true) K),some (.bo,.lst (rs.map fun r=>bI (cK (kn rs) r) K)),some (.bo,.lst (rs.map fun r=>bI (bQ (kn rs) (sets r)) K)),some (.bo,.lst []),none,none])
   (fun i e=>∃ o5 o6,e=[some (.al,.lst (rs.map Row.d)),some (.fr,bI (fun _=>true) K),some (.bo,.lst (rs.map fun r=>bI (cK (kn rs) r) K)),some (.bo,.lst (rs.map fun r=>bI (bQ (kn rs) (sets r)) K)),some (.bo,.lst ((rs.take i).map fun r=>bI (eR (kn rs) r) K)),o5,o6]) ⟨none,none,rfl⟩
   (fun i d e hd aZ=>by
    obtain ⟨o5,o6,he⟩:=aZ
    subst he
    obtain ⟨r,hr,rfl⟩:=Eg hd
    have hi:i < rs.length:=(List.getElem?_eq_some_iff.mp hr).1
    have s1:((rs.take i).map fun r=>bI (eR (kn rs) r) K).length < sizeLine:=by rw [ln,List.length_take];exact Nat.lt_of_le_of_lt (show min i rs.length≤300 by omega) (by decide)
    have ZC:∀ f:Row→D,L2.bw (rs.map f) (i:Int)=some (f r):=fun f=>by
     rw [lA (by rw [ln];exact hi),List.getElem_map,(List.getElem?_eq_some_iff.mp hr).2]
    have hx:(n9 (jB (ag aN (ag ak (jV 6) (jC (.int 0))) (jC (.str "end")))) (ag ak (jV 2) (jV 5)) (ag gM (ag ak (jV 2) (jV 5)) (ag ak (jV 3) (jV 5)))) [some (.al,.lst (rs.map Row.d)),some (.fr,bI (fun _=>true) K),some (.bo,.lst (rs.map fun r=>bI (cK (kn rs) r) K)),some (.bo,.lst (rs.map fun r=>bI (bQ (kn rs) (sets r)) K)),some (.bo,.lst ((rs.take i).map fun r=>bI (eR (kn rs) r) K)),some (.al,.int (i:Int)),some (.al,r.d)]=some (.fr,bI (eR (kn rs) r) K):=by
     simp -implicitDefEqProofs only [n9,jB,ag,jV,jC,gz,gy,id_eq,oq,cI,cS,cT,bf,fU,cN,ZC,oy,jA,Fx]
     cases he:Row.cQ r with
     |true=>rw [if_pos rfl,iS (p:=cK (kn rs) r) (q:=eR (kn rs) r) fun j _=>by unfold eR;rw [he];simp]
     |false=>rw [if_neg Bool.false_ne_true,iS (p:=fun j=>cK (kn rs) r j&&bQ (kn rs) (sets r) j) (q:=eR (kn rs) r) fun j _=>by unfold eR;rw [he];simp]
    refine ⟨_,[some (.al,.lst (rs.map Row.d)),some (.fr,bI (fun _=>true) K),some (.bo,.lst (rs.map fun r=>bI (cK (kn rs) r) K)),some (.bo,.lst (rs.map fun r=>bI (bQ (kn rs) (sets r)) K)),some (.bo,.lst ((rs.take (i+1)).map fun r=>bI (eR (kn rs) r) K)),some (.al,.int (i:Int)),some (.al,r.d)],rfl,?_,_,_,rfl⟩
    show se [some (.al,.lst (rs.map Row.d)),some (.fr,bI (fun _=>true) K),some (.bo,.lst (rs.map fun r=>bI (cK (kn rs) r) K)),some (.bo,.lst (rs.map fun r=>bI (bQ (kn rs) (sets r)) K)),some (.bo,.lst ((rs.take i).map fun r=>bI (eR (kn rs) r) K)),some (.al,.int (i:Int)),some (.al,r.d)]=_
    unfold se
    simp -implicitDefEqProofs only [cy,hx,oq,eV,if_true,dE,own,gz,gy,s1,tz,tq]
    rw [List.take_add_one,hr,Option.toList_some,List.map_append]
    rfl)
  subst he
  have hE:(bG (rs.map Row.d)).length=rs.length:=by simp [bG]
  rw [hE,List.take_length] at l1
  unfold sx fn Bq
  simp only [ck,bj,bt]
  rw [av (e':=[some (.al,.lst (rs.map Row.d)),some (.fr,bI (fun _=>true) K),none,none,none,none,none]) (by
   simp -implicitDefEqProofs only [au,aw,ae,ah,jV,gz,gy,id_eq,oq,mq,mn,e1,fN,tz,tq])]
  rw [av (e':=[some (.al,.lst (rs.map Row.d)),some (.fr,bI (fun _=>true) K),some (.bo,.lst (rs.map fun r=>bI (cK (kn rs) r) K)),none,none,none,none]) (by
   simp -implicitDefEqProofs only [au,b9,bP,aw,ae,ah,jV,gz,gy,id_eq,oq,mq,mn,e2,bV,oy]
   rw [show eY [some (M.al,D.lst (rs.map Row.d)),some (.fr,bI (fun _=>true) K),none,none,none,none,none] [1]=[some (.fr,bI (fun _=>true) K)] from rfl,ex,oq,gG (by rw [ln];omega),oq]
   rfl)]
  rw [av (e':=[some (.al,.lst (rs.map Row.d)),some (.fr,bI (fun _=>true) K),some (.bo,.lst (rs.map fun r=>bI (cK (kn rs) r) K)),some (.bo,.lst (rs.map fun r=>bI (bQ (kn rs) (sets r)) K)),none,none,none]) (by
   simp -implicitDefEqProofs only [au,aw,ae,ah,jV,gz,gy,id_eq,oq,mq,mn,e3,fO,tz,tq])]
  rw [av (e':=[some (.al,.lst (rs.map Row.d)),some (.fr,bI (fun _=>true) K),some (.bo,.lst (rs.map fun r=>bI (cK (kn rs) r) K)),some (.bo,.lst (rs.map fun r=>bI (bQ (kn rs) (sets r)) K)),some (.bo,.lst []),none,none]) rfl]
  rw [av (e':=[some (.al,.lst (rs.map Row.d)),some (.fr,bI (fun _=>true) K),some (.bo,.lst (rs.map fun r=>bI (cK (kn rs) r) K)),some (.bo,.lst (rs.map fun r=>bI (bQ (kn rs) (sets r)) K)),some (.bo,.lst (rs.map fun r=>bI (eR (kn rs) r) K)),o5,o6]) (by
   rw [cu,show aX 0 [some (.al,.lst (rs.map Row.d)),some (.fr,bI (fun _=>true) K),some (.bo,.lst (rs.map fun r=>bI (cK (kn rs) r) K)),some (.bo,.lst (rs.map fun r=>bI (bQ (kn rs) (sets r)) K)),some (.bo,.lst []),none,none]=[some (.al,.lst (rs.map Row.d)),some (.fr,bI (fun _=>true) K),some (.bo,.lst (rs.map fun r=>bI (cK (kn rs) r) K)),some (.bo,.lst (rs.map fun r=>bI (bQ (kn rs) (sets r)) K)),some (.bo,.lst []),none,none] from rfl]
   simp -implicitDefEqProofs only [aW,eQ,ae,jV,ah,gz,gy,oq,id_eq,bV,oy]
   exact l1)]
  simp -implicitDefEqProofs only [aI,aw,ae,ah,jV,gz,gy,id_eq,oq,mq,mn,e4,e5,Oz,e6,yt]
 ·refine si.sd (fun n j=>gw rs j n) (fun n j hn hj h=>?_) (fun n m j hn hm hj h hp=>?_) n j hn hj h
  ·have hr:rs[n]?=some (rs[n]'hn):=by simp
   rw [qa hr] at h
   exact .stop hr h
  ·have hs:=b3 m n hm
   obtain ⟨r,hr,_⟩:=id hs
   rw [qa hr] at hp
   exact .step hr hp hs h
 ·induction h with
  |@stop n r hr hd=>exact si.up n j hn hj (by rw [qa hr];exact hd)
  |@step n m r hr hp hs _ ih =>
   obtain ⟨_,_,_,hm⟩:=id hs
   exact cl m hm n (b2 n m hs) j hj (ih hm) (by rw [qa hr];exact hp)
noncomputable def pK (q:Int×Int):List Key:=[.inl q.1,.inl q.2]
theorem FE (q:Int×Int):mh (jn q)=some (pK q):=rfl
noncomputable def de (l:List (Int×Int)) (f:Int→D):List (List Key×D):=l.foldl (fun d q=>putD d (pK q) (f q.2)) []
theorem xQ (l:List (Int×Int)) (q:Int×Int) (f:Int→D):de (l++[q]) f=putD (de l f) (pK q) (f q.2):=by
 unfold de;rw [List.foldl_append];rfl
theorem yi (f:Int→D) (l:List (Int×Int)):∀ i,(de (l.take i) f).length≤i
 |0=>by simp [de]
 |i+1=>by
  have ih:=yi f l i
  cases h:l[i]? with
  |none=>rw [List.take_add_one,h];simp;omega
  |some q =>
   rw [List.take_add_one,h,Option.toList_some,xQ]
   have:=Dz (de (l.take i) f) (pK q) (f q.2)
   omega
theorem Q0 {f g:Int→D}{l:List (Int×Int)} (h:∀ q∈l,f q.2=g q.2):de l f=de l g:=by
 unfold de
 have go:∀ (l:List (Int×Int)) (acc:List (List Key×D)),(∀ q∈l,f q.2=g q.2)→l.foldl (fun d q=>putD d (pK q) (f q.2)) acc=l.foldl (fun d q=>putD d (pK q) (g q.2)) acc:=by
  intro l
  induction l with
  |nil=>intro acc _;rfl
  |cons q l ih=>intro acc h;rw [List.foldl_cons,List.foldl_cons,h q List.mem_cons_self,ih _ fun x hx=>h x (List.mem_cons_of_mem _ hx)]
 exact go l [] h
noncomputable def kf:List Key→Int
 |[_,.inl m]=>m
 |_=>0
theorem Q5 {f:Int→D} (l:List (Int×Int)):∀ kv∈de l f,kv.2=f (kf kv.1):=by
 have go:∀ (l:List (Int×Int)) (acc:List (List Key×D)),(∀ kv∈acc,kv.2=f (kf kv.1))→∀ kv∈l.foldl (fun d q=>putD d (pK q) (f q.2)) acc,kv.2=f (kf kv.1):=by
  intro l
  induction l with
  |nil=>intro acc h;exact h
  |cons q l ih =>
   intro acc h
   rw [List.foldl_cons]
   refine ih _ fun kv bS=>?_
   rcases DB bS with ⟨z,_⟩|rfl
   ·exact h kv z
   ·rfl
 exact go l [] (fun kv h=>nomatch h)
theorem yI {rs:List Row} (g:Good rs) {k:Nat}{q:Int×Int} (h:q∈bH rs k):0≤q.2∧q.2 < rs.length:=by
 have:=g.pos
 unfold bH at h
 rcases List.mem_cons.mp h with rfl|h
 ·simp;omega
 ·obtain ⟨n,_,hm⟩:=List.mem_flatMap.mp h
  obtain ⟨m,Bc,rfl⟩:=List.mem_map.mp hm
  exact xK g Bc
theorem FG {l:List (Int×Int)}{i:Nat}{d:D} (h:(bU l)[i]?=some d):∃ q,l[i]?=some q∧d=jn q:=by
 unfold bU at h
 rw [List.getElem?_map] at h
 cases e:l[i]? with
 |none=>rw [e] at h;cases h
 |some r=>rw [e] at h;cases h;exact ⟨r,rfl,rfl⟩
theorem p1 (m n:M) (q:Int×Int):ak (m,jn q) (n,.int 1)=some (aV m,.int q.2):=rfl
theorem EB {P:Nat→Nat→Bool}{N K:Nat}{m:Int} (h0:0≤m) (h1:m < N):L2.bw (aE P N K) m=some (bI (P m.toNat) K):=by
 have:=ql (P:=P) (N:=N) (K:=K) (m:=m.toNat) (by omega)
 rw [Int.toNat_of_nonneg h0] at this;exact this
theorem M3 {rs:List Row} (g:Good rs) (hl:rs.length≤300):∃ P:Nat→Nat→Bool,ly [.lst (rs.map Row.d)]=some (.un,.dt (de (bH rs rs.length) fun m=>bI (fun j=>true&&!P m.toNat j) (kn rs).length))∧∀ n j,n < rs.length→j < (kn rs).length→(P n j=true↔gw rs j n):=by
 have hk:=lQ rs
 have e1:=DF (rs:=rs) (by omega)
 obtain ⟨P,e2,hP⟩:=Lw g hl
 have e3:=MV (rs:=rs) (by omega)
 refine ⟨P,?_,hP⟩
 have kW:=p8 rs rs.length
 obtain ⟨e',l1,o4,he⟩:=cL (g:=gN 4) (b:=tK) (m:=.fr) (ds:=bU (bH rs rs.length)) (e:=[some (.al,.lst (rs.map Row.d)),some (.fr,bI (fun _=>true) (kn rs).length),some (.bo,.lst (aE P rs.length (kn rs).length)),some (.bo,.dt []),none])
  (fun i e=>∃ o4,e=[some (.al,.lst (rs.map Row.d)),some (.fr,bI (fun _=>true) (kn rs).length),some (.bo,.lst (aE P rs.length (kn rs).length)),some (.bo,.dt (de ((bH rs rs.length).take i) fun m=>bI (fun j=>true&&!P m.toNat j) (kn rs).length)),o4]) ⟨none,rfl⟩
  (fun i d e hd aZ=>by
   obtain ⟨o4,he⟩:=aZ
   subst he
   obtain ⟨q,hq,rfl⟩:=FG hd
   have hi:i < (bH rs rs.length).length:=(List.getElem?_eq_some_iff.mp hq).1
   obtain ⟨q0,q1⟩:=yI g (List.mem_of_getElem? hq)
   have xg:=yi (fun m=>bI (fun j=>true&&!P m.toNat j) (kn rs).length) (bH rs rs.length) i
   have s1:(de ((bH rs rs.length).take i) fun m=>bI (fun j=>true&&!P m.toNat j) (kn rs).length).length < sizeLine:=Nat.lt_of_le_of_lt (show _≤700 by omega) (by decide)
   refine ⟨_,[some (.al,.lst (rs.map Row.d)),some (.fr,bI (fun _=>true) (kn rs).length),some (.bo,.lst (aE P rs.length (kn rs).length)),some (.bo,.dt (de ((bH rs rs.length).take (i+1)) fun m=>bI (fun j=>true&&!P m.toNat j) (kn rs).length)),some (.fr,jn q)],rfl,?_,_,rfl⟩
   show tK [some (.al,.lst (rs.map Row.d)),some (.fr,bI (fun _=>true) (kn rs).length),some (.bo,.lst (aE P rs.length (kn rs).length)),some (.bo,.dt (de ((bH rs rs.length).take i) fun m=>bI (fun j=>true&&!P m.toNat j) (kn rs).length)),some (.fr,jn q)]=_
   have hx:(ag gM (jV 1) (cf kN (ag ak (jV 2) (ag ak (jV 4) (jC (.int 1)))))) [some (.al,.lst (rs.map Row.d)),some (.fr,bI (fun _=>true) (kn rs).length),some (.bo,.lst (aE P rs.length (kn rs).length)),some (.bo,.dt (de ((bH rs rs.length).take i) fun m=>bI (fun j=>true&&!P m.toNat j) (kn rs).length)),some (.fr,jn q)]=some (.fr,bI (fun j=>true&&!P q.2.toNat j) (kn rs).length):=by
    simp -implicitDefEqProofs only [ag,cf,jV,jC,gz,gy,id_eq,oq,p1,cN,EB q0 q1,oy,jA]
    exact Fy
   unfold tK
   simp -implicitDefEqProofs only [iX,hx,jV,gz,gy,id_eq,oq,FE,eV,if_true,i5,own,s1,tz,tq]
   rw [List.take_add_one,hq,Option.toList_some,xQ])
 subst he
 rw [uj,List.take_length] at l1
 unfold ly fn Dp
 simp only [ck,bj,bt]
 rw [av (e':=[some (.al,.lst (rs.map Row.d)),some (.fr,bI (fun _=>true) (kn rs).length),none,none,none]) (by
  simp -implicitDefEqProofs only [au,aw,ae,ah,jV,gz,gy,id_eq,oq,mq,mn,e1,fN,tz,tq])]
 rw [av (e':=[some (.al,.lst (rs.map Row.d)),some (.fr,bI (fun _=>true) (kn rs).length),some (.bo,.lst (aE P rs.length (kn rs).length)),none,none]) (by
  simp -implicitDefEqProofs only [au,aw,ae,ah,jV,gz,gy,id_eq,oq,mq,mn,e2,fO,tz,tq])]
 rw [av (e':=[some (.al,.lst (rs.map Row.d)),some (.fr,bI (fun _=>true) (kn rs).length),some (.bo,.lst (aE P rs.length (kn rs).length)),some (.bo,.dt []),none]) rfl]
 rw [av (e':=[some (.al,.lst (rs.map Row.d)),some (.fr,bI (fun _=>true) (kn rs).length),some (.bo,.lst (aE P rs.length (kn rs).length)),some (.bo,.dt (de (bH rs rs.length) fun m=>bI (fun j=>true&&!P m.toNat j) (kn rs).length)),o4]) (by
  simp -implicitDefEqProofs only [aW,bP,aw,ae,ah,jV,gz,gy,id_eq,oq,mq,mn,e3,bV,oy]
  exact l1)]
 rfl
theorem Up (a b:Ko):PyData.eqv (toPy (kD a)) (toPy (kD b))=decide (a=b):=by
 cases a<;>cases b<;>simp [kD,toPy,PyData.eqv]<;>(rw [Bool.eq_iff_iff];simp)
theorem yJ (p q:De):PyData.eqv (toPy (ao p)) (toPy (ao q))=decide (p=q):=by
 obtain ⟨s,a,b⟩:=p;obtain ⟨s',a',b'⟩:=q
 simp only [ao,toPy,cO,PyData.eqv,PyData.eqvAll,Up]
 by_cases h1:s=s'<;>by_cases h2:a=a'<;>by_cases h3:b=b'<;>simp [h1,h2,h3]
theorem xR (q:De):J.plain (ao q)=true:=by
 have k:∀ a:Ko,J.plain (kD a)=true:=fun a=>by cases a<;>simp [kD,J.plain]
 simp [ao,J.plain,J.dX,k]
theorem xS (q:De):(toPy (ao q)).depth≤10:=by
 have k:∀ a:Ko,(toPy (kD a)).depth=0:=fun a=>by cases a<;>simp [kD,toPy,PyData.depth]
 simp [ao,toPy,cO,PyData.depth,PyData.depthAll,k]
theorem tN:∀ ds:List D,cO ds=ds.map toPy
 |[]=>rfl
 |d::ds=>by rw [cO,tN ds];rfl
theorem y4 (m:M) (x s:Str) (a b:Ko):f9 (m,Row.d (.rk x s a b)) (some 2) none=some (aV m,ao (s,a,b)):=rfl
theorem Uq (r:Row) (q:De):ll [r.d,ao q]=some (.fr,.bl (decide (dG r=some q))):=by
 unfold ll fn CN
 walk_at "ev"
 simp -implicitDefEqProofs only [cI,oq,cS,cT,bf,zQ]
 cases r with
 |rk x s a b =>
  have ok:i3 (ao (s,a,b)) (ao q)=true:=by
   have h1:=xS q
   have h2:=xS (s,a,b)
   have hl:lL (ao (s,a,b)) (ao q)=true:=rfl
   simp only [i3,xR,hl,Bool.and_self,Bool.true_and]
   exact decide_eq_true (by omega)
  simp -implicitDefEqProofs only [dG,Option.isSome_some,if_true,y4,cS,oq,gp,ok,yJ,nF,Option.some.injEq]
 |_=>simp [dG,out]
theorem Xk (r:Row):dH (.str r.word) [.str "reckon",.str "copy"]=(sets r).isSome:=by
 cases r with
 |rk x s a b=>exact (by decide +kernel:dH (.str ("reckon" : Str)) [.str "reckon",.str "copy"]=true)
 |cp x a=>exact (by decide +kernel:dH (.str ("copy" : Str)) [.str "reckon",.str "copy"]=true)
 |sy a=>exact (by decide +kernel:dH (.str ("say" : Str)) [.str "reckon",.str "copy"]=false)
 |go t=>exact (by decide +kernel:dH (.str ("go" : Str)) [.str "reckon",.str "copy"]=false)
 |pt a t=>exact (by decide +kernel:dH (.str ("part" : Str)) [.str "reckon",.str "copy"]=false)
 |en=>exact (by decide +kernel:dH (.str ("end" : Str)) [.str "reckon",.str "copy"]=false)
theorem Wj (m n:M) (r:Row):dM false (m,.str r.word) (n,.tup [.str "reckon",.str "copy"])=some (.fr,.bl (sets r).isSome):=by
 rw [←Xk r];rfl
theorem Xl (x y:Str):(y==x)=decide (x=y):=by
 rw [Bool.eq_iff_iff,decide_eq_true_eq,beq_iff_eq]
 exact eq_comm
theorem Gy (m n:M) (x:Str) (a b:Ko):dM false (m,.str x) (n,.tup [kD a,kD b])=some (.fr,.bl (isNm a x||isNm b x)):=by
 cases a<;>cases b<;>simp [dM,dA,vi,vh,kD,dH,isNm,jZ,Xl]
theorem zT (m:M) (q:De):f9 (m,ao q) (some 1) none=some (aV m,.tup [kD q.2.1,kD q.2.2]):=rfl
theorem Q6 (r:Row) (q:De):mY [r.d,ao q]=some (.fr,.bl (gE (sets r) q)):=by
 unfold mY fn BD
 simp -implicitDefEqProofs only [aI,kJ,ag,aQ,ae,ah,fA,dJ,gS,jV,jC,mq,mn,List.length_cons,List.length_nil,List.replicate,List.cons_append,List.nil_append,Nat.reduceAdd,Nat.sub_self,List.append_nil,gz,gy,id_eq,oq,cI,cS]
 rw [show jG [(M.fr,D.str "reckon"),(.fr,.str "copy")]=some (.fr,.tup [.str "reckon",.str "copy"]) from rfl,oq,Wj,oq]
 simp -implicitDefEqProofs only [bf,iR,oq,zT,cS]
 cases r with
 |rk x s a b =>
  rw [show ak (.al,Row.d (.rk x s a b)) (.fr,.int 1)=some (.al,.str x) from rfl]
  simp -implicitDefEqProofs only [sets,Option.isSome_some,if_true,oq,oy,zT,cS,Gy,nF,gE]
 |cp x a =>
  rw [show ak (.al,Row.d (.cp x a)) (.fr,.int 1)=some (.al,.str x) from rfl]
  simp -implicitDefEqProofs only [sets,Option.isSome_some,if_true,oq,oy,zT,cS,Gy,nF,gE]
 |_=>simp [sets,out,gE]
theorem Ur {m n:M} (q:De) (l:List De):lZ true (m,ao q) (n,.lst (l.map ao))=some (.fr,.bl (!decide (q∈l))):=by
 have h1:J.dX (l.map ao)=true:=pO fun d hd=>by obtain ⟨x,_,rfl⟩:=List.mem_map.mp hd;exact xR x
 have h2:=xS q
 have h3:(toPy (ao q)).depth≤50:=by omega
 simp only [lZ,xR,h1,h3,and_self,if_true,tN,List.any_map]
 congr 4
 rw [Bool.eq_iff_iff,List.any_eq_true,decide_eq_true_eq]
 constructor
 ·rintro ⟨y,hy,e⟩
  have e':PyData.eqv (toPy (ao y)) (toPy (ao q))=true:=e
  rw [yJ,decide_eq_true_eq] at e'
  rw [←e'];exact hy
 ·intro hq
  exact ⟨q,hq,by show PyData.eqv (toPy (ao q)) (toPy (ao q))=true;rw [yJ];simp⟩
theorem Q7 {r:Row}{l:List De} (hl:l.length≤500) (A0:Option (M×D)):sR [A0,some (.bo,.lst (l.map ao)),some (.al,r.d)]=some (.nx [A0,some (.bo,.lst ((iM l r).map ao)),some (.al,r.d)]):=by
 have s1:l.length < sizeLine:=Nat.lt_of_le_of_lt hl (by decide)
 have c1:(jB (ag aN (ag ak (jV 2) (jC (.int 0))) (jC (.str "reckon")))) [A0,some (.bo,.lst (l.map ao)),some (.al,r.d)]=some (dG r).isSome:=by
  simp -implicitDefEqProofs only [jB,ag,jV,jC,gz,gy,id_eq,oq,cI,cT,bf,zQ]
 unfold sR
 unfold iM
 cases r with
 |rk x s a b =>
  have c2:(cZ (jB (ag aN (ag ak (jV 2) (jC (.int 0))) (jC (.str "reckon")))) (jB (ag (lZ true) (fA f9 (jV 2) (dJ (jC (.int 2))) gS) (jV 1)))) [A0,some (.bo,.lst (l.map ao)),some (.al,Row.d (.rk x s a b))]=some (!decide ((s,a,b)∈l)):=by
   unfold cZ
   rw [c1,show (some (dG (.rk x s a b)).isSome:Option Bool)=some true from rfl,oq,if_pos rfl]
   simp -implicitDefEqProofs only [jB,ag,fA,dJ,gS,jV,jC,gz,gy,id_eq,oq,iR,oy,y4,Ur,bf]
  by_cases hm:(s,a,b)∈l
  ·rw [bK (by rw [c2,decide_eq_true hm];rfl)]
   simp only [dG,if_pos hm]
   rfl
  ·rw [bh (by rw [c2,decide_eq_false hm];rfl)]
   simp only [dG,if_neg hm]
   simp -implicitDefEqProofs only [cy,fA,dJ,gS,jV,jC,gz,gy,id_eq,oq,iR,oy,y4,cS,uv,T8,if_true,dE,own,ln,s1,tz,tq,List.map_append,mq,mn]
 |_ =>
  rw [bK (by unfold cZ;rw [c1];rfl)]
  rfl
theorem OB {rs:List Row} (hl:rs.length≤400):tF [.lst (rs.map Row.d)]=some (.un,.lst ((kn rs).map ao)):=by
 obtain ⟨e',l1,o2,he⟩:=cL (g:=gN 2) (b:=sR) (m:=.al) (ds:=rs.map Row.d) (e:=[some (.al,.lst (rs.map Row.d)),some (.bo,.lst ([].map ao)),none])
  (fun i e=>∃ o2,e=[some (.al,.lst (rs.map Row.d)),some (.bo,.lst ((kn (rs.take i)).map ao)),o2]) ⟨none,rfl⟩
  (fun i d e hd aZ=>by
   obtain ⟨o2,he⟩:=aZ
   subst he
   obtain ⟨r,hr,rfl⟩:=yf hd
   have hi:i < rs.length:=(List.getElem?_eq_some_iff.mp hr).1
   have xi:=uE rs i
   have q:=Q7 (r:=r) (l:=kn (rs.take i)) (by omega) (some (.al,.lst (rs.map Row.d)))
   rw [←nh rs i r hr] at q
   exact ⟨_,_,rfl,q,_,rfl⟩)
 subst he
 rw [ln,rY] at l1
 unfold tF fn BX
 simp only [ck,bj,bt]
 rw [av (e':=[some (.al,.lst (rs.map Row.d)),some (.bo,.lst ([].map ao)),none]) rfl]
 rw [av (e':=[some (.al,.lst (rs.map Row.d)),some (.bo,.lst ((kn rs).map ao)),o2]) (by
  rw [cu,show aX 0 [some (.al,.lst (rs.map Row.d)),some (.bo,.lst ([].map ao)),none]=[some (.al,.lst (rs.map Row.d)),some (.bo,.lst ([].map ao)),none] from rfl]
  simp -implicitDefEqProofs only [aW,bP,jV,gz,gy,id_eq,oq,bV,oy]
  exact l1)]
 rfl
theorem M4 {rs:List Row} (g:Good rs) (hl:rs.length≤300) {j:Nat}{q:De} (hq:(kn rs)[j]?=some q) {m:Nat} (hm:m < rs.length):∃ b,pE [.lst (rs.map Row.d),ao q,.int (m:Int)]=some (.fr,.bl b)∧(b=true↔gw rs j m):=by
  have Xm:∀ r:Row,gu (kn rs) r j=decide (dG r=some q):=fun r=>by
    unfold gu
    rw [hq]
    cases dG r<;>simp
  have Xn:∀ r:Row,bQ (kn rs) (sets r) j=gE (sets r) q:=fun r=>by unfold bQ;rw [hq]
  have W:=DH (c:=pw) (b:=xo)
    (fun mu e=>∃ (ks ws:List Nat) (o5:Option (M×D)),e=[some (.al,.lst (rs.map Row.d)),some (.al,ao q),some (.al,.int (m:Int)),some (.bo,.dk (aK ks)),some (.bo,.lst (aq ws)),o5]∧ks.Nodup∧(∀ x∈ks,x < rs.length)∧(∀ x∈ws,x < rs.length)∧(3*(rs.length-ks.length)+ws.length=mu∧mu≤1000) ∧
      (∀ x∈ks,∃ r,rs[x]?=some r∧cK (kn rs) r j=true∧eR (kn rs) r j=false∧∀ f,aO rs x f→f∈ks∨f∈ws∨∃ r,rs[f]?=some r∧cK (kn rs) r j=false) ∧
      (m∈ks∨m∈ws∨∃ r,rs[m]?=some r∧cK (kn rs) r j=false)∧∀ x∈ws,gw rs j x→gw rs j m)
    (fun m' d=>m'=.fr∧d=.bl true∧gw rs j m)
    (fun mu e aZ=>by
      obtain ⟨ks,ws,o5,he,h1,h2,h3,h4,h5,h6,h7⟩:=aZ
      subst he
      have xi:=lq _ _ h1 h2
      have hC:pw [some (.al,.lst (rs.map Row.d)),some (.al,ao q),some (.al,.int (m:Int)),some (.bo,.dk (aK ks)),some (.bo,.lst (aq ws)),o5]=some (decide ((0:Int) < (ws.length:Int))):=by
        unfold pw
        simp -implicitDefEqProofs only [jB,ag,aJ,ae,ah,jV,jC,gz,gy,id_eq,oq,cU,dq,nS,bf]
      rw [hC]
      rcases List.eq_nil_or_concat ws with rfl|⟨aY,n,rfl⟩
      · exact .inl rfl
      rw [List.concat_eq_append] at *
      have rg:(aY++[n]).length=aY.length+1:=by simp
      have r6:n < rs.length:=h3 n (by simp)
      have hr:rs[n]?=some (rs[n]'r6):=by simp
      generalize rs[n]'r6=r at hr
      have ar:=jF hr
      refine .inr ⟨by rw [decide_eq_true (by rw [rg];omega)],?_⟩
      have zS:kM 5 4 [some (.al,.lst (rs.map Row.d)),some (.al,ao q),some (.al,.int (m:Int)),some (.bo,.dk (aK ks)),some (.bo,.lst (aq (aY++[n]))),o5]=some (.nx [some (.al,.lst (rs.map Row.d)),some (.al,ao q),some (.al,.int (m:Int)),some (.bo,.dk (aK ks)),some (.bo,.lst (aq aY)),some (.fr,.int (n:Int))]):=by
        have e1:(aq (aY++[n]))[(aq (aY++[n])).length-1]?=some (.int (n:Int)):=by simp [aq]
        have e2:(aq (aY++[n])).dropLast=aq aY:=by simp [aq]
        simp -implicitDefEqProofs only [kM,dE,own,if_true,gz,gy,oq,e1,e2,tz,tq]
      have Wk:(jB (aw ll (ae (ag ak (jV 0) (jV 5)) (ae (jV 1) ah)))) [some (.al,.lst (rs.map Row.d)),some (.al,ao q),some (.al,.int (m:Int)),some (.bo,.dk (aK ks)),some (.bo,.lst (aq aY)),some (.fr,.int (n:Int))]=some (gu (kn rs) r j):=by
        simp -implicitDefEqProofs only [jB,aw,ae,ah,ag,jV,gz,gy,id_eq,oq,cN,ar,oy,mq,mn,Uq,bf,Xm]
      have c1:(cC (jB (dF false (jV 5) (jV 3))) (jB (aw ll (ae (ag ak (jV 0) (jV 5)) (ae (jV 1) ah))))) [some (.al,.lst (rs.map Row.d)),some (.al,ao q),some (.al,.int (m:Int)),some (.bo,.dk (aK ks)),some (.bo,.lst (aq aY)),some (.fr,.int (n:Int))]=some (decide (n∈ks)||gu (kn rs) r j):=by
        unfold cC
        rw [show (jB (dF false (jV 5) (jV 3))) [some (.al,.lst (rs.map Row.d)),some (.al,ao q),some (.al,.int (m:Int)),some (.bo,.dk (aK ks)),some (.bo,.lst (aq aY)),some (.fr,.int (n:Int))]=some (decide (n∈ks)) by
          simp -implicitDefEqProofs only [jB,dF,jV,jQ,keyOf,gz,gy,id_eq,oq,uW,bf,Bool.false_eq_true,if_false],oq,Wk]
        cases decide (n∈ks)<;>rfl
      unfold xo
      rw [av zS]
      have sub:∀ f,f∈aY++[n]→(n∈ks∨cK (kn rs) r j=false)→f∈ks∨f∈aY∨∃ r,rs[f]?=some r∧cK (kn rs) r j=false:=fun f hf hn=>by
        rcases List.mem_append.mp hf with z|z
        · exact .inr (.inl z)
        · have e:f=n:=by simpa using z
          subst e
          rcases hn with z|z
          · exact .inl z
          · exact .inr (.inr ⟨r,hr,z⟩)
      cases xk:(decide (n∈ks)||gu (kn rs) r j) with
      |true =>
        have oF:n∈ks∨cK (kn rs) r j=false:=by
          rcases Bool.or_eq_true _ _▸xk with z|z
          · exact .inl (of_decide_eq_true z)
          · exact .inr (by unfold cK;rw [z];rfl)
        refine .inl ⟨[some (.al,.lst (rs.map Row.d)),some (.al,ao q),some (.al,.int (m:Int)),some (.bo,.dk (aK ks)),some (.bo,.lst (aq aY)),some (.fr,.int (n:Int))],3*(rs.length-ks.length)+aY.length,.inr ?_,⟨ks,aY,_,rfl,h1,h2,fun x hx=>h3 x (List.mem_append_left _ hx),⟨rfl,by omega⟩,fun x hx=>?_,?_,fun x hx=>h7 x (List.mem_append_left _ hx)⟩,by omega⟩
        · have:(aM (cC (jB (dF false (jV 5) (jV 3))) (jB (aw ll (ae (ag ak (jV 0) (jV 5)) (ae (jV 1) ah))))) uM aR) [some (.al,.lst (rs.map Row.d)),some (.al,ao q),some (.al,.int (m:Int)),some (.bo,.dk (aK ks)),some (.bo,.lst (aq aY)),some (.fr,.int (n:Int))]=some (.ct [some (.al,.lst (rs.map Row.d)),some (.al,ao q),some (.al,.int (m:Int)),some (.bo,.dk (aK ks)),some (.bo,.lst (aq aY)),some (.fr,.int (n:Int))]):=by rw [bh (by rw [c1,xk])];rfl
          unfold aj
          rw [this];rfl
        · obtain ⟨rx,a1,a2,a3,a4⟩:=h5 x hx
          refine ⟨rx,a1,a2,a3,fun f hf=>?_⟩
          rcases a4 f hf with z|z|z
          · exact .inl z
          · exact sub f z oF
          · exact .inr (.inr z)
        · rcases h6 with z|z|z
          · exact .inl z
          · exact sub m z oF
          · exact .inr (.inr z)
      |false =>
        obtain ⟨KW,ZD⟩:n∉ks∧gu (kn rs) r j=false:=by simpa using xk
        have Bh:cK (kn rs) r j=true:=by unfold cK;rw [ZD];rfl
        rw [dR (by rw [c1,xk])]
        have c2:(cC (jB (aw mY (ae (ag ak (jV 0) (jV 5)) (ae (jV 1) ah)))) (jB (ag aN (ag ak (ag ak (jV 0) (jV 5)) (jC (.int 0))) (jC (.str "end"))))) [some (.al,.lst (rs.map Row.d)),some (.al,ao q),some (.al,.int (m:Int)),some (.bo,.dk (aK ks)),some (.bo,.lst (aq aY)),some (.fr,.int (n:Int))]=some (bQ (kn rs) (sets r) j||Row.cQ r):=by
          unfold cC
          rw [show (jB (aw mY (ae (ag ak (jV 0) (jV 5)) (ae (jV 1) ah)))) [some (.al,.lst (rs.map Row.d)),some (.al,ao q),some (.al,.int (m:Int)),some (.bo,.dk (aK ks)),some (.bo,.lst (aq aY)),some (.fr,.int (n:Int))]=some (bQ (kn rs) (sets r) j) by
            simp -implicitDefEqProofs only [jB,aw,ae,ah,ag,jV,gz,gy,id_eq,oq,cN,ar,oy,mq,mn,Q6,bf,Xn],oq,
            show (jB (ag aN (ag ak (ag ak (jV 0) (jV 5)) (jC (.int 0))) (jC (.str "end")))) [some (.al,.lst (rs.map Row.d)),some (.al,ao q),some (.al,.int (m:Int)),some (.bo,.dk (aK ks)),some (.bo,.lst (aq aY)),some (.fr,.int (n:Int))]=some (Row.cQ r) by
            simp -implicitDefEqProofs only [jB,ag,jV,jC,gz,gy,id_eq,oq,cN,ar,oy,cI,cT,bf,fU]]
          cases bQ (kn rs) (sets r) j<;>rfl
        have KY:eR (kn rs) r j=(bQ (kn rs) (sets r) j||Row.cQ r):=by unfold eR;rw [Bh,Bool.true_and,Bool.or_comm]
        cases xm:(bQ (kn rs) (sets r) j||Row.cQ r) with
        |true =>
          refine .inr ⟨[some (.al,.lst (rs.map Row.d)),some (.al,ao q),some (.al,.int (m:Int)),some (.bo,.dk (aK ks)),some (.bo,.lst (aq aY)),some (.fr,.int (n:Int))],.fr,.bl true,?_,rfl,rfl,h7 n (by simp) (.stop hr (by rw [KY,xm]))⟩
          exact dC (by rw [bh (by rw [c2,xm])];rfl)
        |false =>
          rw [dR (by rw [c2,xm])]
          have s1:ks.length < sizeLine:=Nat.lt_of_le_of_lt (show ks.length≤300 by omega) (by decide)
          rw [av (e':=[some (.al,.lst (rs.map Row.d)),some (.al,ao q),some (.al,.int (m:Int)),some (.bo,.dk (aK (ks++[n]))),some (.bo,.lst (aq aY)),some (.fr,.int (n:Int))]) (by
            simp -implicitDefEqProofs only [iW,jV,jC,keyOf,gz,gy,id_eq,oq,eV,if_true,jR,own,qk,s1,yF KW,tz,tq])]
          have ef:=x6 rs n _ hr
          have er:a9 n r=cB rs n:=by unfold cB;rw [hr]
          rw [er,yE g] at ef
          have fl:=xM rs n
          obtain ⟨n1,n2⟩:=ya h1 h2 KW r6
          have HW:=lq _ _ n1 n2
          rw [List.length_append] at HW
          simp only [List.length_cons,List.length_nil] at HW
          refine .inl ⟨[some (.al,.lst (rs.map Row.d)),some (.al,ao q),some (.al,.int (m:Int)),some (.bo,.dk (aK (ks++[n]))),some (.bo,.lst (aq (aY++eD rs n))),some (.fr,.int (n:Int))],3*(rs.length-(ks++[n]).length)+(aY++eD rs n).length,.inl ?_,⟨ks++[n],aY++eD rs n,_,rfl,n1,n2,fun x hx=>?_,⟨rfl,by simp only [List.length_append,List.length_cons,List.length_nil];omega⟩,fun x hx=>?_,?_,fun x hx jr=>?_⟩,by simp only [List.length_append,List.length_cons,List.length_nil];omega⟩
          · simp -implicitDefEqProofs only [au,ag,aw,ae,ah,jV,gz,gy,id_eq,oq,mq,mn,ef]
            rw [yp (by decide) (by decide) (by rw [dq,dq];exact Nat.le_trans (show aY.length+(eD rs n).length≤2000 by omega) (by decide)),show mJ .bo .un=.fr from rfl,yv,oq,fO,oq]
            simp -implicitDefEqProofs only [aq,List.map_append,tz,tq]
          · rcases List.mem_append.mp hx with z|z
            · exact h3 x (List.mem_append_left _ z)
            · obtain ⟨_,_,_,y⟩:=pY g z;exact y
          · rcases List.mem_append.mp hx with z|z
            · obtain ⟨rx,a1,a2,a3,a4⟩:=h5 x z
              refine ⟨rx,a1,a2,a3,fun f hf=>?_⟩
              rcases a4 f hf with y|y|y
              · exact .inl (List.mem_append_left _ y)
              · rcases List.mem_append.mp y with w|w
                · exact .inr (.inl (List.mem_append_left _ w))
                · exact .inl (List.mem_append_right _ w)
              · exact .inr (.inr y)
            · have e:x=n:=by simpa using z
              subst e
              exact ⟨r,hr,Bh,by rw [KY,xm],fun f hf=>.inr (.inl (List.mem_append_right _ (Dr hf)))⟩
          · rcases h6 with z|z|z
            · exact .inl (List.mem_append_left _ z)
            · rcases List.mem_append.mp z with w|w
              · exact .inr (.inl (List.mem_append_left _ w))
              · exact .inl (List.mem_append_right _ w)
            · exact .inr (.inr z)
          · rcases List.mem_append.mp hx with z|z
            · exact h7 x (List.mem_append_left _ z) jr
            · exact h7 n (by simp) (.step hr Bh (pY g z) jr))
    (n:=3*rs.length+1) (e:=[some (.al,.lst (rs.map Row.d)),some (.al,ao q),some (.al,.int (m:Int)),some (.bo,.dk (aK [])),some (.bo,.lst (aq [m])),none])
    ⟨[],[m],none,rfl,List.nodup_nil,(fun x h=>nomatch h),(fun x h=>(show x=m by simpa using h)▸hm),⟨by simp,by omega⟩,(fun x h=>nomatch h),.inr (.inl (by simp)),fun x hx h=>by
      have:x=m:=by simpa using hx
      exact this▸h⟩
  unfold pE fn BK
  simp only [ck,bj,bt]
  rw [av (e':=[some (.al,.lst (rs.map Row.d)),some (.al,ao q),some (.al,.int (m:Int)),some (.bo,.dk (aK [])),none,none]) rfl]
  rw [av (e':=[some (.al,.lst (rs.map Row.d)),some (.al,ao q),some (.al,.int (m:Int)),some (.bo,.dk (aK [])),some (.bo,.lst (aq [m])),none]) (by
    simp -implicitDefEqProofs only [au,bA,ae,ah,jV,gz,gy,id_eq,oq]
    rw [show fP [(M.al,D.int (m:Int))]=some (.un,.lst (aq [m])) from by simp [fP,cR,D.bR,aq,IK]]
    rfl)]
  rcases W with ⟨e',n',l1,⟨ks,ws,o5,he,h1,h2,h3,h4,h5,h6,h7⟩,hc⟩|⟨e',m',d,l1,rfl,rfl,jr⟩
  · subst he
    have hz:ws=[]:=by
      unfold pw at hc
      simp -implicitDefEqProofs only [jB,ag,aJ,ae,ah,jV,jC,gz,gy,id_eq,oq,cU,dq,nS,bf] at hc
      have:=Option.some.inj hc
      rw [decide_eq_false_iff_not] at this
      exact List.length_eq_zero_iff.mp (by omega)
    subst hz
    refine ⟨false,by rw [av l1];rfl,(fun z=>nomatch z),fun jr=>?_⟩
    have key:∀ n,gw rs j n→n∉ks:=fun n hn=>by
      induction hn with
      |@stop n r hr hd =>
        intro hk
        obtain ⟨rx,a1,a2,a3,a4⟩:=h5 n hk
        rw [hr] at a1;cases a1
        rw [hd] at a3;cases a3
      |@step n f r hr hp hs ZE ih =>
        intro hk
        obtain ⟨rx,a1,a2,a3,a4⟩:=h5 n hk
        rcases a4 f hs with z|z|⟨rf,z1,z2⟩
        · exact ih z
        · cases z
        · cases ZE with
          |stop gC gX=>rw [z1] at gC;cases gC;unfold eR at gX;rw [z2] at gX;cases gX
          |step gC mD _ _=>rw [z1] at gC;cases gC;rw [z2] at mD;cases mD
    rcases h6 with z|z|⟨rf,z1,z2⟩
    · exact absurd z (key m jr)
    · cases z
    · exfalso
      cases jr with
      |stop gC gX=>rw [z1] at gC;cases gC;unfold eR at gX;rw [z2] at gX;cases gX
      |step gC mD _ _=>rw [z1] at gC;cases gC;rw [z2] at mD;cases mD
  · exact ⟨true,by rw [dC l1];rfl,fun _=>jr,fun _=>rfl⟩
noncomputable def mB (rs:List Row) (n j:Nat):Bool:=@decide (gw rs j n) (Classical.propDecidable _)
theorem yK {rs:List Row}{n j:Nat}:mB rs n j=true↔gw rs j n:=by unfold mB;simp
theorem FH {A0:Option (M×D)}{n:Int}:∀ (ms:List Int) (l:List (Int×Int)) (o3:Option (M×D)),l.length+ms.length≤5000→∃ dU,forL (gN 3) sJ .fr (ms.map D.int) [A0,some (.bo,.lst (bU l)),some (.fr,.int n),o3]=some (.nx [A0,some (.bo,.lst (bU (l++ms.map fun m=>(n,m)))),some (.fr,.int n),dU])
 |[],l,o3,_=>⟨o3,by simp [forL]⟩
 |m::ms,l,o3,hl=>by
  rw [List.length_cons] at hl
  obtain ⟨dU,q⟩:=FH (A0:=A0) (n:=n) ms (l++[(n,m)]) (some (.fr,.int m)) (by rw [List.length_append];simp only [List.length_cons,List.length_nil];omega)
  refine ⟨dU,?_⟩
  have hs:l.length < sizeLine:=Nat.lt_of_le_of_lt (show l.length≤5000 by omega) (by decide)
  rw [mq,forL,show gN 3 (M.fr,D.int m) [A0,some (.bo,.lst (bU l)),some (.fr,.int n),o3]=some [A0,some (.bo,.lst (bU l)),some (.fr,.int n),some (.fr,.int m)] from rfl,oq]
  have hb:sJ [A0,some (.bo,.lst (bU l)),some (.fr,.int n),some (.fr,.int m)]=some (.nx [A0,some (.bo,.lst (bU (l++[(n,m)]))),some (.fr,.int n),some (.fr,.int m)]):=by
   unfold sJ
   walk_at "ev"
   rw [uj,if_pos hs,Du]
  rw [hb,oq]
  simpa using q
theorem Us {rs:List Row} (hl:rs.length≤800):tf [.lst (rs.map Row.d)]=some (.un,.lst (bU (bH rs rs.length))):=by
 have bT:-4611686018427387904≤(rs.length:Int)∧(rs.length:Int) < 4611686018427387904:=by omega
 have ht:(rs.length:Int).toNat=rs.length:=by omega
 obtain ⟨e',l1,o2,o3,he⟩:=cL (g:=gN 2) (b:=sM) (m:=.fr) (ds:=bO 0 rs.length) (e:=[some (.al,.lst (rs.map Row.d)),some (.bo,.lst (bU (bH rs 0))),none,none])
  (fun i e=>∃ (o2 o3:Option (M×D)),e=[some (.al,.lst (rs.map Row.d)),some (.bo,.lst (bU (bH rs i))),o2,o3])
  ⟨none,none,rfl⟩
  (fun i d e hd aZ=>by
   obtain ⟨o2,o3,he⟩:=aZ
   subst he
   obtain ⟨hi,rfl⟩:=jD hd
   rw [show (0:Int)+(i:Int)=(i:Int) by omega]
   have h1:=p8 rs i
   have h2:=xO rs i
   have hr:rs[i]?=some (rs[i]'hi):=by simp
   have ef:=x6 rs i _ hr
   have er:a9 i (rs[i]'hi)=cB rs i:=by unfold cB;rw [hr]
   rw [er] at ef
   obtain ⟨dU,q⟩:=FH (A0:=some (.al,.lst (rs.map Row.d))) (n:=(i:Int)) (cB rs i) (bH rs i) o3 (by omega)
   refine ⟨_,[some (.al,.lst (rs.map Row.d)),some (.bo,.lst (bU (bH rs (i+1)))),some (.fr,.int (i:Int)),dU],rfl,?_,_,_,rfl⟩
   show sM [some (.al,.lst (rs.map Row.d)),some (.bo,.lst (bU (bH rs i))),some (.fr,.int (i:Int)),o3]=_
   unfold sM
   simp -implicitDefEqProofs only [aW,bP,aw,ae,ah,jV,gz,gy,id_eq,oq,mq,mn,ef,bV,oy]
   rw [xN]
   exact q)
 subst he
 rw [ig] at l1
 unfold tf fn BJ
 simp only [ck,bj,bt]
 rw [av (e':=[some (.al,.lst (rs.map Row.d)),some (.bo,.lst (bU (bH rs 0))),none,none]) rfl]
 rw [av (e':=[some (.al,.lst (rs.map Row.d)),some (.bo,.lst (bU (bH rs rs.length))),o2,o3]) (by
  simp -implicitDefEqProofs only [aW,bN,aJ,ae,ah,jV,gz,gy,id_eq,oq,cU,ln,bT,and_self,if_true,ht]
  exact l1)]
 rfl
noncomputable def bX (rs:List Row) (mb:Nat→Nat→Bool) (k i n j:Nat):Bool:=(decide (j < k)||(decide (j=k)&&decide (n < i)))&&!mb n j
theorem Wm {rs:List Row} (g:Good rs) (hl:rs.length≤300) {k:Nat}{q:De} (hq:(kn rs)[k]?=some q) {i:Nat} (hi:i < rs.length) (o5 o6:Option (M×D)) :
  tG [some (.al,.lst (rs.map Row.d)),some (.bo,.lst (aE (bX rs (mB rs) k i) rs.length (kn rs).length)),some (.fr,.int (k:Int)),some (.fr,ao q),some (.fr,.int (i:Int)),o5,o6]=some (.nx [some (.al,.lst (rs.map Row.d)),some (.bo,.lst (aE (bX rs (mB rs) k (i+1)) rs.length (kn rs).length)),some (.fr,.int (k:Int)),some (.fr,ao q),some (.fr,.int (i:Int)),o5,o6]):=by
 have ZF:k < (kn rs).length:=(List.getElem?_eq_some_iff.mp hq).1
 have hk:=lQ rs
 obtain ⟨b,eb,hb⟩:=M4 g hl hq hi
 have ZG:b=mB rs i k:=by
  cases b with
  |true=>exact (yK.mpr (hb.mp rfl)).symm
  |false =>
   cases h:mB rs i k with
   |false=>rfl
   |true=>exact absurd (hb.mpr (yK.mp h)) Bool.false_ne_true
 have hc:(fD (jB (aw pE (ae (jV 0) (ae (jV 3) (ae (jV 4) ah)))))) [some (.al,.lst (rs.map Row.d)),some (.bo,.lst (aE (bX rs (mB rs) k i) rs.length (kn rs).length)),some (.fr,.int (k:Int)),some (.fr,ao q),some (.fr,.int (i:Int)),o5,o6]=some (!mB rs i k):=by
  simp -implicitDefEqProofs only [fD,jB,aw,ae,ah,jV,gz,gy,id_eq,oq,mq,mn,eb,bf,ZG,oy]
 have Ut:∀ n,n≠i→bX rs (mB rs) k (i+1) n=bX rs (mB rs) k i n:=fun n hn=>funext fun j=>by
  have:decide (n < i+1)=decide (n < i):=by
   rw [Bool.eq_iff_iff,decide_eq_true_eq,decide_eq_true_eq];omega
  simp only [bX,this]
 have FI:aE (gU (bX rs (mB rs) k i) i (bX rs (mB rs) k (i+1) i)) rs.length (kn rs).length=aE (bX rs (mB rs) k (i+1)) rs.length (kn rs).length:=by
  congr 1
  funext n
  by_cases e:n=i
  ·subst e;exact if_pos rfl
  ·rw [Ut n e];exact if_neg e
 unfold tG
 cases hm:mB rs i k with
 |true =>
  rw [bK (by rw [hc,hm];rfl)]
  have:aE (bX rs (mB rs) k i) rs.length (kn rs).length=aE (bX rs (mB rs) k (i+1)) rs.length (kn rs).length:=by
   rw [←FI,←uq]
   have e:bI (bX rs (mB rs) k (i+1) i) (kn rs).length=bI (bX rs (mB rs) k i i) (kn rs).length:=iS fun j _=>by
    unfold bX
    by_cases z:j=k
    ·subst z;simp [hm]
    ·simp [z]
   rw [e,uq]
   congr 1
   funext n
   unfold gU
   split
   ·rename_i e;rw [e]
   ·rfl
  rw [this];rfl
 |false =>
  rw [bh (by rw [hc,hm];rfl)]
  have mS:df (aE (bX rs (mB rs) k i) rs.length (kn rs).length).length (i:Int)=some i:=by
   unfold df
   rw [uk,if_pos (by omega),if_pos (by omega)];simp
  have e1:(.int ((2 ^ k:Nat):Int):D)=bI (fun j=>decide (j=k)) (kn rs).length:=by
   unfold bI
   rw [yb ZF fun j _=>by simp]
  have e2:bI (fun j=>bX rs (mB rs) k i i j||decide (j=k)) (kn rs).length=bI (bX rs (mB rs) k (i+1) i) (kn rs).length:=iS fun j _=>by
   unfold bX
   by_cases z:j=k
   ·subst z;simp [hm]
   ·simp [z]
  simp -implicitDefEqProofs only [dB,ag,jV,jC,gz,gy,id_eq,oq,cN,ql hi,oy,jA,yc (show k≤1000 by omega),e1,Gw,e2,iR,eV,if_true,dE,own,mS,uq,FI,tz,tq]
theorem Uu {rs:List Row} (g:Good rs) (hl:rs.length≤300):m9 [.lst (rs.map Row.d)]=some (.un,.dt (de (bH rs rs.length) fun m=>bI (fun j=>!mB rs m.toNat j) (kn rs).length)):=by
 have hk:=lQ rs
 have e1:=OB (rs:=rs) (by omega)
 have e3:=Us (rs:=rs) (by omega)
 have bT:-4611686018427387904≤(rs.length:Int)∧(rs.length:Int) < 4611686018427387904:=by omega
 have ht:(rs.length:Int).toNat=rs.length:=by omega
 have kW:=p8 rs rs.length
 have t0:List.replicate (rs.map Row.d).length (D.int 0)=aE (bX rs (mB rs) 0 0) rs.length (kn rs).length:=by
  rw [ln]
  refine List.ext_getElem (by simp [aE]) fun i h1 h2=>?_
  simp only [aE,List.getElem_map,List.getElem_range,List.getElem_replicate]
  unfold bI
  rw [Dx fun j _=>by simp [bX]]
  rfl
 obtain ⟨e',l1,o2,o3,o4,he⟩:=cL (g:=gT 2 (bx (gN 2) (bx (gN 3) cX))) (b:=tH) (m:=.fr) (ds:=bG ((kn rs).map ao)) (e:=[some (.al,.lst (rs.map Row.d)),some (.bo,.lst (aE (bX rs (mB rs) 0 0) rs.length (kn rs).length)),none,none,none,none,none])
  (fun k e=>∃ (o2 o3 o4:Option (M×D)),e=[some (.al,.lst (rs.map Row.d)),some (.bo,.lst (aE (bX rs (mB rs) k 0) rs.length (kn rs).length)),o2,o3,o4,none,none])
  ⟨none,none,none,rfl⟩
  (fun k d e hd aZ=>by
   obtain ⟨o2,o3,o4,he⟩:=aZ
   subst he
   obtain ⟨q,hq,rfl⟩:=DG hd
   obtain ⟨e2,l2,fj,Aq⟩:=cL (g:=gN 4) (b:=tG) (m:=.fr) (ds:=bO 0 rs.length) (e:=[some (.al,.lst (rs.map Row.d)),some (.bo,.lst (aE (bX rs (mB rs) k 0) rs.length (kn rs).length)),some (.fr,.int (k:Int)),some (.fr,ao q),o4,none,none])
    (fun i e=>∃ o4,e=[some (.al,.lst (rs.map Row.d)),some (.bo,.lst (aE (bX rs (mB rs) k i) rs.length (kn rs).length)),some (.fr,.int (k:Int)),some (.fr,ao q),o4,none,none]) ⟨o4,rfl⟩
    (fun i d e hd aZ=>by
     obtain ⟨o4,he⟩:=aZ
     subst he
     obtain ⟨hi,rfl⟩:=jD hd
     rw [show (0:Int)+(i:Int)=(i:Int) by omega]
     exact ⟨_,_,rfl,Wm g hl hq hi none none,_,rfl⟩)
   subst Aq
   rw [ig] at l2
   have et:aE (bX rs (mB rs) k rs.length) rs.length (kn rs).length=aE (bX rs (mB rs) (k+1) 0) rs.length (kn rs).length:=by
    unfold aE
    refine List.map_congr_left fun n hn=>iS fun j _=>?_
    have hn:=List.mem_range.mp hn
    unfold bX
    refine congrArg (fun b=>b&&!mB rs n j) ?_
    rw [Bool.eq_iff_iff]
    simp only [Bool.or_eq_true,Bool.and_eq_true,decide_eq_true_eq]
    omega
   rw [et] at l2
   refine ⟨_,[some (.al,.lst (rs.map Row.d)),some (.bo,.lst (aE (bX rs (mB rs) (k+1) 0) rs.length (kn rs).length)),some (.fr,.int (k:Int)),some (.fr,ao q),fj,none,none],rfl,?_,_,_,_,rfl⟩
   show tH [some (.al,.lst (rs.map Row.d)),some (.bo,.lst (aE (bX rs (mB rs) k 0) rs.length (kn rs).length)),some (.fr,.int (k:Int)),some (.fr,ao q),o4,none,none]=_
   unfold tH
   simp -implicitDefEqProofs only [aW,bN,aJ,ae,ah,jV,gz,gy,id_eq,oq,cU,ln,bT,and_self,if_true,ht]
   exact l2)
 subst he
 have hE:(bG ((kn rs).map ao)).length=(kn rs).length:=by simp [bG]
 rw [hE] at l1
 have et:aE (bX rs (mB rs) (kn rs).length 0) rs.length (kn rs).length=aE (fun n j=>!mB rs n j) rs.length (kn rs).length:=by
  unfold aE
  refine List.map_congr_left fun n hn=>iS fun j hj=>?_
  unfold bX
  simp [hj]
 rw [et] at l1
 obtain ⟨e'',l2,o6,he⟩:=cL (g:=gN 6) (b:=tI) (m:=.fr) (ds:=bU (bH rs rs.length)) (e:=[some (.al,.lst (rs.map Row.d)),some (.bo,.lst (aE (fun n j=>!mB rs n j) rs.length (kn rs).length)),o2,o3,o4,some (.bo,.dt []),none])
  (fun i e=>∃ o6,e=[some (.al,.lst (rs.map Row.d)),some (.bo,.lst (aE (fun n j=>!mB rs n j) rs.length (kn rs).length)),o2,o3,o4,some (.bo,.dt (de ((bH rs rs.length).take i) fun m=>bI (fun j=>!mB rs m.toNat j) (kn rs).length)),o6]) ⟨none,rfl⟩
  (fun i d e hd aZ=>by
   obtain ⟨o6,he⟩:=aZ
   subst he
   obtain ⟨q,hq,rfl⟩:=FG hd
   have hi:i < (bH rs rs.length).length:=(List.getElem?_eq_some_iff.mp hq).1
   obtain ⟨q0,q1⟩:=yI g (List.mem_of_getElem? hq)
   have xg:=yi (fun m=>bI (fun j=>!mB rs m.toNat j) (kn rs).length) (bH rs rs.length) i
   have s1:(de ((bH rs rs.length).take i) fun m=>bI (fun j=>!mB rs m.toNat j) (kn rs).length).length < sizeLine:=Nat.lt_of_le_of_lt (show _≤700 by omega) (by decide)
   refine ⟨_,[some (.al,.lst (rs.map Row.d)),some (.bo,.lst (aE (fun n j=>!mB rs n j) rs.length (kn rs).length)),o2,o3,o4,some (.bo,.dt (de ((bH rs rs.length).take (i+1)) fun m=>bI (fun j=>!mB rs m.toNat j) (kn rs).length)),some (.fr,jn q)],rfl,?_,_,rfl⟩
   show tI [some (.al,.lst (rs.map Row.d)),some (.bo,.lst (aE (fun n j=>!mB rs n j) rs.length (kn rs).length)),o2,o3,o4,some (.bo,.dt (de ((bH rs rs.length).take i) fun m=>bI (fun j=>!mB rs m.toNat j) (kn rs).length)),some (.fr,jn q)]=_
   unfold tI
   simp -implicitDefEqProofs only [iX,ag,jV,jC,gz,gy,id_eq,oq,p1,cN,EB q0 q1,oy,jA,FE,eV,if_true,i5,own,s1,tz,tq]
   rw [List.take_add_one,hq,Option.toList_some,xQ])
 subst he
 rw [uj,List.take_length] at l2
 unfold m9 fn CP
 simp only [ck,bj,bt]
 rw [av (e':=[some (.al,.lst (rs.map Row.d)),some (.bo,.lst (aE (bX rs (mB rs) 0 0) rs.length (kn rs).length)),none,none,none,none,none]) (by
  rw [cu,show aX 0 [some (.al,.lst (rs.map Row.d)),none,none,none,none,none,none]=[some (.al,.lst (rs.map Row.d)),none,none,none,none,none,none] from rfl]
  simp -implicitDefEqProofs only [au,b9,bP,jV,gz,gy,id_eq,oq,bV,oy]
  rw [xG (x:=.int 0) (fun d=>rfl),oq,gG (by rw [List.length_replicate,ln];omega),oq,t0]
  rfl)]
 rw [av (e':=[some (.al,.lst (rs.map Row.d)),some (.bo,.lst (aE (fun n j=>!mB rs n j) rs.length (kn rs).length)),o2,o3,o4,none,none]) (by
  simp -implicitDefEqProofs only [aW,eQ,aw,ae,jV,ah,gz,gy,oq,id_eq,mq,mn,e1,bV,oy]
  exact l1)]
 rw [av (e':=[some (.al,.lst (rs.map Row.d)),some (.bo,.lst (aE (fun n j=>!mB rs n j) rs.length (kn rs).length)),o2,o3,o4,some (.bo,.dt []),none]) rfl]
 rw [av (e':=[some (.al,.lst (rs.map Row.d)),some (.bo,.lst (aE (fun n j=>!mB rs n j) rs.length (kn rs).length)),o2,o3,o4,some (.bo,.dt (de (bH rs rs.length) fun m=>bI (fun j=>!mB rs m.toNat j) (kn rs).length)),o6]) (by
  simp -implicitDefEqProofs only [aW,bP,aw,ae,ah,jV,gz,gy,id_eq,oq,mq,mn,e3,bV,oy]
  exact l2)]
 rfl
theorem Uv {m n:M}{ks:List (List Key×D)}:jO [(m,.dt ks),(n,.ty "dict")]=some (.fr,.bl true):=rfl
theorem CZ {f:Int→Int}{ls:List (List Key×D)} (hl:∀ kv∈ls,kv.2=.int (f (kf kv.1))):∀ ks:List (List Key×D),(∀ kv∈ks,kv∈ls)→lM ls ks=true
  |[],_=>rfl
  | (k,d)::r,h=>by
    have h1:=h (k,d) List.mem_cons_self
    have hd:d=.int (f (kf k)):=hl _ h1
    have hv:cW ls k=some (.int (f (kf k))):=xF (fun kv bS e=>by rw [hl kv bS,e]) ⟨(k,d),h1,rfl⟩
    subst hd
    simp only [lM,hv,beq_self_eq_true,Bool.true_and]
    exact CZ hl r fun kv bS=>h kv (List.mem_cons_of_mem _ bS)
theorem OD {f:Int→Int}{ls:List (List Key×D)} (hl:∀ kv∈ls,kv.2=.int (f (kf kv.1))):lh [.dt ls,.dt ls]=some (.fr,.bl true):=by
 have iv:i6 ls=true:=List.all_eq_true.mpr fun kv bS=>by rw [hl kv bS]
 have ne:ot (.al,.dt ls) (.al,.dt ls)=some (.fr,.bl false):=by
  simp only [ot,iv,and_self,if_true,CZ hl ls fun _ h=>h,beq_self_eq_true,Bool.and_self,Bool.not_true]
 unfold lh fn BZ
 simp only [ck,bj,bt]
 rw [av (e':=[some (.al,.dt ls),some (.al,.dt ls),none]) (by
  rw [bK (by
   simp -implicitDefEqProofs only [cC,fD,jB,aJ,ae,ah,ag,jV,jC,gz,gy,id_eq,oq,Uv,bf,oy,Bool.not_true,Bool.false_eq_true,if_false,ne])]
  rfl)]
 obtain ⟨e',l1,o2,he⟩:=cL (g:=gN 2) (b:=sU) (m:=.al) (ds:=ls.map (·.2)) (e:=[some (.al,.dt ls),some (.al,.dt ls),none])
  (fun _ e=>∃ o2,e=[some (.al,.dt ls),some (.al,.dt ls),o2]) ⟨none,rfl⟩
  (fun i d e hd aZ=>by
   obtain ⟨o2,he⟩:=aZ
   subst he
   obtain ⟨kv,bS,rfl⟩:=List.mem_map.mp (List.mem_of_getElem? hd)
   rw [hl kv bS]
   refine ⟨_,[some (.al,.dt ls),some (.al,.dt ls),some (.al,.int (f (kf kv.1)))],rfl,?_,_,rfl⟩
   show sU [some (.al,.dt ls),some (.al,.dt ls),some (.al,.int (f (kf kv.1)))]=_
   unfold sU
   rw [bK (by walk_at "ev")]
   rfl)
 subst he
 rw [av (e':=[some (.al,.dt ls),some (.al,.dt ls),o2]) (by
  simp -implicitDefEqProofs only [qw,gz,eC,if_true,AF,oq]
  exact l1)]
 rfl
theorem EC {rs:List Row} (g:Good rs) (hl:rs.length≤300):∃ ls:List (List Key×D),ly [.lst (rs.map Row.d)]=some (.un,.dt ls)∧m9 [.lst (rs.map Row.d)]=some (.un,.dt ls)∧lh [.dt ls,.dt ls]=some (.fr,.bl true):=by
 obtain ⟨P,e1,hP⟩:=M3 g hl
 have e2:=Uu g hl
 refine ⟨_,e1,?_,OD (f:=fun m=>((bp (fun j=>true&&!P m.toNat j) (kn rs).length:Nat):Int)) fun kv bS=>Q5 _ kv bS⟩
 rw [e2,Q0 (f:=fun m=>bI (fun j=>!mB rs m.toNat j) (kn rs).length) (g:=fun m=>bI (fun j=>true&&!P m.toNat j) (kn rs).length)]
 intro q hq
 obtain ⟨q0,q1⟩:=yI g hq
 refine iS fun j hj=>?_
 have h:=hP q.2.toNat j (by omega) hj
 have:P q.2.toNat j=mB rs q.2.toNat j:=by rw [Bool.eq_iff_iff,h,yK]
 rw [this];rfl
theorem Wn (ns:List Int):(J.cut ns (some 2) (some 22)).length≤40:=by
 unfold J.cut
 rw [List.length_take]
 refine Nat.le_trans (Nat.min_le_left _ _) ?_
 have h1:HT.aT ns.length ns.length (some 22)≤22:=by
  unfold HT.aT;simp;omega
 omega
theorem M5 {m:M} (ws:List Int):Gh (m,.lst (ws.map .int))=some (.un,.lst (ws.reverse.map .int)):=by
 show eO m (ws.map D.int).reverse=_
 rw [←List.map_reverse,Dv]
theorem OG (ns:List Int) (hn:ns.length≤63):∃ m,uV [.lst (ns.map .int)]=some (m,.bl true):=by
 have hc:=Wn ns
 obtain ⟨rs,e1,g1,l1⟩:=Cj ns (J.cut ns (some 2) (some 22)) hc
 obtain ⟨ro,e2,g2,l2⟩:=Cj ns (J.cut ns (some 2) (some 22)).reverse (by rw [List.length_reverse];exact hc)
 obtain ⟨ls,w1,d1,r1⟩:=EC g1 (by omega)
 obtain ⟨lo,w2,d2,r2⟩:=EC g2 (by omega)
 unfold uV fn Gn
 simp only [ck,bj,bt]
 rw [av (e':=[some (.al,.lst (ns.map .int)),some (.bo,.lst (rs.map Row.d)),none,none,none,none]) (by
  simp -implicitDefEqProofs only [au,aw,ae,ah,fA,dJ,jV,jC,gz,gy,id_eq,oq,iR,oy,x8,mq,mn,e1,fO,tz,tq])]
 rw [av (e':=[some (.al,.lst (ns.map .int)),some (.bo,.lst (rs.map Row.d)),some (.bo,.lst (ro.map Row.d)),none,none,none]) (by
  simp -implicitDefEqProofs only [au,aw,ae,ah,fA,uR,dJ,cf,jV,jC,gz,gy,id_eq,oq,iR,lK,oy,x8,if_true,M5,mq,mn,e2,fO,tz,tq])]
 rw [av (e':=[some (.al,.lst (ns.map .int)),some (.bo,.lst (rs.map Row.d)),some (.bo,.lst (ro.map Row.d)),some (.bo,.dt ls),none,none]) (by
  simp -implicitDefEqProofs only [au,aw,ae,ah,jV,gz,gy,id_eq,oq,mq,mn,d1,fO,tz,tq])]
 rw [av (e':=[some (.al,.lst (ns.map .int)),some (.bo,.lst (rs.map Row.d)),some (.bo,.lst (ro.map Row.d)),some (.bo,.dt ls),some (.bo,.lst (rs.map Row.d)),none]) (by
  simp -implicitDefEqProofs only [au,aJ,ae,ah,jV,lI,S8,gz,gy,id_eq,oq,fO,tz,tq])]
 rw [av (e':=[some (.al,.lst (ns.map .int)),some (.bo,.lst (rs.map Row.d)),some (.bo,.lst (ro.map Row.d)),some (.bo,.dt ls),some (.bo,.lst (rs.map Row.d)),some (.bo,.dt ls)]) (by
  simp -implicitDefEqProofs only [au,aw,ae,ah,jV,gz,gy,id_eq,oq,mq,mn,w1,fO,tz,tq])]
 rw [av (e':=[some (.al,.lst (ns.map .int)),some (.bo,.lst (rs.map Row.d)),some (.bo,.lst (ro.map Row.d)),some (.bo,.dt ls),some (.bo,.lst (rs.map Row.d)),some (.bo,.dt ls)]) (by
  rw [bK (by
   simp -implicitDefEqProofs only [cC,fD,jB,aw,ae,ah,ag,jV,gz,gy,id_eq,oq,mq,mn,r1,bf,oy,Bool.not_true,Bool.false_eq_true,if_false,Ub (L4 rs) (L5 rs)])]
  rfl)]
 rw [av (e':=[some (.al,.lst (ns.map .int)),some (.bo,.lst (rs.map Row.d)),some (.bo,.lst (ro.map Row.d)),some (.bo,.dt ls),some (.bo,.lst (rs.map Row.d)),some (.bo,.dt [])]) rfl]
 rw [av (e':=[some (.al,.lst (ns.map .int)),some (.bo,.lst (rs.map Row.d)),some (.bo,.lst (ro.map Row.d)),some (.bo,.dt ls),some (.bo,.lst []),some (.bo,.dt [])]) rfl]
 rw [av (e':=[some (.al,.lst (ns.map .int)),some (.bo,.lst (rs.map Row.d)),some (.bo,.lst (ro.map Row.d)),some (.bo,.dt ls),some (.bo,.lst []),some (.bo,.dt [])]) (by
  rw [bK (by
   simp -implicitDefEqProofs only [fD,jB,aw,ae,ah,jV,gz,gy,id_eq,oq,mq,mn,w2,d2,r2,bf,oy,Bool.not_true])]
  rfl)]
 refine ⟨.fr,?_⟩
 simp -implicitDefEqProofs only [aI,aw,ae,ah,jV,gz,gy,id_eq,oq,mq,mn,w1,r1,nF]
end aL
namespace aL
open PySem PySem.Spec L2 My J
theorem walk {l:PySem.W.OpenLaw}{q:Program}{loose:List Str}{XP:(Str→Option Value)→Heap→Prop}{YP:World→Heap→Prop}{d:DefRec}{K:Params→PySem.W.Frag} (hn:l.most=some 63) (rh:d.params.defaults=[]) (hd:d.name = "law")
  (hY:∀ (w:World) (h:Heap),YP w h→(K w.params).In h) (F:∀ (w:World),C.wd (K w.params) vq∧C.wg (K w.params) bs∧C.wj (K w.params) gs) :
  PySem.W.WalkO q loose XP YP l.row.toRowW d [] (fun f vs=>PySem.call f vs) :=
 L2.Pn (n:=63) (k:=6) (x := "_law_script") (CX:=fun _=>j4) (sp:=fun w=>mG (K w.params) 1 uV) hn (by decide) rh ⟨rfl,by decide,by decide⟩ hY (fun w mg fa h X G A5=>C.Vr X G (hd▸A5) (F w).2.1 (F w).2.2 (F w).1 ba ok Zc fun _ _ _ _ _ _ _ _=>.of_eq rfl) (fun _ _ a ns hl _ hS=>S4 hS (OG ns hl)) fun _ _ _ _ _ z=>z
end aL
namespace PySem.W.Fast
def tw9039692074632137282:=0
def tw8040356890335299261:=0
def tw13369893333823615719:=0
def tw2483445822239406951:=0
def tw5227492361601333709:=0
def tw8615397790752650332:=0
def tw11420499253593404611:=0
def tw9310531942261341954:=0
def tw11705679778290040076:=0
def tw581595683222913835:=0
def tw2535867784060605534:=0
def tw13679126860524832845:=0
def tw18354743337888444235:=0
def tw1182493151079879725:=0
def tw12925697631049278838:=0
def tw584894305818416070:=0
def tw11065631029136811627:=0
def tw2575062941727767880:=0
def tw9979653172567602441:=0
def tw10769569431478355214:=0
def tw11524799820531207122:=0
def tw9915033319214025214:=0
def tw10339373168640053377:=0
def tw385797248029145974:=0
def tw400477313716831703:=0
def tw11588198796358777898:=0
def tw16400311626916241785:=0
def tw11802282610711581649:=0
def tw13785862441860658820:=0
def tw4292516723841961938:=0
def tw9243329572538955512:=0
def tw10450752510274453111:=0
def tw17518478883192274594:=0
def tw4163209293661894525:=0
def tw17024052955179433516:=0
def tw8703626732792725175:=0
def tw5212412697021253339:=0
def tw7600515233024421094:=0
def tw8527134952448280108:=0
def tw6391419928565821822:=0
def tw11744922328661601585:=0
def tw8342716315964635421:=0
def tw14262898146328200118:=0
def tw8112747735791390200:=0
def tw9918694882469469718:=0
def tw14784306385605832927:=0
def tw6774543267955962820:=0
def tw7752094790459325035:=0
def tw12262699501430673151:=0
def tw567088831919083774:=0
def tw17544918657549409701:=0
def tw6889686880109977030:=0
def tw6319921613741531962:=0
def tw4612167922280545679:=0
def tw2239400378656810702:=0
def tw17196008956487638730:=0
def tw12570682929241175524:=0
def tw8311305854735039819:=0
def tw8545983671680678007:=0
def tw9785910575706893573:=0
def tw11999857293841965391:=0
def tw8985596859265896302:=0
def tw12100436128059293769:=0
def tw6478203847203383351:=0
def tw11903509264584816006:=0
def tw15427574826722388736:=0
def tw5789439414751389719:=0
def tw12265570864894081474:=0
def tw15724166446434545056:=0
def tw9599747140833134542:=0
def tw9508082007436185470:=0
def tw2964612416140610847:=0
def tw13618826933153086268:=0
def tw4765447921853269824:=0
def tw4283722437002697691:=0
def tw17332262903106749541:=0
def tw4483681435239920294:=0
def tw17425608179076449717:=0
def tw8118863467196045427:=0
def tw9832112589824990172:=0
def tw5661741131035704753:=0
def tw7903861908015025743:=0
def tw13022044200185214167:=0
def tw14630258185844360936:=0
def tw17962647603775406569:=0
def tw14679226235054808089:=0
def tw17820756780707891070:=0
def tw14357655186643855882:=0
def tw6833437440625352949:=0
def tw9153820911108246964:=0
def tw15714989013691777518:=0
def tw8175288990150363736:=0
def tw15818730058224620913:=0
def tw11191832943985126459:=0
def tw16642633589423214965:=0
def tw9149988521825050783:=0
def tw1927063266340982527:=0
def tw10730700939912064119:=0
def tw5583727405796235943:=0
def tw6760778264187037237:=0
def tw6964323922689652909:=0
def tw16168613598464051955:=0
def tw8634811165218905360:=0
def tw2592488746440780805:=0
def tw6327357872360832986:=0
def tw7553124369413887464:=0
def tw5435919115520626301:=0
def tw6099939304233792260:=0
def tw2949543962675441708:=0
def tw13159829051526339203:=0
def tw9447640962426849780:=0
def tw6138882656227018307:=0
def tw181290961935262978:=0
def tw4474573273308044663:=0
def tw12984499582553278806:=0
def tw15423773621810579435:=0
def tw1178529841023076261:=0
def tw12324795528791506325:=0
def tw13489090042929144870:=0
def tw17956599934571692171:=0
def tw17226547870896525786:=0
def tw4554087662296889091:=0
def tw6771797798928234792:=0
def tw9594330280586497908:=0
def tw4855648223447179169:=0
def tw17061195469078226654:=0
def tw4799693216979488020:=0
def tw16285023264259979870:=0
def tw11057433285238070433:=0
def tw15985456792059344204:=0
def tw17456893710394452833:=0
def tw12750441301675468348:=0
def tw7559900431264403285:=0
def tw13126622836350917060:=0
def tw14478726266393773784:=0
def tw3656299403862362570:=0
def tw3220165521600383113:=0
def tw12341637799059926359:=0
def tw11874871846510926417:=0
def tw14615370586577221788:=0
def tw18258817924914394422:=0
def tw13947135967623775500:=0
def tw4916098299537456758:=0
def tw18033350476163822878:=0
def tw16230596717968539831:=0
def tw14809344801940664939:=0
def tw3145055460333898664:=0
def tw11152740340186990217:=0
def tw3900990233729144217:=0
def tw6226416719959578251:=0
def tw12873156483362264807:=0
def tw7422093234213154454:=0
def tw9738339906121686288:=0
def tw11867830015007451122:=0
def tw14481188785161674545:=0
def tw1730854641568716429:=0
def tw8802986601582454025:=0
def tw263863693090315912:=0
def tw6361607724920631300:=0
def tw17149723505727312133:=0
def tw10496183425264423317:=0
def tw1412289261643980651:=0
def tw3917220375040086487:=0
def tw9015311794285823537:=0
def tw13450390476761066510:=0
end PySem.W.Fast
open PySem PySem.W PyProof.Rows
set_option maxRecDepth 100000 in
set_option maxHeartbeats 0 in
theorem PySem.Challenge.cw_lazyhoist_k30_wanted_holds : PySem.Challenge.rw_lazyhoist_k30_wanted.Holds := by
  w_on; o_law; k_head; (case hw => w_witness2)
  k_fill
  refine aL.walk (l := PySem.Challenge.rw_lazyhoist_k30_wanted) rfl rfl rfl (fun w h Y => PySem.W.kIn_of Y) ?F
  case F =>
    intro w
    refine ⟨⟨(?_:C.DE _ "law" (aL.top 47)), (?_:C.DE _ "_law_due" (aL.top 46)), (?_:C.DE _ "_law_missed" (aL.top 45)), (?_:C.DE _ "_law_right" (aL.top 44)), (?_:C.DE _ "_law_known" (aL.top 43)), (?_:C.DE _ "_law_changes" (aL.top 42)), (?_:C.DE _ "_law_has" (aL.top 41)), (?_:C.DE _ "_law_places" (aL.top 40)), (?_:C.DE _ "_law_program" (aL.top 38)), (?_:C.DE _ "_law_any_program" (aL.top 37)), (?_:C.DE _ "_law_mended" (aL.top 36)), (?_:C.DE _ "_law_comes_to" (aL.top 35)), (?_:C.DE _ "_law_followers" (aL.top 39)), (?_:C.DE _ "_law_any_row" (aL.top 34)), (?_:C.DE _ "_law_stairs" (aL.top 33)), (?_:C.DE _ "_law_with_else" (aL.top 32)), (?_:C.DE _ "_law_with_while" (aL.top 31)), (?_:C.DE _ "_law_goal" (aL.top 30)), (?_:C.DE _ "_law_rough" (aL.top 28)), (?_:C.DE _ "_law_number" (aL.top 29)), (?_:C.DE _ "_law_last" (aL.top 27)), (?_:C.DE _ "_law_row" (aL.top 26)), (?_:C.DE _ "_law_deeds" (aL.top 25)), (?_:C.DE _ "_law_operand" (aL.top 24)), (?_:C.DE _ "_law_names" (aL.top 23)), (?_:C.DE _ "_law_is_free" (aL.top 22)), (?_:C.DE _ "_law_mixed" (aL.top 21)), (?_:C.DE _ "_law_cell" (aL.top 20)), (?_:C.DE _ "wanted" (aL.top 17)), (?_:C.DE _ "unwanted_bits" (aL.top 18)), (?_:C.DE _ "spread" (aL.top 15)), (?_:C.DE _ "changed_bits" (aL.top 14)), (?_:C.DE _ "reckoned_bits" (aL.top 13)), (?_:C.DE _ "every_bit" (aL.top 12)), (?_:C.DE _ "bits_of" (aL.top 11)), (?_:C.DE _ "turned" (aL.top 9)), (?_:C.DE _ "reckonings" (aL.top 8)), (?_:C.DE _ "places" (aL.top 7)), (?_:C.DE _ "all_followers" (aL.top 6)), (?_:C.DE _ "followers" (aL.top 5)), (?_:C.DE _ "changes" (aL.top 3)), (?_:C.DE _ "sets" (aL.top 2)), (?_:C.DE _ "reckoning_of" (aL.top 1)), trivial⟩, ⟨?ZH, ?ZI, ?ZJ, ?ZK, ?ZL, ?ZM, ?ZN, ?ZO, ?ZP, ?ZQ, trivial⟩, trivial⟩
    iterate 43 (refine' C.W5 ?a ?l ?c ?k; (case a => k_is); (case l => k_is); (case c => k_is); (case k => k_is))
    case ZH => (show PySem.W.nsIn _ mainGlobals "bool" = some none); k_is
    case ZI => (show PySem.W.nsIn _ mainGlobals "dict" = some none); k_is
    case ZJ => (show PySem.W.nsIn _ mainGlobals "enumerate" = some none); k_is
    case ZK => (show PySem.W.nsIn _ mainGlobals "int" = some none); k_is
    case ZL => (show PySem.W.nsIn _ mainGlobals "isinstance" = some none); k_is
    case ZM => (show PySem.W.nsIn _ mainGlobals "len" = some none); k_is
    case ZN => (show PySem.W.nsIn _ mainGlobals "list" = some none); k_is
    case ZO => (show PySem.W.nsIn _ mainGlobals "max" = some none); k_is
    case ZP => (show PySem.W.nsIn _ mainGlobals "range" = some none); k_is
    case ZQ => (show PySem.W.nsIn _ mainGlobals "sum" = some none); k_is
