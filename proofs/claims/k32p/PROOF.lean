import PyProof.Rows.All
import Wide.All
import OpenK.AllK
import Wide.FinOn
import Lean
import PyProof.EqAt
import PyProof.EqKinds
import PyProof.TupleCall
import PySem.Challenge.RW_lazyhoist_k32_standing
set_option Elab.async false
set_option linter.all false
set_option maxRecDepth 100000
namespace L2
open PySem PySem.Spec PyProof.Rows
inductive Key where|inl (i:Int)|inr (x:Str)|non
 deriving DecidableEq
noncomputable def FN:Value→Bool
 |.none=>true
 |_=>false
theorem M6 {v:Value} (h:FN v=true):v=.none:=by cases v<;>first|rfl|cases h
noncomputable def nM:Key→Value→Bool
 |.inl k,v=>Value.isInt k v
 |.inr x,v=>Value.isStrOf x v
 |.non,v=>FN v
noncomputable def Wv (w:World):Key→Int
 |.inl k=>hashInt k
 |.inr x=>hashStr w x
 |.non=>4238894112
theorem jr:∀ {k:Key}{v:Value},nM k v=true→(∃ i t,k=.inl i∧v=Value.int i t)∨(∃ x t,k=.inr x∧v=Value.str x t)∨(k=.non∧v=.none)
 |.inl i,v,h=>by
  obtain ⟨t,e⟩:=Value.isInt_shape (k:=i) (v:=v) h
  exact .inl ⟨i,t,rfl,e⟩
 |.inr x,v,h=>by
  obtain ⟨t,e⟩:=Value.isStrOf_shape (x:=x) (v:=v) h
  exact .inr (.inl ⟨x,t,rfl,e⟩)
 |.non,v,h=>.inr (.inr ⟨rfl,M6 h⟩)
theorem L9 (i:Int) (t:Tok):nM (.inl i) (.int i t)=true:=by simp [nM,Value.isInt]
theorem Ma (x:Str) (t:Tok):nM (.inr x) (.str x t)=true:=by simp [nM,Value.isStrOf]
theorem Rg (a b:Int):decide ((Key.inl a:Key)=.inl b)=(a==b):=by
 by_cases e:a=b
 ·subst e;simp
 ·rw [decide_eq_false fun q=>e (Key.inl.inj q)]
  exact (beq_eq_false_iff_ne.mpr e).symm
theorem Rh (a b:Str):decide ((Key.inr a:Key)=.inr b)=decide (a=b):=by
 by_cases e:a=b
 ·subst e;simp
 ·rw [decide_eq_false fun q=>e (Key.inr.inj q),decide_eq_false e]
theorem Ct {prog:Program}{w:World}{A:Around}{E:Value→Shared→Prop}{s:Shared}{Q:Int→Shared→Prop} (h:Q 4238894112 { s with toks:=s.toks+1 }):wpAny (model prog w) A (PySem.pyHash .none) Q E s:=by
 unfold PySem.pyHash
 have hv:[Value.none].any Value.onHeap=false:=rfl
 refine wpAny_bind ?_
 rw [cRoomFor,if_neg (by rw [hv];exact Bool.false_ne_true)];refine wpAny_pure ?_
 refine wpAny_bind (wpAny_specialOf (typeIs_none s) PySem.F.slot_NoneType_hash.lookup ?_)
 show wpAny _ _ (if (some (Value.builtin "NoneType.__hash__")==some Value.none)=true then _ else _) Q E s
 rw [if_neg (by rw [beq_builtin_none];exact Bool.false_ne_true)]
 refine wpAny_bind (wpAny_specialOf (typeIs_none s) PySem.F.slot_NoneType_hash.lookup ?_)
 show wpAny _ _ (callSpecialIfBoundUnlessNone? .none "__hash__" _ >>= _) Q E s
 refine wpAny_bind (wpAny_callSpecialIfBoundUnlessNone?_slot (typeIs_none s) PySem.F.slot_NoneType_hash
  (wpAny_call_entry PySem.F.slot_NoneType_hash (typeIs_none s) PySem.F.entry_NoneType_hash
   (show wpAny _ _ (do ret (←mkInt 4238894112)) _ _ s from wpAny_ret_mkInt ?_) (PySem.F.args_NoneType_hash_1 _)))
 exact wpAny_pure h
noncomputable def cn (prog:Program) (w:World):PySem.KeyKind prog w Key where
 is:=nM
 hash:=Wv w
 inj:=fun v a b ha hb=>by
  rcases jr ha with ⟨i,t,rfl,rfl⟩|⟨x,t,rfl,rfl⟩|⟨rfl,rfl⟩<;>rcases jr hb with ⟨j,u,rfl,e⟩|⟨y,u,rfl,e⟩|⟨rfl,e⟩<;>first|rfl | (injection e with e1 _;rw [e1];done) | (cases e;done)
 byValue:=fun k v h=>by
  rcases jr h with ⟨i,t,rfl,rfl⟩|⟨x,t,rfl,rfl⟩|⟨rfl,rfl⟩<;>rfl
 pyHash:=fun hv h=>by
  rcases jr hv with ⟨i,t,rfl,rfl⟩|⟨x,t,rfl,rfl⟩|⟨rfl,rfl⟩
  ·exact wpAny_pyHash_int h
  ·exact wpAny_pyHash_str h
  ·exact Ct h
 eqBool:=fun hu hv h=>by
  rcases jr hu with ⟨i,t,rfl,rfl⟩|⟨x,t,rfl,rfl⟩|⟨rfl,rfl⟩
  ·rcases jr hv with ⟨j,u,rfl,rfl⟩|⟨y,u,rfl,rfl⟩|⟨rfl,rfl⟩
   ·rw [Rg] at h;exact wpAny_eqBool_int h
   ·exact SeqAt.EqAt.int_str i t y u _ _ _ _ h
   ·exact SeqAt.EqAt.int_none i t _ _ _ _ h
  ·rcases jr hv with ⟨j,u,rfl,rfl⟩|⟨y,u,rfl,rfl⟩|⟨rfl,rfl⟩
   ·exact SeqAt.EqAt.str_int x t j u _ _ _ _ h
   ·rw [Rh] at h;exact wpAny_eqBool_str h
   ·exact SeqAt.EqAt.str_none x t _ _ _ _ h
  ·rcases jr hv with ⟨j,u,rfl,rfl⟩|⟨y,u,rfl,rfl⟩|⟨rfl,rfl⟩
   ·exact SeqAt.EqAt.none_int j u _ _ _ _ h
   ·exact SeqAt.EqAt.none_str y u _ _ _ _ h
   ·exact SeqAt.EqAt.same .none _ _ _ _ h
 «strs»:=fun k x t v h=>by
  rcases jr h with ⟨i,u,rfl,e⟩|⟨y,u,rfl,e⟩|⟨rfl,e⟩
  ·exact nomatch e
  ·injection e with e1 _
   subst e1
   cases v<;>rfl
  ·exact nomatch e
theorem Ld (prog:Program) (w:World) (i:Int) (t:Tok):(cn prog w).is (.inl i) (.int i t)=true:=L9 i t
theorem Le (prog:Program) (w:World) (x:Str) (t:Tok):(cn prog w).is (.inr x) (.str x t)=true:=Ma x t
theorem Lf (prog:Program) (w:World):(cn prog w).is .non .none=true:=rfl
inductive V where
 |non|bl (b:Bool)|int (i:Int)|str (x:Str)|fD (b:Array UInt8)|qS (b:UInt64)|ref (a:Addr)|ty (n:String)
 deriving DecidableEq
noncomputable def RelV:V→Value→Prop
 |.non,u=>u=Value.none
 |.bl b,u=>u=Value.bool b
 |.int i,u=>∃ t,u=Value.int i t
 |.str x,u=>∃ t,u=Value.str x t
 |.fD b,u=>∃ t,u=Value.bytes b t
 |.qS b,u=>∃ t,u=Value.float b t
 |.ref a,u=>u=Value.ref a
 |.ty n,u=>u=Value.type n
abbrev Vals:List V→List Value→Prop:=Paired RelV
theorem Vals.length {xs:List V}{us:List Value} (r:Vals xs us):xs.length=us.length:=Paired.length r
theorem Vals.get:∀ {xs:List V}{us:List Value}{i:Nat}{x:V},Vals xs us→xs[i]?=some x→∃ u,us[i]?=some u∧RelV x u
 |_,_,_,_,.nil,e=>by simp at e
 |_,_,0,_,.cons r _,e=>by simp at e;subst e;exact ⟨_,rfl,r⟩
 |_,_,i+1,x,.cons _ t,e=>by
  obtain ⟨u,h1,h2⟩:=Vals.get (i:=i) (x:=x) t (by simpa using e)
  exact ⟨u,by simpa using h1,h2⟩
theorem Vals.set {x:V}{u:Value} (r:RelV x u):∀ {xs:List V}{us:List Value} (i:Nat),Vals xs us→Vals (xs.set i x) (us.set i u)
 |_,_,_,.nil=>.nil
 |_,_,0,.cons _ t=>.cons r t
 |_,_,i+1,.cons q t=>.cons q (Vals.set r i t)
theorem Vals.append:∀ {xs ys:List V}{us ws:List Value},Vals xs us→Vals ys ws→Vals (xs++ys) (us++ws)
 |_,_,_,_,.nil,s=>s
 |_,_,_,_,.cons r t,s=>.cons r (Vals.append t s)
theorem Vals.take:∀ {xs:List V}{us:List Value} (n:Nat),Vals xs us→Vals (xs.take n) (us.take n)
 |_,_,0,_=>.nil
 |_,_,_+1,.nil=>.nil
 |_,_,n+1,.cons r t=>.cons r (Vals.take n t)
theorem Vals.drop:∀ {xs:List V}{us:List Value} (n:Nat),Vals xs us→Vals (xs.drop n) (us.drop n)
 |_,_,0,r=>r
 |_,_,_+1,.nil=>.nil
 |_,_,n+1,.cons _ t=>Vals.drop n t
noncomputable def gP:Option V→Option Value→Prop
 |some v,some u=>RelV v u
 |none,none=>True
 |_,_=>False
def KV {κ:Type}:List (κ×V)→List (κ×Value)→Prop:=Paired fun (p:κ×V) (q:κ×Value)=>p.1=q.1∧RelV p.2 q.2
noncomputable def kV:Key→V
 |.inl i=>.int i
 |.inr x=>.str x
 |.non=>.non
inductive HO where
 |lst (xs:List V)
 |tup (xs:List V)
 |dK (ai:List (Key×V))|dT (ai:List (List Key×V))
 |set (S:Int→Bool) (n:Nat)
 |ins (C dx:Addr) (fs:List (Str×V))
 |own (x:Addr)
 |xd (fs:List (Str×V))
 |met (f x:Addr)
 |bT (lo hi:Int)
 |aW (o:Obj) (u:HO)
 |jT (ps:Array Value)
 |ext (φ:Heap→Prop)
noncomputable abbrev Hp:=Addr→Option HO
noncomputable def upd (H:Hp) (a:Addr) (o:HO):Hp:=fun b=>if b=a then some o else H b
theorem bG {H:Hp}{a:Addr}{o:HO}:upd H a o a=some o:=by unfold upd;rw [if_pos rfl]
theorem aH {H:Hp}{a b:Addr}{o:HO} (h:b≠a):upd H a o b=H b:=by unfold upd;rw [if_neg h]
theorem uF {H:Hp}{a b:Addr}{o u:HO} (h:H a=some o) (h':H b=some u) (d:o≠u):a≠b:=by
 intro e;subst e;rw [h] at h';exact d (Option.some.inj h')
theorem dY {H:Hp}{a b:Addr}{o:HO} (h:H a=some o) (h':H b=none):a≠b:=by
 intro e;subst e;rw [h] at h';cases h'
section
variable (P:Program) (w:World)
noncomputable def b9 (H:Hp) (h:Heap) (a:Addr):HO→Prop
 |.lst xs=>xs.length≤sizeLine∧∃ (its:List Value) (n:Nat),Vals xs its∧h.get? a=some { cls:=.type "list",data:=.seq its.toArray n }
 |.tup xs=>xs.length≤sizeLine∧∃ its:List Value,Vals xs its∧IsTup h a its.toArray
 |.dK ai=>ai.length≤sizeLine∧(a==sysModules)=false∧∃ vs,KV ai vs∧h.DictOf (cn P w) a vs
 |.dT ai=>ai.length≤sizeLine∧(a==sysModules)=false∧∃ xs:List (List Key×Addr×Value),
  Paired (fun (p:List Key×V) (q:List Key×Addr×Value)=>p.1=q.1∧H q.2.1=some (.tup (p.1.map kV))∧RelV p.2 q.2.2) ai xs ∧
  ∃ o es ep,h.get? a=some o∧o.ExactDict∧o.data=.dict es ep∧es.toList=xs.map (entryOfKey (tupleKind (cn P w)))∧(xs.map (·.1)).Nodup
 |.set S n=>h.SetOf (intKind P w) a S n
 |.ins C dx fs=>H dx=some (.own a)∧fs.length≤1000∧dx≠a∧h.get? a=some (PySem.W.instObj C dx) ∧
  ∃ mA,h.Ns1 dx mA∧(∀ f,gP (fs.lookup f) (mA f))∧PySem.Within mA (fs.map (·.1))
 |.own _=>∃ o,h.get? a=some o
 |.xd fs=>∃ mA,h.Ns1 a mA∧∀ f,gP (fs.lookup f) (mA f)
 |.bT lo hi=>∃ t u v,h.get? a=some { cls:=.type "range",data:=.fields #[.int lo t,.int hi u,.int 1 v] }
 |.aW o u=>h.get? a=some o∧b9 H h a u
 |.jT ps=>h.get? a=some { cls:=.none,data:=.fields ps }
 |.met f x=>h.get? a=some (PySem.W.methodObj (.ref f) (.ref x))
 |.ext φ=>φ h∧(∃ o,h.get? a=some o)∧∀ h1 h2:Heap,φ h1→(∀ o,h1.get? a=some o→h2.get? a=some o)→φ h2
def cu (H:Hp) (h:Heap):Prop:=∀ a o,H a=some o→b9 P w H h a o
end
section
variable {P:Program}{w:World}{H H':Hp}{h h':Heap}{a:Addr}{o:HO}
theorem b9.lt (x:b9 P w H h a o):a < h.objs.size:=by
 cases o with
 |lst xs=>obtain ⟨_,_,_,_,e⟩:=x;exact Heap.lt_size e
 |tup xs=>obtain ⟨_,_,_,p⟩:=x;exact p.lt
 |dK ai=>obtain ⟨_,_,_,_,o,_,_,e,_⟩:=x;exact Heap.lt_size e
 |dT ai=>obtain ⟨_,_,_,_,o,_,_,e,_⟩:=x;exact Heap.lt_size e
 |set S n=>obtain ⟨o,_,_,_,e,_⟩:=x;exact Heap.lt_size e
 |ins C dx fs=>obtain ⟨_,_,_,e,_⟩:=x;exact Heap.lt_size e
 |own y=>obtain ⟨_,e⟩:=x;exact Heap.lt_size e
 |xd fs=>obtain ⟨_,⟨_,_,_,e,_⟩,_⟩:=x;exact Heap.lt_size e
 |bT lo hi=>obtain ⟨_,_,_,e⟩:=x;exact Heap.lt_size e
 |aW ob u=>obtain ⟨e,_⟩:=x;exact Heap.lt_size e
 |jT ps=>exact Heap.lt_size (show h.get? a=some _ from x)
 |met f y=>exact Heap.lt_size (show h.get? a=some _ from x)
 |ext φ=>obtain ⟨_,⟨_,e⟩,_⟩:=x;exact Heap.lt_size e
theorem Paired.uW {α β:Type}{F G:α→β→Prop}:∀ {l₁:List α}{l₂:List β},Paired F l₁ l₂→(∀ a b,F a b→G a b)→Paired G l₁ l₂
 |_,_,.nil,_=>.nil
 |_,_,.cons r t,f=>.cons (f _ _ r) (Paired.uW t f)
theorem b9.kH (x:b9 P w H h a o) (k:∀ b u,(b=a∨H b=some (.own a))→h.get? b=some u→h'.get? b=some u)
  (ho:∀ b,H b=some (.own a)→H' b=some (.own a)) (ht:∀ b xs,H b=some (.tup xs)→H' b=some (.tup xs)):b9 P w H' h' a o:=by
 induction o with
 |lst xs=>obtain ⟨z,its,n,r,e⟩:=x;exact ⟨z,its,n,r,k _ _ (.inl rfl) e⟩
 |tup xs=>obtain ⟨z,its,r,ob,e,c⟩:=x;exact ⟨z,its,r,ob,k _ _ (.inl rfl) e,c⟩
 |dK ai=>obtain ⟨z,y,vs,r,ob,es,ep,e,c⟩:=x;exact ⟨z,y,vs,r,ob,es,ep,k _ _ (.inl rfl) e,c⟩
 |dT ai =>
  obtain ⟨z,y,xs,r,ob,es,ep,e,c⟩:=x
  exact ⟨z,y,xs,Paired.uW r fun p q z=>⟨z.1,ht _ _ z.2.1,z.2.2⟩,ob,es,ep,k _ _ (.inl rfl) e,c⟩
 |set S n=>obtain ⟨ob,es,ep,t,e,c⟩:=x;exact ⟨ob,es,ep,t,k _ _ (.inl rfl) e,c⟩
 |ins C dx fs =>
  obtain ⟨d,z,ne,e,mA,⟨od,es,ep,e2,c⟩,r⟩:=x
  exact ⟨ho _ d,z,ne,k _ _ (.inl rfl) e,mA,⟨od,es,ep,k _ _ (.inr d) e2,c⟩,r⟩
 |own y=>obtain ⟨ob,e⟩:=x;exact ⟨ob,k _ _ (.inl rfl) e⟩
 |xd fs=>obtain ⟨mA,⟨od,es,ep,e,c⟩,r⟩:=x;exact ⟨mA,⟨od,es,ep,k _ _ (.inl rfl) e,c⟩,r⟩
 |bT lo hi=>obtain ⟨t,u,v,e⟩:=x;exact ⟨t,u,v,k _ _ (.inl rfl) e⟩
 |aW ob u ih=>obtain ⟨e,q⟩:=x;exact ⟨k _ _ (.inl rfl) e,ih q⟩
 |jT ps =>
  have e:h.get? a=some { cls:=.none,data:=.fields ps }:=x
  show h'.get? a=some { cls:=.none,data:=.fields ps }
  exact k a _ (.inl rfl) e
 |met f y =>
  have e:h.get? a=some (PySem.W.methodObj (.ref f) (.ref y)):=x
  show h'.get? a=some (PySem.W.methodObj (.ref f) (.ref y))
  exact k a _ (.inl rfl) e
 |ext φ=>obtain ⟨p,⟨o,e⟩,st⟩:=x;exact ⟨st _ _ p fun o q=>k _ _ (.inl rfl) q,⟨o,k _ _ (.inl rfl) e⟩,st⟩
theorem cu.lt (x:cu P w H h) (e:H a=some o):a < h.objs.size:=(x a o e).lt
theorem cu.fresh (x:cu P w H h) (e:h.objs.size≤a):H a=none:=by
 cases q:H a with
 |none=>rfl
 |some u=>exact absurd (Nat.lt_of_lt_of_le (x.lt q) e) (Nat.lt_irrefl _)
theorem cu.kept (x:cu P w H h) (k:∀ b u,h.get? b=some u→h'.get? b=some u):cu P w H h':=fun a o e =>
 (x a o e).kH (fun b u _ q=>k b u q) (fun _ q=>q) fun _ _ q=>q
theorem cu.laid (x:cu P w H h) (k:∀ b u,h.get? b=some u→h'.get? b=some u) (hp:h.objs.size≤a) (new:b9 P w (upd H a o) h' a o):cu P w (upd H a o) h':=fun b u e=>by
 have hn:=x.fresh hp
 by_cases hb:b=a
 ·subst hb;rw [bG] at e;cases e;exact new
 ·rw [aH hb] at e
  exact (x b u e).kH (fun c v _ q=>k c v q) (fun c q=>by rw [aH (dY q hn)];exact q) fun c xs q=>by rw [aH (dY q hn)];exact q
end
def Rd (H:Hp) (a:Addr) (u:HO):Prop:=H a=some u∨∃ o,H a=some (.aW o u)
theorem Rd.ok {P:Program}{w:World}{H:Hp}{h:Heap}{a:Addr}{u:HO} (r:Rd H a u) (x:cu P w H h):b9 P w H h a u:=by
 rcases r with r|⟨o,r⟩
 ·exact x a u r
 ·obtain ⟨_,q⟩:=x a _ r
  exact q
noncomputable def qT:Option HO→Prop
 |some (.lst _)=>True
 |some (.dK _)=>True
 |some (.dT _)=>True
 |some (.set _ _)=>True
 |some (.ins _ _ _)=>True
 |some (.ext _)=>True
 |_=>False
section
variable {P:Program}{w:World}{H:Hp}{h h':Heap}{x e:Addr}{o':HO}
theorem cu.write (ok:cu P w H h) (mu:qT (H x)) (he:e=x∨H e=some (.own x)) (k:∀ b u,b≠e→h.get? b=some u→h'.get? b=some u) (oz:∃ u,h'.get? e=some u)
  (new:b9 P w (upd H x o') h' x o'):cu P w (upd H x o') h':=fun b u q=>by
 have GA:∀ c y,H c=some (.own y)→c≠x:=fun c y r z=>by subst z;rw [r] at mu;exact mu
 have Ww:∀ c xs,H c=some (.tup xs)→c≠x:=fun c xs r z=>by subst z;rw [r] at mu;exact mu
 by_cases hb:b=x
 ·subst hb;rw [bG] at q;cases q;exact new
 ·rw [aH hb] at q
  by_cases iE:b=e
  ·have q':H b=some (.own x):=by
    rcases he with z|z
    ·exact absurd (iE.trans z) hb
    ·rw [iE];exact z
   rw [q] at q';cases q'
   obtain ⟨v,hv⟩:=oz
   exact ⟨v,by rw [iE];exact hv⟩
  ·refine (ok b u q).kH (fun c v hc r=>k c v ?_ r) (fun c r=>by rw [aH (GA c b r)];exact r) fun c xs r=>by rw [aH (Ww c xs r)];exact r
   rcases hc with rfl|hc
   ·exact iE
   ·rintro rfl
    rcases he with z|z
    ·exact GA c b hc z
    ·rw [hc] at z;cases z;exact hb rfl
end
structure Un (fs ex:List Addr) (H H':Hp) (h h':Heap):Prop where
 keep:∀ b o,h.get? b=some o→H b=none→b∉fs→b∉ex→h'.get? b=some o
 slot:∀ b o,h.get? b=some o→H b=none→b∈fs→b∉ex→∃ sl,h'.get? b=some { o with slots:=sl }
 free:∀ b o,h.get? b=some o→H b=none→b∉ex→H' b=none
 there:∀ b o,h.get? b=some o→b∉ex→∃ o',h'.get? b=some o'
 jH:∀ b xs,H b=some (.tup xs)→H' b=some (.tup xs)
 iu:∀ b o u,H b=some (.aW o u)→H' b=some (.aW o u)
 jI:∀ b ps,H b=some (.jT ps)→∃ more,H' b=some (.jT (ps++more))
section
variable {fs Xu ex ex':List Addr}{H H1 H2:Hp}{h h1 h2 h':Heap}{a x e:Addr}{o:HO}
theorem Un.any (u:Un fs ex H H1 h h1) {b:Addr}{ob:Obj} (q:h.get? b=some ob) (n:H b=none) (hx:b∉ex):∃ sl,h1.get? b=some { ob with slots:=sl }:=by
 by_cases hb:b∈fs
 ·exact u.slot b ob q n hb hx
 ·exact ⟨ob.slots,u.keep b ob q n hb hx⟩
theorem Un.kept (k:∀ b u,h.get? b=some u→h'.get? b=some u):Un fs ex H H h h' :=
 ⟨fun b ob q _ _ _=>k b ob q,fun b ob q _ _ _=>⟨ob.slots,k b ob q⟩,fun _ _ _ n _=>n,fun b ob q _=>⟨ob,k b ob q⟩,fun _ _ q=>q,fun _ _ _ q=>q,fun _ ps q=>⟨#[],by rw [q];simp⟩⟩
theorem Un.refl:Un fs ex H H h h:=Un.kept fun _ _ q=>q
theorem Un.laid (k:∀ b u,h.get? b=some u→h'.get? b=some u) (hp:h.objs.size≤a) (hn:H a=none):Un fs ex H (upd H a o) h h' where
 keep:=fun b u q _ _ _=>k b u q
 slot:=fun b u q _ _ _=>⟨u.slots,k b u q⟩
 free:=fun b u q n _=>by rw [aH (Nat.ne_of_lt (Nat.lt_of_lt_of_le (Heap.lt_size q) hp))];exact n
 there:=fun b u q _=>⟨u,k b u q⟩
 jH:=fun b xs q=>by rw [aH (dY q hn)];exact q
 iu:=fun b u xs q=>by rw [aH (dY q hn)];exact q
 jI:=fun b ps q=>⟨#[],by rw [aH (dY q hn),q];simp⟩
theorem Un.write (mu:qT (H x)) (he:e=x∨H e=some (.own x)) (k:∀ b u,b≠e→h.get? b=some u→h'.get? b=some u) (oz:∃ u,h'.get? e=some u):Un fs ex H (upd H x o) h h':=by
 have hx:∀ b,H b=none→b≠x:=fun b n z=>by subst z;rw [n] at mu;exact mu
 have hb:∀ b,H b=none→b≠e:=fun b n z=>by
  subst z
  rcases he with r|r
  ·exact hx b n r
  ·rw [n] at r;cases r
 have hm:∀ b u,H b=some u→¬ qT (some u)→b≠x:=fun b u q nm z=>by subst z;rw [q] at mu;exact nm mu
 refine ⟨fun b u q n _ _=>k b u (hb b n) q,fun b u q n _ _=>⟨u.slots,k b u (hb b n) q⟩,fun b u q n _=>by rw [aH (hx b n)];exact n,fun b u q _=>?_,
  fun b xs q=>by rw [aH (hm b _ q fun z=>z)];exact q,fun b u xs q=>by rw [aH (hm b _ q fun z=>z)];exact q,fun b ps q=>⟨#[],by rw [aH (hm b _ q fun z=>z),q];simp⟩⟩
 by_cases iE:b=e
 ·subst iE;exact oz
 ·exact ⟨u,k b u iE q⟩
end
noncomputable def vt (h:Heap) (H:Hp):List Addr:=(List.range h.objs.size).filter fun a=>(H a).isSome
noncomputable def jJ (h:Heap) (H:Hp):Heap:=PySem.W.hideAll h (vt h H)
theorem Mb (h:Heap) (H:Hp):(jJ h H).objs.size=h.objs.size:=PySem.W.hideAll_size _ _
theorem M7 {h:Heap}{H:Hp}{b:Addr}{o:Obj} (e:h.get? b=some o) (n:H b=none):(jJ h H).get? b=some o :=
 PySem.W.hideAll_get _ e fun hm=>by
  have q:(H b).isSome=true:=(List.mem_filter.mp hm).2
  rw [n] at q;simp at q
theorem OI {h:Heap}{H:Hp}{b:Addr}{o:Obj} (e:(jJ h H).get? b=some o):h.get? b=some o∧H b=none:=by
 have e':h.get? b=some o:=PySem.W.of_hideAll (vt h H) e
 refine ⟨e',?_⟩
 cases q:H b with
 |none=>rfl
 |some x =>
  have hm:b∈vt h H:=List.mem_filter.mpr ⟨List.mem_range.mpr (Heap.lt_size e'),by simp [q]⟩
  have z:(jJ h H).get? b=none:=PySem.W.hideAll_none (vt h H) hm
  rw [z] at e;cases e
noncomputable def OJ (g h:Heap) (L:Addr):List (Addr×Obj):=(List.range h.objs.size).filterMap fun a=>if a=L∨(g.get? a).isSome=true then none else (h.get? a).map fun o=>(a,o)
noncomputable def rest (g h:Heap) (L d:Addr):List (Addr×Obj):=(OJ g h L).filter fun p=>decide (p.1≠d)
structure Mod (K:PySem.W.Frag) (mg:Str→Option Value) (base:Heap):Prop where
 zT:K.In base
 glob:base.Ns mainGlobals mg
 blt:∃ mb,base.Ns builtinsNs mb∧∀ x:Str,x ≠ "__name__" → mb x=bootBuiltins x
 nolimit:base.NoLimit
structure Cx where
 prog:Program
 w:World
 K:PySem.W.Frag
 mg:Str→Option Value
 base:Heap
 A:Around
 N:List Str
 s₀:Shared
 H₀:Hp
 env:Env
 outer:List Env
 stack:List Env
 ex:List Addr
 fn:Str→Bool
 calm:Bool
 pn:List (Addr×Obj)
 xe:Value→Shared→Prop
noncomputable def gW (l:List Env):List Addr:=l.filterMap (·.frame)
noncomputable abbrev Cx.fs (X:Cx):List Addr:=gW X.outer
def vv (sc:Scope) (x:Str):Prop:=sc.names.lookup x=some .local∨sc.names.lookup x=some .cell∨sc.names.lookup x=some .free
def Loc (sc:Scope) (x:Str):Prop:=sc.names.lookup x=some .local∨sc.names.lookup x=some .cell
def Look (env:Env) (h:Heap) (m:Str→Option Value) (x:Str) (u:Value):Prop :=
 (env.kindOf x=some .local∧m x=some u)∨((env.kindOf x=some .cell∨env.kindOf x=some .free)∧∃ c,env.cells.lookup x=some c∧h.IsCell c (some u))
structure Cx.Ok (X:Cx):Prop where
 mod:Mod X.K X.mg X.base
 kind:X.env.scope.kind=.function
 glob:X.env.globals=mainGlobals
 blt:X.env.builtins=builtinsNs
 above:X.s₀.heap.objs.size≤X.env.locals
 inj:∀ x y c,X.env.cells.lookup x=some c→X.env.cells.lookup y=some c→x=y
 has:∀ x,(X.env.kindOf x=some .cell∨X.env.kindOf x=some .free)→∃ c,X.env.cells.lookup x=some c
 qU:∀ x c,X.fn x=true→X.env.cells.lookup x=some c→X.s₀.heap.objs.size≤c
 hd:X.calm=true→X.A.handled=none
 frames:X.A.frames=some X.stack
 vw:X.stack=X.outer∨(X.stack=X.env::X.outer∧X.env.frame=some X.env.locals)
 HY:∀ b∈X.ex,b≠X.env.locals∧∀ x c,X.env.cells.lookup x=some c→c≠b
 bs:∀ b o,X.base.get? b=some o→X.s₀.heap.get? b=some o∧X.H₀ b=none
 jU:X.base.objs.size≤X.s₀.heap.objs.size
 qA:∀ b o,X.base.get? b=some o→b∉X.ex
 uX:∀ b∈X.ex,b∉X.fs
 iw:X.s₀.heap.FunFrames X.base X.outer
 oA:∀ b∈X.fs,X.H₀ b=none
structure Inv (X:Cx) (pins:List (Addr×Obj)) (σ:List (Option V)) (H:Hp) (s:Shared):Prop where
 ok:X.Ok
 os:s.os=X.s₀.os
 bare:AllBare s.gens
 base:Un X.fs X.ex X.H₀ H X.s₀.heap s.heap
 loc:∃ m,s.heap.Ns X.env.locals m∧∀ (i:Nat) (x:Str) (v:V),X.N[i]?=some x→σ[i]?=some (some v)→vv X.env.scope x→∃ u,RelV v u∧Look X.env s.heap m x u
 cell:∀ x c,X.env.cells.lookup x=some c→∃ v,s.heap.IsCell c v
 free:H X.env.locals=none
 gn:∀ x c,X.env.cells.lookup x=some c→H c=none
 pin:∀ p∈X.pn++pins,s.heap.get? p.1=some p.2∧H p.1=none∧p.1≠X.env.locals∧p.1∉X.fs∧∀ v,p.2.data≠.cell v
 aE:cu X.prog X.w H s.heap
 len:σ.length=X.N.length
section
variable {X:Cx}{pins:List (Addr×Obj)}{σ:List (Option V)}{H H':Hp}{s:Shared}{h':Heap}
theorem Cx.Ok.Wx (ok:X.Ok) {b:Addr}{o:Obj} (e:X.base.get? b=some o):b∉X.fs:=fun hb=>by
 have:=(ok.iw.mem hb).1
 rw [e] at this;cases this
theorem Inv.bs (I:Inv X pins σ H s):∀ b o,X.base.get? b=some o→s.heap.get? b=some o∧H b=none:=fun b o e =>
 ⟨I.base.keep b o (I.ok.bs b o e).1 (I.ok.bs b o e).2 (I.ok.Wx e) (I.ok.qA b o e),I.base.free b o (I.ok.bs b o e).1 (I.ok.bs b o e).2 (I.ok.qA b o e)⟩
theorem Inv.bk (I:Inv X pins σ H s):∀ b o,X.base.get? b=some o→s.heap.get? b=some o:=fun b o e=>(I.bs b o e).1
theorem Inv.mod (I:Inv X pins σ H s):Mod X.K X.mg X.base:=I.ok.mod
theorem Inv.fV (I:Inv X pins σ H s):X.K.In s.heap:=I.ok.mod.zT.keeps I.bk
theorem Inv.fr (I:Inv X pins σ H s):∃ m,Fr X.base X.env.locals s.heap m :=
 let ⟨m,hn,_⟩:=I.loc
 ⟨m,hn,I.bk,Nat.le_trans I.ok.jU I.ok.above⟩
theorem Inv.lt (I:Inv X pins σ H s):X.env.locals < s.heap.objs.size:=let ⟨_,hn,_⟩:=I.loc;hn.lt
theorem Inv.sz (I:Inv X pins σ H s):X.s₀.heap.objs.size≤s.heap.objs.size:=Nat.le_trans I.ok.above (Nat.le_of_lt I.lt)
theorem Inv.Wy (I:Inv X pins σ H s) {a:Addr} (h:s.heap.objs.size≤a):a∉X.fs:=fun hb=>by
 obtain ⟨_,o,ho,_⟩:=I.ok.iw.mem hb
 exact absurd (Nat.lt_of_lt_of_le (Heap.lt_size ho) (Nat.le_trans I.sz h)) (Nat.lt_irrefl _)
theorem Inv.mr (I:Inv X pins σ H s):∀ x c,X.env.cells.lookup x=some c→c≠X.env.locals:=fun x c e z=>by
 obtain ⟨v,o,ho,hd⟩:=I.cell x c e
 obtain ⟨m,⟨o',es,ep,fE,vx,_⟩,_⟩:=I.loc
 rw [z,fE] at ho;cases ho;rw [vx] at hd;cases hd
theorem Inv.iw (I:Inv X pins σ H s):s.heap.FunFrames X.base X.outer:=by
 have all:∀ (l:List Env),(∀ b∈gW l,b∈X.fs)→X.s₀.heap.FunFrames X.base l→s.heap.FunFrames X.base l:=by
  intro l
  induction l with
  |nil=>intro _ _;trivial
  |cons env r ih =>
   intro hs hl
   obtain ⟨hk,⟨L,o,hf,hn,ho,hd⟩,hr⟩:=hl
   have hL:L∈X.fs:=hs L (by unfold gW;rw [List.filterMap_cons,hf];exact List.mem_cons_self)
   obtain ⟨sl,e⟩:=I.base.slot L o ho (I.ok.oA L hL) hL fun z=>I.ok.uX L z hL
   exact ⟨hk,⟨L,_,hf,hn,e,hd⟩,ih (fun b hb=>hs b (by unfold gW;rw [List.filterMap_cons,hf];exact List.mem_cons_of_mem _ hb)) hr⟩
 exact all X.outer (fun _ hb=>hb) I.ok.iw
theorem Inv.stack (I:Inv X pins σ H s):s.heap.FunFrames X.base X.stack:=by
 rcases I.ok.vw with e|⟨e,hf⟩
 ·rw [e];exact I.iw
 ·rw [e]
  obtain ⟨m,hn,_⟩:=I.loc
  refine .cons (by rw [I.ok.kind];decide) hf hn ?_ I.iw
  exact Heap.get?_none_of_le (Nat.le_trans I.ok.jU I.ok.above)
theorem Inv.yg (I:Inv X pins σ H s):∀ b∈gW X.stack,b∈X.env.locals::X.fs:=fun b hb=>by
 rcases I.ok.vw with e|⟨e,hf⟩
 ·rw [e] at hb;exact List.mem_cons_of_mem _ hb
 ·rw [e] at hb
  unfold gW at hb
  rw [List.filterMap_cons,hf] at hb
  exact hb
theorem Inv.DJ (I:Inv X pins σ H s):∀ b∈gW X.stack,H b=none:=fun b hb=>by
 rcases List.mem_cons.mp (I.yg b hb) with e|hb
 ·rw [e];exact I.free
 ·obtain ⟨_,o,ho,_⟩:=I.ok.iw.mem hb
  exact I.base.free b o ho (I.ok.oA b hb) fun z=>I.ok.uX b z hb
theorem Inv.step {g':Array GenState}{t':Nat}{d':Drawn}{ch:List Addr} (I:Inv X pins σ H s)
  (i9:∀ b∈ch,(b∈X.ex∨X.s₀.heap.objs.size≤b)∧b≠X.env.locals∧(∀ x c,X.env.cells.lookup x=some c→c≠b)∧∀ p∈X.pn++pins,p.1≠b)
  (keep:∀ b o,b≠X.env.locals→b∉X.fs→b∉ch→s.heap.get? b=some o→H b=none→h'.get? b=some o)
  (slot:∀ b o,b≠X.env.locals→b∈X.fs→b∉ch→s.heap.get? b=some o→H b=none→∃ sl,h'.get? b=some { o with slots:=sl }) (free:∀ b o,b∉ch→s.heap.get? b=some o→H b=none→H' b=none)
  (there:∀ b o,b∉ch→s.heap.get? b=some o→∃ o',h'.get? b=some o')
  (jH:∀ b xs,H b=some (.tup xs)→H' b=some (.tup xs)) (iu:∀ b o u,H b=some (.aW o u)→H' b=some (.aW o u)) (jI:∀ b ps,H b=some (.jT ps)→∃ more,H' b=some (.jT (ps++more)))
  (ns:∀ m,s.heap.Ns X.env.locals m→h'.Ns X.env.locals m) (aE:cu X.prog X.w H' h') (hg:AllBare g') :
  Inv X pins σ H' { s with heap:=h',gens:=g',drawn:=d',toks:=t' }:=by
 have mv:∀ b o,X.s₀.heap.get? b=some o→b≠X.env.locals:=fun b o e=>Nat.ne_of_lt (Nat.lt_of_lt_of_le (Heap.lt_size e) I.ok.above)
 have jW:∀ b o,X.s₀.heap.get? b=some o→b∉X.ex→b∉ch:=fun b o e hx hb=>by
  rcases (i9 b hb).1 with z|z
  ·exact hx z
  ·exact absurd (Nat.lt_of_lt_of_le (Heap.lt_size e) z) (Nat.lt_irrefl _)
 have cellK:∀ x c,X.env.cells.lookup x=some c→∀ v,s.heap.IsCell c v→h'.IsCell c v:=fun x c e v ⟨o,ho,hd⟩=>by
  have qV:c∉ch:=fun z=>(i9 c z).2.2.1 x c e rfl
  by_cases hc:c∈X.fs
  ·obtain ⟨sl,q⟩:=slot c o (I.mr x c e) hc qV ho (I.gn x c e)
   exact ⟨_,q,hd⟩
  ·exact ⟨o,keep c o (I.mr x c e) hc qV ho (I.gn x c e),hd⟩
 refine ⟨I.ok,I.os,hg,⟨fun b o e n hb hx=>?_,fun b o e n hb hx=>?_,fun b o e n hx=>?_,fun b o e hx=>?_,fun b xs e=>jH b xs (I.base.jH b xs e),fun b o xs e=>iu b o xs (I.base.iu b o xs e),fun b ps e=>?_⟩,?_,fun x c e=>?_,?_,fun x c e=>?_,fun p hp=>?_,aE,I.len⟩
 ·exact keep b o (mv b o e) hb (jW b o e hx) (I.base.keep b o e n hb hx) (I.base.free b o e n hx)
 ·obtain ⟨sl,e1⟩:=I.base.slot b o e n hb hx
  obtain ⟨Xv,e2⟩:=slot b _ (mv b o e) hb (jW b o e hx) e1 (I.base.free b o e n hx)
  exact ⟨Xv,e2⟩
 ·obtain ⟨o',e1⟩:=I.base.there b o e hx
  exact free b o' (jW b o e hx) e1 (I.base.free b o e n hx)
 ·obtain ⟨o',e1⟩:=I.base.there b o e hx
  exact there b o' (jW b o e hx) e1
 ·obtain ⟨m1,e1⟩:=I.base.jI b ps e
  obtain ⟨m2,e2⟩:=jI b _ e1
  exact ⟨m1++m2,by rw [e2,Array.append_assoc]⟩
 ·obtain ⟨m,hn,hl⟩:=I.loc
  refine ⟨m,ns m hn,fun i x v e1 e2 e3=>?_⟩
  obtain ⟨u,r,l⟩:=hl i x v e1 e2 e3
  refine ⟨u,r,?_⟩
  rcases l with l|⟨k,c,e,z⟩
  ·exact .inl l
  ·exact .inr ⟨k,c,e,cellK x c e _ z⟩
 ·obtain ⟨v,z⟩:=I.cell x c e
  exact ⟨v,cellK x c e v z⟩
 ·obtain ⟨m,⟨o,_,_,ho,_⟩,_⟩:=I.loc
  exact free _ o (fun z=>(i9 _ z).2.1 rfl) ho I.free
 ·obtain ⟨v,o,ho,hd⟩:=I.cell x c e
  exact free c o (fun z=>(i9 c z).2.2.1 x c e rfl) ho (I.gn x c e)
 ·obtain ⟨e,n,ne,nf,d⟩:=I.pin p hp
  have qV:p.1∉ch:=fun z=>(i9 p.1 z).2.2.2 p hp rfl
  exact ⟨keep p.1 p.2 ne nf qV e n,free p.1 p.2 qV e n,ne,nf,d⟩
theorem Inv.un {t':Nat} (I:Inv X pins σ H s) (u:Un X.fs [] H H' s.heap h') (aE:cu X.prog X.w H' h'):Inv X pins σ H' { s with heap:=h',toks:=t' }:=by
 obtain ⟨m,⟨o,es,ep,ho,r⟩,_⟩:=id I.loc
 obtain ⟨sl,hL⟩:=u.any ho I.free (by simp)
 exact I.step (g':=s.gens) (d':=s.drawn) (ch:=[]) (fun _ z=>nomatch z) (fun b o _ hb _ e n=>u.keep b o e n hb (by simp)) (fun b o _ hb _ e n=>u.slot b o e n hb (by simp)) (fun b o _ e n=>u.free b o e n (by simp)) (fun b o _ e=>u.there b o e (by simp)) u.jH u.iu u.jI (fun m' hm=>by
  obtain ⟨o',kZ,qW,fE,r'⟩:=hm
  rw [ho] at fE;cases fE
  exact ⟨_,kZ,qW,hL,r'⟩) aE I.bare
theorem Inv.call {g':Array GenState}{t':Nat}{d':Drawn}{ch:List Addr} (I:Inv X pins σ H s) (u:Un (gW X.stack) ch H H' s.heap h') (aE:cu X.prog X.w H' h') (hg:AllBare g')
  (i9:∀ b∈ch,(b∈X.ex∨X.s₀.heap.objs.size≤b)∧b≠X.env.locals∧(∀ x c,X.env.cells.lookup x=some c→c≠b)∧∀ p∈X.pn++pins,p.1≠b) :
  Inv X pins σ H' { s with heap:=h',gens:=g',drawn:=d',toks:=t' }:=by
 obtain ⟨m,⟨o,es,ep,ho,r⟩,_⟩:=id I.loc
 obtain ⟨sl,hL⟩:=u.any ho I.free fun z=>(i9 _ z).2.1 rfl
 exact I.step (ch:=ch) i9 (fun b o hL hb hc e n=>u.keep b o e n (fun z=>(List.mem_cons.mp (I.yg b z)).elim hL hb) hc) (fun b o _ _ hc e n=>u.any e n hc) (fun b o hc e n=>u.free b o e n hc) (fun b o hc e=>u.there b o e hc) u.jH u.iu u.jI (fun m' hm=>by
  obtain ⟨o',kZ,qW,fE,r'⟩:=hm
  rw [ho] at fE;cases fE
  exact ⟨_,kZ,qW,hL,r'⟩) aE hg
theorem Inv.turned {t':Nat}{it:Addr} (I:Inv X pins σ H s) (k:∀ b o,b≠it→s.heap.get? b=some o→h'.get? b=some o) (hn:H it=none) (hL:it≠X.env.locals)
  (h1:it∈X.ex∨X.s₀.heap.objs.size≤it) (h2:∀ x c,X.env.cells.lookup x=some c→c≠it) (h3:∀ p∈X.pn++pins,p.1≠it):Inv X pins σ H { s with heap:=h',toks:=t' }:=by
 have k5:∀ b u,H b=some u→b≠it:=fun b u e z=>by rw [z,hn] at e;cases e
 refine I.step (g':=s.gens) (d':=s.drawn) (ch:=[it]) (fun b hb=>?_) (fun b o _ _ hc e _=>k b o (fun z=>hc (by simp [z])) e) (fun b o _ _ hc e _=>⟨o.slots,k b o (fun z=>hc (by simp [z])) e⟩) (fun _ _ _ _ n=>n)
  (fun b o hc e=>⟨o,k b o (fun z=>hc (by simp [z])) e⟩) (fun _ _ e=>e) (fun _ _ _ e=>e) (fun b ps e=>⟨#[],by rw [e];simp⟩) (fun m hm=>?_) (fun b u e=>?_) I.bare
 ·have e:b=it:=by simpa using hb
  subst e
  exact ⟨h1,hL,h2,h3⟩
 ·obtain ⟨o,es,ep,ho,r⟩:=hm
  exact ⟨o,es,ep,k _ o (Ne.symm hL) ho,r⟩
 ·refine (I.aE b u e).kH (fun c v hc q=>k c v ?_ q) (fun _ q=>q) fun _ _ q=>q
  rcases hc with z|z
  ·rw [z];exact k5 b u e
  ·exact k5 c _ z
theorem Inv.tok (I:Inv X pins σ H s) (t:Nat):Inv X pins σ H { s with toks:=t }:=I.un (h':=s.heap) (t':=t) Un.refl I.aE
theorem Inv.kept {t':Nat} (I:Inv X pins σ H s) (k:∀ b u,s.heap.get? b=some u→h'.get? b=some u):Inv X pins σ H { s with heap:=h',toks:=t' }:=I.un (Un.kept k) (I.aE.kept k)
theorem Inv.laid {a:Addr}{o:HO}{t':Nat} (I:Inv X pins σ H s) (k:∀ b u,s.heap.get? b=some u→h'.get? b=some u) (hp:s.heap.objs.size≤a) (new:b9 X.prog X.w (upd H a o) h' a o) :
 Inv X pins σ (upd H a o) { s with heap:=h',toks:=t' }:=I.un (Un.laid k hp (I.aE.fresh hp)) (I.aE.laid k hp new)
theorem Inv.write {x e:Addr}{o:HO}{t':Nat} (I:Inv X pins σ H s) (mu:qT (H x)) (he:e=x∨H e=some (.own x)) (k:∀ b u,b≠e→s.heap.get? b=some u→h'.get? b=some u) (oz:∃ u,h'.get? e=some u)
 (new:b9 X.prog X.w (upd H x o) h' x o):Inv X pins σ (upd H x o) { s with heap:=h',toks:=t' }:=I.un (Un.write mu he k oz) (I.aE.write mu he k oz new)
theorem Inv.weak {σ':List (Option V)} (I:Inv X pins σ H s) (hl:σ'.length=σ.length) (w:∀ (i:Nat) v,σ'[i]?=some (some v)→σ[i]?=some (some v)):Inv X pins σ' H s :=
 ⟨I.ok,I.os,I.bare,I.base,let ⟨m,hn,Xw⟩:=I.loc;⟨m,hn,fun i x v e1 e2 e3=>Xw i x v e1 (w i v e2) e3⟩,I.cell,I.free,I.gn,I.pin,I.aE,hl.trans I.len⟩
theorem Inv.DK {FP:List (Addr×Obj)} (I:Inv X pins σ H s) (h:∀ p∈FP,s.heap.get? p.1=some p.2∧H p.1=none∧p.1≠X.env.locals∧p.1∉X.fs∧∀ v,p.2.data≠.cell v):Inv X FP σ H s :=
 ⟨I.ok,I.os,I.bare,I.base,I.loc,I.cell,I.free,I.gn,fun p hp=>(List.mem_append.mp hp).elim (fun z=>I.pin p (List.mem_append_left _ z)) (h p),I.aE,I.len⟩
theorem pW {N:List Str} (hN:N.Nodup) {i j:Nat}{x:Str} (a:N[i]?=some x) (b:N[j]?=some x):i=j:=by
 obtain ⟨h1,e1⟩:=List.getElem?_eq_some_iff.mp a
 obtain ⟨h2,e2⟩:=List.getElem?_eq_some_iff.mp b
 exact (List.getElem_inj hN).mp (e1.trans e2.symm)
theorem Cu {M:Model}{A:Around}{E:Value→Shared→Prop}{i:Nat}{x:Str}{v:V}{u:Value}{Q:Unit→Shared→Prop} (I:Inv X pins σ H s) (hN:X.N.Nodup) (hi:X.N[i]?=some x) (hx:Loc X.env.scope x) (r:RelV v u)
  (h:∀ s',Inv X pins (σ.set i (some v)) H s'→(∃ a,Heap.SameBut a s.heap s'.heap∧(a=X.env.locals∨X.env.cells.lookup x=some a))→Q () s') (hf:X.fn x=true∨X.env.scope.names.lookup x=some .local:=by first|exact .inl rfl|exact .inr rfl|assumption):wpAny M A (storeName X.env x u) Q E s:=by
 obtain ⟨m,hn,hl⟩:=id I.loc
 have Wz:(X.env.scope.kind==.class||(X.env.scope.kind==.module&&X.env.locals != X.env.globals))=false:=by rw [I.ok.kind];rfl
 have GB:i < σ.length:=by rw [I.len];exact (List.getElem?_eq_some_iff.mp hi).1
 have mr:=I.mr
 have tracked:∀ {a:Addr}{h':Heap},(∃ o,s.heap.get? a=some o∧H a=none)→Heap.SameBut a s.heap h'→cu X.prog X.w H h':=fun {a h'} ha hs b ob e=>by
  obtain ⟨_,_,uG⟩:=ha
  refine (I.aE b ob e).kH (fun c w' hc q=>(hs.2 c ?_).trans q) (fun _ q=>q) fun _ _ q=>q
  rintro rfl
  rcases hc with rfl|hc
  ·rw [uG] at e;cases e
  ·rw [uG] at hc;cases hc
 rcases hx with hk|hk
 ·refine wpAny_storeName_local hk hn (fun h' jc hs=>?_) Wz
  obtain ⟨oL,_,_,Xx,_⟩:=id hn
  refine h _ ⟨I.ok,I.os,I.bare,⟨fun b o e n hb hx=>?_,fun b o e n hb hx=>?_,I.base.free,fun b o e hx=>?_,I.base.jH,I.base.iu,I.base.jI⟩,⟨_,jc,fun j y v' e1 e2 e3=>?_⟩,fun y c e=>?_,I.free,I.gn,fun p hp=>?_,tracked ⟨oL,Xx,I.free⟩ hs,by simpa using I.len⟩ ⟨_,hs,.inl rfl⟩
  ·exact (hs.2 b (Nat.ne_of_lt (Nat.lt_of_lt_of_le (Heap.lt_size e) I.ok.above))).trans (I.base.keep b o e n hb hx)
  ·obtain ⟨sl,e1⟩:=I.base.slot b o e n hb hx
   exact ⟨sl,(hs.2 b (Nat.ne_of_lt (Nat.lt_of_lt_of_le (Heap.lt_size e) I.ok.above))).trans e1⟩
  ·obtain ⟨o',e1⟩:=I.base.there b o e hx
   exact ⟨o',(hs.2 b (Nat.ne_of_lt (Nat.lt_of_lt_of_le (Heap.lt_size e) I.ok.above))).trans e1⟩
  ·by_cases hj:j=i
   ·subst hj
    rw [hi] at e1;cases e1
    rw [List.getElem?_set_self GB] at e2
    cases e2
    exact ⟨u,r,.inl ⟨hk,by simp⟩⟩
   ·rw [List.getElem?_set_ne (Ne.symm hj)] at e2
    obtain ⟨u',r',q⟩:=hl j y v' e1 e2 e3
    refine ⟨u',r',?_⟩
    rcases q with ⟨k,e⟩|⟨k,c,e,z⟩
    ·refine .inl ⟨k,?_⟩
     have:y≠x:=fun e=>hj (pW hN e1 (e▸hi))
     simp [this,e]
    ·exact .inr ⟨k,c,e,z.sameBut hs (mr y c e)⟩
  ·obtain ⟨w',z⟩:=I.cell y c e
   exact ⟨w',z.sameBut hs (mr y c e)⟩
  ·obtain ⟨e,n,ne,nf,d⟩:=I.pin p hp
   exact ⟨(hs.2 p.1 ne).trans e,n,ne,nf,d⟩
 ·have zU:X.fn x=true:=by
   rcases hf with z|z
   ·exact z
   ·rw [z] at hk;cases hk
  obtain ⟨c,hc⟩:=I.ok.has x (.inl hk)
  obtain ⟨w',z⟩:=I.cell x c hc
  refine wpAny_storeName_cell I.ok.kind hk hc z (fun h' HZ hs=>?_)
  obtain ⟨oc,H0,WB⟩:=id z
  refine h { s with heap:=h' } ⟨I.ok,I.os,I.bare,⟨fun b o e n hb hx=>?_,fun b o e n hb hx=>?_,I.base.free,fun b o e hx=>?_,I.base.jH,I.base.iu,I.base.jI⟩,⟨m,hn.sameBut hs (Ne.symm (mr x c hc)),fun j y v' e1 e2 e3=>?_⟩,fun y c' e=>?_,I.free,I.gn,fun p hp=>?_,tracked ⟨oc,H0,I.gn x c hc⟩ hs,by simpa using I.len⟩ ⟨c,hs,.inr hc⟩
  ·exact (hs.2 b (Nat.ne_of_lt (Nat.lt_of_lt_of_le (Heap.lt_size e) (I.ok.qU x c zU hc)))).trans (I.base.keep b o e n hb hx)
  ·obtain ⟨sl,e1⟩:=I.base.slot b o e n hb hx
   exact ⟨sl,(hs.2 b (Nat.ne_of_lt (Nat.lt_of_lt_of_le (Heap.lt_size e) (I.ok.qU x c zU hc)))).trans e1⟩
  ·obtain ⟨o',e1⟩:=I.base.there b o e hx
   exact ⟨o',(hs.2 b (Nat.ne_of_lt (Nat.lt_of_lt_of_le (Heap.lt_size e) (I.ok.qU x c zU hc)))).trans e1⟩
  ·by_cases hj:j=i
   ·subst hj
    rw [hi] at e1;cases e1
    rw [List.getElem?_set_self GB] at e2
    cases e2
    exact ⟨u,r,.inr ⟨.inl hk,c,hc,HZ⟩⟩
   ·rw [List.getElem?_set_ne (Ne.symm hj)] at e2
    obtain ⟨u',r',q⟩:=hl j y v' e1 e2 e3
    refine ⟨u',r',?_⟩
    rcases q with q|⟨k,c',e,z'⟩
    ·exact .inl q
    ·refine .inr ⟨k,c',e,z'.sameBut hs ?_⟩
     rintro rfl
     exact hj (pW hN e1 (I.ok.inj _ _ _ e hc▸hi))
  ·by_cases vy:c'=c
   ·subst vy;exact ⟨_,HZ⟩
   ·obtain ⟨w2,z2⟩:=I.cell y c' e
    exact ⟨w2,z2.sameBut hs vy⟩
  ·obtain ⟨e,n,ne,nf,d⟩:=I.pin p hp
   refine ⟨(hs.2 p.1 ?_).trans e,n,ne,nf,d⟩
   intro q
   rw [q,H0] at e
   have q':oc=p.2:=Option.some.inj e
   exact d w' (by rw [←q'];exact WB)
theorem C2 {M:Model}{A:Around}{E:Value→Shared→Prop}{i:Nat}{x:Str}{v:V}{u:Value}{Q:Unit→Shared→Prop} (I:Inv X pins σ H s) (hN:X.N.Nodup) (hi:X.N[i]?=some x) (hx:Loc X.env.scope x) (r:RelV v u)
  (h:∀ s',Inv X pins (σ.set i (some v)) H s'→Q () s') (hf:X.fn x=true∨X.env.scope.names.lookup x=some .local:=by first|exact .inl rfl|exact .inr rfl|assumption):wpAny M A (storeName X.env x u) Q E s :=
 Cu I hN hi hx r (fun s' I' _=>h s' I') hf
theorem Inv.UD {s':Shared}{ch:List Addr} (I:Inv X pins σ H s) (ho:s'.os=s.os) (u:Un (gW X.stack) ch H H' s.heap s'.heap) (aE:cu X.prog X.w H' s'.heap) (hg:AllBare s'.gens)
  (i9:∀ b∈ch,(b∈X.ex∨X.s₀.heap.objs.size≤b)∧b≠X.env.locals∧(∀ x c,X.env.cells.lookup x=some c→c≠b)∧∀ p∈X.pn++pins,p.1≠b):Inv X pins σ H' s':=by
 obtain ⟨h',g',d',t',o'⟩:=s'
 have e:o'=s.os:=ho
 subst e
 exact I.call (g':=g') (t':=t') (d':=d') u aE hg i9
end
noncomputable abbrev XK:=Value→Option Addr→Hp→Prop
noncomputable abbrev St:=List (Option V)
noncomputable abbrev VK:=V→Hp→Prop
noncomputable abbrev TE:=St→Hp→VK→Prop
noncomputable abbrev TT:=St→Hp→(Bool→Hp→Prop)→Prop
noncomputable abbrev TA:=St→Hp→(List V→Hp→Prop)→Prop
structure Ends where
 nx:St→Hp→Prop
 rt:VK
 bk:St→Hp→Prop:=fun _ _=>False
 ct:St→Hp→Prop:=fun _ _=>False
noncomputable abbrev TS:=Ends→St→Hp→Prop
def EP (X:Cx) (pins:List (Addr×Obj)) (σ:St) (Q:VK) (u:Value) (s':Shared):Prop:=∃ v H',Inv X pins σ H' s'∧RelV v u∧Q v H'
def TP (X:Cx) (pins:List (Addr×Obj)) (σ:St) (Q:Bool→Hp→Prop) (b:Bool) (s':Shared):Prop:=∃ H',Inv X pins σ H' s'∧Q b H'
def AP (X:Cx) (pins:List (Addr×Obj)) (σ:St) (Q:List V→Hp→Prop) (us:List Value) (s':Shared):Prop:=∃ vs H',Inv X pins σ H' s'∧Vals vs us∧Q vs H'
def SP (X:Cx) (pins:List (Addr×Obj)) (D:Ends) (f:Flow) (s':Shared):Prop :=
 match f with
 |.next=>∃ σ' H',Inv X pins σ' H' s'∧D.nx σ' H'
 |.brk=>∃ σ' H',Inv X pins σ' H' s'∧D.bk σ' H'
 |.cont=>∃ σ' H',Inv X pins σ' H' s'∧D.ct σ' H'
 |.ret u=>∃ v σ' H',Inv X pins σ' H' s'∧RelV v u∧D.rt v H'
def PE (X:Cx) (e:Expr) (t:TE):Prop :=
 ∀ (pins:List (Addr×Obj)) (s:Shared) (σ:St) (H:Hp) (Q:VK),Inv X pins σ H s→t σ H Q→wpAny (model X.prog X.w) X.A (eval e X.env) (EP X pins σ Q) X.xe s
def PT (X:Cx) (e:Expr) (t:TT):Prop :=
 ∀ (pins:List (Addr×Obj)) (s:Shared) (σ:St) (H:Hp) (Q:Bool→Hp→Prop),Inv X pins σ H s→t σ H Q→wpAny (model X.prog X.w) X.A (isTrue e X.env (eval e X.env)) (TP X pins σ Q) X.xe s
def PW (X:Cx) (e:Expr) (t:TT):Prop :=
 ∀ (whole:Sem Value) (pins:List (Addr×Obj)) (s:Shared) (σ:St) (H:Hp) (Q:Bool→Hp→Prop),Inv X pins σ H s→t σ H Q→wpAny (model X.prog X.w) X.A (isTrue e X.env whole) (TP X pins σ Q) X.xe s
theorem PW.pt {X:Cx}{e:Expr}{t:TT} (h:PW X e t):PT X e t:=h _
def PA (X:Cx) (es:List Expr) (t:TA):Prop :=
 ∀ (pos:Pos) (pins:List (Addr×Obj)) (s:Shared) (σ:St) (H:Hp) (Q:List V→Hp→Prop),Inv X pins σ H s→t σ H Q→wpAny (model X.prog X.w) X.A (spliced (backTo pos (starEach es X.env))) (AP X pins σ Q) X.xe s
def PS (X:Cx) (st:Stmt) (t:TS):Prop :=
 ∀ (pins:List (Addr×Obj)) (s:Shared) (σ:St) (H:Hp) (D:Ends),Inv X pins σ H s→t D σ H→wpAny (model X.prog X.w) X.A (exec st X.env) (SP X pins D) X.xe s
def fF (X:Cx) (st:List Stmt) (t:TS):Prop :=
 ∀ (pins:List (Addr×Obj)) (s:Shared) (σ:St) (H:Hp) (D:Ends),Inv X pins σ H s→t D σ H→wpAny (model X.prog X.w) X.A (execs st X.env) (SP X pins D) X.xe s
theorem aF {α:Type}{t:Sem α}{Q Q':α→Shared→Prop}{M:Model}{A:Around}{E:Value→Shared→Prop}{s:Shared} (h:wpAny M A t Q E s) (hQ:∀ a s,Q a s→Q' a s):wpAny M A t Q' E s:=wpAny_mono h hQ fun _ _ x=>x
section
variable {X:Cx}
noncomputable def fQ (i:Nat):TE:=fun σ H Q=>∃ v,σ[i]?=some (some v)∧Q v H
noncomputable def tC (v:V):TE:=fun _ H Q=>Q v H
theorem EF {i:Nat}{x:Str}{pos:Pos} (hN:X.N[i]?=some x) (hv:vv X.env.scope x) (hd:(x==("__debug__" : Str))=false:=by decide) (gA:(x==("__classdict__" : Str))=false:=by decide):PE X (.Name x pos) (fQ i):=by
 intro pins s σ H Q I h
 obtain ⟨v,e,h⟩:=h
 obtain ⟨m,hn,hl⟩:=I.loc
 obtain ⟨u,r,l⟩:=hl i x v hN e hv
 have fin:EP X pins σ Q u s:=⟨v,H,I,r,h⟩
 rcases l with ⟨hk,hm⟩|⟨hk,c,hc,FQ⟩
 ·exact wpAny_Name (wpAny_loadName_local I.ok.kind hk hn hm fin) hd
 ·rcases hk with hk|hk
  ·exact wpAny_Name (wpAny_loadName_cell I.ok.kind hk hc FQ fin) hd
  ·exact wpAny_Name (wpAny_loadName_free I.ok.kind hk hc FQ fin gA) hd
theorem Ri {i j pos}:PE X (.Constant (.int i) j pos) (tC (.int i)):=fun _ _ _ H _ I h=>wpAny_Constant_int ⟨.int i,H,I.tok _,⟨_,rfl⟩,h⟩
theorem UE {b j pos}:PE X (.Constant (.bool b) j pos) (tC (.bl b)):=fun _ _ _ H _ I h=>Constant_bool ⟨.bl b,H,I,rfl,h⟩
theorem Rj {j pos}:PE X (.Constant .none j pos) (tC .non):=fun _ _ _ H _ I h=>Constant_none ⟨.non,H,I,rfl,h⟩
theorem Rk {x j pos}:PE X (.Constant (.str x) j pos) (tC (.str x)):=fun _ _ _ H _ I h=>Calls.Constant_str ⟨.str x,H,I.tok _,⟨_,rfl⟩,h⟩
def Gl (X:Cx) (x:Str):Prop:=X.env.kindOf x=some .globalImplicit
theorem OL {E:Value→Shared→Prop}{pins:List (Addr×Obj)}{s:Shared}{σ:St}{H:Hp}{x:Str}{u:Value}{pos:Pos}{Q:Value→Shared→Prop} (I:Inv X pins σ H s) (hg:Gl X x) (hm:X.mg x=some u) (h:Q u s)
  (hd:(x==("__debug__" : Str))=false:=by decide):wpAny (model X.prog X.w) X.A (eval (.Name x pos) X.env) Q E s :=
 Calls.Name_function_global I.ok.kind hg (Calls.loadGlobal_global (by rw [I.ok.glob];exact I.mod.glob.keeps I.bk) hm h) hd
theorem ko {E:Value→Shared→Prop}{pins:List (Addr×Obj)}{s:Shared}{σ:St}{H:Hp}{x:Str}{u:Value}{pos:Pos}{Q:Value→Shared→Prop} (I:Inv X pins σ H s) (hg:Gl X x) (hm:X.mg x=none) (hv:bootBuiltins x=some u) (h:Q u s)
  (hn:x ≠ "__name__" := by decide) (hd:(x==("__debug__" : Str))=false:=by decide):wpAny (model X.prog X.w) X.A (eval (.Name x pos) X.env) Q E s:=by
 obtain ⟨mb,h1,h2⟩:=I.mod.blt
 exact Calls.Name_function_global I.ok.kind hg (Calls.loadGlobal_builtin (by rw [I.ok.glob];exact I.mod.glob.keeps I.bk) hm (by rw [I.ok.blt];exact h1.keeps I.bk) ((h2 x hn).trans hv) h) hd
theorem OO {x:Str}{v:V}{u:Value}{pos:Pos} (hg:Gl X x) (hm:X.mg x=none) (hv:bootBuiltins x=some u) (r:RelV v u) (hn:x ≠ "__name__" := by decide) (hd:(x==("__debug__" : Str))=false:=by decide):PE X (.Name x pos) (tC v) :=
 fun _ _ _ H _ I h=>ko I hg hm hv ⟨v,H,I,r,h⟩ hn hd
variable {a b:Expr}{ta tb:TE}{pos:Pos}
def PC (X:Cx) (op:CmpOp) (a b:Expr) (t:TE):Prop :=
 ∀ (pins:List (Addr×Obj)) (s:Shared) (σ:St) (H:Hp) (Q:VK),Inv X pins σ H s→t σ H Q →
  wpAny (model X.prog X.w) X.A (eval a X.env) (fun v s₁=>wpAny (model X.prog X.w) X.A (eval b X.env) (fun u s₂=>wpAny (model X.prog X.w) X.A (compareOp op v u) (EP X pins σ Q) X.xe s₂) X.xe s₁) X.xe s
noncomputable def tB (t:TE):TT:=fun σ H Q=>t σ H fun x H1=>∃ c,x=.bl c∧Q c H1
theorem EG {op:CmpOp}{t:TE} (h:PC X op a b t) (h1:behindInMarks op b=false:=by first|exact Z0 _ (by decide) (by decide)|rfl):PT X (.Compare a [op] [b] pos) (tB t):=by
 intro pins s σ H Q I hw
 refine wpAny_isTrue_Compare1 (aF (h pins s σ H _ I hw) fun v s1 h1=>aF h1 fun u s2 h2=>aF h2 fun c s3 ⟨x,H1,I1,r1,q1⟩=>?_) h1
 obtain ⟨d,rfl,q⟩:=q1
 cases r1
 exact wpAny_truthy_bool ⟨H1,I1,q⟩
variable {tA vz:TT}{rest:List Expr}
noncomputable def GC (t u:TT):TT:=fun σ H Q=>t σ H fun c H1=>if c=true then u σ H1 Q else Q false H1
noncomputable def Ia (t u:TT):TT:=fun σ H Q=>t σ H fun c H1=>if c=true then Q true H1 else u σ H1 Q
noncomputable def GD (t:TT):TT:=fun σ H Q=>t σ H fun c H1=>Q (!c) H1
theorem OQ (ha:PT X a tA):PW X (.BoolOp .And [a] pos) tA:=by
 intro wh pins s σ H Q I h
 refine isTrue_and (aF (ha pins s σ H Q I h) fun c s1 e=>?_)
 cases c with
 |true=>exact isTrue_and_nil e
 |false=>exact e
theorem Rl (ha:PT X a tA):PW X (.BoolOp .Or [a] pos) tA:=by
 intro wh pins s σ H Q I h
 refine isTrue_or (aF (ha pins s σ H Q I h) fun c s1 e=>?_)
 cases c with
 |false=>exact isTrue_or_nil e
 |true=>exact e
theorem Rm (ha:PT X a tA) (hb:PW X (.BoolOp .And (b::rest) pos) vz):PW X (.BoolOp .And (a::b::rest) pos) (GC tA vz):=by
 intro wh pins s σ H Q I h
 refine isTrue_and (aF (ha pins s σ H _ I h) fun c s1 ⟨H1,I1,q1⟩=>?_)
 cases c with
 |true=>exact hb wh pins s1 σ H1 Q I1 q1
 |false=>exact ⟨H1,I1,q1⟩
theorem UG (ha:PT X a tA) (hb:PW X (.BoolOp .Or (b::rest) pos) vz):PW X (.BoolOp .Or (a::b::rest) pos) (Ia tA vz):=by
 intro wh pins s σ H Q I h
 refine isTrue_or (aF (ha pins s σ H _ I h) fun c s1 ⟨H1,I1,q1⟩=>?_)
 cases c with
 |true=>exact ⟨H1,I1,q1⟩
 |false=>exact hb wh pins s1 σ H1 Q I1 q1
theorem Rn (ha:PT X a tA):PT X (.UnaryOp .Not a pos) (GD tA):=by
 intro pins s σ H Q I h
 exact isTrue_not (ha pins s σ H (fun c H1=>Q (!c) H1) I h)
noncomputable def FU (ta tb:TE):TE:=fun σ H Q=>ta σ H fun x H1=>∃ c,x=.bl c∧if c=true then tb σ H1 Q else Q (.bl false) H1
noncomputable def GF (ta tb:TE):TE:=fun σ H Q=>ta σ H fun x H1=>∃ c,x=.bl c∧if c=true then Q (.bl true) H1 else tb σ H1 Q
noncomputable def FV (ta:TE):TE:=fun σ H Q=>ta σ H fun x H1=>∃ c,x=.bl c∧Q (.bl (!c)) H1
theorem EH {op} {t:TE} (h:PE X a t):PE X (.BoolOp op [a] pos) t:=fun pins s σ H Q I hw=>BoolOp_one (h pins s σ H Q I hw)
theorem Ro (ha:PE X a ta) (hb:PE X (.BoolOp .And (b::rest) pos) tb):PE X (.BoolOp .And (a::b::rest) pos) (FU ta tb):=by
 intro pins s σ H Q I h
 refine BoolOp_and (aF (ha pins s σ H _ I h) fun v s1 ⟨x,H1,I1,r1,q1⟩=>?_)
 obtain ⟨c,rfl,q1⟩:=q1
 cases r1
 refine wpAny_truthy_bool ?_
 cases c with
 |true=>exact hb pins s1 σ H1 Q I1 q1
 |false=>exact ⟨.bl false,H1,I1,rfl,q1⟩
theorem UH (ha:PE X a ta) (hb:PE X (.BoolOp .Or (b::rest) pos) tb):PE X (.BoolOp .Or (a::b::rest) pos) (GF ta tb):=by
 intro pins s σ H Q I h
 refine BoolOp_or (aF (ha pins s σ H _ I h) fun v s1 ⟨x,H1,I1,r1,q1⟩=>?_)
 obtain ⟨c,rfl,q1⟩:=q1
 cases r1
 refine wpAny_truthy_bool ?_
 cases c with
 |false=>exact hb pins s1 σ H1 Q I1 q1
 |true=>exact ⟨.bl true,H1,I1,rfl,q1⟩
theorem Rq (ha:PE X a ta):PE X (.UnaryOp .Not a pos) (FV ta):=by
 intro pins s σ H Q I h
 refine UnaryOp_ (aF (ha pins s σ H _ I h) fun v s1 ⟨x,H1,I1,r1,q1⟩=>?_)
 obtain ⟨c,rfl,q1⟩:=q1
 cases r1
 exact not_of (wpAny_truthy_bool ⟨.bl (!c),H1,I1,rfl,q1⟩)
noncomputable def Ib (t:TT) (ta tb:TE):TE:=fun σ H Q=>t σ H fun c H1=>if c=true then ta σ H1 Q else tb σ H1 Q
theorem M8 {c:Expr} (hc:PT X c tA) (ha:PE X a ta) (hb:PE X b tb):PE X (.IfExp c a b pos) (Ib tA ta tb):=by
 intro pins s σ H Q I h
 refine wpAny_IfExp (aF (hc pins s σ H _ I h) fun d s1 ⟨H1,I1,q1⟩=>?_)
 cases d with
 |true=>exact ha pins s1 σ H1 Q I1 q1
 |false=>exact hb pins s1 σ H1 Q I1 q1
end
def bL (K:PySem.W.Frag) (H:Hp) (a:Addr) (xs:List V):Prop :=
 Rd H a (.lst xs) ∨
  ∃ (o:Obj) (its:Array Value) (n:Nat),K.lookup a=some o∧o.cls=.type "list" ∧ o.dict=none∧o.data=.seq its n∧its.size≤sizeLine∧Vals xs its.toList
def bA (K:PySem.W.Frag) (H:Hp) (a:Addr) (xs:List V):Prop :=
 H a=some (.tup xs) ∨
  ∃ (o:Obj) (its:Array Value) (n:Nat),K.lookup a=some o∧o.cls=.type "tuple" ∧ o.data=.seq its n∧its.size≤sizeLine∧4≤its.size∧Vals xs its.toList
theorem bA.own {K:PySem.W.Frag}{H:Hp}{a:Addr}{xs:List V} (h:bA K H a xs) (hl:xs.length < 4):H a=some (.tup xs):=by
 rcases h with h|⟨_,its,_,_,_,_,_,h4,r⟩
 ·exact h
 ·have:=r.length
  simp only [Array.length_toList] at this
  omega
noncomputable def nY:Value→Option V
 |.none=>some .non
 |.bool b=>some (.bl b)
 |.int i _=>some (.int i)
 |.str x _=>some (.str x)
 |.bytes b _=>some (.fD b)
 |.float b _=>some (.qS b)
 |.ref a=>some (.ref a)
 |.type n=>some (.ty n)
 |_=>none
theorem RelV.abs {x:V}{u:Value} (r:RelV x u):nY u=some x:=by
 cases x with
 |non=>cases r;rfl
 |bl _=>cases r;rfl
 |int _=>obtain ⟨t,rfl⟩:=r;rfl
 |str _=>obtain ⟨t,rfl⟩:=r;rfl
 |fD _=>obtain ⟨t,rfl⟩:=r;rfl
 |qS _=>obtain ⟨t,rfl⟩:=r;rfl
 |ref _=>cases r;rfl
 |ty _=>cases r;rfl
theorem RelV.inj {x y:V}{u:Value} (r:RelV x u) (q:RelV y u):x=y:=Option.some.inj (r.abs.symm.trans q.abs)
theorem Vals.inj:∀ {xs ys:List V}{us:List Value},Vals xs us→Vals ys us→xs=ys
 |_,_,_,.nil,.nil=>rfl
 |_,_,_,.cons r t,.cons r' t'=>by rw [r.inj r',Vals.inj t t']
section
variable {X:Cx}{pins:List (Addr×Obj)}{σ:St}{H:Hp}{s:Shared}{a:Addr}{xs ys:List V}
theorem bA.of {K:PySem.W.Frag} (h:H a=some (.tup xs)):bA K H a xs:=.inl h
theorem Inv.list (I:Inv X pins σ H s) (h:bL X.K H a xs):∃ its:List Value,Vals xs its∧PlainL s.heap a its.toArray∧xs.length≤sizeLine:=by
 rcases h with h|⟨o,its,n,hk,hc,hd,hs,hz,r⟩
 ·obtain ⟨z,its,n,r,e⟩:=h.ok I.aE
  exact ⟨its,r,⟨_,n,e,rfl,rfl,rfl⟩,z⟩
 ·refine ⟨its.toList,r,⟨o,n,I.fV a o hk,hc,hd,by simpa using hs⟩,?_⟩
  have e:=r.length
  simp only [Array.length_toList] at e
  omega
theorem Inv.tuple (I:Inv X pins σ H s) (h:bA X.K H a xs):∃ its:List Value,Vals xs its∧IsTup s.heap a its.toArray∧xs.length≤sizeLine:=by
 rcases h with h|⟨o,its,n,hk,hc,hs,hz,_,r⟩
 ·obtain ⟨z,its,r,p⟩:=I.aE _ _ h
  exact ⟨its,r,p,z⟩
 ·refine ⟨its.toList,r,⟨o,I.fV a o hk,hc,n,by simpa using hs⟩,?_⟩
  have e:=r.length
  simp only [Array.length_toList] at e
  omega
theorem Inv.tT (I:Inv X pins σ H s) (h:bL X.K H a xs) (h':bL X.K H a ys):xs=ys:=by
 obtain ⟨its,r,⟨o,n,e,_,_,d⟩,_⟩:=I.list h
 obtain ⟨its',r',⟨o',n',e',_,_,d'⟩,_⟩:=I.list h'
 rw [e] at e';cases e'
 rw [d] at d'
 injection d' with d1 _
 have:its=its':=by simpa using congrArg Array.toList d1
 subst this
 exact r.inj r'
theorem Inv.xr (I:Inv X pins σ H s) (h:bA X.K H a xs) (h':bA X.K H a ys):xs=ys:=by
 obtain ⟨its,r,⟨o,e,_,n,d⟩,_⟩:=I.tuple h
 obtain ⟨its',r',⟨o',e',_,n',d'⟩,_⟩:=I.tuple h'
 rw [e] at e';cases e'
 rw [d] at d'
 injection d' with d1 _
 have:its=its':=by simpa using congrArg Array.toList d1
 subst this
 exact r.inj r'
end
noncomputable abbrev Cx.wish (X:Cx) (E:Value→Shared→Prop):Cx:={ X with xe:=E }
noncomputable abbrev Cx.mw (X:Cx):Cx:=X.wish fun _ _=>False
theorem Cx.Ok.wish {X:Cx} (ok:X.Ok) (E:Value→Shared→Prop):(X.wish E).Ok :=
 ⟨ok.mod,ok.kind,ok.glob,ok.blt,ok.above,ok.inj,ok.has,ok.qU,ok.hd,ok.frames,ok.vw,ok.HY,ok.bs,ok.jU,ok.qA,ok.uX,ok.iw,ok.oA⟩
theorem Cx.Ok.kr {X:Cx}{E:Value→Shared→Prop} (ok:(X.wish E).Ok):X.Ok :=
 ⟨ok.mod,ok.kind,ok.glob,ok.blt,ok.above,ok.inj,ok.has,ok.qU,ok.hd,ok.frames,ok.vw,ok.HY,ok.bs,ok.jU,ok.qA,ok.uX,ok.iw,ok.oA⟩
section
variable {X:Cx}{pins:List (Addr×Obj)}{σ:St}{H:Hp}{s:Shared}{E:Value→Shared→Prop}
theorem Inv.wish (I:Inv X pins σ H s) (E:Value→Shared→Prop):Inv (X.wish E) pins σ H s:=⟨I.ok.wish E,I.os,I.bare,I.base,I.loc,I.cell,I.free,I.gn,I.pin,I.aE,I.len⟩
theorem Inv.kr (I:Inv (X.wish E) pins σ H s):Inv X pins σ H s:=⟨I.ok.kr,I.os,I.bare,I.base,I.loc,I.cell,I.free,I.gn,I.pin,I.aE,I.len⟩
theorem SP.kr {D:Ends}{f:Flow}{s':Shared} (h:SP (X.wish E) pins D f s'):SP X pins D f s':=by
 cases f with
 |next=>obtain ⟨σ',H',I,q⟩:=h;exact ⟨σ',H',I.kr,q⟩
 |brk=>obtain ⟨σ',H',I,q⟩:=h;exact ⟨σ',H',I.kr,q⟩
 |cont=>obtain ⟨σ',H',I,q⟩:=h;exact ⟨σ',H',I.kr,q⟩
 |ret u=>obtain ⟨v,σ',H',I,r,q⟩:=h;exact ⟨v,σ',H',I.kr,r,q⟩
theorem fF.mw {st:List Stmt}{t:TS} (h:fF X.mw st t):fF X st t:=fun pins s σ H D I hw =>
 wpAny_mono (h pins s σ H D (I.wish _) hw) (fun _ _ q=>q.kr) fun _ _ z=>False.elim z
end
section
variable {X:Cx}{st:Stmt}{rest:List Stmt}{t u:TS}{e:Expr}{te:TE}{pos:Pos}
noncomputable def yI:TS:=fun D σ H=>D.nx σ H
noncomputable def y4 (t u:TS):TS:=fun D σ H=>t { D with nx:=u D } σ H
theorem OS:fF X [] yI:=fun _ _ σ H _ I h=>wpAny_execs_nil ⟨σ,H,I,h⟩
theorem M9 (h1:PS X st t) (h2:fF X rest u):fF X (st::rest) (y4 t u):=by
 intro pins s σ H D I h
 refine wpAny_execs_cons (aF (h1 pins s σ H { D with nx:=u D } I h) fun f s1 q=>?_)
 cases f with
 |next =>
  obtain ⟨σ',H',I',q⟩:=q
  exact h2 pins s1 σ' H' D I' q
 |ret v=>exact q
 |brk=>exact q
 |cont=>exact q
theorem OU (h1:PS X st t):fF X [st] t:=by
 intro pins s σ H D I h
 refine wpAny_execs_cons (aF (h1 pins s σ H D I h) fun f s1 q=>?_)
 cases f with
 |next=>exact wpAny_execs_nil q
 |ret v=>exact q
 |brk=>exact q
 |cont=>exact q
noncomputable def yJ:TS:=fun D σ H=>D.ct σ H
theorem Lg:PS X (.Continue pos) yJ:=fun _ _ σ H _ I h=>wpAny_Continue ⟨σ,H,I,h⟩
theorem Inv.quiet {pins:List (Addr×Obj)}{σ:St}{H:Hp}{s:Shared} (I:Inv X pins σ H s):interactive X.env=false:=by simp [interactive,I.ok.kind]
noncomputable def nP (te:TE):TS:=fun D σ H=>te σ H fun _ H1=>D.nx σ H1
theorem OV (he:PE X e te) (hs:swapsWith e none pos.line X.env=pure false:=by rfl):PS X (.Expr e pos) (nP te):=by
 intro pins s σ H D I h
 exact wpAny_Expr_any (aF (he pins s σ H _ I h) fun v s1 ⟨x,H1,I1,r1,q1⟩=>⟨σ,H1,I1,q1⟩) I.quiet hs
noncomputable def uY (te:TE):TS:=fun D σ H=>te σ H D.rt
theorem Rr (he:PE X e te):PS X (.Return (some e) pos) (uY te):=by
 intro pins s σ H D I h
 exact wpAny_Return_some (aF (he pins s σ H _ I h) fun v s1 ⟨x,H1,I1,r1,q1⟩=>⟨x,σ,H1,I1,r1,q1⟩)
noncomputable def y6 (c:TT) (t u:TS):TS:=fun D σ H=>c σ H fun b H1=>if b=true then t D σ H1 else u D σ H1
theorem UI {c:Expr}{a b:List Stmt}{tc:TT} (hc:PT X c tc) (ha:fF X a t) (hb:fF X b u):PS X (.If c a b pos) (y6 tc t u):=by
 intro pins s σ H D I h
 refine wpAny_If (aF (hc pins s σ H _ I h) fun d s1 ⟨H1,I1,q1⟩=>?_)
 cases d with
 |true=>exact ha pins s1 σ H1 D I1 q1
 |false=>exact hb pins s1 σ H1 D I1 q1
end
noncomputable abbrev TG:=V→St→Hp→(St→Hp→Prop)→Prop
noncomputable abbrev gB:=List V→St→Hp→(St→Hp→Prop)→Prop
def PG (X:Cx) (target:Expr) (t:TG):Prop :=
 ∀ (pins:List (Addr×Obj)) (s:Shared) (σ:St) (H:Hp) (v:V) (u:Value) (Q:St→Hp→Prop),Inv X pins σ H s→RelV v u→t v σ H Q →
  wpAny (model X.prog X.w) X.A (assign target X.env u) (fun _ s'=>∃ σ' H',Inv X pins σ' H' s'∧Q σ' H') X.xe s
def oB (X:Cx) (ts:List Expr) (t:gB):Prop :=
 ∀ (pins:List (Addr×Obj)) (s:Shared) (σ:St) (H:Hp) (vs:List V) (us:List Value) (Q:St→Hp→Prop),Inv X pins σ H s→Vals vs us→t vs σ H Q →
  wpAny (model X.prog X.w) X.A (assignInOrder ((assignEach ts X.env).map (·.2)) us) (fun _ s'=>∃ σ' H',Inv X pins σ' H' s'∧Q σ' H') X.xe s
noncomputable abbrev y7:=V→V→V→Hp→(Hp→Prop)→Prop
def GH (X:Cx) (t:y7):Prop :=
 ∀ (pins:List (Addr×Obj)) (s:Shared) (σ:St) (H:Hp) (o i v:V) (ov iv u:Value) (Q:Hp→Prop),Inv X pins σ H s→RelV o ov→RelV i iv→RelV v u→t o i v H Q →
  wpAny (model X.prog X.w) X.A (setItem ov iv u) (fun _ s'=>∃ H',Inv X pins σ H' s'∧Q H') X.xe s
section
variable {X:Cx}{pos:Pos}
noncomputable def iT (i:Nat):TG:=fun v σ H Q=>Q (σ.set i (some v)) H
theorem DL {i:Nat}{x:Str} (hN:X.N.Nodup) (hi:X.N[i]?=some x) (hx:Loc X.env.scope x) (hf:X.fn x=true∨X.env.scope.names.lookup x=some .local:=by first|exact .inl rfl|exact .inr rfl|assumption):PG X (.Name x pos) (iT i):=by
 intro pins s σ H v u Q I r h
 exact wpAny_assign_Name (C2 I hN hi hx r (fun s' I'=>⟨_,H,I',h⟩) hf)
noncomputable def GJ:gB:=fun vs σ H Q=>vs=[]∧Q σ H
noncomputable def FW (t:TG) (u:gB):gB:=fun vs σ H Q=>∃ v r,vs=v::r∧t v σ H fun σ' H'=>u r σ' H' Q
theorem OW:oB X [] GJ:=by
 intro pins s σ H vs us Q I r h
 obtain ⟨e,h⟩:=h
 subst e
 cases r
 exact assignInOrder_nil ⟨σ,H,I,h⟩
theorem Nb {e:Expr}{es:List Expr}{t:TG}{u:gB} (h1:PG X e t) (h2:oB X es u)
  (hs:(assignEach (e::es) X.env).map (·.2)=assign e X.env::(assignEach es X.env).map (·.2):=by rfl):oB X (e::es) (FW t u):=by
 intro pins s σ H vs us Q I r h
 obtain ⟨v,vr,e1,h⟩:=h
 subst e1
 cases r with
 |cons r rr =>
  rw [hs]
  refine assignInOrder_cons (aF (h1 pins s σ H _ _ _ I r h) fun _ s1 ⟨σ1,H1,I1,q1⟩=>?_)
  exact h2 pins s1 σ1 H1 _ _ Q I1 rr q1
noncomputable def GK (K:PySem.W.Frag) (n:Nat) (t:gB):TG:=fun v σ H Q=>∃ a xs,v=.ref a∧bA K H a xs∧xs.length=n∧t xs σ H Q
theorem Ru {es:List Expr}{k:Nat}{t:gB}{n:Nat} (hc:X.calm=true) (h:oB X es t)
  (hn:(assignEach es X.env).length=n:=by rfl) (oC:(assignEach es X.env).findIdx? (·.1)=none:=by rfl):PG X (.Tuple es k pos) (GK X.K n t):=by
 intro pins s σ H v u Q I r hw
 obtain ⟨a,xs,e1,hq,hl,hw⟩:=hw
 subst e1
 cases r
 obtain ⟨its,rv,ht,hz⟩:=I.tuple hq
 refine assign_Tuple_tuple (I.ok.hd hc) ht (by simp [hn,←hl,rv.length]) oC fun h' hx=>?_
 have I1:Inv X pins σ H { s with heap:=h' }:=I.kept (t':=s.toks) fun b o e=>hx b o (Nat.ne_of_lt (Heap.lt_size e)) e
 exact h pins _ σ H xs _ Q I1 (by simpa using rv) hw
noncomputable def GL (to ti:TE) (t:y7):TG:=fun v σ H Q=>to σ H fun o H1=>ti σ H1 fun i H2=>t o i v H2 fun H3=>Q σ H3
theorem Rv {o i:Expr}{to ti:TE}{t:y7} (ho:PE X o to) (hi:PE X i ti) (hs:GH X t)
  (ha:∀ v,assign (.Subscript o i pos) X.env v=(do
   let ov ←holding [v] (eval o X.env)
   let iv ←holding [v,ov] (eval i X.env)
   standAt pos
   holding [v,ov,iv] (setItem ov iv v)
   release [v,ov,iv] []):=by intro _;rfl):PG X (.Subscript o i pos) (GL to ti t):=by
 intro pins s σ H v u Q I r h
 rw [ha]
 refine wpAny_bind (wpAny_holding (aF (ho pins s σ H _ I h) fun ov s1 ⟨x,H1,I1,r1,q1⟩=>?_))
 refine wpAny_bind (wpAny_holding (aF (hi pins s1 σ H1 _ I1 q1) fun iv s2 ⟨y,H2,I2,r2,q2⟩=>?_))
 refine wpAny_bind (wpAny_standAt (wpAny_bind (wpAny_holding (aF (hs pins s2 σ H2 x y v ov iv u _ I2 r1 r2 r q2) fun _ s3 ⟨H3,I3,q3⟩=>?_))))
 exact wpAny_release ⟨σ,H3,I3,q3⟩
noncomputable def gQ (te:TE) (g:TG):TS:=fun D σ H=>te σ H fun x H1=>g x σ H1 D.nx
theorem Rx {tg e:Expr}{te:TE}{g:TG} (he:PE X e te) (hg:PG X tg g) (hs:swapsWithSole [tg] e pos.line X.env=pure false:=by rfl) (hw:swappedStores [tg] e X.env=pure none:=by rfl)
  (h1:(assignEach [tg] X.env).map (·.2)=[assign tg X.env]:=by rfl):PS X (.Assign [tg] e pos) (gQ te g):=by
 intro pins s σ H D I h
 refine wpAny_Assign_stores (aF (he pins s σ H _ I h) fun v s1 ⟨x,H1,I1,r1,q1⟩=>?_) hs hw
 rw [h1]
 exact aF (hg pins s1 σ H1 x v _ I1 r1 q1) fun _ s2 q=>q
theorem Ry {i:Nat}{x:Str}{e:Expr}{te:TE}{pos':Pos} (hN:X.N.Nodup) (hi:X.N[i]?=some x) (hx:Loc X.env.scope x) (he:PE X e te) (hs:swapsWith e (some (.Name x pos')) pos.line X.env=pure false:=by rfl) (hf:X.fn x=true∨X.env.scope.names.lookup x=some .local:=by first|exact .inl rfl|exact .inr rfl|assumption) :
  PS X (.Assign [.Name x pos'] e pos) (gQ te (iT i)):=by
 intro pins s σ H D I h
 refine wpAny_Assign_Name (aF (he pins s σ H _ I h) fun v s1 ⟨y,H1,I1,r1,q1⟩=>?_) hs
 exact C2 I1 hN hi hx r1 (fun s2 I2=>⟨_,H1,I2,q1⟩) hf
end
section
variable {X:Cx}{pos:Pos}
noncomputable def yh (c:TT) (tb:TS):TS:=fun D σ H=>∃ W:Nat→St→Hp→Prop,(∃ m,W m σ H)∧∀ m σ H,W m σ H →
 c σ H fun b H1=>if b=true then ∃ N:St→Hp→Prop,(∀ σ' H',N σ' H'→∃ m',m' < m∧W m' σ' H')∧tb { D with nx:=N,ct:=N,bk:=D.nx } σ H1 else D.nx σ H1
theorem Nc {c:Expr}{body:List Stmt}{tc:TT}{tb:TS} (hp:PassesOwn (model X.prog X.w) X.A X.env X.xe) (hc:PT X c tc) (hb:fF X body tb):PS X (.While c body [] pos) (yh tc tb):=by
 intro pins s σ H D I h
 obtain ⟨W,⟨m0,w0⟩,turn⟩:=h
 refine wpAny_While (codeAny_whileLoop (fun n s'=>∃ σ' H',Inv X pins σ' H' s'∧W n σ' H') ?_ m0 ⟨σ,H,I,w0⟩)
 rintro n s1 ⟨σ1,H1,I1,w1⟩
 refine wpAny_passesOwn hp (aF (hc pins s1 σ1 H1 _ I1 (turn n σ1 H1 w1)) fun b s2 ⟨H2,I2,q2⟩=>?_)
 cases b with
 |true =>
  obtain ⟨N,hN,q2⟩:=q2
  rw [if_pos rfl]
  refine wpAny_passesOwn hp (aF (hb pins s2 σ1 H2 _ I2 q2) fun f s3 q3=>?_)
  cases f with
  |next =>
   obtain ⟨σ3,H3,I3,n3⟩:=q3
   obtain ⟨m',hm,w3⟩:=hN σ3 H3 n3
   exact ⟨m',hm,σ3,H3,I3,w3⟩
  |cont =>
   obtain ⟨σ3,H3,I3,n3⟩:=q3
   obtain ⟨m',hm,w3⟩:=hN σ3 H3 n3
   exact ⟨m',hm,σ3,H3,I3,w3⟩
  |brk=>exact q3
  |ret v=>exact q3
 |false =>
  rw [if_neg Bool.false_ne_true]
  exact wpAny_execs_nil ⟨σ1,H2,I2,q2⟩
end
structure It where
 go:Nat→Hp→Prop
 iF:Nat→Hp→V→Hp→Prop
 stop:Nat→Hp→Prop
def i3 (X:Cx) (pins:List (Addr×Obj)) (H:Hp) (b:Addr):Prop :=
 H b=none∧b≠X.env.locals∧b∉X.fs∧(b∈X.ex∨X.s₀.heap.objs.size≤b)∧(∀ x c,X.env.cells.lookup x=some c→c≠b)∧∀ p∈X.pn++pins,p.1≠b
theorem Inv.nZ {X:Cx}{pins:List (Addr×Obj)}{σ:St}{H H':Hp}{s:Shared}{b:Addr} (I:Inv X pins σ H s) (hb:s.heap.objs.size≤b) (hn:H' b=none):i3 X pins H' b:=by
 refine ⟨hn,Nat.ne_of_gt (Nat.lt_of_lt_of_le I.lt hb),I.Wy hb,.inr (Nat.le_trans I.sz hb),fun x c e z=>?_,fun p hp z=>?_⟩
 ·obtain ⟨v,q⟩:=I.cell x c e
  exact absurd (Nat.lt_of_lt_of_le q.lt (by rw [z];exact hb)) (Nat.lt_irrefl _)
 ·exact absurd (Nat.lt_of_lt_of_le (Heap.lt_size (I.pin p hp).1) (by rw [z];exact hb)) (Nat.lt_irrefl _)
structure Turn (P:Program) (w:World) (K:PySem.W.Frag) (tg:Expr) (J:It) (fp:List Addr) (it:Addr) (tn:Nat→Heap→Prop):Prop where
 mem:it∈fp
 obj:∀ i h,tn i h→∀ b∈fp,∃ o,h.get? b=some o∧∀ v,o.data≠.cell v
 keep:∀ i h h',tn i h→(∀ b∈fp,∀ o,h.get? b=some o→h'.get? b=some o)→tn i h'
 item:∀ (X:Cx),X.prog=P→X.w=w→X.K=K→X.calm=true→∀ (i:Nat) (pins:List (Addr×Obj)) (s:Shared) (σ:St) (H:Hp) (E:Value→Shared→Prop),Inv X pins σ H s→(∀ b∈fp,i3 X pins H b)→tn i s.heap→J.go i H →
  wpAny (model P w) X.A (pyNext (.ref it)) (fun r s1=>∃ u,r=some u ∧
   wpAny (model P w) X.A (letOwnedTupleGo tg (.ref it) u) (fun _ s2=>∃ x H',Inv X pins σ H' s2∧RelV x u∧J.iF i H x H'∧tn (i+1) s2.heap∧∀ b∈fp,H' b=none) E s1) E s
 done:∀ (X:Cx),X.prog=P→X.w=w→X.K=K→X.calm=true→∀ (i:Nat) (pins:List (Addr×Obj)) (s:Shared) (σ:St) (H:Hp) (E:Value→Shared→Prop),Inv X pins σ H s→(∀ b∈fp,i3 X pins H b)→tn i s.heap→J.stop i H →
  wpAny (model P w) X.A (pyNext (.ref it)) (fun r s1=>r=none∧Inv X pins σ H s1) E s
 self:∀ (A:Around) (i:Nat) (s:Shared) (Q:Value→Shared→Prop) (E:Value→Shared→Prop),tn i s.heap→Q (.ref it) s→wpAny (model P w) A (pyIter (.ref it)) Q E s
noncomputable abbrev TI:=St→Hp→(It→Hp→Prop)→Prop
def Ic (X:Cx) (pins:List (Addr×Obj)) (σ:St) (tg:Expr) (R:It→Hp→Prop) (vA:Value) (s2:Shared):Prop :=
 ∃ (it:Addr) (fp:List Addr) (tn:Nat→Heap→Prop) (J:It) (H':Hp),vA=.ref it∧Inv X pins σ H' s2∧Turn X.prog X.w X.K tg J fp it tn∧tn 0 s2.heap∧(∀ b∈fp,i3 X pins H' b)∧R J H'
def PI (X:Cx) (tg iter:Expr) (wi:TI):Prop :=
 ∀ (pins:List (Addr×Obj)) (s:Shared) (σ:St) (H:Hp) (R:It→Hp→Prop),Inv X pins σ H s→wi σ H R →
  wpAny (model X.prog X.w) X.A (eval iter X.env) (fun v s1=>wpAny (model X.prog X.w) X.A (pyIter v) (Ic X pins σ tg R) X.xe s1) X.xe s
theorem qm {M:Model}{A:Around}{E:Value→Shared→Prop}{s:Shared}{tg:Expr}{it:Addr}{u:Value}{o:Obj}{n:String}{vs:Array Value}{Q:Unit→Shared→Prop} (ho:s.heap.get? it=some o) (hc:o.cls=.type n) (hd:o.data=.fields vs)
    (hn:["enumerate", "zip", "dict_itemiterator", "dict_reverseitemiterator", "odict_iterator", "itertools.zip_longest", "itertools.pairwise"].contains n=false) (hQ:Q () s):wpAny M A (letOwnedTupleGo tg (.ref it) u) Q E s:=by
  unfold letOwnedTupleGo
  cases tg<;>first
    |exact wpAny_pure hQ
    | (cases u<;>first
        |exact wpAny_pure hQ
        | (refine wpAny_bind (wpAny_load ho ?_)
           rw [hc,hd]
           show wpAny M A (if (["enumerate", "zip", "dict_itemiterator", "dict_reverseitemiterator", "odict_iterator", "itertools.zip_longest", "itertools.pairwise"].contains n&&vs[0]?==some (rawInt _))=true then _ else _) Q E s
           rw [if_neg (by intro h;rw [hn,Bool.false_and] at h;cases h)]
           exact wpAny_pure hQ))
noncomputable def zV (K:PySem.W.Frag) (a:Addr):It :=
 ⟨fun i H=>∃ xs x,bL K H a xs∧xs[i]?=some x,fun i H x H'=>H'=H∧∀ xs,bL K H a xs→xs[i]?=some x,fun i H=>∃ xs,bL K H a xs∧xs.length≤i⟩
noncomputable def zW (K:PySem.W.Frag) (a:Addr):It :=
 ⟨fun i H=>∃ xs x,bA K H a xs∧xs[i]?=some x,fun i H x H'=>H'=H∧∀ xs,bA K H a xs→xs[i]?=some x,fun i H=>∃ xs,bA K H a xs∧xs.length≤i⟩
noncomputable def qX (lo:Int) (n:Nat):It:=⟨fun i _=>i < n,fun i H x H'=>H'=H∧x=.int (lo+i),fun i _=>n≤i⟩
theorem Md {P:Program}{w:World}{K:PySem.W.Frag}{tg:Expr} (a it:Addr):Turn P w K tg (zV K a) [it] it (fun i h=>h.IsListIter it a i) where
 mem:=by simp
 obj:=fun i h st b hb=>by
  have e:b=it:=by simpa using hb
  subst e
  obtain ⟨o,e,c,d⟩:=st
  exact ⟨o,e,fun v z=>by rw [d] at z;cases z⟩
 keep:=fun i h h' st k=>st.at fun o e=>k it (by simp) o e
 item:=by
  intro X hP hw hK hc i pins s σ H E I hf st hg
  subst hP hw hK
  obtain ⟨xs,x,hq,hx⟩:=hg
  obtain ⟨its,rv,p,hz⟩:=I.list hq
  obtain ⟨u,hu,ru⟩:=rv.get hx
  obtain ⟨f0,f1,f2,f3,f4,f5⟩:=hf it (by simp)
  refine wpAny_pyNext_list_item st p.isList (x:=u) (by simpa using hu) fun h' fW sb=>?_
  have I1:Inv X pins σ H { s with heap:=h' }:=I.turned (t':=s.toks) (fun b o hb e=>(sb.2 b hb).trans e) f0 f1 f3 f4 f5
  obtain ⟨o,e,c,d⟩:=id fW
  exact ⟨u,rfl,qm (s:={ s with heap:=h' }) e c d (by decide) ⟨x,H,I1,ru,⟨rfl,fun ys hy=>by rw [I.tT hy hq];exact hx⟩,fW,fun b hb=>(hf b hb).1⟩⟩
 done:=by
  intro X hP hw hK hc i pins s σ H E I hf st hg
  subst hP hw hK
  obtain ⟨xs,hq,hx⟩:=hg
  obtain ⟨its,rv,p,hz⟩:=I.list hq
  obtain ⟨f0,f1,f2,f3,f4,f5⟩:=hf it (by simp)
  have hl:=rv.length
  exact wpAny_pyNext_list_end (I.ok.hd hc) st p.isList (by simp;omega) fun h' eb=>⟨rfl,I.turned (t':=s.toks) (fun b o hb e=>eb b o hb e) f0 f1 f3 f4 f5⟩
 self:=fun _ _ _ _ _ st h=>wpAny_pyIter_listiter st h
theorem Ly {P:Program}{w:World}{K:PySem.W.Frag}{tg:Expr} (a it:Addr):Turn P w K tg (zW K a) [it] it (fun i h=>h.IsTupleIter it a i) where
 mem:=by simp
 obj:=fun i h st b hb=>by
  have e:b=it:=by simpa using hb
  subst e
  obtain ⟨o,e,c,d⟩:=st
  exact ⟨o,e,fun v z=>by rw [d] at z;cases z⟩
 keep:=fun i h h' st k=>st.at fun o e=>k it (by simp) o e
 item:=by
  intro X hP hw hK hc i pins s σ H E I hf st hg
  subst hP hw hK
  obtain ⟨xs,x,hq,hx⟩:=hg
  obtain ⟨its,rv,p,hz⟩:=I.tuple hq
  obtain ⟨u,hu,ru⟩:=rv.get hx
  obtain ⟨f0,f1,f2,f3,f4,f5⟩:=hf it (by simp)
  refine wpAny_pyNext_tuple_item st (show s.heap.IsTuple a its.toArray from p) (x:=u) (by simpa using hu) fun h' fW sb=>?_
  have I1:Inv X pins σ H { s with heap:=h' }:=I.turned (t':=s.toks) (fun b o hb e=>(sb.2 b hb).trans e) f0 f1 f3 f4 f5
  obtain ⟨o,e,c,d⟩:=id fW
  exact ⟨u,rfl,qm (s:={ s with heap:=h' }) e c d (by decide) ⟨x,H,I1,ru,⟨rfl,fun ys hy=>by rw [I.xr hy hq];exact hx⟩,fW,fun b hb=>(hf b hb).1⟩⟩
 done:=by
  intro X hP hw hK hc i pins s σ H E I hf st hg
  subst hP hw hK
  obtain ⟨xs,hq,hx⟩:=hg
  obtain ⟨its,rv,p,hz⟩:=I.tuple hq
  obtain ⟨f0,f1,f2,f3,f4,f5⟩:=hf it (by simp)
  have hl:=rv.length
  exact wpAny_pyNext_tuple_end (I.ok.hd hc) st (show s.heap.IsTuple a its.toArray from p) (by simp;omega) fun h' eb=>⟨rfl,I.turned (t':=s.toks) (fun b o hb e=>eb b o hb e) f0 f1 f3 f4 f5⟩
 self:=fun _ _ _ _ _ st h=>wpAny_pyIter_tupleiter st h
theorem Lz {P:Program}{w:World}{K:PySem.W.Frag}{tg:Expr} (it:Addr) (lo:Int) (n:Nat):Turn P w K tg (qX lo n) [it] it (fun i h=>IsRangeIter h it (lo+(i:Nat)*1) ((n:Int)-(i:Nat)) 1) where
 mem:=by simp
 obj:=fun i h st b hb=>by
  have e:b=it:=by simpa using hb
  subst e
  exact ⟨_,st,fun v z=>by
   have z':Data.fields _=Data.cell v:=z
   cases z'⟩
 keep:=fun i h h' st k=>k it (by simp) _ st
 item:=by
  intro X hP hw hK hc i pins s σ H E I hf st hg
  subst hP hw hK
  obtain ⟨f0,f1,f2,f3,f4,f5⟩:=hf it (by simp)
  have W:=Walks.range (prog:=X.prog) (w:=X.w) (I.ok.hd hc) it lo 1 n
  refine W.item i s _ _ hg st fun v h' tk hv fW kk=>?_
  obtain ⟨t,rfl⟩:=hv
  have I1:Inv X pins σ H { s with heap:=h',toks:=tk }:=I.turned (fun b o hb e=>kk b o (by simpa using hb) e) f0 f1 f3 f4 f5
  refine ⟨_,rfl,qm (s:={ s with heap:=h',toks:=tk }) (n := "range_iterator") fW rfl rfl (by decide) ⟨.int (lo+i),H,I1,⟨t,?_⟩,⟨rfl,rfl⟩,fW,fun b hb=>(hf b hb).1⟩⟩
  rw [Int.mul_one]
 done:=by
  intro X hP hw hK hc i pins s σ H E I hf st hg
  subst hP hw hK
  obtain ⟨f0,f1,f2,f3,f4,f5⟩:=hf it (by simp)
  exact wpAny_pyNext_range_end (I.ok.hd hc) st (by have:n≤i:=hg;omega) fun h' eb=>⟨rfl,I.turned (t':=s.toks) (fun b o hb e=>eb b o hb e) f0 f1 f3 f4 f5⟩
 self:=fun _ _ _ _ _ st h=>wpAny_pyIter_rangeiter st h
section
variable {X:Cx}{tg:Expr}
noncomputable def yK (K:PySem.W.Frag) (tl:TE):TI:=fun σ H R=>tl σ H fun x H1=>∃ a,x=.ref a∧(∃ xs,bL K H1 a xs)∧R (zV K a) H1
noncomputable def y8 (K:PySem.W.Frag) (tl:TE):TI:=fun σ H R=>tl σ H fun x H1=>∃ a,x=.ref a∧(∃ xs,bA K H1 a xs)∧R (zW K a) H1
theorem OX {l:Expr}{tl:TE} (hl:PE X l tl):PI X tg l (yK X.K tl):=by
 intro pins s σ H R I h
 refine aF (hl pins s σ H _ I h) fun v s1 ⟨x,H1,I1,r1,q1⟩=>?_
 obtain ⟨a,e,⟨xs,hq⟩,q⟩:=q1
 subst e
 cases r1
 obtain ⟨its,rv,p,hz⟩:=I1.list hq
 refine wpAny_pyIter_list p.isList ?_
 refine ⟨s1.heap.objs.size,[s1.heap.objs.size],_,_,H1,rfl,I1.kept (t':=s1.toks) fun b o e=>Heap.get?_push_of_some _ e,Md a _,⟨_,Heap.get?_push_size _ rfl,rfl,rfl⟩,fun b hb=>?_,q⟩
 have e:b=s1.heap.objs.size:=by simpa using hb
 subst e
 exact I1.nZ (Nat.le_refl _) (I1.aE.fresh (Nat.le_refl _))
theorem Rz {l:Expr}{tl:TE} (hl:PE X l tl):PI X tg l (y8 X.K tl):=by
 intro pins s σ H R I h
 refine aF (hl pins s σ H _ I h) fun v s1 ⟨x,H1,I1,r1,q1⟩=>?_
 obtain ⟨a,e,⟨xs,hq⟩,q⟩:=q1
 subst e
 cases r1
 obtain ⟨its,rv,p,hz⟩:=I1.tuple hq
 refine wpAny_pyIter_tuple (show s1.heap.IsTuple a its.toArray from p) ?_
 refine ⟨s1.heap.objs.size,[s1.heap.objs.size],_,_,H1,rfl,I1.kept (t':=s1.toks) fun b o e=>Heap.get?_push_of_some _ e,Ly a _,⟨_,Heap.get?_push_size _ rfl,rfl,rfl⟩,fun b hb=>?_,q⟩
 have e:b=s1.heap.objs.size:=by simpa using hb
 subst e
 exact I1.nZ (Nat.le_refl _) (I1.aE.fresh (Nat.le_refl _))
theorem C3 {pins:List (Addr×Obj)}{σ:St}{H:Hp}{s:Shared}{R:It→Hp→Prop}{E:Value→Shared→Prop}{lo hi:Int}{t u v:Tok}{tk:Nat} (I:Inv X pins σ H s) (h1:-(2 ^ 62)≤lo) (h2:lo < 2 ^ 62) (h3:-(2 ^ 62)≤hi) (h4:hi < 2 ^ 62)
  (q:R (qX lo (hi-lo).toNat) H):wpAny (model X.prog X.w) X.A (pyIter (.ref s.heap.objs.size)) (Ic X pins σ tg R) E { s with heap:=s.heap.push { cls:=.type "range",data:=.fields #[.int lo t,.int hi u,.int 1 v] },toks:=tk }:=by
 refine wpAny_pyIter_range (IsRange.new ..) (small_one h1 h2 h3 h4) ?_
 have I1:Inv X pins σ H { s with heap:=s.heap.push { cls:=.type "range",data:=.fields #[.int lo t,.int hi u,.int 1 v] },toks:=tk }:=I.kept fun b o e=>Heap.get?_push_of_some _ e
 refine ⟨(s.heap.push { cls:=.type "range",data:=.fields #[.int lo t,.int hi u,.int 1 v] }).objs.size,[(s.heap.push { cls:=.type "range",data:=.fields #[.int lo t,.int hi u,.int 1 v] }).objs.size],_,_,H,rfl,
  I1.kept (t':=tk) fun b o e=>Heap.get?_push_of_some _ e,Lz _ lo (hi-lo).toNat,?_,fun b hb=>?_,q⟩
 ·have e1:lo+((0:Nat):Int)*1=lo:=by simp
  have e2:(((hi-lo).toNat:Nat):Int)-((0:Nat):Int)=Builtin.Range.rangeSize lo hi 1:=by rw [rangeSize_one];split<;>omega
  show IsRangeIter _ _ (lo+((0:Nat):Int)*1) ((((hi-lo).toNat:Nat):Int)-((0:Nat):Int)) 1
  rw [e1,e2]
  exact Heap.get?_push_size _ rfl
 ·have e:b=(s.heap.push { cls:=.type "range",data:=.fields #[.int lo t,.int hi u,.int 1 v] }).objs.size:=by simpa using hb
  subst e
  exact I1.nZ (Nat.le_refl _) (I1.aE.fresh (Nat.le_refl _))
noncomputable def FX (ta:TA):TI:=fun σ H R=>ta σ H fun vs H1=>∃ j:Int,vs=[.int j]∧-(2 ^ 62)≤j∧j < 2 ^ 62∧R (qX 0 j.toNat) H1
noncomputable def FY (ta:TA):TI:=fun σ H R=>ta σ H fun vs H1=>∃ i j:Int,vs=[.int i,.int j]∧(-(2 ^ 62)≤i∧i < 2 ^ 62∧-(2 ^ 62)≤j∧j < 2 ^ 62)∧R (qX i (j-i).toNat) H1
theorem Mf {a:Expr}{ta:TA}{p pos:Pos} (hg:Gl X "range") (hm:X.mg "range" = none) (ha:PA X [a] ta) (hs:starEach [a] X.env=[(false,eval a X.env)]:=by rfl):PI X tg (.Call (.Name "range" p) [a] [] pos) (FX ta):=by
 intro pins s σ H R I h
 refine Call_ (ko I hg hm boot_range (PyProof.Rows.callWith_type1 (aF (ha pos pins s σ H _ I h) fun us s1 ⟨vs,H1,I1,r1,q1⟩=>?_) hs rfl))
 obtain ⟨j,e,q1,q2,q⟩:=q1
 subst e
 cases r1 with
 |cons r rr =>
  cases rr
  obtain ⟨t,rfl⟩:=r
  exact call_range_1 (C3 I1 (by omega) (by omega) q1 q2 (by simpa using q))
theorem Mg {a b:Expr}{ta:TA}{p pos:Pos} (hg:Gl X "range") (hm:X.mg "range" = none) (ha:PA X [a,b] ta) (hs:starEach [a,b] X.env=[(false,eval a X.env),(false,eval b X.env)]:=by rfl) (Ie:starEach [b] X.env=[(false,eval b X.env)]:=by rfl) :
  PI X tg (.Call (.Name "range" p) [a,b] [] pos) (FY ta):=by
 intro pins s σ H R I h
 refine Call_ (ko I hg hm boot_range (PyProof.Rows.callWith_type1 (aF (ha pos pins s σ H _ I h) fun us s1 ⟨vs,H1,I1,r1,q1⟩=>?_) (by rw [hs,Ie]) (by rw [Ie];rfl)))
 obtain ⟨i,j,e,⟨q1,q2,q3,q4⟩,q⟩:=q1
 subst e
 cases r1 with
 |cons r rr =>
  cases rr with
  |cons r' rr =>
   cases rr
   obtain ⟨t,rfl⟩:=r
   obtain ⟨t',rfl⟩:=r'
   exact call_range_2 (C3 I1 q1 q2 q3 q4 q)
noncomputable def n5 (wi:TI) (g:TG) (tb:TS):TS:=fun D σ H=>wi σ H fun J H1=>∃ W:Nat→Nat→St→Hp→Prop,(∃ m,W 0 m σ H1)∧∀ i m σ H,W i m σ H →
 (J.stop i H∧D.nx σ H)∨(J.go i H∧∃ N:St→Hp→Prop,(∀ σ' H',N σ' H'→∃ m',m' < m∧W (i+1) m' σ' H')∧∀ x H',J.iF i H x H'→g x σ H' fun σ2 H2=>tb { D with nx:=N,ct:=N,bk:=D.nx } σ2 H2)
noncomputable def qc (fp:List Addr) (h:Heap):List (Addr×Obj):=fp.filterMap fun b=>(h.get? b).map fun o=>(b,o)
theorem tO {fp:List Addr}{h:Heap}{b:Addr}{o:Obj} (hb:b∈fp) (e:h.get? b=some o):(b,o)∈qc fp h:=List.mem_filterMap.mpr ⟨b,hb,by rw [e];rfl⟩
theorem Mh {fp:List Addr}{h:Heap}{p:Addr×Obj} (hp:p∈qc fp h):p.1∈fp∧h.get? p.1=some p.2:=by
 obtain ⟨b,hb,e⟩:=List.mem_filterMap.mp hp
 cases q:h.get? b with
 |none=>rw [q] at e;cases e
 |some o =>
  rw [q] at e
  have e':(b,o)=p:=Option.some.inj e
  subst e'
  exact ⟨hb,q⟩
theorem Inv.pinned {pins:List (Addr×Obj)}{σ:St}{H:Hp}{s:Shared}{fp:List Addr} (I:Inv X pins σ H s) (hf:∀ b∈fp,i3 X pins H b) (ho:∀ b∈fp,∃ o,s.heap.get? b=some o∧∀ v,o.data≠.cell v):Inv X (pins++qc fp s.heap) σ H s :=
 I.DK fun p hp=>(List.mem_append.mp hp).elim (fun z=>I.pin p (List.mem_append_right _ z)) fun z=>by
  obtain ⟨hb,e⟩:=Mh z
  obtain ⟨f0,f1,f2,_⟩:=hf p.1 hb
  obtain ⟨o,e',d⟩:=ho p.1 hb
  rw [e] at e';cases e'
  exact ⟨e,f0,f1,f2,d⟩
theorem Inv.tU {pins pl:List (Addr×Obj)}{σ:St}{H:Hp}{s:Shared} (I:Inv X (pins++pl) σ H s):Inv X pins σ H s:=I.DK fun p hp=>I.pin p (List.mem_append_right _ (List.mem_append_left _ hp))
theorem RA {iter:Expr}{body:List Stmt}{wi:TI}{g:TG}{tb:TS}{pos:Pos} (hp:PassesOwn (model X.prog X.w) X.A X.env X.xe) (hc:X.calm=true) (hi:PI X tg iter wi) (hg:PG X tg g) (hb:fF X body tb)
  (hs:∀ x,foldedSetIterable iter X.env x=pure x:=by intro _;rfl):PS X (.For tg iter body [] pos) (n5 wi g tb):=by
 intro pins s σ H D I h
 refine wpAny_For (aF (hi pins s σ H _ I h) fun v s1 h1=>aF h1 fun vA s2 h2=>?_) hs
 obtain ⟨it,fp,tn,J,H2,e,I2,T,bq,f2,W,⟨m0,w0⟩,turn⟩:=h2
 subst e
 have stat:∀ {H':Hp},(∀ b∈fp,H' b=none)→∀ b∈fp,i3 X pins H' b:=fun hn b hb=>⟨hn b hb,(f2 b hb).2⟩
 refine codeAny_forLoop_any (fun n s'=>∃ i σ' H',Inv X pins σ' H' s'∧tn i s'.heap∧(∀ b∈fp,H' b=none)∧W i n σ' H') ?_ m0 ⟨0,σ,H2,I2,bq,fun b hb=>(f2 b hb).1,w0⟩
 rintro n s3 ⟨i,σ3,H3,I3,bw,qY,w3⟩
 rcases turn i n σ3 H3 w3 with ⟨stop,qn⟩|⟨go,N,hN,step⟩
 ·refine wpAny_passesOwn hp (aF (T.done X rfl rfl rfl hc i pins s3 σ3 H3 X.xe I3 (stat qY) bw stop) fun r s4 ⟨hr,I4⟩=>?_)
  subst hr
  exact wpAny_execs_nil ⟨σ3,H3,I4,qn⟩
 ·refine wpAny_passesOwn hp (aF (T.item X rfl rfl rfl hc i pins s3 σ3 H3 X.xe I3 (stat qY) bw go) fun r s4 ⟨u,hr,h4⟩=>?_)
  subst hr
  refine wpAny_passesOwn hp (aF h4 fun _ s5 ⟨x,H5,I5,r5,y5,dQ,zX⟩=>?_)
  have zY:=I5.pinned (stat zX) (T.obj _ _ dQ)
  refine wpAny_passesOwn hp (aF (hg _ s5 σ3 H5 x u _ zY r5 (step x H5 y5)) fun _ s6 ⟨σ6,H6,I6,q6⟩=>?_)
  refine wpAny_passesOwn hp (aF (hb _ s6 σ6 H6 _ I6 q6) fun f s7 q7=>?_)
  have again:∀ {σ7:St}{H7:Hp},Inv X (pins++qc fp s5.heap) σ7 H7 s7→N σ7 H7→∃ m,m < n∧∃ i σ' H',Inv X pins σ' H' s7∧tn i s7.heap∧(∀ b∈fp,H' b=none)∧W i m σ' H':=fun {σ7 H7} I7 n7=>by
   obtain ⟨m',hm,w7⟩:=hN σ7 H7 n7
   refine ⟨m',hm,i+1,σ7,H7,I7.tU,T.keep _ _ _ dQ fun b hb o e=>(I7.pin (b,o) (List.mem_append_right _ (List.mem_append_right _ (tO hb e)))).1,fun b hb=>?_,w7⟩
   obtain ⟨o,e,d⟩:=T.obj _ _ dQ b hb
   exact (I7.pin (b,o) (List.mem_append_right _ (List.mem_append_right _ (tO hb e)))).2.1
  cases f with
  |next=>obtain ⟨σ7,H7,I7,n7⟩:=q7;exact again I7 n7
  |cont=>obtain ⟨σ7,H7,I7,n7⟩:=q7;exact again I7 n7
  |brk=>obtain ⟨σ7,H7,I7,q7⟩:=q7;exact ⟨σ7,H7,I7.tU,q7⟩
  |ret v=>obtain ⟨x7,σ7,H7,I7,r7,q7⟩:=q7;exact ⟨x7,σ7,H7,I7.tU,r7,q7⟩
end
noncomputable abbrev R2:=V→V→Hp→VK→Prop
def bx (X:Cx) (f:Value→Value→Sem Value) (r:R2):Prop :=
 ∀ (pins:List (Addr×Obj)) (s:Shared) (σ:St) (H:Hp) (x y:V) (v u:Value) (Q:VK),Inv X pins σ H s→RelV x v→RelV y u→r x y H Q →
  wpAny (model X.prog X.w) X.A (f v u) (EP X pins σ Q) X.xe s
def qZ (X:Cx) (f:Value→Sem Value) (r:V→Hp→VK→Prop):Prop :=
 ∀ (pins:List (Addr×Obj)) (s:Shared) (σ:St) (H:Hp) (x:V) (v:Value) (Q:VK),Inv X pins σ H s→RelV x v→r x H Q →
  wpAny (model X.prog X.w) X.A (f v) (EP X pins σ Q) X.xe s
def gJ (X:Cx) (f:Value) (r:List V→Hp→VK→Prop):Prop :=
 ∀ (pins:List (Addr×Obj)) (s:Shared) (σ:St) (H:Hp) (xs:List V) (us:List Value) (Q:VK),Inv X pins σ H s→Vals xs us→r xs H Q →
  wpAny (model X.prog X.w) X.A (call f us) (EP X pins σ Q) X.xe s
def WC (X:Cx) (r:V→Hp→(Bool→Hp→Prop)→Prop):Prop :=
 ∀ (pins:List (Addr×Obj)) (s:Shared) (σ:St) (H:Hp) (x:V) (v:Value) (Q:Bool→Hp→Prop),Inv X pins σ H s→RelV x v→r x H Q →
  wpAny (model X.prog X.w) X.A (truthy v) (TP X pins σ Q) X.xe s
noncomputable def oD (r:R2) (ta tb:TE):TE:=fun σ H Q=>ta σ H fun x H1=>tb σ H1 fun y H2=>r x y H2 Q
noncomputable def Ig (r:V→Hp→VK→Prop) (ta:TE):TE:=fun σ H Q=>ta σ H fun x H1=>r x H1 Q
noncomputable def rI (C:Int→Int→Prop) (g:Int→Int→V):R2:=fun x y H Q=>∃ i j,x=.int i∧y=.int j∧C i j∧Q (g i j) H
noncomputable def dR (g:Int→Int→V):R2:=fun x y H Q=>∃ i j,x=.int i∧y=.int j∧Q (g i j) H
def rU (g:Int→V):V→Hp→VK→Prop:=fun x H Q=>∃ i,x=.int i∧Q (g i) H
section
variable {X:Cx}{a b c:Expr}{ta tb tc:TE}{pos:Pos}
theorem y9 (ha:PE X a ta) (hb:PE X b tb) {pins:List (Addr×Obj)}{s:Shared}{σ:St}{H:Hp}{R:V→V→Hp→Prop} (I:Inv X pins σ H s)
  (h:ta σ H fun x H1=>tb σ H1 fun y H2=>R x y H2) {Q:Value→Shared→Prop}{f:Value→Value→Sem Value}
  (hf:∀ v u s2 x y H2,Inv X pins σ H2 s2→RelV x v→RelV y u→R x y H2→wpAny (model X.prog X.w) X.A (f v u) Q X.xe s2) :
  wpAny (model X.prog X.w) X.A (eval a X.env) (fun v s₁=>wpAny (model X.prog X.w) X.A (eval b X.env) (fun u s₂=>wpAny (model X.prog X.w) X.A (f v u) Q X.xe s₂) X.xe s₁) X.xe s:=by
 refine aF (ha pins s σ H _ I h) fun v s1 ⟨x,H1,I1,r1,q1⟩=>?_
 refine aF (hb pins s1 σ H1 _ I1 q1) fun u s2 ⟨y,H2,I2,r2,q2⟩=>?_
 exact hf v u s2 x y H2 I2 r1 r2 q2
theorem UJ {op:Operator}{r:R2} (ho:bx X (binaryOp op) r) (ha:PE X a ta) (hb:PE X b tb):PE X (.BinOp a op b pos) (oD r ta tb):=by
 intro pins s σ H Q I h
 exact wpAny_BinOp (y9 ha hb I h fun v u s2 x y H2 I2 rx ry q=>ho pins s2 σ H2 x y v u Q I2 rx ry q)
theorem UK {op:UnaryOp}{r:V→Hp→VK→Prop} (ho:qZ X (unaryOp op) r) (ha:PE X a ta):PE X (.UnaryOp op a pos) (Ig r ta):=by
 intro pins s σ H Q I h
 exact UnaryOp_ (aF (ha pins s σ H _ I h) fun v s1 ⟨x,H1,I1,r1,q1⟩=>ho pins s1 σ H1 x v Q I1 r1 q1)
theorem q8 {f:Value→Value→Sem Value}{C:Int→Int→Prop}{g:Int→Int→Int}
  (rule:∀ (i j:Int) (t u:Tok) (s:Shared) (Q:Value→Shared→Prop) (E:Value→Shared→Prop),C i j→Q (.int (g i j) s.toks) { s with toks:=s.toks+1 }→wpAny (model X.prog X.w) X.A (f (.int i t) (.int j u)) Q E s) :
  bx X f (rI C fun i j=>.int (g i j)):=by
 intro pins s σ H x y v u Q I rx ry h
 obtain ⟨i,j,rfl,rfl,hc,q⟩:=h
 obtain ⟨t,rfl⟩:=rx
 obtain ⟨t',rfl⟩:=ry
 exact rule i j t t' s _ _ hc ⟨.int (g i j),H,I.tok _,⟨_,rfl⟩,q⟩
theorem uZ {f:Value→Value→Sem Value}{g:Int→Int→Int}
  (rule:∀ (i j:Int) (t u:Tok) (s:Shared) (Q:Value→Shared→Prop) (E:Value→Shared→Prop),Q (.int (g i j) s.toks) { s with toks:=s.toks+1 }→wpAny (model X.prog X.w) X.A (f (.int i t) (.int j u)) Q E s) :
  bx X f (dR fun i j=>.int (g i j)):=by
 intro pins s σ H x y v u Q I rx ry h
 obtain ⟨i,j,rfl,rfl,q⟩:=h
 obtain ⟨t,rfl⟩:=rx
 obtain ⟨t',rfl⟩:=ry
 exact rule i j t t' s _ _ ⟨.int (g i j),H,I.tok _,⟨_,rfl⟩,q⟩
theorem za {f:Value→Value→Sem Value}{g:Int→Int→Bool}
  (rule:∀ (i j:Int) (t u:Tok) (s:Shared) (Q:Value→Shared→Prop) (E:Value→Shared→Prop),Q (.bool (g i j)) s→wpAny (model X.prog X.w) X.A (f (.int i t) (.int j u)) Q E s) :
  bx X f (dR fun i j=>.bl (g i j)):=by
 intro pins s σ H x y v u Q I rx ry h
 obtain ⟨i,j,rfl,rfl,q⟩:=h
 obtain ⟨t,rfl⟩:=rx
 obtain ⟨t',rfl⟩:=ry
 exact rule i j t t' s _ _ ⟨.bl (g i j),H,I,rfl,q⟩
def u5 (i j:Int):Prop:=0≤j∧j≤1000000∧i.natAbs < 2 ^ 64
def qB (i j:Int):Prop:=(-(2 ^ 64) < i∧i < 2 ^ 64)∨(-(2 ^ 64) < j∧j < 2 ^ 64)
theorem qB.ok {i j:Int} (h:qB i j):IntMulOk i j:=by
 rcases h with ⟨h1,h2⟩|⟨h1,h2⟩
 ·exact .of_left (intBits_le_64 h1 h2)
 ·exact .of_right (intBits_le_64 h1 h2)
theorem RB:bx X (binaryOp .Add) (dR fun i j=>.int (i+j)):=uZ fun _ _ _ _ _ _ _ q=>add_int q
theorem RC:bx X (binaryOp .Sub) (dR fun i j=>.int (i-j)):=uZ fun _ _ _ _ _ _ _ q=>sub_int q
theorem RD:bx X (binaryOp .Mult) (rI qB fun i j=>.int (i*j)):=q8 fun _ _ _ _ _ _ _ hc q=>mul_int q hc.ok
theorem RH:bx X (binaryOp .Mod) (rI (fun _ j=>0 < j) fun i j=>.int (i%j)):=q8 fun i j _ _ _ _ _ hc q=>by
 have h1:(0:Int) < j:=hc
 exact mod_int' (by omega) (by rw [Int.fmod_eq_emod_of_nonneg i (by omega)];exact q)
theorem RJ:bx X (binaryOp .Pow) (rI u5 fun i j=>.int (i ^ j.toNat)):=q8 fun _ _ _ _ _ _ _ hc q=>pow_int_small hc.1 hc.2.1 hc.2.2 q
theorem RK:bx X (binaryOp .LShift) (rI u5 fun i j=>.int (i*2 ^ j.toNat)):=q8 fun _ _ _ _ _ _ _ hc q=>lshift_int_small hc.1 hc.2.1 hc.2.2 q
theorem RL:bx X (binaryOp .BitAnd) (dR fun i j=>.int (Builtin.bitAnd i j)):=uZ fun _ _ _ _ _ _ _ q=>and_int q
theorem UL:bx X (binaryOp .BitOr) (dR fun i j=>.int (Builtin.bitOr i j)):=uZ fun _ _ _ _ _ _ _ q=>or_int q
theorem Ih {f:Value→Sem Value}{g:Int→Int}
  (rule:∀ (i:Int) (t:Tok) (s:Shared) (Q:Value→Shared→Prop) (E:Value→Shared→Prop),Q (.int (g i) s.toks) { s with toks:=s.toks+1 }→wpAny (model X.prog X.w) X.A (f (.int i t)) Q E s) :
  qZ X f (rU fun i=>.int (g i)):=by
 intro pins s σ H x v Q I rx h
 obtain ⟨i,rfl,q⟩:=h
 obtain ⟨t,rfl⟩:=rx
 exact rule i t s _ _ ⟨.int (g i),H,I.tok _,⟨_,rfl⟩,q⟩
theorem RM:qZ X (unaryOp .USub) (rU fun i=>.int (-i)):=Ih fun _ _ _ _ _ q=>neg_int q
theorem RN:qZ X (unaryOp .Invert) (rU fun i=>.int (Builtin.bitNot i)):=Ih fun _ _ _ _ _ q=>invert_int q
end
noncomputable def jK:V→V→Bool
 |.non,.non=>true|.non,.int _=>true|.int _,.non=>true|.non,.bl _=>true|.bl _,.non=>true|.non,.str _=>true|.str _,.non=>true
 |.int _,.int _=>true|.bl _,.bl _=>true|.str _,.str _=>true|.fD _,.fD _=>true
 |.int _,.str _=>true|.str _,.int _=>true|.bl _,.str _=>true|.str _,.bl _=>true
 |_,_=>false
noncomputable def Ii:R2:=fun x y H Q=>jK x y=true∧Q (.bl (decide (x=y))) H
noncomputable def Ij:R2:=fun x y H Q=>jK x y=true∧Q (.bl (!decide (x=y))) H
theorem DM {i j:Int}:decide (V.int i=V.int j)=(i==j):=by
 rw [Bool.eq_iff_iff]
 simp
theorem EI {i j:Bool}:decide (V.bl i=V.bl j)=(i==j):=by
 rw [Bool.eq_iff_iff]
 simp
theorem DN {i j:Str}:decide (V.str i=V.str j)=(i==j):=by
 rw [Bool.eq_iff_iff]
 simp
theorem DP {i j:Array UInt8}:decide (V.fD i=V.fD j)=(i.toList==j.toList):=by
 rw [Bool.eq_iff_iff]
 cases i
 cases j
 simp
section
variable {X:Cx}{a b c:Expr}{ta tb tc:TE}{pos:Pos}
theorem b0 {pins:List (Addr×Obj)}{σ:St}{H:Hp}{s:Shared}{Q:VK}{k k':Bool} (I:Inv X pins σ H s) (q:Q (.bl k) H) (e:k=k'):EP X pins σ Q (.bool k') s:=by
 subst e
 exact ⟨.bl k,H,I,rfl,q⟩
theorem UM:bx X (compareOp .Eq) Ii:=by
 intro pins s σ H x y v u Q I rx ry h
 obtain ⟨hs,q⟩:=h
 cases x with
 |non =>
  cases rx
  cases y with
  |non=>cases ry;exact PySem.EqNone.eq_none_none (b0 I q (by simp))
  |bl j=>cases ry;exact PySem.EqNone.eq_none_bool (b0 I q (by simp))
  |int j=>obtain ⟨t',rfl⟩:=ry;exact PySem.EqNone.eq_none_int (b0 I q (by simp))
  |str j=>obtain ⟨t',rfl⟩:=ry;exact PySem.EqNone.eq_none_str (b0 I q (by simp))
  |_=>exact absurd (show false=true from hs) Bool.false_ne_true
 |bl i =>
  cases rx
  cases y with
  |non=>cases ry;exact PySem.EqNone.eq_bool_none (b0 I q (by simp))
  |bl j=>cases ry;exact eq_bool (b0 I q EI)
  |str j=>obtain ⟨t',rfl⟩:=ry;exact PySem.EqMixed.eq_bool_str (b0 I q (by simp))
  |_=>exact absurd (show false=true from hs) Bool.false_ne_true
 |int i =>
  obtain ⟨t,rfl⟩:=rx
  cases y with
  |non=>cases ry;exact PySem.EqNone.eq_int_none (b0 I q (by simp))
  |int j=>obtain ⟨t',rfl⟩:=ry;exact eq_int (b0 I q DM)
  |str j=>obtain ⟨t',rfl⟩:=ry;exact PySem.EqMixed.eq_int_str (b0 I q (by simp))
  |_=>exact absurd (show false=true from hs) Bool.false_ne_true
 |str i =>
  obtain ⟨t,rfl⟩:=rx
  cases y with
  |non=>cases ry;exact PySem.EqNone.eq_str_none (b0 I q (by simp))
  |bl j=>cases ry;exact PySem.EqMixed.eq_str_bool (b0 I q (by simp))
  |int j=>obtain ⟨t',rfl⟩:=ry;exact PySem.EqMixed.eq_str_int (b0 I q (by simp))
  |str j=>obtain ⟨t',rfl⟩:=ry;exact eq_str (b0 I q DN)
  |_=>exact absurd (show false=true from hs) Bool.false_ne_true
 |fD i =>
  obtain ⟨t,rfl⟩:=rx
  cases y with
  |fD j=>obtain ⟨t',rfl⟩:=ry;exact PySem.W.eq_bytes (b0 I q DP)
  |_=>exact absurd (show false=true from hs) Bool.false_ne_true
 |_=>cases y<;>exact absurd (show false=true from hs) Bool.false_ne_true
theorem UN:bx X (compareOp .NotEq) Ij:=by
 intro pins s σ H x y v u Q I rx ry h
 obtain ⟨hs,q⟩:=h
 cases x with
 |non =>
  cases rx
  cases y with
  |non=>cases ry;exact PySem.EqNone.ne_none_none (b0 I q (by simp))
  |bl j=>cases ry;exact PySem.EqNone.ne_none_bool (b0 I q (by simp))
  |int j=>obtain ⟨t',rfl⟩:=ry;exact PySem.EqNone.ne_none_int (b0 I q (by simp))
  |str j=>obtain ⟨t',rfl⟩:=ry;exact PySem.EqNone.ne_none_str (b0 I q (by simp))
  |_=>exact absurd (show false=true from hs) Bool.false_ne_true
 |bl i =>
  cases rx
  cases y with
  |non=>cases ry;exact PySem.EqNone.ne_bool_none (b0 I q (by simp))
  |bl j=>cases ry;exact ne_bool (b0 I q (congrArg not EI))
  |str j=>obtain ⟨t',rfl⟩:=ry;exact PySem.EqMixed.ne_bool_str (b0 I q (by simp))
  |_=>exact absurd (show false=true from hs) Bool.false_ne_true
 |int i =>
  obtain ⟨t,rfl⟩:=rx
  cases y with
  |non=>cases ry;exact PySem.EqNone.ne_int_none (b0 I q (by simp))
  |int j=>obtain ⟨t',rfl⟩:=ry;exact ne_int (b0 I q (congrArg not DM))
  |str j=>obtain ⟨t',rfl⟩:=ry;exact PySem.EqMixed.ne_int_str (b0 I q (by simp))
  |_=>exact absurd (show false=true from hs) Bool.false_ne_true
 |str i =>
  obtain ⟨t,rfl⟩:=rx
  cases y with
  |non=>cases ry;exact PySem.EqNone.ne_str_none (b0 I q (by simp))
  |bl j=>cases ry;exact PySem.EqMixed.ne_str_bool (b0 I q (by simp))
  |int j=>obtain ⟨t',rfl⟩:=ry;exact PySem.EqMixed.ne_str_int (b0 I q (by simp))
  |str j=>obtain ⟨t',rfl⟩:=ry;exact ne_str (b0 I q (congrArg not DN))
  |_=>exact absurd (show false=true from hs) Bool.false_ne_true
 |fD i =>
  obtain ⟨t,rfl⟩:=rx
  cases y with
  |fD j=>obtain ⟨t',rfl⟩:=ry;exact PySem.W.ne_bytes (b0 I q (congrArg not DP))
  |_=>exact absurd (show false=true from hs) Bool.false_ne_true
 |_=>cases y<;>exact absurd (show false=true from hs) Bool.false_ne_true
theorem UO:bx X (compareOp .Lt) (dR fun i j=>.bl (decide (i < j))):=za fun _ _ _ _ _ _ _ q=>lt_int q
theorem UQ:bx X (compareOp .LtE) (dR fun i j=>.bl (decide (i≤j))):=za fun _ _ _ _ _ _ _ q=>le_int q
theorem UR:bx X (compareOp .Gt) (dR fun i j=>.bl (decide (j < i))):=za fun _ _ _ _ _ _ _ q=>gt_int q
theorem OY:bx X (compareOp .IsNot) (fun x y H Q=>y=.non∧Q (.bl (!decide (x=.non))) H):=by
 intro pins s σ H x y v u Q I rx ry h
 obtain ⟨rfl,q⟩:=h
 cases ry
 refine isnot_none_gen (b0 I q ?_)
 cases x<;>first
  | (cases rx;rfl)
  | (obtain ⟨t,rfl⟩:=rx;rfl)
theorem OZ {op:CmpOp}{r:R2} (ho:bx X (compareOp op) r) (ha:PE X a ta) (hb:PE X b tb) (hm:behindInMarks op b=false):PE X (.Compare a [op] [b] pos) (oD r ta tb):=by
 intro pins s σ H Q I h
 exact wpAny_Compare1 (y9 ha hb I h fun v u s2 x y H2 I2 rx ry q=>ho pins s2 σ H2 x y v u Q I2 rx ry q) hm
noncomputable def yL (t:TE):TT:=fun σ H Q=>t σ H fun x H'=>∃ k,x=.bl k∧Q k H'
theorem O4 {op:CmpOp}{r:R2} (ho:bx X (compareOp op) r) (ha:PE X a ta) (hb:PE X b tb) (hm:behindInMarks op b=false):PT X (.Compare a [op] [b] pos) (yL (oD r ta tb)):=by
 intro pins s σ H Q I h
 refine wpAny_isTrue_Compare1 (aF (ha pins s σ H _ I h) fun v s1 ⟨x,H1,I1,r1,q1⟩=>aF (hb pins s1 σ H1 _ I1 q1) fun u s2 ⟨y,H2,I2,r2,q2⟩ =>
  aF (ho pins s2 σ H2 x y v u _ I2 r1 r2 q2) fun c s3 ⟨z,H3,I3,r3,k,e,q3⟩=>?_) hm
 subst e
 cases r3
 exact wpAny_truthy_bool ⟨H3,I3,q3⟩
noncomputable def EJ (r r':R2) (ta tb tc:TE):TE:=fun σ H Q=>ta σ H fun x H1=>tb σ H1 fun y H2=>r x y H2 fun z H3=>∃ k,z=.bl k ∧
 (if k=true then tc σ H3 fun w' H4=>r' y w' H4 Q else Q (.bl false) H3)
theorem Nf {op op':CmpOp}{r r':R2} (ho:bx X (compareOp op) r) (fE:bx X (compareOp op') r') (ha:PE X a ta) (hb:PE X b tb) (hc:PE X c tc)
  (hm:lastMarks [op,op'] [b,c]=false:=by with_unfolding_all rfl):PT X (.Compare a [op,op'] [b,c] pos) (yL (EJ r r' ta tb tc)):=by
 intro pins s σ H Q I h
 refine isTrue_chain (aF (ha pins s σ H _ I h) fun v s1 ⟨x,H1,I1,r1,q1⟩=>test_link (aF (hb pins s1 σ H1 _ I1 q1) fun u s2 ⟨y,H2,I2,r2,q2⟩ =>
  aF (ho pins s2 σ H2 x y v u _ I2 r1 r2 q2) fun d s3 ⟨z,H3,I3,r3,k,e,q3⟩=>?_)) hm
 subst e
 cases r3
 refine wpAny_truthy_bool ?_
 cases k with
 |false =>
  obtain ⟨k',e',q'⟩:=q3
  cases e'
  exact ite_ff ⟨H3,I3,q'⟩
 |true =>
  refine ite_tt (test_last (aF (hc pins s3 σ H3 _ I3 q3) fun w' s4 ⟨z',H4,I4,r4,q4⟩=>aF (fE pins s4 σ H4 y z' u w' _ I4 r2 r4 q4) fun d' s5 ⟨z2,H5,I5,r5,k2,e2,q5⟩=>?_))
  subst e2
  cases r5
  exact wpAny_truthy_bool ⟨H5,I5,q5⟩
def u6 (K:PySem.W.Frag) (x:V) (H:Hp) (k:Bool):Prop :=
 match x with
 |.non=>k=false
 |.bl b=>k=b
 |.int i=>k=(i != 0)
 |.str y=>y.length≤sizeLine∧k=((y.length:Int) != 0)
 |.fD y=>y.size≤sizeLine∧k=((y.size:Int) != 0)
 |.ref p=>(∃ xs,bL K H p xs∧k=!xs.isEmpty)∨(∃ xs,bA K H p xs∧k=!xs.isEmpty)∨∃ ai,H p=some (.dK ai)∧k=!ai.isEmpty
 |_=>False
theorem LC {κ:Type}{ai:List (κ×V)}{vs:List (κ×Value)} (r:KV ai vs):(!vs.isEmpty)=!ai.isEmpty:=by
 cases r<;>rfl
theorem B2 {xs:List V}{its:List Value} (r:Vals xs its):(!its.toArray.isEmpty)=!xs.isEmpty:=by
 cases r<;>simp
theorem ny:(sizeLine:Nat) < 2 ^ 63:=by rw [sizeLine_eq];decide
theorem RP:WC X (fun x H Q=>∃ k,u6 X.K x H k∧Q k H):=by
 intro pins s σ H x v Q I rx h
 obtain ⟨k,e,q⟩:=h
 have hl:=ny
 have hs:sizeLine=16777216:=sizeLine_eq
 cases x with
 |non =>
  cases rx
  have e':k=false:=e
  subst e'
  exact truthy_none ⟨H,I,q⟩
 |bl b =>
  cases rx
  have e':k=b:=e
  subst e'
  exact wpAny_truthy_bool ⟨H,I,q⟩
 |int i =>
  obtain ⟨t,rfl⟩:=rx
  have e':k=(i != 0):=e
  subst e'
  exact PySem.P.truthy_int ⟨H,I,q⟩
 |str y =>
  obtain ⟨t,rfl⟩:=rx
  obtain ⟨hy,e'⟩:y.length≤sizeLine∧k=((y.length:Int) != 0):=e
  subst e'
  exact PySem.P.truthy_str (by omega) ⟨H,I.tok _,q⟩
 |fD y =>
  obtain ⟨t,rfl⟩:=rx
  obtain ⟨hy,e'⟩:y.size≤sizeLine∧k=((y.size:Int) != 0):=e
  subst e'
  exact PySem.W.truthy_bytes (by omega) ⟨H,I.tok _,q⟩
 |ref p =>
  cases rx
  have e':(∃ xs,bL X.K H p xs∧k=!xs.isEmpty)∨(∃ xs,bA X.K H p xs∧k=!xs.isEmpty)∨∃ ai,H p=some (.dK ai)∧k=!ai.isEmpty:=e
  rcases e' with ⟨xs,hx,e'⟩|⟨xs,hx,e'⟩|⟨ai,hx,e'⟩
  ·subst e'
   obtain ⟨its,r,pl,hz⟩:=I.list hx
   have hlen:=r.length
   exact wpAny_truthy_list pl.isList (by simp only [List.size_toArray];omega) ⟨H,I.tok _,by rw [B2 r];exact q⟩
  ·subst e'
   obtain ⟨its,r,pl,hz⟩:=I.tuple hx
   have hlen:=r.length
   exact truthy_tuple pl (by simp only [List.size_toArray];omega) ⟨H,I.tok _,by rw [B2 r];exact q⟩
  ·subst e'
   obtain ⟨hz,hS,vs,r,m⟩:ai.length≤sizeLine∧(p==sysModules)=false∧∃ vs,KV ai vs∧s.heap.DictOf (cn X.prog X.w) p vs:=I.aE p _ hx
   have hlen:ai.length=vs.length:=Paired.length r
   exact wpAny_truthy_dict hS m (by omega) ⟨H,I.tok _,by rw [LC r];exact q⟩
 |_=>exact (show False from e).elim
theorem Ng (ha:PE X a ta) (he:∀ whole,isTrue a X.env whole=(do let v ←whole;standAt a.pos;holding [v] (truthy v))) :
  PT X a (fun σ H Q=>ta σ H fun x H'=>∃ k,u6 X.K x H' k∧Q k H'):=by
 intro pins s σ H Q I h
 exact isTrue_plain (aF (ha pins s σ H _ I h) fun v s1 ⟨x,H1,I1,r1,q1⟩=>RP pins s1 σ H1 x v Q I1 r1 q1) (he _)
theorem LD:bx X (binaryOp .Add) (fun x y H Q=>∃ i j,x=.str i∧y=.str j∧i.length+j.length≤sizeLine∧Q (.str (i++j)) H):=by
 intro pins s σ H x y v u Q I rx ry h
 obtain ⟨i,j,rfl,rfl,hz,q⟩:=h
 obtain ⟨t,rfl⟩:=rx
 obtain ⟨t',rfl⟩:=ry
 exact add_str (fun t' tk=>⟨.str (i++j),H,I.tok _,⟨_,rfl⟩,q⟩) hz
theorem vals1 {x:V}{us:List Value} (r:Vals [x] us):∃ u,us=[u]∧RelV x u:=by
 cases r with
 |cons r1 r2=>cases r2;exact ⟨_,rfl,r1⟩
theorem vals2 {x y:V}{us:List Value} (r:Vals [x,y] us):∃ u w',us=[u,w']∧RelV x u∧RelV y w':=by
 cases r with
 |cons r1 r2 =>
  cases r2 with
  |cons r3 r4=>cases r4;exact ⟨_,_,rfl,r1,r3⟩
theorem Mi (hc:X.calm=true):gJ X (.builtin "max") (fun xs H Q=>∃ i j,xs=[.int i,.int j]∧Q (.int (if j > i then j else i)) H):=by
 intro pins s σ H xs us Q I r h
 obtain ⟨i,j,rfl,q⟩:=h
 obtain ⟨u,w',rfl,⟨t,rfl⟩,⟨t',rfl⟩⟩:=vals2 r
 refine max_two_ints (I.ok.hd hc) fun h' tk k=>⟨_,H,I.kept k,?_,q⟩
 by_cases hj:j > i
 ·rw [if_pos hj,if_pos hj];exact ⟨_,rfl⟩
 ·rw [if_neg hj,if_neg hj];exact ⟨_,rfl⟩
theorem Mj:gJ X (.type "int") (fun xs H Q=>(∃ i,xs=[.int i]∧Q (.int i) H)∨∃ k,xs=[.bl k]∧Q (.int (if k then 1 else 0)) H):=by
 intro pins s σ H xs us Q I r h
 rcases h with ⟨i,rfl,q⟩|⟨k,rfl,q⟩
 ·obtain ⟨u,rfl,t,rfl⟩:=vals1 r
  exact call_int_int ⟨.int i,H,I,⟨_,rfl⟩,q⟩
 ·obtain ⟨u,rfl,r1⟩:=vals1 r
  cases r1
  exact call_int_bool ⟨.int (if k then 1 else 0),H,I.tok _,⟨_,rfl⟩,q⟩
def zb (K:PySem.W.Frag) (x:V) (H:Hp) (n:Nat):Prop :=
 match x with
 |.str y=>y.length≤sizeLine∧n=y.length
 |.fD y=>y.size≤sizeLine∧n=y.size
 |.ref p=>(∃ xs,bL K H p xs∧n=xs.length)∨∃ xs,bA K H p xs∧n=xs.length
 |_=>False
theorem Nh:gJ X (.builtin "len") (fun xs H Q=>∃ x n,xs=[x]∧zb X.K x H n∧Q (.int n) H):=by
 intro pins s σ H xs us Q I r h
 obtain ⟨x,n,rfl,e,q⟩:=h
 obtain ⟨u,rfl,rx⟩:=vals1 r
 have hl:=ny
 have hs:sizeLine=16777216:=sizeLine_eq
 cases x with
 |str y =>
  obtain ⟨t,rfl⟩:=rx
  obtain ⟨hy,e'⟩:y.length≤sizeLine∧n=y.length:=e
  subst e'
  exact len_str (by omega) ⟨.int _,H,I.tok _,⟨_,rfl⟩,q⟩
 |fD y =>
  obtain ⟨t,rfl⟩:=rx
  obtain ⟨hy,e'⟩:y.size≤sizeLine∧n=y.size:=e
  subst e'
  exact PySem.W.len_bytes (by omega) ⟨.int _,H,I.tok _,⟨_,rfl⟩,q⟩
 |ref p =>
  cases rx
  have e':(∃ xs,bL X.K H p xs∧n=xs.length)∨∃ xs,bA X.K H p xs∧n=xs.length:=e
  rcases e' with ⟨xs,hx,e'⟩|⟨xs,hx,e'⟩
  ·subst e'
   obtain ⟨its,r',pl,hz⟩:=I.list hx
   have hlen:=r'.length
   exact Calls.call_len_list pl.isList (by simp only [List.size_toArray];omega) ⟨.int xs.length,H,I.tok _,⟨_,by simp only [List.size_toArray];rw [hlen]⟩,q⟩
  ·subst e'
   obtain ⟨its,r',pl,hz⟩:=I.tuple hx
   have hlen:=r'.length
   exact len_tuple pl (by simp only [List.size_toArray];omega) ⟨.int xs.length,H,I.tok _,⟨_,by simp only [List.size_toArray];rw [hlen]⟩,q⟩
 |_=>exact (show False from e).elim
end
structure Z5 (h:Heap) (x dx C:Addr) (mA:Str→Option Value):Prop where
 obj:h.get? x=some (PySem.W.instObj C dx)
 ns:h.Ns1 dx mA
 ne:dx≠x
section
variable {prog:Program}{w:World}{A:Around}{E:Value→Shared→Prop}{s:Shared}{K:PySem.W.Frag}{x dx C f:Addr}{mA:Str→Option Value}{name:Str}{v:Value}
end
theorem gP.some_of {v:V}{o:Option Value} (r:gP (some v) o):∃ u,o=some u∧RelV v u:=by
 cases o with
 |none=>exact (show False from r).elim
 |some u=>exact ⟨u,rfl,r⟩
section
variable {P:Program}{w:World}{H H':Hp}{h h':Heap}{a C dx:Addr}{fs Xu:List (Str×V)}
end
structure Xy (K:PySem.W.Frag) (C:Addr):Prop where
 pg:PySem.W.plainGet K C Str.empty=true
 hd:PySem.W.hasDictIn K C=true
 po:PySem.W.plainOver K C=true
 sa:PySem.W.findIn K (.ref C) "__setattr__" = some (some (.builtin "object.__setattr__"))
structure Con (K:PySem.W.Frag) (C:Addr) (f:Str) (v:V) (u:Value):Prop where
 at_:PySem.W.findIn K (.ref C) f=some (some u)
 rel:RelV v u
 get:PySem.W.specialIn K u "__get__" = some none
 cp:PySem.W.copiedNames.contains f=false
structure Meth (K:PySem.W.Frag) (C:Addr) (m:Str) (f:Addr):Prop where
 at_:PySem.W.findIn K (.ref C) m=some (some (.ref f))
 fn:PySem.W.isFn K (.ref f)=true
 kp:PySem.W.keepIn K (.ref f)=true
section
variable {X:Cx}{pins:List (Addr×Obj)}{σ:St}{H:Hp}{s:Shared}{a C dx:Addr}{fs:List (Str×V)}{f:Str}{v:V}{A:Around}{E:Value→Shared→Prop}
end
section
variable {X:Cx}{o e value:Expr}{f:Str}{pos pos' WD:Pos}{ta tv:TE}
def zc:V→V→Hp→VK→Prop:=fun x y H Q=>∃ i j,x=.int i∧y=.int j∧Q (.int (i+j)) H
end
section
variable {X:Cx}{pins:List (Addr×Obj)}{σ:St}{H:Hp}{s:Shared}{A:Around}{E:Value→Shared→Prop}{Q:Value→Shared→Prop}{c:Value}{b:Bool}
inductive iy (K:PySem.W.Frag) (H:Hp):V→Value→Prop where
 |non:iy K H .non (.type "NoneType")
 |bl (x:Bool):iy K H (.bl x) (.type "bool")
 |int (i:Int):iy K H (.int i) (.type "int")
 |str (x:Str):iy K H (.str x) (.type "str")
 |qS (x:UInt64):iy K H (.qS x) (.type "float")
 |lst {a:Addr}{xs:List V} (e:H a=some (.lst xs)):iy K H (.ref a) (.type "list")
 |aW {a:Addr}{o:Obj}{xs:List V} (e:H a=some (.aW o (.lst xs))):iy K H (.ref a) (.type "list")
 |tup {a:Addr}{xs:List V} (e:H a=some (.tup xs)):iy K H (.ref a) (.type "tuple")
 |dK {a:Addr}{ai:List (Key×V)} (e:H a=some (.dK ai)):iy K H (.ref a) (.type "dict")
 |dT {a:Addr}{ai:List (List Key×V)} (e:H a=some (.dT ai)):iy K H (.ref a) (.type "dict")
 |ins {a C dx:Addr}{fs:List (Str×V)} (e:H a=some (.ins C dx fs)) (cl:Xy K C) (ha:PySem.W.findIn K (.ref C) "__class__" = some (some (.builtin "object.__class__")))
  (hn:PySem.W.specialIn K (.builtin "object.__class__") "__get__" = some (some (.builtin "getset_descriptor.__get__"))) (htk:PySem.W.takesIn K (.builtin "object.__class__")=some true)
  (hm:PySem.W.mroIn K C (.type "object")=some true):iy K H (.ref a) (.ref C)
end
structure dw (k:Nat) (A:Around):Prop where
 hd:A.handled=none
 dp:A.depth+3*k+5 < recursionLimit
 un:A.units+16*k+200 < cLine
theorem dw.mono {j k:Nat}{A:Around} (r:dw k A) (h:j≤k):dw j A:=⟨r.hd,by have:=r.dp;omega,by have:=r.un;omega⟩
theorem dw.deeper {k:Nat}{A:Around} (r:dw (k+1) A) (env:Env):dw k (A.deeper env) :=
 ⟨r.hd,by have:=r.dp;show A.depth+1+3*k+5 < _;omega,by have:=r.un;show A.units+3+16*k+200 < _;omega⟩
theorem dw.depth {k:Nat}{A:Around} (r:dw k A):A.depth < recursionLimit:=by have:=r.dp;omega
theorem dw.units {k:Nat}{A:Around} (r:dw k A):A.units+64 < cLine:=by have:=r.un;omega
noncomputable def kJ:TA:=fun _ H Q=>Q [] H
noncomputable def lJ (ta:TE) (tr:TA):TA:=fun σ H Q=>ta σ H fun x H1=>tr σ H1 fun xs H2=>Q (x::xs) H2
section
variable {X:Cx}{e:Expr}{es:List Expr}{te:TE}{t:TA}{pos:Pos}
theorem qd:PA X [] kJ:=fun _ _ _ _ H Q I h=>Calls.spliced_nil ⟨[],H,I,.nil,h⟩
theorem ub (ha:PE X e te) (hr:PA X es t) (hs:starEach (e::es) X.env=(false,eval e X.env)::starEach es X.env:=by rfl):PA X (e::es) (lJ te t):=by
 intro pos pins s σ H Q I h
 rw [hs]
 show wpAny _ _ (spliced ((false,eval e X.env)::backTo pos (starEach es X.env))) _ _ s
 refine Calls.spliced_cons (aF (ha pins s σ H _ I h) fun u s1 ⟨x,H1,I1,r1,q1⟩=>?_)
 exact aF (hr pos pins s1 σ H1 _ I1 q1) fun us s2 ⟨xs,H2,I2,r2,q2⟩=>⟨x::xs,H2,I2,.cons r1 r2,q2⟩
noncomputable def GN (t:TA):TE:=fun σ H Q=>t σ H fun xs H1=>xs.length≤sizeLine∧∀ p,H1 p=none→Q (.ref p) (upd H1 p (.tup xs))
noncomputable def u9 (t:TA):TE:=fun σ H Q=>t σ H fun xs H1=>xs.length≤sizeLine∧∀ p,H1 p=none→Q (.ref p) (upd H1 p (.lst xs))
theorem RQ {x1} (h:PA X es t):PE X (.Tuple es x1 pos) (GN t):=by
 intro pins s σ H Q I hq
 refine wpAny_Tuple_spliced (aF (h pos pins s σ H _ I hq) fun us s1 ⟨xs,H1,I1,r,z,q⟩=>⟨by rw [←r.length];exact z,?_⟩)
 have hf:H1 s1.heap.objs.size=none:=I1.aE.fresh (Nat.le_refl _)
 refine ⟨.ref s1.heap.objs.size,upd H1 s1.heap.objs.size (.tup xs),I1.laid (t':=s1.toks) (fun b u e=>Heap.get?_push_of_some _ e) (Nat.le_refl _) ?_,rfl,q _ hf⟩
 exact ⟨z,us,r,⟨_,Heap.get?_push_size _ rfl,rfl,_,rfl⟩⟩
theorem yi (h:PA X es t):PE X (.List es pos) (u9 t):=by
 intro pins s σ H Q I hq
 refine wpAny_List_spliced (aF (h pos pins s σ H _ I hq) fun us s1 ⟨xs,H1,I1,r,z,q⟩=>⟨by rw [←r.length];exact z,?_⟩)
 have hf:H1 s1.heap.objs.size=none:=I1.aE.fresh (Nat.le_refl _)
 refine ⟨.ref s1.heap.objs.size,upd H1 s1.heap.objs.size (.lst xs),I1.laid (t':=s1.toks) (fun b u e=>Heap.get?_push_of_some _ e) (Nat.le_refl _) ?_,rfl,q _ hf⟩
 exact ⟨z,us,0,r,Heap.get?_push_size _ rfl⟩
end
noncomputable abbrev Sp:=List V→Hp→VK→XK→Prop
noncomputable abbrev iG:=List Env→Hp→Shared→XK→Value→Shared→Prop
structure vb (P:Program) (w:World) (K:PySem.W.Frag) (mg:Str→Option Value) (base:Heap) (A:Around) (outer:List Env) (s:Shared) (H:Hp):Prop where
 frames:A.frames=some outer
 mod:Mod K mg base
 bs:∀ b o,base.get? b=some o→s.heap.get? b=some o∧H b=none
 jU:base.objs.size≤s.heap.objs.size
 iw:s.heap.FunFrames base outer
 oA:∀ b∈gW outer,H b=none
 aE:cu P w H s.heap
 bare:AllBare s.gens
def CE (outer:List Env) (P:Program) (w:World) (H:Hp) (s:Shared) (Q:VK) (u:Value) (s':Shared):Prop :=
 ∃ v H',s'.os=s.os∧AllBare s'.gens∧Un (gW outer) [] H H' s.heap s'.heap∧cu P w H' s'.heap∧RelV v u∧Q v H'
def CR (CX:iG) (outer:List Env) (P:Program) (w:World) (H:Hp) (s:Shared) (Q:VK) (E:XK) (r:Result) (s':Shared):Prop :=
 match r with
 |.ok (.ret u)=>CE outer P w H s Q u s'
 |.ok _=>False
 |.error e=>CX outer H s E e s'
structure jL (P:Program) (w:World) (K:PySem.W.Frag) (mg:Str→Option Value) (base:Heap) (CX:iG) (k:Nat) (f:Addr) (fd:FuncData) (ps:List Str) (sp:Sp):Prop where
 len:∀ vs H Q E,sp vs H Q E→vs.length=ps.length
 run:∀ (A:Around) (outer:List Env) (s:Shared) (H:Hp) (args:Args) (us:List Value) (vs:List V) (Q:VK) (E:XK),dw k A→vb P w K mg base A outer s H→BindsTo s fd args (ps.zip us)→Vals vs us→sp vs H Q E →
  codeAny (model P w) A (.call (.ref f) args) (CR CX outer P w H s Q E) s
section
variable {X:Cx}{pins:List (Addr×Obj)}{σ:St}{H:Hp}{s s':Shared}
theorem Inv.WG (I:Inv X pins σ H s):vb X.prog X.w X.K X.mg X.base X.A X.stack s H :=
 ⟨I.ok.frames,I.ok.mod,I.bs,Nat.le_trans I.ok.jU I.sz,I.stack,I.DJ,I.aE,I.bare⟩
theorem Inv.after {Q:VK}{u:Value} (I:Inv X pins σ H s) (h:CE X.stack X.prog X.w H s Q u s'):EP X pins σ Q u s':=by
 obtain ⟨v,H',os,bare,un,aE,r,q⟩:=h
 obtain ⟨hh,g,d,t,Xz⟩:=s'
 obtain rfl:Xz=s.os:=os
 exact ⟨v,H',I.call (h':=hh) (g':=g) (d':=d) (t':=t) (ch:=[]) un aE bare (fun b z=>absurd z (by simp)),r,q⟩
end
noncomputable def qo (sp:Sp) (k6:List V) (E:XK) (t:TA):TE:=fun σ H Q=>t σ H fun vs H1=>sp (vs++k6) H1 Q E
def Binds (K:PySem.W.Frag) (fd:FuncData) (ps:List Str) (ds:List Value):Prop :=
 ∀ (s:Shared) (us:List Value),K.In s.heap→(us++ds).length=ps.length→BindsTo s fd ⟨us,[]⟩ (ps.zip (us++ds))
theorem Binds.all {K:PySem.W.Frag}{fd:FuncData}{ps:List Str} (h:∀ us:List Value,us.length=ps.length→bindArgs fd ⟨us,[]⟩=pure (ps.zip us)):Binds K fd ps []:=fun s us _ hl=>by
 rw [List.append_nil] at hl ⊢
 exact .of_eq (h us hl)
def Passes (CX:iG) (X:Cx) (E:XK):Prop:=∀ (pins:List (Addr×Obj)) (σ:St) (H:Hp) (s:Shared) (e:Value) (s':Shared),Inv X pins σ H s→CX X.stack H s E e s'→X.xe e s'
section
variable {X:Cx}{CX:iG}{k:Nat}{f C:Addr}{fd:FuncData}{ps:List Str}{sp:Sp}{k6:List V}{ds:List Value}{E:XK}{x m:Str}{p pos apos:Pos}{e o:Expr}{es:List Expr}{ta:TE}{t:TA}
theorem RT {pins:List (Addr×Obj)}{σ:St}{H:Hp}{s:Shared}{Q:VK}{us:List Value}{vs:List V} (F:jL X.prog X.w X.K X.mg X.base CX k f fd ps sp) (hr:dw k X.A) (hb:Binds X.K fd ps ds) (hd:Vals k6 ds) (hx:Passes CX X E)
  (I:Inv X pins σ H s) (r:Vals vs us) (h:sp (vs++k6) H Q E):wpAny (model X.prog X.w) X.A (call (.ref f) us) (EP X pins σ Q) X.xe s:=by
 have r2:Vals (vs++k6) (us++ds):=r.append hd
 have hl:(us++ds).length=ps.length:=by rw [←r2.length];exact F.len _ _ _ _ h
 refine wpAny_call (codeAny_mono (F.run X.A X.stack s H ⟨us,[]⟩ (us++ds) (vs++k6) Q E hr I.WG (hb s us I.fV hl) r2 h) fun r s' hq=>?_)
 cases r with
 |error e=>exact hx pins σ H s e s' I hq
 |ok fl =>
  cases fl with
  |ret u=>exact I.after hq
  |next=>exact False.elim hq
  |brk=>exact False.elim hq
  |cont=>exact False.elim hq
theorem DQ (F:jL X.prog X.w X.K X.mg X.base CX k f fd ps sp) (hr:dw k X.A) (hg:Gl X x) (hm:X.mg x=some (.ref f)) (hk:PySem.W.keepIn X.K (.ref f)=true) (hb:Binds X.K fd ps ds) (hd:Vals k6 ds) (hx:Passes CX X E)
  (ha:PA X (e::es) t) (jX:(x==("__debug__" : Str))=false:=by decide) (he:starEach (e::es) X.env=(false,eval e X.env)::starEach es X.env:=by rfl) (jf:(backTo pos (starEach es X.env)).any (·.1)=false:=by rfl) :
  PE X (.Call (.Name x p) (e::es) [] pos) (qo sp k6 E t):=by
 intro pins s σ H Q I h
 refine wpAny_Call_Name_kw (OL I hg hm ?_ jX)
 refine PySem.W.callWith_K (h₀:=X.base) I.ok.mod.zT hk (aF (ha pos pins s σ H _ I h) fun us s1 ⟨vs,H1,I1,r,q⟩=>⟨I1.fV,?_⟩) he jf
 exact RT F hr hb hd hx I1 r q
structure Mk (K:PySem.W.Frag) (C f:Addr):Prop where
 makes:PySem.W.makesIn K C=true
 init:PySem.W.findIn K (.ref C) "__init__" = some (some (.ref f))
 fn:PySem.W.isFn K (.ref f)=true
 kp:PySem.W.keepIn K (.ref C)=true
end
section
variable {X:Cx}{CX:iG}{k:Nat}{f C:Addr}{fd:FuncData}{ps ks:List Str}{sp:Sp}{E:XK}{x m:Str}{p pos apos Z6:Pos}{e o:Expr}{es:List Expr}{kws:List Keyword}{te ta:TE}{t tk:TA}{nm:Option Str}
structure Z1 (K:PySem.W.Frag) (fd:FuncData) (ps ks:List Str) (g:List Value→List Value→List Value) (gV:List V→List V→List V):Prop where
 to:∀ (s:Shared) (us ws:List Value),K.In s.heap→(g us ws).length=ps.length→BindsTo s fd ⟨us,ks.zip ws⟩ (ps.zip (g us ws))
 rel:∀ {vs:List V}{us:List Value}{zs:List V}{ws:List Value},Vals vs us→Vals zs ws→Vals (gV vs zs) (g us ws)
variable {g:List Value→List Value→List Value}{gV:List V→List V→List V}
end
structure p5 (N P:List Str) (sc:Scope):Prop where
 kind:sc.kind=.function
 co:sc.isCoroutine=false
 gen:sc.isGenerator=false
 nd:N.Nodup
 pre:N.take P.length=P
 par:∀ x∈P,sc.names.lookup x=some .local∨sc.names.lookup x=some .cell
 RV:∀ y∈sc.names,y.2≠.free
theorem Cv {kindOf:Str→Option NameKind}{x:Str}:∀ {binds:List (Str×Value)}{m:Str→Option Value},(∀ v,(x,v)∉binds)→bindL kindOf binds m x=m x
  |[],_,_=>rfl
  | (n,v)::r,m,h=>by
    unfold bindL
    rw [Cv fun w hw=>h w (List.mem_cons_of_mem _ hw)]
    split
    · have:x≠n:=by rintro rfl;exact h v List.mem_cons_self
      simp [this]
    · rfl
theorem Cw {kindOf:Str→Option NameKind}{x:Str}:∀ {binds:List (Str×Value)}{m:Str→Option Value},(∀ v,(x,v)∉binds)→bindC kindOf binds m x=m x
  |[],_,_=>rfl
  | (n,v)::r,m,h=>by
    unfold bindC
    rw [Cw fun w hw=>h w (List.mem_cons_of_mem _ hw)]
    split
    · rfl
    · have:x≠n:=by rintro rfl;exact h v List.mem_cons_self
      simp [this]
theorem Cy {kindOf:Str→Option NameKind}{x:Str}{v:Value}:∀ {P:List Str}{vs:List Value}{i:Nat}{m:Str→Option Value},P.Nodup→P[i]?=some x→vs[i]?=some v→kindOf x=some .local →
  bindL kindOf (P.zip vs) m x=some v
 |[],_,_,_,_,h,_,_=>by simp at h
 |_::_,[],_,_,_,_,h,_=>by simp at h
 |p::P,w::vs,0,m,nd,h1,h2,hk=>by
  simp at h1 h2;subst h1;subst h2
  show bindL kindOf ((p,w)::P.zip vs) m p=_
  unfold bindL
  rw [Cv fun v hv=>(List.nodup_cons.mp nd).1 (List.of_mem_zip hv).1,if_pos hk]
  simp
 |p::P,w::vs,i+1,m,nd,h1,h2,hk=>by
  show bindL kindOf ((p,w)::P.zip vs) m x=_
  unfold bindL
  exact Cy (i:=i) (List.nodup_cons.mp nd).2 (by simpa using h1) (by simpa using h2) hk
theorem Cz {kindOf:Str→Option NameKind}{x:Str}{v:Value}:∀ {P:List Str}{vs:List Value}{i:Nat}{m:Str→Option Value},P.Nodup→P[i]?=some x→vs[i]?=some v→kindOf x≠some .local →
  bindC kindOf (P.zip vs) m x=some v
 |[],_,_,_,_,h,_,_=>by simp at h
 |_::_,[],_,_,_,_,h,_=>by simp at h
 |p::P,w::vs,0,m,nd,h1,h2,hk=>by
  simp at h1 h2;subst h1;subst h2
  show bindC kindOf ((p,w)::P.zip vs) m p=_
  unfold bindC
  rw [Cw fun v hv=>(List.nodup_cons.mp nd).1 (List.of_mem_zip hv).1,if_neg hk]
  simp
 |p::P,w::vs,i+1,m,nd,h1,h2,hk=>by
  show bindC kindOf ((p,w)::P.zip vs) m x=_
  unfold bindC
  exact Cz (i:=i) (List.nodup_cons.mp nd).2 (by simpa using h1) (by simpa using h2) hk
noncomputable def start (N:List Str) (vs:List V):St:=vs.map some++List.replicate (N.length-vs.length) none
noncomputable def kK (CX:iG) (P:Program) (w:World) (K:PySem.W.Frag) (mg:Str→Option Value) (base:Heap) (N:List Str) (qual:Str) (scope:Scope) (f:Addr) (cd:Value) (A:Around) (outer:List Env) (s:Shared) (H:Hp) (E:XK):Cx where
 prog:=P
 w:=w
 K:=K
 mg:=mg
 base:=base
 A:=A.deeper (envOfC qual scope s.heap.objs.size f cd)
 N:=N
 s₀:=s
 H₀:=H
 env:=envOfC qual scope s.heap.objs.size f cd
 outer:=outer
 stack:=envOfC qual scope s.heap.objs.size f cd::outer
 ex:=[]
 calm:=true
 fn:=fun _=>true
 pn:=[]
 xe:=fun e s'=>wpAny (model P w) (A.deeper (envOfC qual scope s.heap.objs.size f cd)) (leaving (envOfC qual scope s.heap.objs.size f cd) e) (fun _ zZ=>CX outer H s E e zZ) (fun e' zZ=>CX outer H s E e' zZ) s'
theorem C4 {sc:Scope}{n:Nat}{x:Str} (h:sc.names.lookup x=some .cell):∃ c,(cellsFrom n sc.names []).lookup x=some c:=by
 have q:=PySem.W.cellsFrom_some sc.names n [] (.inl h)
 exact Option.isSome_iff_exists.mp q
theorem Ml {CX:iG}{P:Program}{w:World}{K:PySem.W.Frag}{mg:Str→Option Value}{base:Heap}{N ps:List Str}{qual:Str}{scope:Scope}{f:Addr}{cd:Value}{A:Around}{outer:List Env}{s s1:Shared}{H:Hp}{E:XK}{us:List Value}{vs:List V}
  (S:p5 N ps scope) (hd:A.handled=none) (e0:vb P w K mg base A outer s H) (hl:vs.length=ps.length) (r:Vals vs us)
  (x:InCallC s s.heap.objs.size (bindL (envOfC qual scope s.heap.objs.size f cd).kindOf (ps.zip us) fun _=>none) (cellsFrom (s.heap.objs.size+1) scope.names []) (bindC (envOfC qual scope s.heap.objs.size f cd).kindOf (ps.zip us) fun _=>none) s1) :
  Inv (kK CX P w K mg base N qual scope f cd A outer s H E) [] (start N vs) H s1:=by
 have jf:ps.length≤N.length:=by have:=congrArg List.length S.pre;rw [List.length_take] at this;omega
 obtain ⟨h1,tk,rfl,hk⟩:=x.done
 have rg:∀ b:Addr,b∉(kK CX P w K mg base N qual scope f cd A outer s H E).ex:=fun b z=>absurd (show b∈([]:List Addr) from z) (by simp)
 refine ⟨⟨e0.mod,S.kind,rfl,rfl,Nat.le_refl _,fun y z c h1 h2=>?_,fun y hy=>?_,fun y c _ h=>?_,fun _=>hd,Around.frames_deeper e0.frames,.inr ⟨rfl,rfl⟩,fun b z=>absurd z (rg b),e0.bs,e0.jU,fun b _ _=>rg b,fun b z=>absurd z (rg b),e0.iw,e0.oA⟩,
  rfl,e0.bare,Un.kept hk,⟨_,x.toInCall.ns,fun i y v h1 h2 h3=>?_⟩,fun y c h=>⟨_,x.cell y c h⟩,e0.aE.fresh (Nat.le_refl _),fun y c h=>?_,fun p hp=>absurd (show p∈([]:List (Addr×Obj)) from hp) (by simp),e0.aE.kept hk,?_⟩
 ·exact name_of_addr x.apart (PySem.mem_of_lookup h1) (PySem.mem_of_lookup h2)
 ·have hy:scope.names.lookup y=some .cell∨scope.names.lookup y=some .free:=hy
  rcases hy with hy|hy
  ·exact C4 hy
  ·exact absurd rfl (S.RV _ (PySem.mem_of_lookup hy))
 ·exact Nat.le_of_lt (x.above y c (PySem.mem_of_lookup h))
 ·have hi:i < vs.length:=by
   unfold start at h2
   by_cases hi:i < vs.length
   ·exact hi
   ·rw [List.getElem?_append_right (by simpa using hi)] at h2
    rw [List.getElem?_replicate] at h2
    split at h2<;>cases h2
  have ha:vs[i]?=some v:=by
   unfold start at h2
   rw [List.getElem?_append_left (by simpa using hi),List.getElem?_map] at h2
   cases e:vs[i]? with
   |none=>rw [e] at h2;cases h2
   |some a=>rw [e] at h2;cases h2;rfl
  obtain ⟨u,hu,rv⟩:=r.get ha
  have hp:ps[i]?=some y:=by
   rw [←S.pre,List.getElem?_take_of_lt (by omega)];exact h1
  have Ik:ps.Nodup:=by rw [←S.pre];exact S.nd.sublist (List.take_sublist _ _)
  refine ⟨u,rv,?_⟩
  rcases S.par y (List.mem_of_getElem? hp) with k|k
  ·exact .inl ⟨k,Cy Ik hp hu k⟩
  ·obtain ⟨c,e⟩:=C4 (n:=s.heap.objs.size+1) k
   refine .inr ⟨.inl k,c,e,?_⟩
   have q:=x.cell y c e
   rw [Cz Ik hp hu (by show scope.names.lookup y≠_;rw [k];decide)] at q
   exact q
 ·exact e0.aE.fresh (Nat.le_of_lt (x.above y c (PySem.mem_of_lookup h)))
 ·unfold start
  show _=N.length
  rw [List.length_append,List.length_map,List.length_replicate]
  omega
theorem FZ {CX:iG}{P:Program}{w:World}{K:PySem.W.Frag}{mg:Str→Option Value}{base:Heap}{k:Nat}{f:Addr}{name qual:Str}{params:Arguments}{body:List Stmt}{scope:Scope}{dV kV doc pm bM ct oc:Value}{an od:Option Addr}
  {iH:Array (Option Value)}{N ps:List Str}{sp:Sp} (lk:K.lookup f=some ⟨oc,od,.func (PySem.W.fnOf name qual params body scope dV kV doc pm an bM ct),iH⟩) (gA:PySem.W.codeIn K bM qual=true) (S:p5 N ps scope)
  (len:∀ vs H Q E,sp vs H Q E→vs.length=ps.length)
  (qq:∀ (A:Around) (outer:List Env) (s:Shared) (H:Hp) (vs:List V) (Q:VK) (E:XK),dw k (A.deeper (envOfC qual scope s.heap.objs.size f bM))→sp vs H Q E →
   ∃ t,fF (kK CX P w K mg base N qual scope f bM A outer s H E) body t∧t { nx:=fun _ H'=>Q .non H',rt:=Q } (start N vs) H) :
  jL P w K mg base CX (k+1) f (PySem.W.fnOf name qual params body scope dV kV doc pm an bM ct) ps sp:=by
 refine ⟨len,fun A outer s H args us vs Q E hr e0 hb r jh=>?_⟩
 have hl:=len _ _ _ _ jh
 have KX:K.In s.heap:=e0.mod.zT.keeps fun b o e=>(e0.bs b o e).1
 have lim:s.heap.NoLimit:=e0.mod.nolimit.keeps fun b o e=>(e0.bs b o e).1
 have UT:∀ y∈ps.zip us,scope.names.lookup y.1=some .local∨(scope.names.lookup y.1=some .cell∧((cellsFrom (s.heap.objs.size+1) scope.names []).lookup y.1).isSome=true):=fun ⟨n,v⟩ hy=>by
  rcases S.par n (List.of_mem_zip hy).1 with q|q
  ·exact .inl q
  ·exact .inr ⟨q,PySem.W.cellsFrom_some _ _ _ (.inl q)⟩
 refine codeAny_call_function hr.depth (KX _ _ lk) rfl S.co S.gen rfl (PySem.W.codeRec_of KX gA) (hb _ _ _ _ ?_)
 refine wpAny_newFunctionEnv_cells S.kind UT fun env he s1 x=>?_
 subst he
 refine ⟨lim.keeps x.toInCall.keep,codeAny_func ?_⟩
 obtain ⟨t,ht,hq⟩:=qq A outer s H vs Q E (hr.deeper _) jh
 have I:Inv (kK CX P w K mg base N qual scope f bM A outer s H E) [] (start N vs) H s1:=Ml S hr.hd e0 hl r x
 refine wpAny_mono (ht [] s1 (start N vs) H _ I hq) (fun fl s' hs=>?_) fun e s' hs=>hs
 have fin:∀ {σ':St}{H':Hp}{v:V}{u:Value},Inv (kK CX P w K mg base N qual scope f bM A outer s H E) [] σ' H' s'→RelV v u→Q v H'→CE outer P w H s Q u s' :=
  fun {σ' H' v u} J rv q=>⟨v,H',J.os,J.bare,J.base,J.aE,rv,q⟩
 cases fl with
 |ret u =>
  obtain ⟨v,σ',H',J,rv,q⟩:=hs
  exact fin J rv q
 |next =>
  obtain ⟨σ',H',J,q⟩:=hs
  exact fin (v:=V.non) (u:=Value.none) J rfl q
 |brk =>
  obtain ⟨_,_,_,q⟩:=hs
  exact False.elim q
 |cont =>
  obtain ⟨_,_,_,q⟩:=hs
  exact False.elim q
section
variable {X:Cx}{x:Str}{p pos:Pos}{e:Expr}{es:List Expr}{t:TA}{id T:String}{r:List V→Hp→VK→Prop}
noncomputable def vB (r:List V→Hp→VK→Prop) (t:TA):TE:=fun σ H Q=>t σ H fun vs H1=>r vs H1 Q
theorem tV (hc:gJ X (.builtin id) r) (hg:Gl X x) (hm:X.mg x=none) (hv:bootBuiltins x=some (.builtin id)) (ha:PA X (e::es) t) (hn:x ≠ "__name__" := by decide) (jX:(x==("__debug__" : Str))=false:=by decide)
  (he:starEach (e::es) X.env=(false,eval e X.env)::starEach es X.env:=by rfl) (jf:(backTo pos (starEach es X.env)).any (·.1)=false:=by rfl):PE X (.Call (.Name x p) (e::es) [] pos) (vB r t):=by
 intro pins s σ H Q I h
 refine wpAny_Call_Name_kw (ko I hg hm hv ?_ hn jX)
 exact PyProof.Rows.callWith_builtin1 (aF (ha pos pins s σ H _ I h) fun us s1 ⟨vs,H1,I1,r1,q1⟩=>hc pins s1 σ H1 vs us Q I1 r1 q1) he jf
theorem xt (hc:gJ X (.type T) r) (hg:Gl X x) (hm:X.mg x=none) (hv:bootBuiltins x=some (.type T)) (ha:PA X (e::es) t) (hn:x ≠ "__name__" := by decide) (jX:(x==("__debug__" : Str))=false:=by decide)
  (he:starEach (e::es) X.env=(false,eval e X.env)::starEach es X.env:=by rfl) (jf:(backTo pos (starEach es X.env)).any (·.1)=false:=by rfl):PE X (.Call (.Name x p) (e::es) [] pos) (vB r t):=by
 intro pins s σ H Q I h
 refine wpAny_Call_Name_kw (ko I hg hm hv ?_ hn jX)
 exact PyProof.Rows.callWith_type1 (aF (ha pos pins s σ H _ I h) fun us s1 ⟨vs,H1,I1,r1,q1⟩=>hc pins s1 σ H1 vs us Q I1 r1 q1) he jf
end
end L2
namespace HT
open PySem PyProof.Rows
section
open PySem.SeqAt
open PySem.AutoSeq1 (wpAny_loadPart')
open PySem.MeetsSeq PySem.MeetsSeq2 PySem.MeetsSeq3
end
section
variable {prog:Program}{w:World}{A:Around}{E:Value→Shared→Prop}{s:Shared}
theorem O6 {t b:Addr}{vs ws:List Value}{Q:Value→Shared→Prop} (ht:IsTup s.heap t vs.toArray) (hb:IsTup s.heap b ws.toArray) (hv:vs≠[])
  (h1:ws=[]→Q (.ref t) s) (h2:ws≠[]→Q (.ref s.heap.objs.size) { s with heap:=s.heap.push { cls:=.type "tuple",data:=.seq (vs++ws).toArray } })
  (hsz:vs.length+ws.length≤sizeLine):wpAny (model prog w) A (binaryOp .Add (.ref t) (.ref b)) Q E s:=by
 obtain ⟨⟨cls,dd,data,sl⟩,ho,hc,n,hd⟩:=id ht
 obtain ⟨⟨WH,vC,data2,oE⟩,gX,fX,n2,hd2⟩:=id hb
 simp only at hc hd fX hd2
 subst hc hd fX hd2
 have e:vs.toArray++ws.toArray=(vs++ws).toArray:=by simp
 by_cases hw:ws=[]
 ·exact concat_meets ⟨_,ho,rfl⟩ ⟨_,gX,rfl⟩ noFill_tuple_add seq_tuple_add PySem.F.slot_tuple_add PySem.F.entry_tuple_add (PySem.F.args_tuple_add_2 _ _)
   (tuple_addW1 t b vs.toArray ws.toArray n n2 dd vC sl oE (by simpa using hv) (by simp [hw])) ⟨ho,gX,h1 hw⟩
 ·refine concat_meets ⟨_,ho,rfl⟩ ⟨_,gX,rfl⟩ noFill_tuple_add seq_tuple_add PySem.F.slot_tuple_add PySem.F.entry_tuple_add (PySem.F.args_tuple_add_2 _ _)
   (tuple_addW2 t b vs.toArray ws.toArray n n2 dd vC sl oE (by simpa using hv) (by simpa using hw) (by rw [List.size_toArray,List.size_toArray];exact hsz)) ⟨ho,gX,?_⟩
  rw [e]
  exact h2 hw
noncomputable def aU (n d:Nat):Option Int→Nat
 |none=>d
 |some v=>if v < 0 then (v+(n:Int)).toNat else min v.toNat n
theorem RW (n d:Nat) (hd:d≤n) (o:Option Int):aU n d o≤n:=by
 cases o with
 |none=>exact hd
 |some v =>
  show (if v < 0 then (v+(n:Int)).toNat else min v.toNat n)≤n
  by_cases hv:v < 0
  ·rw [if_pos hv];omega
  ·rw [if_neg hv];exact Nat.min_le_right _ _
theorem DS (v:Int) (n d:Nat):(if v < 0 then max (v+(n:Int)) 0 else min v (n:Int))=((aU n d (some v):Nat):Int):=by
 show (if v < 0 then max (v+(n:Int)) 0 else min v (n:Int))=(((if v < 0 then (v+(n:Int)).toNat else min v.toNat n):Nat):Int)
 by_cases hv:v < 0
 ·simp only [if_pos hv];omega
 ·simp only [if_neg hv];omega
theorem LJ (lo hi:Option Int) (n:Nat):Builtin.Slice.sliceAdjust lo hi 1 (n:Int)=(((aU n 0 lo:Nat):Int),((aU n n hi:Nat):Int)):=by
 have h1:¬ ((1:Int) < 0):=by omega
 unfold Builtin.Slice.sliceAdjust
 simp only [h1,if_false]
 refine Prod.ext ?_ ?_
 ·cases lo with
  |none=>rfl
  |some v=>exact DS v n 0
 ·cases hi with
  |none=>rfl
  |some v=>exact DS v n n
theorem LK (i j:Nat):Builtin.Slice.slicePlaces (i:Int) (j:Int) 1=j-i:=by
 unfold Builtin.Slice.slicePlaces
 have h1:(1:Int) > 0:=by omega
 simp only [h1,if_true,Int.ediv_one]
 split<;>omega
theorem B3 {v:Value}{o:Option Int}{Q:Option Int→Shared→Prop} (p:IsPart v o) (h:Q o s):wpAny (model prog w) A (Builtin.Slice.slicePartIndex v) Q E s:=by
 cases p with
 |none=>exact slicePart_none h
 |int i t=>exact slicePart_int h
theorem Bm {sl:Addr}{vl vu:Value}{lo hi:Option Int}{n:Nat}{Q:Int×Int×Nat→Shared→Prop} (hs:s.heap.IsSliceOf sl vl vu .none) (pl:IsPart vl lo) (pu:IsPart vu hi)
  (h:Q (((aU n 0 lo:Nat):Int),1,aU n n hi-aU n 0 lo) s):wpAny (model prog w) A (Builtin.Slice.sliceApplied (.ref sl) (pure (n:Int))) Q E s:=by
 obtain ⟨os,my,gY,iI⟩:=id hs
 unfold Builtin.Slice.sliceApplied Builtin.Slice.sliceFields
 refine wpAny_bind (wpAny_bind (wpAny_field my iI (x:=vl) rfl (wpAny_bind (wpAny_field my iI (x:=vu) rfl (wpAny_bind (wpAny_field my iI (x:=.none) rfl (wpAny_pure ?_)))))))
 refine wpAny_bind (slicePart_none ?_)
 show wpAny _ _ (if ((1:Int)==0)=true then _ else _) _ _ s
 rw [if_neg (by decide)]
 refine wpAny_bind (B3 pl (wpAny_bind (B3 pu (wpAny_bind (wpAny_pure ?_)))))
 show wpAny _ _ (match Builtin.Slice.sliceAdjust lo hi 1 (n:Int) with | (lo,hi)=>pure (lo,(1:Int),Builtin.Slice.slicePlaces lo hi 1)) _ _ s
 rw [LJ lo hi n]
 show wpAny _ _ (pure (((aU n 0 lo:Nat):Int),(1:Int),Builtin.Slice.slicePlaces ((aU n 0 lo:Nat):Int) ((aU n n hi:Nat):Int) 1)) _ _ s
 rw [LK]
 exact wpAny_pure h
theorem Ni (xs:Array Value) (i k:Nat):((List.range k).filterMap fun (m:Nat)=>xs[((i:Int)+(m:Int)*1).toNat]?).toArray=((xs.toList.drop i).take k).toArray:=by
 have e:(fun (m:Nat)=>xs[((i:Int)+(m:Int)*1).toNat]?)=fun m=>xs[i+m]?:=by
  funext m
  have:((i:Int)+(m:Int)*1).toNat=i+m:=by omega
  rw [this]
 rw [e]
 have:=pick_run xs i k
 rw [List.filterMap_map] at this
 have e2:((fun x=>xs[x]?)∘fun x=>i+x)=fun m=>xs[i+m]?:=rfl
 rw [e2] at this
 rw [this]
theorem K0 {t sl:Addr}{items:Array Value}{vl vu:Value}{lo hi:Option Int}{Q:Value→Shared→Prop} (ht:IsTup s.heap t items) (hs:s.heap.IsSliceOf sl vl vu .none) (pl:IsPart vl lo) (pu:IsPart vu hi)
  (hw:¬ (aU items.size 0 lo=0∧aU items.size items.size hi=items.size))
  (h:Q (.ref s.heap.objs.size) { s with heap:=s.heap.push { cls:=.type "tuple",data:=.seq ((items.toList.drop (aU items.size 0 lo)).take (aU items.size items.size hi-aU items.size 0 lo)).toArray } })
  (hsz:items.size≤sizeLine):wpAny (model prog w) A (getItem (.ref t) (.ref sl)) Q E s:=by
 have uH:sizeOk (.seq ((items.toList.drop (aU items.size 0 lo)).take (aU items.size items.size hi-aU items.size 0 lo)).toArray):=by
  show ((items.toList.drop (aU items.size 0 lo)).take (aU items.size items.size hi-aU items.size 0 lo)).toArray.size≤sizeLine
  rw [List.size_toArray,List.length_take,List.length_drop,Array.length_toList]
  omega
 have hj:aU items.size items.size hi≤items.size:=RW _ _ (Nat.le_refl _) hi
 obtain ⟨os,my,gY,iI⟩:=id hs
 have z4:s.TypeIs (.ref sl) "slice" := ⟨os,my,gY⟩
 unfold getItem
 try with_reducible refine wpAny_holding ?_
 first|refine wpAny_bind (wpAny_pure ?_)|skip
 refine wpAny_bind (wpAny_sequenceKey ht.typeIs (by decide) ?_)
 refine wpAny_bind (wpAny_callSpecial?_slot (name:=Str.ofString "__getitem__") ht.typeIs PyProof.Rows.slot_tuple_getitem
  (wpAny_call_entry PyProof.Rows.slot_tuple_getitem ht.typeIs entry_tuple_getitem ?_ (args_tuple_getitem _ _)))
 show wpAny _ _ (Builtin.Tuple.tupleItemsOf (.ref t) >>= _) _ _ s
 refine wpAny_bind (tupleItemsOf_ ht ?_)
 refine wpAny_bind (wpAny_typeOf z4 ?_)
 rw [if_pos (by decide)]
 refine wpAny_bind (Bm hs pl pu ?_)
 have z5:¬ ((((aU items.size 0 lo:Nat):Int)==0&&(1:Int)==1&&(aU items.size items.size hi-aU items.size 0 lo)==items.size)=true):=by
  intro q
  rw [Bool.and_eq_true,Bool.and_eq_true] at q
  have q1:((aU items.size 0 lo:Nat):Int)=0:=eq_of_beq q.1.1
  have q2:aU items.size items.size hi-aU items.size 0 lo=items.size:=eq_of_beq q.2
  exact hw ⟨by omega,by omega⟩
 show wpAny _ _ (if (((aU items.size 0 lo:Nat):Int)==0&&(1:Int)==1&&(aU items.size items.size hi-aU items.size 0 lo)==items.size)=true then _ else _) _ _ s
 rw [if_neg z5,Ni]
 first
  |exact wpAny_bind (m:=Builtin.Tuple.tupleExact _) (wpAny_newObj_type (wpAny_pure ⟨_,rfl,wpAny_pure h⟩) uH)
  |exact wpAny_bind (m:=Builtin.Tuple.tupleExact _) (wpAny_newObj_type (wpAny_bind (wpAny_pure (wpAny_pure ⟨_,rfl,wpAny_pure h⟩))) uH)
  |exact wpAny_bind (wpAny_bind (m:=Builtin.Tuple.tupleExact _) (wpAny_newObj_type (wpAny_pure (wpAny_pure ⟨_,rfl,wpAny_pure h⟩)) uH))
  |exact wpAny_bind (wpAny_bind (m:=Builtin.Tuple.tupleExact _) (wpAny_newObj_type (wpAny_pure ⟨_,rfl,wpAny_pure h⟩) uH))
end
end HT
namespace L2
open PySem PySem.Spec PyProof.Rows
noncomputable abbrev TO:=St→Hp→(Option Int→Hp→Prop)→Prop
def PO (X:Cx) (e:Option Expr) (t:TO):Prop :=
 ∀ (pins:List (Addr×Obj)) (s:Shared) (σ:St) (H:Hp) (Q:Option Int→Hp→Prop),Inv X pins σ H s→t σ H Q →
  wpAny (model X.prog X.w) X.A (evalPart e X.env) (fun u s'=>∃ o H',Inv X pins σ H' s'∧IsPart u o∧Q o H') X.xe s
noncomputable def DT:TO:=fun _ H Q=>Q none H
noncomputable def F0 (t:TE):TO:=fun σ H Q=>t σ H fun x H1=>∃ i,x=.int i∧Q (some i) H1
section
variable {X:Cx}{e:Expr}{te:TE}{lo hi:Option Expr}{tl th:TO}{pos p2:Pos}
theorem O7:PO X none DT:=by
 intro pins s σ H Q I h
 rw [evalPart_none]
 exact wpAny_pure ⟨none,H,I,.none,h⟩
theorem O8 (h:PE X e te):PO X (some e) (F0 te):=by
 intro pins s σ H Q I hw
 rw [evalPart_some]
 refine aF (h pins s σ H _ I hw) fun u s1 ⟨x,H1,I1,r1,q1⟩=>?_
 obtain ⟨i,rfl,q⟩:=q1
 obtain ⟨t,rfl⟩:=r1
 exact ⟨some i,H1,I1,.int i t,q⟩
def jY (X:Cx) (r:V→Option Int→Option Int→Hp→VK→Prop):Prop :=
 ∀ (pins:List (Addr×Obj)) (s:Shared) (σ:St) (H:Hp) (x:V) (v vl vu:Value) (lo hi:Option Int) (sl:Addr) (Q:VK),Inv X pins σ H s→RelV x v→s.heap.IsSliceOf sl vl vu .none→IsPart vl lo→IsPart vu hi→r x lo hi H Q →
  ∃ T id,typeLookup (.type T) "__getitem__" = pure (some (.builtin id))∧s.TypeIs v T∧wpAny (model X.prog X.w) X.A (getItem v (.ref sl)) (EP X pins σ Q) X.xe s
noncomputable def Il (r:V→Option Int→Option Int→Hp→VK→Prop) (te:TE) (tl th:TO):TE:=fun σ H Q=>te σ H fun x H1=>tl σ H1 fun l H2=>th σ H2 fun u H3=>r x l u H3 Q
theorem Nj {r:V→Option Int→Option Int→Hp→VK→Prop} (hr:jY X r) (he:PE X e te) (hl:PO X lo tl) (hu:PO X hi th):PE X (.Subscript e (.Slice lo hi none p2) pos) (Il r te tl th):=by
 intro pins s σ H Q I h
 refine Subscript_ (aF (he pins s σ H _ I h) fun v s1 ⟨x,H1,I1,r1,q1⟩=>?_)
 refine wpAny_Slice (aF (hl pins s1 σ H1 _ I1 q1) fun vl s2 ⟨l,H2,I2,pl,q2⟩=>aF (hu pins s2 σ H2 _ I2 q2) fun vu s3 ⟨u,H3,I3,pu,q3⟩=>?_)
 rw [evalPart_none]
 refine wpAny_pure ?_
 have I4:Inv X pins σ H3 { s3 with heap:=s3.heap.push { cls:=.type "slice",data:=.fields #[vl,vu,.none] } }:=I3.kept (t':=s3.toks) fun b ob q=>Heap.get?_push_of_some _ q
 obtain ⟨T,id,hT,ht,hg⟩:=hr pins { s3 with heap:=s3.heap.push { cls:=.type "slice",data:=.fields #[vl,vu,.none] } } σ H3 x v vl vu l u s3.heap.objs.size Q I4 r1 (Heap.IsSliceOf.new ..) pl pu q3
 show wpAny (model X.prog X.w) X.A (subscriptTail e (.Slice lo hi none p2) v (.ref s3.heap.objs.size)) (EP X pins σ Q) X.xe { s3 with heap:=s3.heap.push { cls:=.type "slice",data:=.fields #[vl,vu,.none] } }
 exact tail_any (ops:=[.ref s3.heap.objs.size,v]) ht hT hg (by with_unfolding_all rfl)
noncomputable def iz (xs:List V) (lo hi:Option Int):List V:=(xs.drop (HT.aU xs.length 0 lo)).take (HT.aU xs.length xs.length hi-HT.aU xs.length 0 lo)
theorem BO (xs:List V) (lo hi:Option Int):(iz xs lo hi).length≤xs.length:=by
 unfold iz
 rw [List.length_take,List.length_drop]
 omega
def WK (K:PySem.W.Frag):V→Option Int→Option Int→Hp→VK→Prop:=fun x lo hi H Q=>∃ a xs,x=.ref a∧bA K H a xs ∧
 ¬ (HT.aU xs.length 0 lo=0∧HT.aU xs.length xs.length hi=xs.length)∧∀ p,H p=none→Q (.ref p) (upd H p (.tup (iz xs lo hi)))
theorem RX:jY X (WK X.K):=by
 intro pins s σ H x v vl vu lo hi sl Q I rx hs pl pu h
 obtain ⟨a,xs,rfl,hx,hw,q⟩:=h
 cases rx
 obtain ⟨its,r,ht,hz⟩:=I.tuple hx
 have hlen:its.toArray.size=xs.length:=by rw [List.size_toArray];exact r.length.symm
 refine ⟨"tuple",_,PyProof.Rows.slot_tuple_getitem.lookup,ht.typeIs,?_⟩
 refine HT.K0 ht hs pl pu (by rw [hlen];exact hw) ?_ (by rw [hlen];exact hz)
 rw [hlen]
 refine ⟨.ref s.heap.objs.size,_,I.laid (t':=s.toks) (o:=.tup (iz xs lo hi)) (fun b ob q=>Heap.get?_push_of_some _ q) (Nat.le_refl _) ?_,rfl,q _ (I.aE.fresh (Nat.le_refl _))⟩
 exact ⟨Nat.le_trans (BO xs lo hi) hz,_,(r.drop (HT.aU xs.length 0 lo)).take (HT.aU xs.length xs.length hi-HT.aU xs.length 0 lo),IsTup.new _ _⟩
noncomputable def UU (K:PySem.W.Frag):R2:=fun x y H Q=>∃ a b xs ys,x=.ref a∧y=.ref b∧bA K H a xs∧bA K H b ys∧xs≠[]∧xs.length+ys.length≤sizeLine ∧
 (ys=[]→Q (.ref a) H)∧(ys≠[]→∀ p,H p=none→Q (.ref p) (upd H p (.tup (xs++ys))))
theorem Vals.xQ {xs:List V}{us:List Value} (r:Vals xs us):us=[]↔xs=[]:=by
 cases r with
 |nil=>simp
 |cons _ _=>simp
theorem O9:bx X (binaryOp .Add) (UU X.K):=by
 intro pins s σ H x y v u Q I rx ry h
 obtain ⟨a,b,xs,ys,rfl,rfl,ha,hb,hx,hz,q1,q2⟩:=h
 cases rx
 cases ry
 obtain ⟨its,r1,p1,_⟩:=I.tuple ha
 obtain ⟨qC,r2,p2,_⟩:=I.tuple hb
 refine HT.O6 p1 p2 (fun z=>hx (r1.xQ.mp z)) (fun z=>⟨.ref a,H,I,rfl,q1 (r2.xQ.mp z)⟩) (fun z=>?_) (by rw [←r1.length,←r2.length];exact hz)
 refine ⟨.ref s.heap.objs.size,_,I.laid (t':=s.toks) (o:=.tup (xs++ys)) (fun b ob q=>Heap.get?_push_of_some _ q) (Nat.le_refl _) ?_,rfl,q2 (fun w=>z (r2.xQ.mpr w)) _ (I.aE.fresh (Nat.le_refl _))⟩
 exact ⟨by rw [List.length_append];exact hz,_,r1.append r2,IsTup.new _ _⟩
end
noncomputable def cT (n:Nat) (i:Int):Option Nat:=if 0≤i then (if i < n then some i.toNat else none) else if -(n:Int)≤i then some (i+n).toNat else none
noncomputable def bt {α:Type} (xs:List α) (i:Int):Option α:=(cT xs.length i).bind fun j=>xs[j]?
theorem DU {n:Nat}{i:Int}{j:Nat} (h:cT n i=some j):seqIndex? i n=some j∧j < n∧-(n:Int)≤i∧i < n:=by
 unfold cT at h
 by_cases h0:0≤i
 ·rw [if_pos h0] at h
  by_cases h1:i < n
  ·rw [if_pos h1] at h
   have e:i.toNat=j:=Option.some.inj h
   exact ⟨by rw [seqIndex_of h0 h1,e],by omega,by omega,h1⟩
  ·rw [if_neg h1] at h;cases h
 ·rw [if_neg h0] at h
  by_cases h1:-(n:Int)≤i
  ·rw [if_pos h1] at h
   have e:(i+n).toNat=j:=Option.some.inj h
   exact ⟨by rw [seqIndex_neg (by omega) h1,e],by omega,h1,by omega⟩
  ·rw [if_neg h1] at h;cases h
theorem gF {α:Type}{xs:List α}{i:Int}{v:α} (h:bt xs i=some v):∃ j,seqIndex? i xs.length=some j∧xs[j]?=some v∧j < xs.length∧-(xs.length:Int)≤i∧i < xs.length:=by
 unfold bt at h
 cases e:cT xs.length i with
 |none=>rw [e] at h;cases h
 |some j =>
  rw [e] at h
  obtain ⟨h1,h2,h3,h4⟩:=DU e
  exact ⟨j,h1,h,h2,h3,h4⟩
theorem lE {α:Type}{xs:List α}{j:Nat}{v:α} (h:xs[j]?=some v):bt xs (j:Int)=some v:=by
 have hj:j < xs.length:=(List.getElem?_eq_some_iff.mp h).1
 have e:cT xs.length (j:Int)=some j:=by
  unfold cT
  rw [if_pos (by omega),if_pos (by omega)];simp
 unfold bt;rw [e];exact h
def DV (b:Expr):Prop:=∀ o i,subscripted b false o i=operate [o,i] (getItem o i)
def jj (X:Cx) (r:R2):Prop :=
 ∀ (value slice:Expr) (pins:List (Addr×Obj)) (s:Shared) (σ:St) (H:Hp) (x y:V) (v u:Value) (Q:VK),Inv X pins σ H s→RelV x v→RelV y u→r x y H Q →
  subscripted slice false v u=operate [v,u] (getItem v u)→wpAny (model X.prog X.w) X.A (subscriptTail value slice v u) (EP X pins σ Q) X.xe s
def vD (X:Cx) (id:String) (r:V→List V→Hp→VK→Prop):Prop :=
 ∀ (pins:List (Addr×Obj)) (s:Shared) (σ:St) (H:Hp) (x:V) (xs:List V) (v:Value) (us:List Value) (Q:VK),Inv X pins σ H s→RelV x v→Vals xs us→r x xs H Q →
  wpAny (model X.prog X.w) X.A (call (.builtin id) (v::us)) (EP X pins σ Q) X.xe s
section
variable {X:Cx}{a b:Expr}{ta tb:TE}{pos:Pos}
theorem jj.or {r r':R2} (h:jj X r) (h':jj X r'):jj X (fun x y H Q=>r x y H Q∨r' x y H Q):=by
 intro value slice pins s σ H x y v u Q I rx ry q hs
 rcases q with q|q
 ·exact h value slice pins s σ H x y v u Q I rx ry q hs
 ·exact h' value slice pins s σ H x y v u Q I rx ry q hs
theorem F1 {r:R2} (hr:jj X r) (ha:PE X a ta) (hb:PE X b tb) (hs:DV b):PE X (.Subscript a b pos) (oD r ta tb):=by
 intro pins s σ H Q I h
 exact Subscript_ (y9 ha hb I h fun v u s2 x y H2 I2 rx ry q=>hr a b pins s2 σ H2 x y v u Q I2 rx ry q (hs _ _))
noncomputable def GO (K:PySem.W.Frag):R2:=fun x y H Q=>∃ p xs i v,x=.ref p∧y=.int i∧bL K H p xs∧bt xs i=some v∧Q v H
noncomputable def GP (K:PySem.W.Frag):R2:=fun x y H Q=>∃ p xs i v,x=.ref p∧y=.int i∧bA K H p xs∧bt xs i=some v∧Q v H
noncomputable def GQ:R2:=fun x y H Q=>∃ z i c,x=.str z∧y=.int i∧z.length≤sizeLine∧bt z.cps.toList i=some c∧Q (.str ⟨#[c]⟩) H
theorem Pa:jj X (GO X.K):=by
 intro value slice pins s σ H x y v u Q I rx ry h hs
 obtain ⟨p,xs,i,z,rfl,rfl,hq,he,q⟩:=h
 cases rx
 obtain ⟨t,rfl⟩:=ry
 obtain ⟨its,r,pl,hz⟩:=I.list hq
 obtain ⟨j,h1,h2,h3,h4,h5⟩:=gF he
 obtain ⟨w,ew,iJ⟩:=r.get h2
 have hl:=r.length
 have hn:=ny
 have fin:EP X pins σ Q w s:=⟨z,H,I,iJ,q⟩
 by_cases h0:0≤i
 ·have hj:i.toNat=j:=by
   rw [seqIndex_of h0 h5] at h1
   exact Option.some.inj h1
  exact item_listR pl.isList h0 (by omega) (by rw [hj];simpa using ew) fin hs
 ·have hj:(i+(its.toArray.size:Int)).toNat=j:=by
   rw [seqIndex_neg (by omega) h4] at h1
   rw [List.size_toArray,←hl]
   exact Option.some.inj h1
  exact subscriptTail_builtinR (x:=w) pl.isList.typeIs slot_list_getitem.lookup
   (wpAny_getItem_list_neg (Q:=fun r s'=>r=w∧EP X pins σ Q r s') pl.isList (by omega) (by rw [List.size_toArray]<;>omega) (by omega) (by rw [hj];simpa using ew) ⟨rfl,fin⟩) hs
theorem RZ:jj X (GP X.K):=by
 intro value slice pins s σ H x y v u Q I rx ry h hs
 obtain ⟨p,xs,i,z,rfl,rfl,hq,he,q⟩:=h
 cases rx
 obtain ⟨t,rfl⟩:=ry
 obtain ⟨its,r,pl,hz⟩:=I.tuple hq
 obtain ⟨j,h1,h2,h3,h4,h5⟩:=gF he
 obtain ⟨w,ew,iJ⟩:=r.get h2
 have hl:=r.length
 have hn:=ny
 have fin:EP X pins σ Q w s:=⟨z,H,I,iJ,q⟩
 exact subscriptTail_builtinR (x:=w) pl.typeIs slot_tuple_getitem.lookup
  (getItem_tuple (j:=j) (Q:=fun r s'=>r=w∧EP X pins σ Q r s') pl (by omega) (by omega) (by rw [List.size_toArray,←hl];exact h1) (by simpa using ew) ⟨rfl,fin⟩) hs
theorem R0:jj X GQ:=by
 intro value slice pins s σ H x y v u Q I rx ry h hs
 obtain ⟨z,i,c,rfl,rfl,hz,he,q⟩:=h
 obtain ⟨t,rfl⟩:=rx
 obtain ⟨t',rfl⟩:=ry
 obtain ⟨j,h1,h2,h3,h4,h5⟩:=gF he
 have hl:z.cps.toList.length=z.length:=by simp [Str.length]
 rw [hl] at h1 h4 h5
 have hn:=ny
 exact tail_any (typeIs_str s z t) slot_str_getitem.lookup (getItem_str (c:=c) (by
  have e1:decide (i < -(2 ^ 63:Int))=false:=decide_eq_false (by omega)
  have e2:decide (i≥2 ^ 63)=false:=decide_eq_false (by omega)
  rw [e1,e2,Bool.or_false]) (by rw [h1];simpa using h2) ⟨.str ⟨#[c]⟩,H,I.tok _,⟨_,rfl⟩,q⟩) hs
noncomputable def vE (K:PySem.W.Frag):R2:=fun x y H Q=>GO K x y H Q∨GP K x y H Q∨GQ x y H Q
theorem R6:jj X (vE X.K):=Pa.or (RZ.or R0)
theorem LN (its:List Value) (n j:Nat) (u:Value):Obj.mapSeq (·.setIfInBounds j u) { cls:=.type "list",data:=.seq its.toArray n }={ cls:=.type "list",data:=.seq (its.set j u).toArray n }:=by
 simp [Obj.mapSeq]
theorem Inv.lst {pins:List (Addr×Obj)}{σ:St}{H:Hp}{s:Shared}{p:Addr}{xs:List V} (I:Inv X pins σ H s) (h:H p=some (.lst xs)) :
  ∃ (its:List Value) (n:Nat),Vals xs its∧s.heap.get? p=some { cls:=.type "list",data:=.seq its.toArray n }∧xs.length≤sizeLine:=by
 obtain ⟨z,its,n,r,e⟩:=I.aE p _ h
 exact ⟨its,n,r,e,z⟩
theorem Inv.R7 {pins:List (Addr×Obj)}{σ:St}{H:Hp}{s:Shared}{p:Addr}{xs ys:List V}{its its':List Value}{n n':Nat}{f:Obj→Obj} (I:Inv X pins σ H s) (h:H p=some (.lst xs))
  (ho:s.heap.get? p=some { cls:=.type "list",data:=.seq its.toArray n }) (hf:f { cls:=.type "list",data:=.seq its.toArray n }={ cls:=.type "list",data:=.seq its'.toArray n' }) (r:Vals ys its') (hz:ys.length≤sizeLine) (t:Nat) :
  Inv X pins σ (upd H p (.lst ys)) { s with heap:=s.heap.update p f,toks:=t }:=by
 have e:(s.heap.update p f).get? p=some { cls:=.type "list",data:=.seq its'.toArray n' }:=by
  rw [Heap.get?_update_self f ho (by rw [hf]<;>rfl),hf]
 refine I.write (x:=p) (e:=p) (by rw [h];trivial) (.inl rfl) (fun b u hb q=>(Heap.get?_update_other _ _ (Ne.symm hb)).trans q) ⟨_,e⟩ ?_
 exact ⟨hz,its',n',r,e⟩
def F2:V→V→V→Hp→(Hp→Prop)→Prop:=fun o i v H Q=>∃ p xs k j,o=.ref p∧i=.int k∧H p=some (.lst xs)∧cT xs.length k=some j∧Q (upd H p (.lst (xs.set j v)))
theorem set_list:GH X F2:=by
 intro pins s σ H o i v ov iv u Q I ro ri rv h
 obtain ⟨p,xs,k,j,rfl,rfl,hp,hj,q⟩:=h
 cases ro
 obtain ⟨t,rfl⟩:=ri
 obtain ⟨its,n,r,ho,hz⟩:=I.lst hp
 obtain ⟨h1,h2,h3,h4⟩:=DU hj
 have hl:=r.length
 have hn:=ny
 have I':Inv X pins σ (upd H p (.lst (xs.set j v))) { s with heap:=s.heap.update p (Obj.mapSeq (·.setIfInBounds j u)) } :=
  I.R7 hp ho (LN its n j u) (r.set rv j) (by rw [List.length_set];exact hz) s.toks
 by_cases h0:0≤k
 ·have hk:k.toNat=j:=by
   rw [seqIndex_of h0 h4] at h1
   exact Option.some.inj h1
  exact PySem.W.ki_setAt ho h0 (by omega) (by rw [List.size_toArray,←hl];exact h4) (by rw [hk];exact ⟨_,I',q⟩)
 ·have hk:(k+(its.toArray.size:Int)).toNat=j:=by
   rw [seqIndex_neg (by omega) h3] at h1
   rw [List.size_toArray,←hl]
   exact Option.some.inj h1
  exact PySem.W.ki_setBack ho (by omega) (by rw [List.size_toArray,←hl];exact h3) (by omega) (by rw [hk];exact ⟨_,I',q⟩)
theorem K7 (lo hi:Option Int) (n:Nat):(sliceBounds lo hi none n).1=((HT.aU n 0 lo:Nat):Int)∧(sliceBounds lo hi none n).2.1=((HT.aU n n hi:Nat):Int)∧(sliceBounds lo hi none n).2.2=1:=by
 refine ⟨?_,?_,rfl⟩
 ·cases lo with
  |none=>simp [sliceBounds,HT.aU]
  |some i =>
   simp only [sliceBounds,HT.aU,Option.getD_none,show (1:Int) > 0 by decide,if_true]
   by_cases h:i < 0
   ·simp only [h,if_true]<;>omega
   ·simp only [h,if_false]<;>omega
 ·cases hi with
  |none=>simp [sliceBounds,HT.aU]
  |some i =>
   simp only [sliceBounds,HT.aU,Option.getD_none,show (1:Int) > 0 by decide,if_true]
   by_cases h:i < 0
   ·simp only [h,if_true]<;>omega
   ·simp only [h,if_false]<;>omega
theorem K4 (its:List Value) (lo hi:Option Int):slicePick its.toArray lo hi none=((its.drop (HT.aU its.length 0 lo)).take (HT.aU its.length its.length hi-HT.aU its.length 0 lo)).toArray:=by
 obtain ⟨h1,h2,h3⟩:=K7 lo hi its.toArray.size
 unfold slicePick
 rw [h1,h2,h3]
 simp only [sliceRange_one,pick_run,List.size_toArray]<;>rfl
def zf (K:PySem.W.Frag):V→Option Int→Option Int→Hp→VK→Prop:=fun x lo hi H Q=>∃ a xs,x=.ref a∧bL K H a xs∧∀ p,H p=none→Q (.ref p) (upd H p (.lst (iz xs lo hi)))
theorem Pb:jY X (zf X.K):=by
 intro pins s σ H x v vl vu lo hi sl Q I rx hs pl pu h
 obtain ⟨a,xs,rfl,hx,q⟩:=h
 cases rx
 obtain ⟨its,r,ht,hz⟩:=I.list hx
 have hlen:=r.length
 refine ⟨"list",_,slot_list_getitem.lookup,ht.isList.typeIs,?_⟩
 refine wpAny_getItem_list_slice ht.isList hs pl pu .none (by simp) ?_ (by rw [List.size_toArray]<;>omega)
 rw [K4,←hlen]
 refine ⟨.ref s.heap.objs.size,_,I.laid (t':=s.toks) (o:=.lst (iz xs lo hi)) (fun b ob q=>Heap.get?_push_of_some _ q) (Nat.le_refl _) ?_,rfl,q _ (I.aE.fresh (Nat.le_refl _))⟩
 exact ⟨Nat.le_trans (BO xs lo hi) hz,_,0,(r.drop (HT.aU xs.length 0 lo)).take (HT.aU xs.length xs.length hi-HT.aU xs.length 0 lo),Heap.get?_push_size _ rfl⟩
noncomputable def iU:V→Bool
 |.non=>true
 |.bl _=>true
 |.int _=>true
 |.str _=>true
 |_=>false
noncomputable def jZ:V→V→Bool
 |.non,.non=>true
 |.bl a,.bl b=>a==b
 |.bl a,.int b=>(if a then 1 else 0)==b
 |.int a,.bl b=>a==(if b then 1 else 0)
 |.int a,.int b=>a==b
 |.str a,.str b=>a==b
 |_,_=>false
theorem R8 {A:Around}{s:Shared}{y x:V}{u v:Value} (ry:RelV y u) (rx:RelV x v) (fy:iU y=true) (fx:iU x=true):SeqAt.EqAt A s u v (jZ y x):=by
 cases y with
 |non =>
  cases ry
  cases x with
  |non=>cases rx;exact SeqAt.EqAt.same _
  |bl b=>cases rx;exact SeqAt.EqAt.none_bool b
  |int b=>obtain ⟨t,rfl⟩:=rx;exact SeqAt.EqAt.none_int b t
  |str b=>obtain ⟨t,rfl⟩:=rx;exact SeqAt.EqAt.none_str b t
  |_=>exact absurd (show false=true from fx) Bool.false_ne_true
 |bl a =>
  cases ry
  cases x with
  |non=>cases rx;exact SeqAt.EqAt.bool_none a
  |bl b=>cases rx;exact SeqAt.EqAt.bool_bool a b
  |int b=>obtain ⟨t,rfl⟩:=rx;exact SeqAt.EqAt.bool_int a b t
  |str b=>obtain ⟨t,rfl⟩:=rx;exact SeqAt.EqAt.bool_str a b t
  |_=>exact absurd (show false=true from fx) Bool.false_ne_true
 |int a =>
  obtain ⟨t',rfl⟩:=ry
  cases x with
  |non=>cases rx;exact SeqAt.EqAt.int_none a t'
  |bl b=>cases rx;exact SeqAt.EqAt.int_bool a t' b
  |int b=>obtain ⟨t,rfl⟩:=rx;exact SeqAt.EqAt.int_int a t' b t
  |str b=>obtain ⟨t,rfl⟩:=rx;exact SeqAt.EqAt.int_str a t' b t
  |_=>exact absurd (show false=true from fx) Bool.false_ne_true
 |str a =>
  obtain ⟨t',rfl⟩:=ry
  cases x with
  |non=>cases rx;exact SeqAt.EqAt.str_none a t'
  |bl b=>cases rx;exact SeqAt.EqAt.str_bool a t' b
  |int b=>obtain ⟨t,rfl⟩:=rx;exact SeqAt.EqAt.str_int a t' b t
  |str b=>obtain ⟨t,rfl⟩:=rx;exact SeqAt.EqAt.str_str a t' b t
  |_=>exact absurd (show false=true from fx) Bool.false_ne_true
 |_=>exact absurd (show false=true from fy) Bool.false_ne_true
noncomputable def fG (x:V) (u:Value):Bool:=match u with
 |.none=>jZ .non x
 |.bool b=>jZ (.bl b) x
 |.int i _=>jZ (.int i) x
 |.str z _=>jZ (.str z) x
 |_=>false
theorem EK {x y:V}{u:Value} (r:RelV y u) (f:iU y=true):fG x u=jZ y x:=by
 cases y with
 |non=>cases r;rfl
 |bl b=>cases r;rfl
 |int i=>obtain ⟨t,rfl⟩:=r;rfl
 |str z=>obtain ⟨t,rfl⟩:=r;rfl
 |_=>exact absurd (show false=true from f) Bool.false_ne_true
theorem p6 {x:V}:∀ {xs:List V}{us:List Value},Vals xs us→xs.all iU=true→us.any (fG x)=xs.any fun y=>jZ y x
 |_,_,.nil,_=>rfl
 |y::xs,u::us,.cons r t,f=>by
  rw [List.all_cons,Bool.and_eq_true] at f
  rw [List.any_cons,List.any_cons,EK r f.1,p6 t f.2]
theorem pX {A:Around}{s:Shared}{x:V}{v:Value} (rx:RelV x v) (fx:iU x=true):∀ {xs:List V}{us:List Value},Vals xs us→xs.all iU=true→∀ u∈us,SeqAt.EqAt A s u v (fG x u)
 |_,_,.nil,_=>fun u hu=>by cases hu
 |y::xs,u::us,.cons r t,f=>fun u' hu=>by
  rw [List.all_cons,Bool.and_eq_true] at f
  rcases List.mem_cons.mp hu with rfl|hu
  ·rw [EK r f.1];exact R8 r rx f.1 fx
  ·exact pX rx fx t f.2 u' hu
noncomputable def dH (x:V) (xs:List V):Bool:=xs.any fun y=>jZ y x
noncomputable def rh (K:PySem.W.Frag) (neg:Bool):R2:=fun x y H Q=>∃ p xs,y=.ref p∧(bL K H p xs∨bA K H p xs)∧iU x=true∧xs.all iU=true∧Q (.bl (if neg then !dH x xs else dH x xs)) H
theorem Mm:bx X (compareOp .In) (rh X.K false):=by
 intro pins s σ H x y v u Q I rx ry h
 obtain ⟨p,xs,rfl,hq,fx,fs,q⟩:=h
 cases ry
 rcases hq with hq|hq
 ·obtain ⟨its,r,pl,hz⟩:=I.list hq
  refine SeqAt.in_listAt (fG x) pl.isList (fun w hw=>pX rx fx r fs w (by simpa using hw)) ⟨.bl _,H,I,rfl,?_⟩
  rw [show its.toArray.any (fG x)=its.any (fG x) by simp,p6 r fs]
  exact q
 ·obtain ⟨its,r,pl,hz⟩:=I.tuple hq
  refine SeqAt.in_tupleAt (fG x) pl (fun w hw=>pX rx fx r fs w (by simpa using hw)) ⟨.bl _,H,I,rfl,?_⟩
  rw [show its.toArray.any (fG x)=its.any (fG x) by simp,p6 r fs]
  exact q
theorem K8:bx X (compareOp .NotIn) (rh X.K true):=by
 intro pins s σ H x y v u Q I rx ry h
 obtain ⟨p,xs,rfl,hq,fx,fs,q⟩:=h
 cases ry
 rcases hq with hq|hq
 ·obtain ⟨its,r,pl,hz⟩:=I.list hq
  refine SeqAt.notIn_listAt (fG x) pl.isList (fun w hw=>pX rx fx r fs w (by simpa using hw)) ⟨.bl _,H,I,rfl,?_⟩
  rw [show its.toArray.any (fG x)=its.any (fG x) by simp,p6 r fs]
  exact q
 ·obtain ⟨its,r,pl,hz⟩:=I.tuple hq
  refine SeqAt.notIn_tupleAt (fG x) pl (fun w hw=>pX rx fx r fs w (by simpa using hw)) ⟨.bl _,H,I,rfl,?_⟩
  rw [show its.toArray.any (fG x)=its.any (fG x) by simp,p6 r fs]
  exact q
theorem K9:gJ X (.type "list") (fun xs H Q=>∃ p ys,xs=[.ref p]∧(bL X.K H p ys∨bA X.K H p ys)∧∀ l,H l=none→Q (.ref l) (upd H l (.lst ys))):=by
 intro pins s σ H xs us Q I r h
 obtain ⟨p,ys,rfl,hq,q⟩:=h
 obtain ⟨u,rfl,rx⟩:=vals1 r
 cases rx
 have fin:∀ (its:List Value),Vals ys its→ys.length≤sizeLine→∀ (h':Heap) (c':Nat),(∀ b o',s.heap.get? b=some o'→h'.get? b=some o') →
   h'.get? s.heap.objs.size=some { cls:=.type "list",dict:=none,data:=.seq its.toArray c',slots:=#[] }→EP X pins σ Q (.ref s.heap.objs.size) { s with heap:=h' }:=fun its r' hz h' c' kp e =>
  ⟨.ref s.heap.objs.size,_,I.laid (t':=s.toks) kp (Nat.le_refl _) (show b9 X.prog X.w _ h' _ (.lst ys) from ⟨hz,its,c',r',e⟩),rfl,q _ (I.aE.fresh (Nat.le_refl _))⟩
 rcases hq with hq|hq
 ·obtain ⟨its,r',pl,hz⟩:=I.list hq
  have hlen:=r'.length
  obtain ⟨o,ho,hc,n,hd⟩:=pl.isList
  exact call_list_seq p (.inl rfl) ho hc hd (fun h' c' kp e=>fin its r' hz h' c' kp e) (by simp only [List.size_toArray]<;>omega)
 ·obtain ⟨its,r',pl,hz⟩:=I.tuple hq
  have hlen:=r'.length
  obtain ⟨o,ho,hc,n,hd⟩:=pl
  exact call_list_seq p (.inr rfl) ho hc hd (fun h' c' kp e=>fin its r' hz h' c' kp e) (by simp only [List.size_toArray]<;>omega)
def z6 (K:PySem.W.Frag) (T:String) (x:V) (H:Hp):Prop:=match x with
 |.str _=>T = "str"
 |.int _=>T = "int"
 |.ref p=>(T = "list" ∧ ∃ xs,bL K H p xs)∨(T = "tuple" ∧ ∃ o,K.lookup p=some o∧o.cls=.type "tuple" ∧ o.dict=none) ∨
  (T = "dict" ∧ ((∃ ai,H p=some (.dK ai))∨∃ ai,H p=some (.dT ai)))∨(T = "set" ∧ ∃ S n,H p=some (.set S n))
 |_=>False
theorem EL {pins:List (Addr×Obj)}{σ:St}{H:Hp}{s:Shared}{T:String}{x:V}{v:Value} (I:Inv X pins σ H s) (r:RelV x v) (ty:z6 X.K T x H) :
  s.TypeIs v T∧∀ a,v=.ref a→∃ ob,s.heap.get? a=some ob∧ob.dict=none:=by
 cases x with
 |str z =>
  obtain ⟨t,rfl⟩:=r
  cases (show T = "str" from ty)
  exact ⟨typeIs_str s z t,fun _ e=>nomatch e⟩
 |int i =>
  obtain ⟨t,rfl⟩:=r
  cases (show T = "int" from ty)
  exact ⟨typeIs_int s i t,fun _ e=>nomatch e⟩
 |ref p =>
  cases r
  rcases ty with ⟨rfl,xs,hq⟩|⟨rfl,o,hk,hc,hd⟩|⟨rfl,hk⟩|⟨rfl,S,n,hk⟩
  ·obtain ⟨its,_,pl,_⟩:=I.list hq
   refine ⟨pl.isList.typeIs,fun a e=>?_⟩
   cases e
   obtain ⟨o,n,e,c,hd,_⟩:=pl
   exact ⟨o,e,hd⟩
  ·refine ⟨⟨o,I.fV p o hk,hc⟩,fun a e=>?_⟩
   cases e
   exact ⟨o,I.fV _ o hk,hd⟩
  ·have z:∃ o,s.heap.get? p=some o∧o.ExactDict:=by
    rcases hk with ⟨ai,hk⟩|⟨ai,hk⟩
    ·obtain ⟨_,_,_,_,o,_,_,e,ex,_⟩:=I.aE p _ hk
     exact ⟨o,e,ex⟩
    ·obtain ⟨_,_,_,_,o,_,_,e,ex,_⟩:=I.aE p _ hk
     exact ⟨o,e,ex⟩
   obtain ⟨o,e,ex⟩:=z
   refine ⟨⟨o,e,ex.1⟩,fun a e2=>?_⟩
   cases e2
   exact ⟨o,e,ex.2.1⟩
  ·obtain ⟨o,_,_,_,e,ex,_⟩:=I.aE p _ hk
   refine ⟨⟨o,e,ex.1⟩,fun a e2=>?_⟩
   cases e2
   exact ⟨o,e,ex.2.1⟩
 |_=>exact False.elim ty
noncomputable def qD (K:PySem.W.Frag) (T:String) (r:V→List V→Hp→VK→Prop) (to:TE):TE:=fun σ H Q=>to σ H fun x H1=>z6 K T x H1∧r x [] H1 Q
noncomputable def vF (K:PySem.W.Frag) (T:String) (r:V→List V→Hp→VK→Prop) (to:TE) (t:TA):TE:=fun σ H Q=>to σ H fun x H1=>z6 K T x H1∧t σ H1 fun xs H2=>r x xs H2 Q
variable {o e:Expr}{es:List Expr}{to:TE}{t:TA}{name:Str}{apos cq:Pos}{T id:String}{r:V→List V→Hp→VK→Prop}
theorem ER (pa:PlainAttrs T) (slot:Slot T name id) (fY:typeOf (.builtin id)=pure (.type "method_descriptor")) (hm:vD X id r) (ho:PE X o to)
  (qt:attributeBase o name X.env (eval o X.env)=eval o X.env:=by rfl) (hline:(apos.endLine==cq.line)=true:=by rfl):PE X (.Call (.Attribute o name apos) [] [] cq) (qD X.K T r to):=by
 intro pins s σ H Q I h
 refine wpAny_Call_method0_late qt hline (aF (ho pins s σ H _ I h) fun v s1 ⟨x,H1,I1,r1,ty,q1⟩=>?_)
 obtain ⟨h1,h2⟩:=EL I1 r1 ty
 exact ⟨T,id,pa,slot,fY,h1,h2,Calls.callWith_builtin rfl (PySem.evalArgs_none (hm pins s1 σ H1 x [] v [] Q I1 r1 .nil q1))⟩
theorem UW (pa:PlainAttrs T) (slot:Slot T name id) (fY:typeOf (.builtin id)=pure (.type "method_descriptor")) (hm:vD X id r) (ho:PE X o to) (ha:PA X (e::es) t)
  (qt:attributeBase o name X.env (eval o X.env)=eval o X.env:=by rfl)
  (WL:((backTo cq (starEach (e::es) X.env)).all (fun x=>!x.1)&&(backToKw cq (keywordEach [] X.env)).all (fun x=>x.1.isSome)
   && decide ((e::es).length+([]:List Keyword).length+(if ([]:List Keyword).isEmpty then 0 else 1) < 30))=true:=by rfl)
  (hline:(apos.endLine==cq.line)=true:=by rfl) (hs:starEach (e::es) X.env=(false,eval e X.env)::starEach es X.env:=by rfl) (R9:(backTo cq (starEach es X.env)).any (·.1)=false:=by rfl) :
  PE X (.Call (.Attribute o name apos) (e::es) [] cq) (vF X.K T r to t):=by
 intro pins s σ H Q I h
 refine wpAny_Call_method_late qt WL hline rfl (aF (ho pins s σ H _ I h) fun v s1 ⟨x,H1,I1,r1,ty,q1⟩=>?_)
 obtain ⟨h1,h2⟩:=EL I1 r1 ty
 refine ⟨T,id,pa,slot,fY,h1,h2,?_⟩
 have hA:=ha cq pins s1 σ H1 _ I1 q1
 rw [hs] at hA ⊢
 refine Calls.callWith_builtin (by show (false||(backTo cq (starEach es X.env)).any (·.1))=false;rw [R9]<;>rfl) (Calls.evalArgs_plain ?_)
 exact aF hA fun us s2 ⟨vs,H2,I2,r2,q2⟩=>hm pins s2 σ H2 x vs v us Q I2 r1 r2 q2
end
def z7 (X:Cx) (id:String) (r:V→List V→Hp→VK→Prop):Prop :=
 ∀ (pins:List (Addr×Obj)) (s:Shared) (σ:St) (H:Hp) (x:V) (xs:List V) (v:Value) (us:List Value) (Q:VK),Inv X pins σ H s→RelV x v→Vals xs us→r x xs H Q →
  wpAny (model X.prog X.w) X.A (call (.builtin id) (v::us)) (EP X pins σ Q) X.xe s
theorem Vals.zero {us:List Value} (h:Vals [] us):us=[]:=by cases h;rfl
theorem Vals.one {x:V}{us:List Value} (h:Vals [x] us):∃ u,us=[u]∧RelV x u:=by
 cases h with|cons r t=>cases t;exact ⟨_,rfl,r⟩
theorem Vals.dropLast {xs:List V}{us:List Value} (h:Vals xs us):Vals xs.dropLast us.dropLast:=by
 induction h with
 |nil=>exact .nil
 |cons r t ih =>
  cases t with
  |nil=>exact .nil
  |cons q t'=>exact .cons r ih
theorem Vals.reverse {xs:List V}{us:List Value} (h:Vals xs us):Vals xs.reverse us.reverse:=by
 induction h with
 |nil=>exact .nil
 |cons r t ih=>rw [List.reverse_cons,List.reverse_cons];exact Vals.append ih (.cons r .nil)
theorem Vals.rep {xs:List V}{us:List Value} (h:Vals xs us):∀ k:Nat,Vals (List.replicate k xs).flatten (List.replicate k us).flatten
 |0=>.nil
 |k+1=>by
  rw [List.replicate_succ,List.replicate_succ,List.flatten_cons,List.flatten_cons]
  exact Vals.append h (Vals.rep h k)
theorem LQ {α:Type} (l:List α):l.eraseIdx (l.length-1)=l.dropLast:=by
 induction l with
 |nil=>rfl
 |cons a r ih =>
  cases r with
  |nil=>rfl
  |cons b r =>
   have e:(a::b::r).length-1=((b::r).length-1)+1:=by
    have h1:(a::b::r).length=r.length+2:=rfl
    have h2:(b::r).length=r.length+1:=rfl
    omega
   rw [e,List.eraseIdx_cons_succ,ih]
   all_goals rfl
section
variable {X:Cx}{pins:List (Addr×Obj)}{σ:St}{H:Hp}{s:Shared}{l b:Addr}{xs ys zs:List V}
theorem Inv.zg {its its':List Value}{n:Nat}{f:Array Value→Array Value}{t':Nat} (I:Inv X pins σ H s) (hH:H l=some (.lst xs))
  (e:s.heap.get? l=some { cls:=.type "list",data:=.seq its.toArray n }) (hf:f its.toArray=its'.toArray) (hv:Vals ys its') (hz:ys.length≤sizeLine) :
  Inv X pins σ (upd H l (.lst ys)) { s with heap:=s.heap.update l (Obj.mapSeq f),toks:=t' }:=by
 have q:=PySem.IsL.update e f
 rw [hf] at q
 refine I.write (x:=l) (e:=l) (by rw [hH];exact trivial) (.inl rfl) (fun b' u hb hu=>(Heap.get?_update_other s.heap (Obj.mapSeq f) (Ne.symm hb)).trans hu) ⟨_,q⟩ ?_
 exact ⟨hz,its',_,hv,q⟩
theorem Inv.WM {its:List Value}{t':Nat} (I:Inv X pins σ H s) (hv:Vals ys its) (hz:ys.length≤sizeLine) :
  Inv X pins σ (upd H s.heap.objs.size (.lst ys)) { s with heap:=s.heap.push { cls:=.type "list",data:=.seq its.toArray },toks:=t' } :=
 I.laid (fun _ _ q=>Heap.get?_push_of_some _ q) (Nat.le_refl _) ⟨hz,its,0,hv,Heap.get?_push_size _ rfl⟩
theorem Inv.fresh (I:Inv X pins σ H s):H s.heap.objs.size=none:=I.aE.fresh (Nat.le_refl _)
theorem Inv.zh (I:Inv X pins σ H s) (hH:H l=some (.lst xs)):xs.length≤sizeLine∧∃ (its:List Value) (n:Nat),Vals xs its∧xs.length=its.length∧s.heap.get? l=some { cls:=.type "list",data:=.seq its.toArray n }:=by
 obtain ⟨z,its,n,r,e⟩:=I.aE l _ hH
 exact ⟨z,its,n,r,r.length,e⟩
end
section
variable {X:Cx}
def uc:V→List V→Hp→VK→Prop:=fun x vs H Q=>∃ l xs y,x=.ref l∧vs=[y]∧H l=some (.lst xs)∧xs.length < sizeLine∧Q .non (upd H l (.lst (xs++[y])))
theorem CB:z7 X "list.append" uc:=by
 intro pins s σ H x vs v us Q I rx rv h
 obtain ⟨l,xs,y,rfl,rfl,hH,hz,q⟩:=h
 cases rx
 obtain ⟨u,rfl,ru⟩:=rv.one
 obtain ⟨z,its,n,r,hl,e⟩:=I.zh hH
 refine call_meets F.slot_list_append ⟨_,e,rfl⟩ F.entry_list_append (F.args_list_append_2 _ _) (PySem.list_append l its.toArray n u (by rw [List.size_toArray];omega)) ⟨e,?_⟩
 refine ⟨.non,_,I.zg (its':=its++[u]) hH e (by simp) (r.append (.cons ru .nil)) ?_,rfl,q⟩
 rw [List.length_append,List.length_singleton]
 omega
def GR:V→List V→Hp→VK→Prop:=fun x vs H Q=>∃ l xs y,x=.ref l∧vs=[]∧H l=some (.lst xs)∧xs[xs.length-1]?=some y∧Q y (upd H l (.lst xs.dropLast))
theorem Sb:z7 X "list.pop" GR:=by
 intro pins s σ H x vs v us Q I rx rv h
 obtain ⟨l,xs,y,rfl,rfl,hH,hy,q⟩:=h
 cases rx
 have z8:=rv.zero
 subst z8
 obtain ⟨z,its,n,r,hl,e⟩:=I.zh hH
 obtain ⟨u,hu,ru⟩:=r.get hy
 have z9:its.toArray[its.toArray.size-1]?=some u:=by
  show its.toArray[its.length-1]?=some u
  rw [←Array.getElem?_toList,←hl]
  exact hu
 refine call_meets F.slot_list_pop ⟨_,e,rfl⟩ F.entry_list_pop (F.args_list_pop_1 _) (MeetsSeq.list_pop_last l its.toArray n u z9 (by rw [List.size_toArray];omega)) ⟨e,?_⟩
 refine ⟨y,_,I.zg (its':=its.dropLast) hH e ?_ r.dropLast ?_,ru,q⟩
 ·show its.toArray.eraseIdxIfInBounds (its.toArray.size-1)=its.dropLast.toArray
  rw [List.size_toArray,List.eraseIdxIfInBounds_toArray,LQ]
 ·rw [List.length_dropLast]
  omega
def EV:V→List V→Hp→VK→Prop:=fun x vs H Q=>∃ l xs,x=.ref l∧vs=[]∧H l=some (.lst xs)∧Q .non (upd H l (.lst []))
theorem Nk:z7 X "list.clear" EV:=by
 intro pins s σ H x vs v us Q I rx rv h
 obtain ⟨l,xs,rfl,rfl,hH,q⟩:=h
 cases rx
 have z8:=rv.zero
 subst z8
 obtain ⟨z,its,n,r,hl,e⟩:=I.zh hH
 refine call_meets F.slot_list_clear ⟨_,e,rfl⟩ F.entry_list_clear (F.args_list_clear_1 _) (AutoSeq1.list_clear_list_0 l its.toArray n (by rw [List.size_toArray];omega)) ⟨e,?_⟩
 exact ⟨.non,_,I.zg (its':=[]) (ys:=[]) hH e rfl .nil (Nat.zero_le _),rfl,q⟩
end
section
variable {prog:Program}{w:World}{A:Around}{E:Value→Shared→Prop}{s:Shared}
end
section
variable {X:Cx}
end
section
variable {κ:Type} [DecidableEq κ]
noncomputable def eD (ai:List (κ×V)) (k:κ):Option V:=(ai.find? fun kv=>decide (kv.1=k)).map (·.2)
noncomputable def putK (ai:List (κ×V)) (k:κ) (v:V):List (κ×V) :=
 if (ai.any fun kv=>decide (kv.1=k))=true then ai.map (fun kv=>if kv.1=k then (kv.1,v) else kv) else ai++[(k,v)]
noncomputable def Z3 (ai:List (κ×V)) (k:κ):List (κ×V):=ai.filter fun kv=>decide (kv.1≠k)
theorem tW {p:κ×V}{r:List (κ×V)}{k:κ} (e:p.1=k):eD (p::r) k=some p.2:=by simp [eD,List.find?_cons,e]
theorem tX {p:κ×V}{r:List (κ×V)}{k:κ} (e:¬ p.1=k):eD (p::r) k=eD r k:=by simp [eD,List.find?_cons,e]
theorem C5 (k:κ):∀ ai:List (κ×V),(ai.any fun kv=>decide (kv.1=k))=(eD ai k).isSome
 |[]=>rfl
 |p::r=>by
  rw [List.any_cons]
  by_cases e:p.1=k
  ·simp only [tW e,decide_eq_true e,Bool.true_or,Option.isSome_some]
  ·rw [tX e,decide_eq_false e,Bool.false_or];exact C5 k r
theorem xn (ai:List (κ×V)) (k:κ) (v:V):(putK ai k v).length≤ai.length+1:=by
 unfold putK
 split
 ·rw [List.length_map];omega
 ·rw [List.length_append,List.length_cons,List.length_nil];omega
theorem gP.pR {o:Option V}{u:Option Value} (r:gP o u):o.isSome=u.isSome:=by
 cases o with
 |none=>cases u with
  |none=>rfl
  |some _=>exact (show False from r).elim
 |some _=>cases u with
  |none=>exact (show False from r).elim
  |some _=>rfl
theorem gP.getD {o:Option V}{u:Option Value}{d:V}{d':Value} (r:gP o u) (rd:RelV d d'):RelV (o.getD d) (u.getD d'):=by
 cases o with
 |none=>cases u with
  |none=>exact rd
  |some _=>exact (show False from r).elim
 |some _=>cases u with
  |none=>exact (show False from r).elim
  |some _=>exact r
theorem KV.val {ai:List (κ×V)}{vs:List (κ×Value)} (r:KV ai vs) (k:κ):gP (eD ai k) (valueAt vs k):=by
 unfold KV at r
 induction r with
 |nil=>exact True.intro
 |@cons p q ps qs h t ih =>
  obtain ⟨h1,h2⟩:=h
  by_cases e:p.1=k
  ·have e':q.1=k:=h1.symm.trans e
   have b:valueAt (q::qs) k=some q.2:=by simp [valueAt,List.find?_cons,e']
   rw [tW e,b];exact h2
  ·have e':¬ q.1=k:=fun z=>e (h1.trans z)
   have b:valueAt (q::qs) k=valueAt qs k:=by simp [valueAt,List.find?_cons,e']
   rw [tX e,b];exact ih
theorem KV.any {ai:List (κ×V)}{vs:List (κ×Value)} (r:KV ai vs) (k:κ):(ai.any fun kv=>decide (kv.1=k))=vs.any fun kv=>decide (kv.1=k):=by
 unfold KV at r
 induction r with
 |nil=>rfl
 |cons h t ih=>rw [List.any_cons,List.any_cons,ih,h.1]
theorem KV.repl {ai:List (κ×V)}{vs:List (κ×Value)} (r:KV ai vs) (k:κ) {y:V}{u:Value} (ry:RelV y u) :
  KV (ai.map fun kv=>if kv.1=k then (kv.1,y) else kv) (vs.map fun kv=>if kv.1=k then (kv.1,u) else kv):=by
 unfold KV at r ⊢
 induction r with
 |nil=>exact .nil
 |@cons p q ps qs h t ih =>
  rw [List.map_cons,List.map_cons]
  refine .cons ?_ ih
  obtain ⟨h1,h2⟩:=h
  by_cases e:p.1=k
  ·rw [if_pos e,if_pos (h1.symm.trans e)];exact ⟨h1,ry⟩
  ·rw [if_neg e,if_neg (fun z=>e (h1.trans z))];exact ⟨h1,h2⟩
theorem KV.put {ai:List (κ×V)}{vs:List (κ×Value)} (r:KV ai vs) (k:κ) {y:V}{u:Value} (ry:RelV y u):KV (putK ai k y) (stored vs k u):=by
 unfold putK stored
 rw [r.any k]
 by_cases e:(vs.any fun kv=>decide (kv.1=k))=true
 ·rw [if_pos e,if_pos e];exact r.repl k ry
 ·rw [if_neg e,if_neg e];exact Paired.snoc r ⟨rfl,ry⟩
theorem KV.keys {ai:List (κ×V)}{vs:List (κ×Value)} (r:KV ai vs):ai.map (·.1)=vs.map (·.1):=by
 unfold KV at r
 induction r with
 |nil=>rfl
 |cons h t ih=>rw [List.map_cons,List.map_cons,ih,h.1]
theorem KV.length {ai:List (κ×V)}{vs:List (κ×Value)} (r:KV ai vs):ai.length=vs.length:=Paired.length r
end
theorem lK {P:Program}{w:World}{k:Key}{u:Value} (r:RelV (kV k) u):(cn P w).is k u=true:=by
 cases k with
 |inl i=>obtain ⟨t,e⟩:=(show ∃ t,u=Value.int i t from r);subst e;exact Ld P w i t
 |inr x=>obtain ⟨t,e⟩:=(show ∃ t,u=Value.str x t from r);subst e;exact Le P w x t
 |non=>rw [show u=Value.none from r];exact Lf P w
theorem CD {P:Program}{w:World}:∀ {ks:List Key}{us:List Value},Vals (ks.map kV) us→ItemsAre (cn P w) ks us
 |[],_,r=>by rw [List.map_nil] at r;cases r;exact .nil
 |k::ks,_,r=>by
  rw [List.map_cons] at r
  cases r with
  |cons h t=>exact .cons (lK h) (CD t)
abbrev KT (H:Hp):List (List Key×V)→List (List Key×Addr×Value)→Prop:=Paired fun p q=>p.1=q.1∧H q.2.1=some (.tup (p.1.map kV))∧RelV p.2 q.2.2
theorem KT.val {H:Hp}{ai:List (List Key×V)}{xs:List (List Key×Addr×Value)} (r:KT H ai xs) (k:List Key):gP (eD ai k) ((atKey xs k).map (·.2)):=by
 induction r with
 |nil=>exact True.intro
 |@cons p q ps qs h t ih =>
  obtain ⟨h1,_,h2⟩:=h
  by_cases e:p.1=k
  ·have e':q.1=k:=h1.symm.trans e
   have b:atKey (q::qs) k=some q.2:=by simp [atKey,List.find?_cons,e']
   rw [tW e,b];exact h2
  ·have e':¬ q.1=k:=fun z=>e (h1.trans z)
   have b:atKey (q::qs) k=atKey qs k:=by simp [atKey,List.find?_cons,e']
   rw [tX e,b];exact ih
theorem KT.repl {H:Hp}{ai:List (List Key×V)}{xs:List (List Key×Addr×Value)} (r:KT H ai xs) (k:List Key) {y:V}{u:Value} (ry:RelV y u) :
  KT H (ai.map fun kv=>if kv.1=k then (kv.1,y) else kv) (xs.map (putAt k u)):=by
 induction r with
 |nil=>exact .nil
 |@cons p q ps qs h t ih =>
  rw [List.map_cons,List.map_cons]
  refine .cons ?_ ih
  obtain ⟨h1,h2,h3⟩:=h
  unfold putAt
  by_cases e:p.1=k
  ·rw [if_pos e,if_pos (h1.symm.trans e)];exact ⟨h1,h2,ry⟩
  ·rw [if_neg e,if_neg (fun z=>e (h1.trans z))];exact ⟨h1,h2,h3⟩
theorem KT.put {H:Hp}{ai:List (List Key×V)}{xs:List (List Key×Addr×Value)} (r:KT H ai xs) (k:List Key) {b:Addr}{y:V}{u:Value} (hb:H b=some (.tup (k.map kV))) (ry:RelV y u) :
  KT H (putK ai k y) (storedH xs k b u):=by
 have e:(ai.any fun kv=>decide (kv.1=k))=(atKey xs k).isSome:=by
  rw [C5,(r.val k).pR,Option.isSome_map]
 unfold putK storedH
 rw [e]
 by_cases q:(atKey xs k).isSome=true
 ·rw [if_pos q,if_pos q];exact r.repl k ry
 ·rw [if_neg q,if_neg q];exact Paired.snoc r ⟨rfl,hb,ry⟩
theorem KT.keeps {H H':Hp}{ai:List (List Key×V)}{xs:List (List Key×Addr×Value)} (r:KT H ai xs) (ht:∀ b ys,H b=some (.tup ys)→H' b=some (.tup ys)):KT H' ai xs :=
 Paired.uW r fun _ _ z=>⟨z.1,ht _ _ z.2.1,z.2.2⟩
section
variable {P:Program}{w:World}{H:Hp}{h:Heap}{a:Addr}
theorem F3 {u:HO} (ok:cu P w H h) (e:Rd H a u):b9 P w H h a u:=e.ok ok
theorem lL {ai:List (Key×V)} (ok:cu P w H h) (e:Rd H a (.dK ai)):ai.length≤sizeLine∧(a==sysModules)=false∧∃ vs,KV ai vs∧h.DictOf (cn P w) a vs :=
 show b9 P w H h a (.dK ai) from F3 ok e
theorem F4 {ai:List (Key×V)} (ok:cu P w H h) (e:H a=some (.dK ai)):ai.length≤sizeLine∧(a==sysModules)=false∧∃ vs,KV ai vs∧h.DictOf (cn P w) a vs:=lL ok (.inl e)
theorem nA {ks:List Key} (ok:cu P w H h) (e:H a=some (.tup (ks.map kV))):(tupleKind (cn P w)).is h ks a:=by
 obtain ⟨_,its,r,o,h1,h2,n,h3⟩:=(show b9 P w H h a (.tup (ks.map kV)) from ok a _ e)
 exact ⟨o,its.toArray,n,h1,h2,h3,by simpa using CD r⟩
theorem iV {ai:List (List Key×V)} (ok:cu P w H h) (e:Rd H a (.dT ai)):ai.length≤sizeLine∧(a==sysModules)=false ∧
  ∃ xs,KT H ai xs∧h.DictOfH (tupleKind (cn P w)) a xs:=by
 obtain ⟨z,y,xs,r,o,es,ep,h1,h2,h3,h4,h5⟩:=(show b9 P w H h a (.dT ai) from F3 ok e)
 refine ⟨z,y,xs,r,o,es,ep,h1,h2,h3,h4,fun x hx=>?_,h5⟩
 have all:∀ {l:List (List Key×V)}{m:List (List Key×Addr×Value)},KT H l m→∀ x∈m,(tupleKind (cn P w)).is h x.1 x.2.1:=by
  intro l m q
  induction q with
  |nil=>intro x hx;exact nomatch hx
  |@cons p q ps qs hq t ih =>
   intro x hx
   rcases List.mem_cons.mp hx with e|hx
   ·subst e
    exact nA ok (by rw [←hq.1];exact hq.2.1)
   ·exact ih x hx
 exact all r x hx
theorem UX {ai:List (List Key×V)} (ok:cu P w H h) (e:H a=some (.dT ai)):ai.length≤sizeLine∧(a==sysModules)=false ∧
 ∃ xs,KT H ai xs∧h.DictOfH (tupleKind (cn P w)) a xs:=iV ok (.inl e)
end
def gp (H:Hp) (a:Addr) (y:V) (r:Option V):Prop :=
 (∃ ai k,Rd H a (.dK ai)∧y=kV k∧r=eD ai k)∨∃ ai k b,Rd H a (.dT ai)∧y=.ref b∧H b=some (.tup (k.map kV))∧r=eD ai k
def n6 (H:Hp) (a:Addr) (y v:V) (H':Hp):Prop :=
 (∃ ai k,H a=some (.dK ai)∧y=kV k∧ai.length < sizeLine∧H'=upd H a (.dK (putK ai k v))) ∨
 ∃ ai k b,H a=some (.dT ai)∧y=.ref b∧H b=some (.tup (k.map kV))∧ai.length < sizeLine∧H'=upd H a (.dT (putK ai k v))
theorem gp.k {H:Hp}{a:Addr}{ai:List (Key×V)}{k:Key} (e:H a=some (.dK ai)):gp H a (kV k) (eD ai k):=.inl ⟨ai,k,.inl e,rfl,rfl⟩
theorem gp.t {H:Hp}{a b:Addr}{ai:List (List Key×V)}{k:List Key} (e:H a=some (.dT ai)) (eb:H b=some (.tup (k.map kV))):gp H a (.ref b) (eD ai k):=.inr ⟨ai,k,b,.inl e,rfl,eb,rfl⟩
theorem n6.k {H:Hp}{a:Addr}{ai:List (Key×V)}{k:Key}{v:V} (e:H a=some (.dK ai)) (hl:ai.length < sizeLine):n6 H a (kV k) v (upd H a (.dK (putK ai k v))):=.inl ⟨ai,k,e,rfl,hl,rfl⟩
theorem n6.t {H:Hp}{a b:Addr}{ai:List (List Key×V)}{k:List Key}{v:V} (e:H a=some (.dT ai)) (eb:H b=some (.tup (k.map kV))) (hl:ai.length < sizeLine) :
 n6 H a (.ref b) v (upd H a (.dT (putK ai k v))):=.inr ⟨ai,k,b,e,rfl,eb,hl,rfl⟩
section
variable {X:Cx}{pins:List (Addr×Obj)}{σ:St}{H:Hp}{s:Shared}{a:Addr}{y v:V}{u r:Value}{o:Option V}{A:Around}{E:Value→Shared→Prop}
theorem Inv.big (I:Inv X pins σ H s):sysModules < s.heap.objs.size:=by
 have h:mainGlobals < s.heap.objs.size:=(I.mod.glob.keeps I.bk).lt
 exact Nat.lt_trans (by decide) h
theorem Mp {Q:Value→Shared→Prop} (hu:A.units+1 < cLine) (I:Inv X pins σ H s) (g:gp H a y (some v)) (ry:RelV y u) (h:∀ w' s',Inv X pins σ H s'→RelV v w'→Q w' s') :
  wpAny (model X.prog X.w) A (getItem (.ref a) u) Q E s:=by
 rcases g with ⟨ai,k,e,ey,l⟩|⟨ai,k,b,e,ey,eb,l⟩
 ·subst ey
  obtain ⟨z,hd,vs,rel,dd⟩:=lL I.aE e
  obtain ⟨w',hw,iJ⟩:=gP.some_of (v:=v) (o:=valueAt vs k) (by rw [l];exact rel.val k)
  exact wpAny_getItem_of (lK ry) dd.mapOf hw (h w' _ (I.tok _) iJ)
 ·subst ey
  cases (show u=Value.ref b from ry)
  obtain ⟨z,hd,xs,rel,dd⟩:=iV I.aE e
  obtain ⟨w',hw,iJ⟩:=gP.some_of (v:=v) (o:=(atKey xs k).map (·.2)) (by rw [l];exact rel.val k)
  obtain ⟨p,hp,mz⟩:=Option.map_eq_some_iff.mp hw
  refine wpAny_getItem_heap (tupleKind_room_in1 hu) (nA I.aE eb) dd hp ?_
  rw [mz]
  exact h w' _ (I.tok _) iJ
theorem WN {Q:Value→Shared→Prop} (hu:A.units+1 < cLine) (I:Inv X pins σ H s) (g:gp H a y o) (ry:RelV y u) (h:∀ s',Inv X pins σ H s'→Q (.bool o.isSome) s') :
  wpAny (model X.prog X.w) A (compareOp .In u (.ref a)) Q E s:=by
 rcases g with ⟨ai,k,e,ey,l⟩|⟨ai,k,b,e,ey,eb,l⟩
 ·subst ey
  obtain ⟨z,hd,vs,rel,dd⟩:=lL I.aE e
  refine wpAny_in_of (lK ry) hd dd.mapOf ?_
  rw [←(rel.val k).pR,←l]
  exact h _ (I.tok _)
 ·subst ey
  cases (show u=Value.ref b from ry)
  obtain ⟨z,hd,xs,rel,dd⟩:=iV I.aE e
  refine wpAny_in_heap (tupleKind_room_in1 hu) (nA I.aE eb) hd dd ?_
  have q:=(rel.val k).pR
  rw [Option.isSome_map] at q
  rw [←q,←l]
  exact h _ (I.tok _)
theorem Pg {Q:Value→Shared→Prop} (hu:A.units+1 < cLine) (I:Inv X pins σ H s) (g:gp H a y o) (ry:RelV y u) (h:∀ s',Inv X pins σ H s'→Q (.bool (!o.isSome)) s') :
  wpAny (model X.prog X.w) A (compareOp .NotIn u (.ref a)) Q E s:=by
 rcases g with ⟨ai,k,e,ey,l⟩|⟨ai,k,b,e,ey,eb,l⟩
 ·subst ey
  obtain ⟨z,hd,vs,rel,dd⟩:=lL I.aE e
  refine wpAny_notIn_of (lK ry) hd dd.mapOf ?_
  rw [←(rel.val k).pR,←l]
  exact h _ (I.tok _)
 ·subst ey
  cases (show u=Value.ref b from ry)
  obtain ⟨z,hd,xs,rel,dd⟩:=iV I.aE e
  refine wpAny_notIn_heap (tupleKind_room_in1 hu) (nA I.aE eb) hd dd ?_
  have q:=(rel.val k).pR
  rw [Option.isSome_map] at q
  rw [←q,←l]
  exact h _ (I.tok _)
theorem ud {h':Heap}{t':Nat}{ob:HO} (I:Inv X pins σ H s) (mu:qT (H a)) (hs:Heap.SameBut a s.heap h') (he:∃ q,h'.get? a=some q) (new:b9 X.prog X.w (upd H a ob) h' a ob) :
  Inv X pins σ (upd H a ob) { s with heap:=h',toks:=t' } :=
 I.write (x:=a) (e:=a) mu (.inl rfl) (fun b q hb z=>(hs.2 b hb).trans z) he new
theorem EW {P:Program}{w:World}{H':Hp}{h':Heap}{ai:List (Key×V)}{vs:List (Key×Value)} (z:ai.length≤sizeLine) (hd:(a==sysModules)=false) (rel:KV ai vs) (dd:h'.DictOf (cn P w) a vs) :
 b9 P w H' h' a (.dK ai):=⟨z,hd,vs,rel,dd⟩
theorem Mq {H':Hp}{Q:Unit→Shared→Prop} (hu:A.units+1 < cLine) (I:Inv X pins σ H s) (g:n6 H a y v H') (ry:RelV y u) (rv:RelV v r) (h:∀ s',Inv X pins σ H' s'→Q () s') :
  wpAny (model X.prog X.w) A (setItem (.ref a) u r) Q E s:=by
 rcases g with ⟨ai,k,e,ey,l,eH⟩|⟨ai,k,b,e,ey,eb,l,eH⟩
 ·subst ey eH
  obtain ⟨z,hd,vs,rel,dd⟩:=F4 I.aE e
  have hz:vs.length≤sizeLine:=by rw [←rel.length];exact z
  have hl:(putK ai k v).length≤sizeLine:=by have:=xn ai k v;omega
  refine wpAny_setItem_pairs (hsz:=hz) (lK ry) dd fun h' mC hs=>h _ ?_
  have he:∃ q,h'.get? a=some q:=let ⟨q,_,_,hq,_⟩:=mC;⟨q,hq⟩
  exact ud I (by rw [e];exact True.intro) hs he (EW hl hd (rel.put k rv) mC)
 ·subst ey eH
  cases (show u=Value.ref b from ry)
  obtain ⟨z,hd,xs,rel,dd⟩:=UX I.aE e
  have hz:xs.length≤sizeLine:=by rw [←Paired.length rel];exact z
  have hl:(putK ai k v).length≤sizeLine:=by have:=xn ai k v;omega
  refine wpAny_setItem_heap (hsz:=hz) (tupleKind_room_in1 hu) (nA I.aE eb) dd fun h' mC hs=>h _ ?_
  obtain ⟨q,es,ep,hq,h2,h3,h4,_,h5⟩:=mC
  refine ud I (by rw [e];exact True.intro) hs ⟨q,hq⟩ ⟨hl,hd,_,(rel.put k eb rv).keeps fun c ys ec=>?_,q,es,ep,hq,h2,h3,h4,h5⟩
  rw [aH (uF ec e (fun z=>nomatch z))]
  exact ec
end
section
variable {X:Cx}{pins:List (Addr×Obj)}{σ:St}{H:Hp}{s:Shared}{a:Addr}{ai:List (Key×V)}{k:Key}{u:Value}{A:Around}{E:Value→Shared→Prop}
end
def zi (i:Expr):Prop:=∀ ov iv,subscripted i false ov iv=operate [ov,iv] (getItem ov iv)
theorem Ph {prog:Program}{w:World}{A:Around}{E:Value→Shared→Prop}{s:Shared}{env:Env}{value slice:Expr}{pos:Pos}{T id:String}{Q:Value→Shared→Prop}
  (hl:typeLookup (.type T) "__getitem__" = pure (some (.builtin id))) (hs:zi slice)
  (h:wpAny (model prog w) A (eval value env) (fun o s₁=>wpAny (model prog w) A (eval slice env) (fun i s₂=>s₂.TypeIs o T∧wpAny (model prog w) A (getItem o i) Q E s₂) E s₁) E s) :
  wpAny (model prog w) A (eval (.Subscript value slice pos) env) Q E s:=by
 refine Subscript_ (wpAny_mono h (fun o s₁ h₁=>wpAny_mono h₁ (fun i s₂ h₂=>?_) fun _ _ x=>x) fun _ _ x=>x)
 obtain ⟨hT,h₂⟩:=h₂
 unfold subscriptTail
 refine wpAny_bind ?_
 rw [getitemInPython_of_ne hT.not_modules]
 refine wpAny_bind (wpAny_specialOf hT hl ?_)
 have fin:wpAny (model prog w) A (subscripted slice false o i) (fun r s₃=>wpAny (model prog w) A (letTemporaryGo value o r >>= fun _=>pure r) Q E s₃) E s₂:=by
  rw [hs o i]
  exact wpAny_operating (wpAny_mono h₂ (fun r s₃ h₃=>wpAny_bind (wpAny_letTemporaryGo (wpAny_pure h₃))) fun _ _ x=>x)
 first
  |exact wpAny_pure (wpAny_bind fin)
  |exact wpAny_bind (wpAny_pure (wpAny_bind fin))
  |exact wpAny_bind fin
theorem Lh {X:Cx}{pins:List (Addr×Obj)}{σ:St}{H:Hp}{s:Shared}{a:Addr}{y:V}{o:Option V} (I:Inv X pins σ H s) (g:gp H a y o):s.TypeIs (.ref a) "dict" := by
 rcases g with ⟨ai,k,e,_,_⟩|⟨ai,k,b,e,_,_,_⟩
 ·obtain ⟨_,_,vs,_,dd⟩:=lL I.aE e
  exact dd.typeIs
 ·obtain ⟨_,_,xs,_,dd⟩:=iV I.aE e
  exact dd.typeIs
noncomputable def F5 (td ty:TE):TE:=fun σ H Q=>td σ H fun x H1=>ty σ H1 fun y H2=>∃ a v,x=.ref a∧gp H2 a y (some v)∧Q v H2
noncomputable def GU (ty td:TE):TE:=fun σ H Q=>ty σ H fun y H1=>td σ H1 fun x H2=>∃ a o,x=.ref a∧gp H2 a y o∧Q (.bl o.isSome) H2
noncomputable def DW (ty td:TE):TE:=fun σ H Q=>ty σ H fun y H1=>td σ H1 fun x H2=>∃ a o,x=.ref a∧gp H2 a y o∧Q (.bl (!o.isSome)) H2
noncomputable def uI (td ty tv:TE):TS:=fun D σ H=>tv σ H fun v H1=>td σ H1 fun x H2=>ty σ H2 fun y H3=>∃ a H4,x=.ref a∧n6 H3 a y v H4∧D.nx σ H4
section
variable {X:Cx}{o i e value:Expr}{pos pos' WD:Pos}{td ty tv:TE}
theorem Pj (hu:X.A.units+1 < cLine) (ho:PE X o td) (hi:PE X i ty) (hs:zi i):PE X (.Subscript o i pos) (F5 td ty):=by
 intro pins s σ H Q I h
 refine Ph PySem.F.slot_dict_getitem.lookup hs (aF (ho pins s σ H _ I h) fun u s1 ⟨x,H1,I1,rx,q1⟩=>aF (hi pins s1 σ H1 _ I1 q1) fun iv s2 ⟨y,H2,I2,ry,a,v,ex,g,q2⟩=>?_)
 subst ex
 obtain rfl:u=Value.ref a:=rx
 exact ⟨Lh I2 g,Mp hu I2 g ry fun w' s3 I3 iJ=>⟨v,H2,I3,iJ,q2⟩⟩
theorem Sd (hu:X.A.units+1 < cLine) (hi:PE X i ty) (ho:PE X o td):PC X .In i o (GU ty td):=by
 intro pins s σ H Q I h
 refine aF (hi pins s σ H _ I h) fun iv s1 ⟨y,H1,I1,ry,q1⟩=>aF (ho pins s1 σ H1 _ I1 q1) fun u s2 ⟨x,H2,I2,rx,a,ov,ex,g,q2⟩=>?_
 subst ex
 obtain rfl:u=Value.ref a:=rx
 exact WN hu I2 g ry fun s3 I3=>⟨.bl ov.isSome,H2,I3,rfl,q2⟩
theorem Mr (hu:X.A.units+1 < cLine) (hi:PE X i ty) (ho:PE X o td):PC X .NotIn i o (DW ty td):=by
 intro pins s σ H Q I h
 refine aF (hi pins s σ H _ I h) fun iv s1 ⟨y,H1,I1,ry,q1⟩=>aF (ho pins s1 σ H1 _ I1 q1) fun u s2 ⟨x,H2,I2,rx,a,ov,ex,g,q2⟩=>?_
 subst ex
 obtain rfl:u=Value.ref a:=rx
 exact Pg hu I2 g ry fun s3 I3=>⟨.bl (!ov.isSome),H2,I3,rfl,q2⟩
theorem Pk (hu:X.A.units+1 < cLine) (ho:PE X o td) (hi:PE X i ty) (hv:PE X value tv) (hs:swapsWith value (some (.Subscript o i pos')) pos.line X.env=pure false) :
  PS X (.Assign [.Subscript o i pos'] value pos) (uI td ty tv):=by
 intro pins s σ H D I h
 refine wpAny_Assign_Subscript (aF (hv pins s σ H _ I h) fun r s1 ⟨v,H1,I1,rv,q1⟩=>aF (ho pins s1 σ H1 _ I1 q1) fun u s2 ⟨x,H2,I2,rx,q2⟩=>aF (hi pins s2 σ H2 _ I2 q2) fun iv s3 ⟨y,H3,I3,ry,a,H4,ex,g,q3⟩=>?_) hs
 subst ex
 obtain rfl:u=Value.ref a:=rx
 exact Mq hu I3 g ry rv fun s4 I4=>⟨σ,H4,I4,q3⟩
end
theorem C6 {P:Program}{w:World}{H:Hp} (h:Heap) (hb:sysModules < h.objs.size):b9 P w H (h.push { cls:=.type "dict",data:=.dict #[] }) h.objs.size (.dK []) :=
 ⟨Nat.zero_le _,beq_eq_false_iff_ne.mpr (Ne.symm (Nat.ne_of_lt hb)),[],.nil,Heap.DictOf.new h⟩
theorem Nm {P:Program}{w:World}{H:Hp} (h:Heap) (hb:sysModules < h.objs.size):b9 P w H (h.push { cls:=.type "dict",data:=.dict #[] }) h.objs.size (.dT []) :=
 ⟨Nat.zero_le _,beq_eq_false_iff_ne.mpr (Ne.symm (Nat.ne_of_lt hb)),[],.nil,_,#[],0,Heap.get?_push_size _ rfl,⟨rfl,rfl,rfl⟩,rfl,rfl,List.nodup_nil⟩
noncomputable def EX:TE:=fun _ H Q=>∀ p,H p=none→Q (.ref p) (upd H p (.dK []))
noncomputable def EY:TE:=fun _ H Q=>∀ p,H p=none→Q (.ref p) (upd H p (.dT []))
section
variable {X:Cx}{pos:Pos}
theorem Nn:PE X (.Dict [] [] pos) EX:=fun pins s σ H Q I h =>
 wpAny_Dict_empty ⟨.ref s.heap.objs.size,_,I.laid (a:=s.heap.objs.size) (o:=.dK []) (t':=s.toks) (fun _ _ q=>Heap.get?_push_of_some _ q) (Nat.le_refl _) (C6 s.heap I.big),rfl,h _ (I.aE.fresh (Nat.le_refl _))⟩
theorem Np:PE X (.Dict [] [] pos) EY:=fun pins s σ H Q I h =>
 wpAny_Dict_empty ⟨.ref s.heap.objs.size,_,I.laid (a:=s.heap.objs.size) (o:=.dT []) (t':=s.toks) (fun _ _ q=>Heap.get?_push_of_some _ q) (Nat.le_refl _) (Nm s.heap I.big),rfl,h _ (I.aE.fresh (Nat.le_refl _))⟩
end
noncomputable def yj:List (TE×TE)→St→Hp→(List (V×V)→Hp→Prop)→Prop
 |[],_,H,Q=>Q [] H
 | (tk,tv)::r,σ,H,Q=>tk σ H fun x H1=>tv σ H1 fun y H2=>yj r σ H2 fun ps H3=>Q ((x,y)::ps) H3
abbrev VV:List (V×V)→List (Value×Value)→Prop:=Paired fun p q=>RelV p.1 q.1∧RelV p.2 q.2
def vG (X:Cx) (pos:Pos) (keys:List (Option Expr)) (values:List Expr) (j0:List (TE×TE)):Prop :=
 ∀ (pins:List (Addr×Obj)) (s:Shared) (σ:St) (H:Hp) (Q:List (V×V)→Hp→Prop),Inv X pins σ H s→yj j0 σ H Q →
  wpAny (model X.prog X.w) X.A (evalPairs (pairTrees keys values X.env pos)) (fun vs s'=>∃ ps H',Inv X pins σ H' s'∧VV ps vs∧Q ps H') X.xe s
theorem Pl {X:Cx}{pos:Pos}:vG X pos [] [] []:=fun pins s σ H Q I h=>pairTrees_nil_walk ⟨[],H,I,.nil,h⟩
theorem Nq {X:Cx}{pos:Pos}{k v:Expr}{ks:List (Option Expr)}{vs:List Expr}{tk tv:TE}{j0:List (TE×TE)} (hk:PE X k tk) (hv:PE X v tv) (hr:vG X pos ks vs j0) :
  vG X pos (some k::ks) (v::vs) ((tk,tv)::j0):=fun pins s σ H Q I h =>
 pairTrees_cons_walk (aF (hk pins s σ H _ I h) fun u s1 ⟨x,H1,I1,rx,q1⟩=>aF (hv pins s1 σ H1 _ I1 q1) fun w2 s2 ⟨y,H2,I2,ry,q2⟩ =>
  aF (hr pins s2 σ H2 _ I2 q2) fun ws s3 ⟨ps,H3,I3,rel,q3⟩=>⟨(x,y)::ps,H3,I3,.cons ⟨rx,ry⟩ rel,q3⟩)
noncomputable def nB (ai more:List (Key×V)):List (Key×V):=more.foldl (fun acc kv=>putK acc kv.1 kv.2) ai
theorem KV.merge:∀ {more:List (Key×V)}{rs:List (Key×Value)}{ai:List (Key×V)}{vs:List (Key×Value)},KV more rs→KV ai vs→KV (nB ai more) (merged vs rs):=by
 intro more rs ai vs r
 unfold KV at r
 induction r generalizing ai vs with
 |nil=>intro q;exact q
 |@cons p q ps qs h t ih =>
  intro r0
  have e:KV (putK ai p.1 p.2) (stored vs q.1 q.2):=by
   have:=r0.put p.1 h.2
   rw [←h.1];exact this
  exact ih e
theorem Bw:∀ (more ai:List (Key×V)),(nB ai more).length≤ai.length+more.length
 |[],ai=>by show ai.length≤ai.length+0;omega
 |p::r,ai=>by
  have h1:=Bw r (putK ai p.1 p.2)
  have h2:=xn ai p.1 p.2
  show (nB (putK ai p.1 p.2) r).length≤_
  rw [List.length_cons];omega
theorem B4 {P:Program}{w:World}:∀ {ai:List (Key×V)}{ws:List (Value×Value)},VV (ai.map fun kv=>(kV kv.1,kv.2)) ws→∃ rs,Carries (cn P w) ws rs∧KV ai rs
 |[],_,r=>by rw [List.map_nil] at r;cases r;exact ⟨[],True.intro,.nil⟩
 |p::ai,_,r=>by
  rw [List.map_cons] at r
  cases r with
  |@cons a b as bs h t =>
   obtain ⟨rs,c,q⟩:=B4 (P:=P) (w:=w) t
   obtain ⟨b1,b2⟩:=b
   exact ⟨(p.1,b2)::rs,⟨lK h.1,rfl,c⟩,.cons ⟨rfl,h.2⟩ q⟩
noncomputable def F6 (j0:List (TE×TE)):TE:=fun σ H Q=>∀ p,H p=none→yj j0 σ (upd H p (.dK [])) fun ps H2=>H2 p=some (.dK [])∧∃ ai:List (Key×V),ps=ai.map (fun kv=>(kV kv.1,kv.2))∧ai.length≤15∧Q (.ref p) (upd H2 p (.dK (nB [] ai)))
theorem Pm {X:Cx}{pos:Pos}{keys:List (Option Expr)}{values:List Expr}{j0:List (TE×TE)} (h:vG X pos keys values j0) (zj:keys.all (·.isSome)=true) (hl:keys.length=values.length) (h0:keys≠[])
  (XA:keys.length≤15):PE X (.Dict keys values pos) (F6 j0):=by
 intro pins s σ H Q I q
 have hn:=I.aE.fresh (Nat.le_refl s.heap.objs.size)
 have I1:=I.laid (a:=s.heap.objs.size) (o:=.dK []) (h':=s.heap.push { cls:=.type "dict",data:=.dict #[] }) (t':=s.toks) (fun _ _ q=>Heap.get?_push_of_some _ q) (Nat.le_refl _) (C6 s.heap I.big)
 refine wpAny_Dict_walk (knd:=cn X.prog X.w) zj hl h0 XA (aF (h pins _ σ _ _ I1 (q _ hn)) fun ws s2 ⟨ps,H2,I2,rel,e,ai,ep,lk,q2⟩=>?_)
 subst ep
 obtain ⟨rs,c,rk⟩:=B4 (P:=X.prog) (w:=X.w) rel
 obtain ⟨z,hd,vs0,r0,dd⟩:=F4 I2.aE e
 cases r0
 refine ⟨rs,c,dd,fun h' mC hs=>⟨.ref s.heap.objs.size,_,?_,rfl,q2⟩⟩
 have hz:(nB [] ai).length≤sizeLine:=by
  have h1:=Bw ai []
  rw [List.length_nil] at h1
  rw [sizeLine_eq];omega
 have he:∃ q,h'.get? s.heap.objs.size=some q:=let ⟨q,_,_,hq,_⟩:=mC;⟨q,hq⟩
 exact ud I2 (by rw [e];exact True.intro) hs he (EW hz hd (rk.merge .nil) mC)
structure M1 (X:Cx) (o:Expr) (m:Str) (apos:Pos) (e:Expr) (cq:Pos):Prop where
 base:attributeBase o m X.env (eval o X.env)=eval o X.env
 few:((backTo cq (starEach [e] X.env)).all (fun x=>!x.1)&&(backToKw cq (keywordEach [] X.env)).all (fun x=>x.1.isSome)
  && decide (([e]:List Expr).length+([]:List Keyword).length+(if ([]:List Keyword).isEmpty then 0 else 1) < 30))=true
 line:(apos.endLine==cq.line)=true
 trees:backTo cq (starEach [e] X.env)=[(false,eval e X.env)]
structure M2 (X:Cx) (o:Expr) (m:Str) (apos:Pos) (e f:Expr) (cq:Pos):Prop where
 base:attributeBase o m X.env (eval o X.env)=eval o X.env
 few:((backTo cq (starEach [e,f] X.env)).all (fun x=>!x.1)&&(backToKw cq (keywordEach [] X.env)).all (fun x=>x.1.isSome)
  && decide (([e,f]:List Expr).length+([]:List Keyword).length+(if ([]:List Keyword).isEmpty then 0 else 1) < 30))=true
 line:(apos.endLine==cq.line)=true
 trees:backTo cq (starEach [e,f] X.env)=[(false,eval e X.env),(false,eval f X.env)]
def Im (H:Hp) (a:Addr):Prop:=(∃ ai,Rd H a (.dK ai))∨∃ ai,Rd H a (.dT ai)
theorem Se {X:Cx}{pins:List (Addr×Obj)}{σ:St}{H:Hp}{s:Shared}{a:Addr} (I:Inv X pins σ H s) (d:Im H a) :
  s.TypeIs (.ref a) "dict" ∧ (∀ b,Value.ref a=.ref b→∃ ob,s.heap.get? b=some ob∧ob.dict=none)∧(a==sysModules)=false:=by
 rcases d with ⟨ai,e⟩|⟨ai,e⟩
 ·obtain ⟨_,hd,vs,_,dd⟩:=lL I.aE e
  refine ⟨dd.typeIs,fun b q=>?_,hd⟩
  cases q
  obtain ⟨ob,_,_,h1,h2,_⟩:=dd
  exact ⟨ob,h1,h2.2.1⟩
 ·obtain ⟨_,hd,xs,_,dd⟩:=iV I.aE e
  refine ⟨dd.typeIs,fun b q=>?_,hd⟩
  cases q
  obtain ⟨ob,_,_,h1,h2,_⟩:=dd
  exact ⟨ob,h1,h2.2.1⟩
section
variable {X:Cx}{pins:List (Addr×Obj)}{σ:St}{H:Hp}{s:Shared}{a:Addr}{y d:V}{u r:Value}{o:Option V}{A:Around}{E:Value→Shared→Prop}
theorem Sf {Q:Value→Shared→Prop} (hu:A.units+1 < cLine) (I:Inv X pins σ H s) (g:gp H a y o) (ry:RelV y u) (rd:RelV d r) (h:∀ w' s',Inv X pins σ H s'→RelV (o.getD d) w'→Q w' s') :
  wpAny (model X.prog X.w) A (call (.builtin "dict.get") [.ref a,u,r]) Q E s:=by
 rcases g with ⟨ai,k,e,ey,l⟩|⟨ai,k,b,e,ey,eb,l⟩
 ·subst ey
  obtain ⟨z,hd,vs,rel,dd⟩:=lL I.aE e
  refine call_meetsIn PySem.F.slot_dict_get dd.typeIs PySem.F.entry_dict_get (PySem.F.args_dict_get_3 _ _ _) (meets_dict_get_default (cn X.prog X.w) a (lK ry) hd r) ⟨_,dd.mapOf,h _ _ (I.tok _) ?_⟩
  rw [l]
  exact (rel.val k).getD rd
 ·subst ey
  cases (show u=Value.ref b from ry)
  obtain ⟨z,hd,xs,rel,dd⟩:=iV I.aE e
  refine call_meetsIn PySem.F.slot_dict_get dd.typeIs PySem.F.entry_dict_get (PySem.F.args_dict_get_3 _ _ _) (meetsH_dict_get_default (tupleKind (cn X.prog X.w)) a b hd r) ⟨tupleKind_room_in1 hu,k,xs,nA I.aE eb,dd,h _ _ (I.tok _) ?_⟩
  rw [l]
  exact (rel.val k).getD rd
end
section
variable {X:Cx}{o e f:Expr}{apos cq:Pos}{td ty tx:TE}
end
section
variable {X:Cx}{pins:List (Addr×Obj)}{σ:St}{H:Hp}{s:Shared}{a:Addr}{ai:List (Key×V)}{A:Around}{E:Value→Shared→Prop}
end
section
variable {X:Cx}{pins:List (Addr×Obj)}{σ:St}{H:Hp}{s:Shared}{a:Addr}{y:V}{u:Value}{A:Around}{E:Value→Shared→Prop}
end
end L2
namespace Io
open PySem PySem.W PySem.Calls PyProof.Rows
theorem K2 {P:Params}{h:Heap}:∀ (ns:List Int) (vs:List Value),WellAll P h vs (ns.map WData.int)→IntsAre vs ns:=by
 intro ns
 induction ns with
 |nil =>
  intro vs w
  rw [List.map_nil] at w
  cases w
  exact .nil
 |cons n ns ih =>
  intro vs w
  rw [List.map_cons] at w
  cases w with
  |cons a b =>
   cases a
   exact .cons _ _ (ih _ b)
theorem Ms {l:OpenLaw}{n:Nat} (hn:l.most=some n) {P:Params}{h:Heap}{args:List WData}{vals:List Value}
  (iA:l.row.toRowW.claim.pre args=true) (oF:WellAll P h vals args) :
  ∃ a vs ns,vals=[Value.ref a]∧args=[WData.list (ns.map WData.int)]∧h.get? a=some { cls:=.type "list",data:=.seq vs.toArray }∧IntsAre vs ns∧ns.length≤n:=by
 have XB:WShape.hasAll [] args [.list .int]=true:=(pre_splitW iA).1
 have hc:l.pre.holds [] { args:=args }=true:=(pre_splitW iA).2
 obtain ⟨d,r,rfl,h1,h2⟩:=hasAllW_cons XB
 obtain rfl:=hasAllW_nil h2
 obtain ⟨xs,rfl,h3⟩:=hasW_list h1
 obtain ⟨ns,rfl⟩:=items_int h3
 have hlen:ns.length≤n:=by
  unfold OpenLaw.pre at hc
  have h4:(WTm.not (.lt (.lit (.int (n:Int))) (.len (.arg 0)))).holds [] { args:=[.list (ns.map .int)] }=true:=by
   have h4:=(holds_andW hc).1
   rw [hn] at h4
   exact h4
  have h5:=condW_of h4 (w_not (w_lt w_lit (w_len_list (w_arg rfl))))
  rw [List.length_map] at h5
  refine Nat.le_of_not_lt fun q=>?_
  have q':(n:Int) < ((ns.length:Nat):Int):=by omega
  first
   | (rw [decide_eq_true q'] at h5;exact absurd h5 (by decide))
   | (simp at h5;omega)
 cases oF with
 |cons w1 w2 =>
  cases w2
  cases w1 with
  |list ho zj=>exact ⟨_,_,ns,rfl,rfl,ho,K2 ns _ zj,hlen⟩
theorem Mt (l:OpenLaw) (args:List WData):l.row.toRowW.claim.post args (.bool true) args=true :=
 postW_of (r:=l.row.toRowW) (X:=(true==true))
  (show WShape.has [] (.bool true) .bool=true by first|rfl|decide|simp [WShape.has,WShape.arms,WShape.armsAll])
  (show (WTm.eq .res (.lit (.bool true))).value [] { args:=args,res:=some (.bool true),after:=args }=some (.bool (true==true)) from w_eq_bool (w_res rfl) w_lit) rfl
theorem Li {l:OpenLaw}{n:Nat}{q:Program}{loose:List Str}{XP:(Str→Option Value)→Heap→Prop}{YP:World→Heap→Prop}{d:DefRec}
  (hn:l.most=some n) (rj:d.params.defaults=[])
  (call:∀ (w:World) (s₀ s₁:Shared) (mg mb:Str→Option Value) (fa:Addr) (o:Obj) (pm cd doc:Value) (a:Addr) (vs:List Value) (ns:List Int),
   Ground q loose [] XP w s₀ mg mb s₁.heap→YP w s₁.heap →
   s₁.heap.get? fa=some o→o.data=.func (docDef d.name d.params d.body d.scope pm cd doc)→s₁.heap.CodeRec cd d.name→mg d.name=some (.ref fa) →
   s₁.heap.get? a=some { cls:=.type "list",data:=.seq vs.toArray }→IntsAre vs ns→ns.length≤n→s₁.gens=#[] →
   codeAny (model l.prog w) callerA (.call (.ref fa) ⟨[.ref a],[]⟩) (fun r s'=>r=.ok (.ret (.bool true))∧OldK s₁.heap s'.heap∧s'.os=s₁.os∧AllBare s'.gens) s₁) :
  WalkO q loose XP YP l.row.toRowW d [] (fun f vs=>PySem.call f vs):=by
 intro w s₀ s₁ mg mb G Y fa o pm cd doc dV kV ho hd gA hD Aa hg args vals as iA hlay hrd oF hlo
 obtain rfl:dV=.none:=Dflts.none hD rj
 obtain rfl:kV=.none:=Dflts.noKw hD
 obtain ⟨a,vs,ns,rfl,rfl,zk,hints,hlen⟩:=Ms hn iA oF
 refine enter_call (codeAny_mono (call w s₀ s₁ mg mb fa o pm cd doc a vs ns G Y ho (fd_plain hd) gA Aa zk hints hlen hg) fun r s' hq=>?_)
 obtain ⟨rfl,h2,h3,h4⟩:=hq
 exact ⟨.inl ⟨.bool true,.bool true,[],rfl,fun _=>rfl,.bool true,Mt l _,fun _=>⟨List.Pairwise.nil,fun _ hm=>(nomatch hm)⟩⟩,h2,h3,h4⟩
section
variable {prog:Program}{w:World}{A:Around}{E:Value→Shared→Prop}{s:Shared}{K:Frag}
end
end Io
namespace L2
open PySem PySem.Spec PyProof.Rows
theorem pS:∀ {vs:List Value}{ns:List Int},IntsAre vs ns→Vals (ns.map V.int) vs
 |_,_,.nil=>.nil
 |_,_,.cons n t h=>.cons ⟨t,rfl⟩ (pS h)
def Only (H:Hp):Prop:=∀ b,H b=none∨∃ o xs,H b=some (.aW o (.lst xs))
theorem Nr {P:Program}{w:World}{K:PySem.W.Frag}{mg mb:Str→Option Value}{CX:iG}{k:Nat}{fa a:Addr}{fd:FuncData}{x:Str}{sp:Sp}{s₁:Shared}{vs:List Value}{ns:List Int}
  (KX:K.In s₁.heap) (oG:s₁.heap.Ns mainGlobals mg) (hb:s₁.heap.Ns builtinsNs mb) (j3:∀ x:Str,x ≠ "__name__" → mb x=bootBuiltins x) (WO:s₁.heap.NoLimit) (hg:s₁.gens=#[])
  (ha:s₁.heap.get? a=some { cls:=.type "list",data:=.seq vs.toArray }) (hi:IntsAre vs ns) (hl:ns.length≤sizeLine) (hr:dw k callerA)
  (F:∀ base:Heap,K.In base→base.Ns mainGlobals mg→jL P w K mg base CX k fa fd [x] sp) (UY:∀ (s:Shared) (u:Value),BindsTo s fd ⟨[u],[]⟩ [(x,u)])
  (jh:∀ H:Hp,Only H→bL K H a (ns.map V.int)→sp [.ref a] H (fun v _=>v=.bl true) fun _ _ _=>False)
  (Ab:∀ H e s',CX [] H s₁ (fun _ _ _=>False) e s'→False) :
  codeAny (model P w) callerA (.call (.ref fa) ⟨[.ref a],[]⟩) (fun r s'=>r=.ok (.ret (.bool true))∧OldK s₁.heap s'.heap∧s'.os=s₁.os∧AllBare s'.gens) s₁:=by
 have rv:=pS hi
 have WQ:=hi.length
 have core:∀ H:Hp,Only H→bL K H a (ns.map V.int)→cu P w H s₁.heap→(∀ b,H b≠none→b=a)→(H a≠none→K.lookup a=none) →
   codeAny (model P w) callerA (.call (.ref fa) ⟨[.ref a],[]⟩) (fun r s'=>r=.ok (.ret (.bool true))∧OldK s₁.heap s'.heap∧s'.os=s₁.os∧AllBare s'.gens) s₁:=by
  intro H hO hS aE hA hK
  have DX:∀ {b:Addr}{o:Obj},s₁.heap.get? b=some o→H b=none→(jJ s₁.heap H).get? b=some o:=fun e n=>M7 e n
  have rg:∀ {b:Addr}{o:Obj}{es:Array DictEntry}{ep:Nat},s₁.heap.get? b=some o→o.data=.dict es ep→H b=none:=fun {b o es ep} e d=>by
   cases q:H b with
   |none=>rfl
   |some u =>
    have e':b=a:=hA b (by rw [q];simp)
    subst e'
    rw [ha] at e;cases e
    have d':Data.seq vs.toArray _=Data.dict es ep:=d
    cases d'
  have vH:∀ {b:Addr}{m:Str→Option Value},s₁.heap.Ns b m→(jJ s₁.heap H).Ns b m:=fun {b m} ⟨o,es,ep,e,d,r⟩=>⟨o,es,ep,DX e (rg e d),d,r⟩
  have Ip:K.In (jJ s₁.heap H):=fun b o e=>DX (KX b o e) (by
   cases q:H b with
   |none=>rfl
   |some u =>
    have e':b=a:=hA b (by rw [q];simp)
    subst e'
    rw [hK (by rw [q];simp)] at e;cases e)
  have hM:Mod K mg (jJ s₁.heap H):=⟨Ip,vH oG,⟨mb,vH hb,j3⟩,let ⟨mc,h1,h2⟩:=WO;⟨mc,vH h1,h2⟩⟩
  have e0:vb P w K mg (jJ s₁.heap H) callerA [] s₁ H:=⟨rfl,hM,fun b o e=>OI e,Nat.le_of_eq (Mb _ _),trivial,fun b hb=>absurd (show b∈([]:List Addr) from hb) (by simp),aE,.of_eq hg⟩
  refine codeAny_mono ((F _ Ip (vH oG)).run callerA [] s₁ H ⟨[.ref a],[]⟩ [.ref a] [.ref a] _ _ hr e0 (UY s₁ (.ref a)) (.cons rfl .nil) (jh H hO hS)) fun r s' h=>?_
  cases r with
  |error e=>exact (Ab H e s' h).elim
  |ok fl =>
   cases fl with
   |next=>exact False.elim h
   |brk=>exact False.elim h
   |cont=>exact False.elim h
   |ret u =>
    obtain ⟨v,H',os,bare,un,WR,r',q⟩:=h
    have q':v=.bl true:=q
    subst q'
    obtain rfl:u=Value.bool true:=r'
    refine ⟨rfl,OldK.of_keep fun b o e=>?_,os,bare⟩
    cases q:H b with
    |none=>exact un.keep b o e q (by intro z;exact absurd (show b∈([]:List Addr) from z) (by simp)) (by simp)
    |some u =>
     rcases hO b with z|⟨ob,xs,z⟩
     ·rw [q] at z;cases z
     ·have z2:=un.iu b ob _ z
      obtain ⟨e1,_⟩:=aE b _ z
      obtain ⟨e2,_⟩:=WR b _ z2
      rw [e] at e1;cases e1
      exact e2
 cases hk:K.lookup a with
 |some o =>
  have e:=KX a o hk
  rw [ha] at e
  cases e
  refine core (fun _=>none) (fun _=>.inl rfl) (.inr ⟨_,vs.toArray,_,hk,rfl,rfl,rfl,by rw [List.size_toArray,WQ];exact hl,by simpa using rv⟩) (fun b u z=>by have z':(none:Option HO)=some u:=z;cases z') (fun b z=>absurd rfl z) fun z=>absurd rfl z
 |none =>
  refine core (fun b=>if b=a then some (.aW { cls:=.type "list",data:=.seq vs.toArray } (.lst (ns.map V.int))) else none) (fun b=>?_) (.inl (.inr ⟨{ cls:=.type "list",data:=.seq vs.toArray },if_pos rfl⟩)) (fun b u z=>?_) (fun b z=>?_) fun _=>hk
  ·by_cases hb:b=a
   ·exact .inr ⟨_,_,if_pos hb⟩
   ·exact .inl (if_neg hb)
  ·by_cases hb:b=a
   ·have z':=(if_pos hb).symm.trans z
    cases z'
    subst hb
    exact ⟨ha,by rw [List.length_map];exact hl,vs,_,rv,ha⟩
   ·have z':=(if_neg hb).symm.trans z
    cases z'
  ·by_cases hb:b=a
   ·exact hb
   ·exact absurd (if_neg hb) z
theorem Pn {l:PySem.W.OpenLaw}{n k:Nat}{q:Program}{loose:List Str}{XP:(Str→Option Value)→Heap→Prop}{YP:World→Heap→Prop}{d:DefRec}{K:Params→PySem.W.Frag}{CX:World→iG}{sp:World→Sp}{x:Str}
  (hn:l.most=some n) (Ac:n≤sizeLine) (rj:d.params.defaults=[]) (hr:dw k callerA)
  (hY:∀ (w:World) (h:Heap),YP w h→(K w.params).In h)
  (F:∀ (w:World) (mg:Str→Option Value) (fa:Addr) (h:Heap),(K w.params).In h→h.Ns mainGlobals mg→mg d.name=some (.ref fa) →
   ∃ fd:FuncData,(∀ (s:Shared) (u:Value),BindsTo s fd ⟨[u],[]⟩ [(x,u)]) ∧
    ∀ base:Heap,(K w.params).In base→base.Ns mainGlobals mg→jL l.prog w (K w.params) mg base (CX w) k fa fd [x] (sp w))
  (jh:∀ (w:World) (H:Hp) (a:Addr) (ns:List Int),ns.length≤n→Only H→bL (K w.params) H a (ns.map V.int)→sp w [.ref a] H (fun v _=>v=.bl true) fun _ _ _=>False)
  (Ab:∀ (w:World) (H:Hp) (s:Shared) (e:Value) (s':Shared),CX w [] H s (fun _ _ _=>False) e s'→False) :
  PySem.W.WalkO q loose XP YP l.row.toRowW d [] (fun f vs=>PySem.call f vs):=by
 refine Io.Li hn rj fun w s₀ s₁ mg mb fa o pm cd doc a vs ns G Y ho hd gA Aa zk hints hlen hg=>?_
 have KX:=hY w _ Y
 obtain ⟨fd,hb,hF⟩:=F w mg fa _ KX G.T.g Aa
 exact Nr KX G.T.g G.T.b G.T.builtins G.T.nolimit hg zk hints (Nat.le_trans hlen Ac) hr hF hb (fun H hO hS=>jh w H a ns hlen hO hS) fun H e s'=>Ab w H s₁ e s'
noncomputable def fN (s:Stmt):Arguments:=match s with
 |.FunctionDef _ a _ _ _ _ _ _ _ _=>a
 |_=>{ posonlyargs:=[],args:=[],vararg:=none,kwonlyargs:=[],kw_defaults:=[],kwarg:=none,defaults:=[] }
noncomputable def eU (s:Stmt):List Stmt:=match s with
 |.FunctionDef _ _ b _ _ _ _ _ _ _=>b
 |_=>[]
noncomputable def bZ (s:Stmt):Scope:=match s with
 |.FunctionDef _ _ _ _ _ _ sc _ _ _=>sc
 |_=>{ kind:=.function,names:=[],isGenerator:=false,isCoroutine:=false }
noncomputable abbrev j4:iG:=fun _ _ _ _ _ _=>False
noncomputable abbrev E0:XK:=fun _ _ _=>False
theorem F7 {X:Cx}:Passes j4 X E0:=fun _ _ _ _ _ _ _ h=>h.elim
structure oH (K:PySem.W.Frag) (x qual:Str) (st:Stmt) (f:Addr) (fd:FuncData):Prop where
 ex:∃ (oc:Value) (od:Option Addr) (kV doc pm:Value) (an:Option Addr) (bM ct:Value) (iH:Array (Option Value)),
  fd=PySem.W.fnOf x qual (fN st) (eU st) (bZ st) .none kV doc pm an bM ct∧K.lookup f=some ⟨oc,od,.func fd,iH⟩∧PySem.W.codeIn K bM qual=true
 kp:PySem.W.keepIn K (.ref f)=true
section
variable {P:Program}{w:World}{K:PySem.W.Frag}{mg:Str→Option Value}{base:Heap}
theorem oH.ok {x qual:Str}{st:Stmt}{f:Addr}{fd:FuncData}{N ps:List Str}{k:Nat}{sp:Sp} (F:oH K x qual st f fd) (S:p5 N ps (bZ st)) (len:∀ vs H Q E,sp vs H Q E→vs.length=ps.length)
  (qq:∀ (bM:Value) (A:Around) (outer:List Env) (s:Shared) (H:Hp) (vs:List V) (Q:VK) (E:XK),dw k (A.deeper (envOfC qual (bZ st) s.heap.objs.size f bM))→sp vs H Q E →
   ∃ t,fF (kK j4 P w K mg base N qual (bZ st) f bM A outer s H E).mw (eU st) t∧t { nx:=fun _ H'=>Q .non H',rt:=Q } (start N vs) H):jL P w K mg base j4 (k+1) f fd ps sp:=by
 obtain ⟨oc,od,kV,doc,pm,an,bM,ct,iH,rfl,lk,gA⟩:=F.ex
 refine FZ lk gA S len fun A outer s H vs Q E hr jh=>?_
 obtain ⟨t,h,q⟩:=qq bM A outer s H vs Q E hr jh
 exact ⟨t,h.mw,q⟩
theorem oH.binds {x qual:Str}{st:Stmt}{f:Addr}{fd:FuncData}{ps:List Str} (F:oH K x qual st f fd)
  (h:∀ (kV doc pm:Value) (an:Option Addr) (bM ct:Value) (us:List Value),us.length=ps.length→bindArgs (PySem.W.fnOf x qual (fN st) (eU st) (bZ st) .none kV doc pm an bM ct) ⟨us,[]⟩=pure (ps.zip us)):Binds K fd ps []:=by
 obtain ⟨oc,od,kV,doc,pm,an,bM,ct,iH,rfl,lk,gA⟩:=F.ex
 exact .all (h kV doc pm an bM ct)
theorem yk {x qual:Str}{st:Stmt}{f:Addr}{oc:Value}{od an:Option Addr}{iH:Array (Option Value)}{kV doc pm bM ct:Value} (l:K.lookup f=some ⟨oc,od,.func (PySem.W.fnOf x qual (fN st) (eU st) (bZ st) .none kV doc pm an bM ct),iH⟩)
 (c:PySem.W.codeIn K bM qual=true) (k:PySem.W.keepIn K (.ref f)=true):oH K x qual st f (PySem.W.fnOf x qual (fN st) (eU st) (bZ st) .none kV doc pm an bM ct):=⟨⟨oc,od,kV,doc,pm,an,bM,ct,iH,rfl,l,c⟩,k⟩
end
theorem nQ {A:Around}{k:Nat} (hr:dw k A):A.units+1 < cLine:=Nat.lt_of_le_of_lt (Nat.add_le_add_left (by decide:1≤64) _) hr.units
section
variable {X:Cx}
end
theorem WT {A B:Prop} (h:A):if true=true then A else B:=by
 rw [if_pos rfl]
 exact h
def aI (H H':Hp):Prop:=∀ b o,H b=some o→H' b=some o
theorem aI.refl (H:Hp):aI H H:=fun _ _ h=>h
theorem aI.trans {H H1 H2:Hp} (a:aI H H1) (b:aI H1 H2):aI H H2:=fun c o h=>b c o (a c o h)
theorem aI.free {H H':Hp} (e:aI H H') {l:Addr} (h:H' l=Option.none):H l=Option.none:=by
 cases q:H l with
 |none=>rfl
 |some o =>
  rw [e l o q] at h
  cases h
section
variable {κ:Type} [DecidableEq κ]
end
theorem La {α β:Type}{l:List α}{f:α→β→Sem (ForInStep β)} (g:α→β→β):∀ (c:β),(∀ x∈l,∀ c,f x c=pure (.yield (g x c)))→forIn l c f=pure (l.foldl (fun c x=>g x c) c):=by
 induction l with
 |nil=>intro c _;rfl
 |cons x l ih =>
  intro c h
  rw [List.forIn_cons,h x List.mem_cons_self,pure_bind]
  exact ih (g x c) fun y hy=>h y (List.mem_cons_of_mem _ hy)
noncomputable def gH (env:Env) (x:Str×NameKind) (cs:List (Str×Addr)):List (Str×Addr):=if (x.2==NameKind.free)=true then (x.1,(env.cells.lookup x.1).getD 0)::cs else cs
noncomputable def lT (sc:Scope) (env:Env):List (Str×Addr):=sc.names.foldl (fun cs x=>gH env x cs) []
theorem BF {sc:Scope}{env:Env} (h:∀ x∈sc.names,x.2=.free→∃ c,env.cells.lookup x.1=some c):closureFor sc env=pure (lT sc env):=by
 simp only [closureFor]
 rw [La (gH env) [] (fun x hx c=>?_)]
 ·rfl
 ·obtain ⟨n,kind⟩:=x
  cases hk:kind==NameKind.free with
  |false=>simp [gH,hk]
  |true =>
   obtain ⟨a,ha⟩:=h (n,kind) hx (by simpa using hk)
   have XC:env.cells.lookup n=some a:=ha
   simp [gH,hk,cellOf,XC]
theorem EZ (env:Env) (hh:∀ (x:Str×NameKind),x.2=.free→True):∀ (names:List (Str×NameKind)) (acc:List (Str×Addr)),(∀ x∈names,x.2=.free→∃ c,env.cells.lookup x.1=some c)→(∀ x c,acc.lookup x=some c→env.cells.lookup x=some c) →
  ∀ x c,(names.foldl (fun cs x=>gH env x cs) acc).lookup x=some c→env.cells.lookup x=some c
 |[],acc,_,ha,x,c,h=>ha x c h
 |y::r,acc,hf,ha,x,c,h=>by
  refine EZ env hh r (gH env y acc) (fun z hz=>hf z (List.mem_cons_of_mem _ hz)) (fun z d hd=>?_) x c h
  unfold gH at hd
  split at hd
  ·rename_i hk
   obtain ⟨a,e⟩:=hf y List.mem_cons_self (by simpa using hk)
   by_cases q:z=y.1
   ·subst q
    simp [e] at hd
    rw [e,hd]
   ·have q':(z==y.1)=false:=by simpa using q
    rw [List.lookup_cons,q'] at hd
    exact ha z d hd
  ·exact ha z d hd
theorem E1 (env:Env):∀ (names:List (Str×NameKind)) (acc:List (Str×Addr)) (x:Str),((∃ c,acc.lookup x=some c)∨(x,NameKind.free)∈names)→∃ c,(names.foldl (fun cs x=>gH env x cs) acc).lookup x=some c
  |[],acc,x,h=>by
    rcases h with h|h
    · exact h
    · exact nomatch h
  |y::r,acc,x,h=>by
    refine E1 env r (gH env y acc) x ?_
    by_cases hk:(y.2==NameKind.free)=true
    · by_cases q:x=y.1
      · refine .inl ⟨(env.cells.lookup y.1).getD 0,?_⟩
        unfold gH
        rw [if_pos hk,q]
        simp
      · have q':(x==y.1)=false:=by simpa using q
        rcases h with ⟨c,h⟩|h
        · refine .inl ⟨c,?_⟩
          unfold gH
          rw [if_pos hk,List.lookup_cons,q']
          exact h
        · rcases List.mem_cons.mp h with e|e
          · exact absurd (congrArg (·.1) e) q
          · exact .inr e
    · rcases h with ⟨c,h⟩|h
      · refine .inl ⟨c,?_⟩
        unfold gH
        rw [if_neg hk]
        exact h
      · rcases List.mem_cons.mp h with e|e
        · refine absurd ?_ hk
          rw [←e]
          rfl
        · exact .inr e
theorem tD {env:Env}{x:Str}{k:NameKind}:∀ {names:List (Str×NameKind)},(names.map fun (n,k)=>if (k==NameKind.free&&env.scope.kind==.function&&env.kindOf n==some .cell) then (n,NameKind.cell) else (n,k)).lookup x=some k →
    names.lookup x=some k∨(k=.cell∧names.lookup x=some .free)
  |[],h=>by simp at h
  | (n,j)::r,h=>by
    have ih:=@tD env x k r
    rw [List.map_cons] at h
    cases hx:x==n with
    |true =>
      by_cases hc:(j==NameKind.free&&env.scope.kind==.function&&env.kindOf n==some .cell)=true
      · simp only [hc,if_true] at h
        rw [List.lookup_cons,hx] at h
        have e:NameKind.cell=k:=Option.some.inj h
        refine .inr ⟨e.symm,?_⟩
        rw [List.lookup_cons,hx]
        simp only [Bool.and_eq_true] at hc
        have ej:j=.free:=by simpa using hc.1.1
        rw [ej]
      · simp only [hc,Bool.false_eq_true,if_false] at h
        rw [List.lookup_cons,hx] at h
        exact .inl (by rw [List.lookup_cons,hx];exact h)
    |false =>
      have h':(r.map fun (n,k)=>if (k==NameKind.free&&env.scope.kind==.function&&env.kindOf n==some .cell) then (n,NameKind.cell) else (n,k)).lookup x=some k:=by
        by_cases hc:(j==NameKind.free&&env.scope.kind==.function&&env.kindOf n==some .cell)=true
        · simp only [hc,if_true] at h
          rw [List.lookup_cons,hx] at h
          exact h
        · simp only [hc,Bool.false_eq_true,if_false] at h
          rw [List.lookup_cons,hx] at h
          exact h
      rw [List.lookup_cons,hx]
      exact ih h'
noncomputable def Cx.cv (X:Cx) (N:List Str) (sc:Scope) (C:Addr) (s₂:Shared) (H₂:Hp) (fp:List Addr) (pn:List (Addr×Obj)):Cx where
 prog:=X.prog
 w:=X.w
 K:=X.K
 mg:=X.mg
 base:=X.base
 A:=X.A
 N:=N
 s₀:=s₂
 H₀:=H₂
 env:=compEnvC sc (lT sc X.env) C X.env
 outer:=X.stack
 stack:=X.stack
 ex:=fp
 fn:=fun _=>false
 calm:=X.calm
 pn:=pn
 xe:=fun _ _=>False
def mD (X:Cx) (ifs:List Expr) (t:TT):Prop :=
 ∀ (pins:List (Addr×Obj)) (s:Shared) (σ:St) (H:Hp) (Q:Bool→Hp→Prop),Inv X pins σ H s→t σ H Q →
  wpAny (model X.prog X.w) X.A (forIn ifs true fun c r=>if r=true then do let ok ←isTrue c X.env (eval c X.env);pure (ForInStep.yield ok) else pure (ForInStep.yield r)) (TP X pins σ Q) X.xe s
noncomputable def vd:TT:=fun _ H Q=>Q true H
theorem uf {X:Cx}:mD X [] vd:=fun _ _ _ H _ I h=>wpAny_tests_nil ⟨H,I,h⟩
theorem DY {X:Cx}{c:Expr}{t:TT} (h:PT X c t):mD X [c] t:=fun pins s σ H Q I hq=>wpAny_tests_one (h pins s σ H Q I hq)
noncomputable def eV (σ:St) (ix:List Nat):St:=ix.map fun i=>(σ[i]?).getD none
def yM (J:It) (D:Addr) (H1:Hp) (fr:St) (tc:TT) (te:TE) (Q:Addr→Hp→Prop):Prop :=
 ∃ W:Nat→Nat→Hp→Prop,(∃ m,W 0 m (upd H1 D (.lst [])))∧∀ i m H,W i m H→(J.stop i H∧Q D H) ∨
  (J.go i H∧∀ x H',J.iF i H x H'→tc (some x::fr) H' fun b H3=>if b=true then te (some x::fr) H3 fun y H4=>∃ ys,H4 D=some (.lst ys)∧ys.length < sizeLine∧∃ m',m' < m∧W (i+1) m' (upd H4 D (.lst (ys++[y])))
   else ∃ m',m' < m∧W (i+1) m' H3)
noncomputable def nR (wi:TI) (ix:List Nat) (tc:TT) (te:TE):TE:=fun σ H Q=>wi σ H fun J H1=>∀ D,H1 D=none→yM J D H1 (eV σ ix) tc te fun D H=>Q (.ref D) H
theorem Lj {prog:Program}{w:World}{A:Around}{s:Shared}{R:Result→Shared→Prop}{elt target iter:Expr}{ifs:List Expr}{scope:Scope}{pos:Pos}{it acc:Value}{env:Env} (I:Nat→Shared→Prop)
  (turn:∀ n s,I n s→wpAny (model prog w) A (pyNext it) (fun r s₁=>match r with
   |none=>R (.ok .next) s₁
   |some v=>wpAny (model prog w) A (letOwnedTupleGo target it v) (fun _ s₂=>wpAny (model prog w) A (assign target env v) (fun _ s₃ =>
    wpAny (model prog w) A (forIn ifs true fun c r=>if r=true then do let ok ←isTrue c env (eval c env);pure (ForInStep.yield ok) else pure (ForInStep.yield r)) (fun ok s₄ =>
     if ok=true then wpAny (model prog w) A (eval elt env) (fun x s₅ =>
      wpAny (model prog w) A (call (.builtin "list.append") [acc,x]) (fun _ s₆=>∃ m,m < n∧I m s₆) (notedBy (model prog w) A env fun e s'=>R (.error e) s') s₅) (notedBy (model prog w) A env fun e s'=>R (.error e) s') s₄
     else ∃ m,m < n∧I m s₄) (notedBy (model prog w) A env fun e s'=>R (.error e) s') s₃) (notedBy (model prog w) A env fun e s'=>R (.error e) s') s₂) (notedBy (model prog w) A env fun e s'=>R (.error e) s') s₁) (notedBy (model prog w) A env fun e s'=>R (.error e) s') s)
  (n:Nat) (h:I n s) :
  codeAny (model prog w) A (.compLoop (.ListComp elt [⟨target,iter,ifs,0⟩] scope pos) 0 it acc env) R s:=by
 refine codeAny_loop rfl I (fun n s hI=>?_) n h
 show wpAny _ A ((compTurn (.ListComp elt [⟨target,iter,ifs,0⟩] scope pos) 0 it acc env).onRaise (fun x=>do noteFrame x env;theTreesLotGoes x)) _ _ s
 refine wpAny_noted ?_
 rw [compTurn_list]
 refine wpAny_bind (wpAny_standAt (wpAny_bind (wpAny_mono (turn n s hI) (fun r s₁ h₁=>?_) fun _ _ h'=>h')))
 cases r with
 |none=>exact wpAny_pure h₁
 |some v =>
  refine wpAny_bind (wpAny_mono h₁ (fun _ s₂ h₂=>?_) fun _ _ h'=>h')
  refine wpAny_bind (wpAny_mono h₂ (fun _ s₃ h₃=>wpAny_bind (wpAny_mono h₃ (fun ok s₄ h₄=>?_) fun _ _ h'=>h')) fun _ _ h'=>h')
  cases ok with
  |false=>exact wpAny_pure ⟨rfl,h₄⟩
  |true =>
   exact wpAny_bind (wpAny_bind (wpAny_mono h₄ (fun x s₅ h₅=>wpAny_bind (wpAny_mono h₅ (fun _ s₆ h₆=>wpAny_pure (wpAny_pure ⟨rfl,h₆⟩)) fun _ _ h'=>h')) fun _ _ h'=>h'))
structure lG (N N':List Str) (sc aB:Scope) (x:Str) (ix:List Nat):Prop where
 kind:aB.kind=.function
 E2:∀ y∈aB.names,y.2≠.cell
 names:∀ y∈aB.names,y.2=.local→aB.names.lookup y.1=some .local
 loc:aB.names.lookup x=some .local
 free:∀ y∈aB.names,y.2=.free→sc.names.lookup y.1=some .cell
 nd:N'.Nodup
 hd:N'[0]?=some x
 len:N'.length=ix.length+1
 fr:∀ p∈ix.zip N'.tail,N[p.1]?=some p.2∧sc.names.lookup p.2=some .cell∧aB.names.lookup p.2=some .free
section
variable {X:Cx}{N':List Str}{aB:Scope}{x:Str}{ix:List Nat}{px pos:Pos}{elt iter:Expr}{ifs:List Expr}{wi:TI}{tc:TT}{te:TE}
theorem B5 {pins:List (Addr×Obj)}{σ:St}{H2:Hp}{s2:Shared}{it:Addr}{fp:List Addr}{tn:Nat→Heap→Prop}{J:It}{RR:Value→Addr→Result→Shared→Prop}{E:Value→Shared→Prop}{Qd:Addr→Hp→Prop}
  (ok:lG X.N N' X.env.scope aB x ix) (hc:X.calm=true) (I2:Inv X pins σ H2 s2) (T:Turn X.prog X.w X.K (.Name x px) J fp it tn) (bq:tn 0 s2.heap) (f2:∀ b∈fp,i3 X pins H2 b)
  (gY:∀ C s₂ H₂ fp pn,mD (X.cv N' aB C s₂ H₂ fp pn) ifs tc) (fZ:∀ C s₂ H₂ fp pn,PE (X.cv N' aB C s₂ H₂ fp pn) elt te)
  (hW:∀ D,H2 D=none→yM J D H2 (eV σ ix) tc te Qd)
  (XD:∀ D C s4 H4 m,Inv X pins σ H4 s4→s4.heap.Ns C m→(∀ (h':Heap) (t':Nat) (σ':St) (s5:Shared),Inv X pins σ' H4 s5→Heap.SameBut C s5.heap h'→Inv X pins σ' H4 { s5 with heap:=h',toks:=t' })→C≠X.env.locals→(∀ y c,X.env.cells.lookup y=some c→c≠C)→Qd D H4→RR (.ref D) C (.ok .next) s4) :
  wpAny (model X.prog X.w) X.A (newList []) (fun acc s₃=>wpAny (model X.prog X.w) X.A (newFunctionEnv aB X.env.globals (lT aB X.env) [] X.env.qual none .none (some X.env)) (fun GW s₄ =>
   codeAny (model X.prog X.w) X.A (.compStart (.ListComp elt [⟨.Name x px,iter,ifs,0⟩] aB pos) 0 (.ref it) acc { GW with scope:=relabel aB X.env }) (RR acc GW.locals) s₄) E s₃) E s2:=by
 refine wpAny_newObj_type (wpAny_newFunctionEnv ok.E2 (by intro y hy;simp at hy) (fun h₁ hns₁ hsb₁=>?_) ok.kind)
 dsimp only at hns₁ hsb₁ ⊢
 generalize Ad:s2.heap.push { cls:=.type "list",dict:=none,data:=.seq ([]:List Value).toArray }=HP at hns₁ hsb₁ ⊢
 have hC:HP.objs.size=s2.heap.objs.size+1:=by rw [←Ad,Heap.size_push]
 have vI:s2.heap.objs.size≠HP.objs.size:=by rw [hC];exact Nat.ne_of_lt (Nat.lt_succ_self _)
 have qE:s2.heap.objs.size≤HP.objs.size:=by rw [hC];exact Nat.le_succ _
 have below:∀ b,b < s2.heap.objs.size→b≠HP.objs.size∧b≠s2.heap.objs.size:=fun b hb=>⟨by rw [hC];exact Nat.ne_of_lt (Nat.lt_succ_of_lt hb),Nat.ne_of_lt hb⟩
 have old:∀ b o,s2.heap.get? b=some o→h₁.get? b=some o:=fun b o e=>hsb₁.extBut b o (below b (Heap.lt_size e)).1 (Heap.get?_push_of_some _ (Ad▸Heap.get?_push_of_some _ e))
 have n8:h₁.get? s2.heap.objs.size=some { cls:=.type "list",dict:=none,data:=.seq ([]:List Value).toArray }:=hsb₁.extBut _ _ vI (Heap.get?_push_of_some _ (Ad▸Heap.get?_push_size _ rfl))
 have Ae:H2 s2.heap.objs.size=none:=I2.aE.fresh (Nat.le_refl _)
 have Iq:H2 HP.objs.size=none:=I2.aE.fresh qE
 generalize hD:s2.heap.objs.size=D at vI n8 Ae ⊢
 generalize hCC:HP.objs.size=C at hns₁ hsb₁ vI Iq qE below ⊢
 have uG:∀ y∈aB.names,y.2=.free→∃ c,X.env.cells.lookup y.1=some c:=fun y hy e=>I2.ok.has y.1 (.inl (ok.free y hy e))
 have k7:∀ y c,(lT aB X.env).lookup y=some c→X.env.cells.lookup y=some c:=EZ X.env (fun _ _=>trivial) aB.names [] uG (fun _ _ z=>by simp at z)
 have Ir:∀ y,(y,NameKind.free)∈aB.names→∃ c,(lT aB X.env).lookup y=some c:=fun y hy=>E1 X.env aB.names [] y (.inr hy)
 have E3:∀ y c,X.env.cells.lookup y=some c→c < s2.heap.objs.size:=fun y c e=>by
  obtain ⟨v,o,ho,_⟩:=I2.cell y c e
  exact Heap.lt_size ho
 have zl:∀ b∈fp,b < s2.heap.objs.size:=fun b hb=>by
  obtain ⟨o,e,_⟩:=T.obj 0 _ bq b hb
  exact Heap.lt_size e
 have zm:∀ b,b≠X.env.locals→b∉X.fs→b∉gW X.stack:=fun b h1 h2 z=>(List.mem_cons.mp (I2.yg b z)).elim h1 h2
 have XE:(X.cv N' aB C s2 H2 fp (X.pn++pins)).Ok:=by
  refine ⟨I2.ok.mod,ok.kind,I2.ok.glob,I2.ok.blt,qE,fun y z c h1 h2=>?_,fun y hy=>?_,fun y c z=>?_,I2.ok.hd,I2.ok.frames,.inl rfl,fun b hb=>?_,I2.bs,Nat.le_trans I2.ok.jU I2.sz,fun b o e hb=>?_,fun b hb=>?_,I2.stack,I2.DJ⟩
  ·exact I2.ok.inj y z c (k7 y c h1) (k7 z c h2)
  ·have z9:(relabel aB X.env).names.lookup y=some .cell∨(relabel aB X.env).names.lookup y=some .free:=hy
   have hf:aB.names.lookup y=some .free:=by
    rcases z9 with z|z
    ·rcases tD z with q|q
     ·exact absurd rfl (ok.E2 _ (PySem.mem_of_lookup q))
     ·exact q.2
    ·rcases tD z with q|q
     ·exact q
     ·exact absurd q.1 (by decide)
   exact Ir y (PySem.mem_of_lookup hf)
  ·exact nomatch z
  ·exact ⟨(below b (zl b hb)).1,fun y c e=>(f2 b hb).2.2.2.2.1 y c (k7 y c e)⟩
  ·rcases (f2 b hb).2.2.2.1 with z|z
   ·exact I2.ok.qA b o e z
   ·exact absurd (Nat.lt_of_lt_of_le (Heap.lt_size e) (Nat.le_trans I2.ok.jU z)) (Nat.lt_irrefl _)
  ·exact zm b (f2 b hb).2.1 (f2 b hb).2.2.1
 have Af:∀ {H':Hp},(∀ b∈fp,H' b=none)→∀ b∈fp,i3 (X.cv N' aB C s2 H2 fp (X.pn++pins)) [] H' b:=fun hn b hb =>
  ⟨hn b hb,(below b (zl b hb)).1,zm b (f2 b hb).2.1 (f2 b hb).2.2.1,.inl hb,fun y c e=>(f2 b hb).2.2.2.2.1 y c (k7 y c e),fun p hp=>(f2 b hb).2.2.2.2.2 p (by simpa using (show p∈(X.pn++pins)++[] from hp))⟩
 obtain ⟨mL,hmL,UZ⟩:=id I2.loc
 have IB:Inv (X.cv N' aB C s2 H2 fp (X.pn++pins)) [] (none::eV σ ix) (upd H2 D (.lst [])) { s2 with heap:=h₁,toks:=s2.toks+([]:List (Str×Value)).length }:=by
  refine ⟨XE,rfl,I2.bare,Un.laid old (Nat.le_of_eq hD) Ae,⟨_,hns₁,fun i y v h1 h2 h3=>?_⟩,fun y c e=>?_,?_,fun y c e=>?_,fun p hp=>?_,I2.aE.laid old (Nat.le_of_eq hD) ⟨Nat.zero_le _,[],_,.nil,n8⟩,?_⟩
  ·cases i with
   |zero=>exact nomatch h2
   |succ j =>
    have oI:(eV σ ix)[j]?=some (some v):=h2
    have XF:N'[j+1]?=some y:=h1
    unfold eV at oI
    rw [List.getElem?_map] at oI
    cases ei:ix[j]? with
    |none=>rw [ei] at oI;cases oI
    |some i =>
     rw [ei] at oI
     have ve:(σ[i]?).getD none=some v:=Option.some.inj oI
     have hσ:σ[i]?=some (some v):=by
      cases es:σ[i]? with
      |none=>rw [es] at ve;cases ve
      |some q=>rw [es] at ve;exact congrArg some ve
     have WU:N'.tail[j]?=some y:=by rw [List.getElem?_tail];exact XF
     obtain ⟨n1,n2,n3⟩:=ok.fr (i,y) (List.mem_of_getElem? (i:=j) (by rw [List.getElem?_zip_eq_some];exact ⟨ei,WU⟩))
     obtain ⟨u,ru,lk⟩:=UZ i y v n1 hσ (.inr (.inl n2))
     refine ⟨u,ru,?_⟩
     rcases lk with ⟨k,_⟩|⟨_,c,ec,z⟩
     ·have k':X.env.scope.names.lookup y=some .local:=k
      rw [n2] at k'
      cases k'
     ·obtain ⟨c',Iu⟩:=Ir y (PySem.mem_of_lookup n3)
      have e3:=k7 y c' Iu
      rw [ec] at e3
      cases e3
      have kk:(relabel aB X.env).names.lookup y=some .cell∨(relabel aB X.env).names.lookup y=some .free:=by
       rcases h3 with q|q|q
       ·have q':(relabel aB X.env).names.lookup y=some .local:=q
        rcases tD q' with r|r
        ·rw [n3] at r;cases r
        ·exact absurd r.1 (by decide)
       ·exact .inl q
       ·exact .inr q
      exact .inr ⟨kk,c,Iu,z.keeps old⟩
  ·obtain ⟨v,z⟩:=I2.cell y c (k7 y c e)
   exact ⟨v,z.keeps old⟩
  ·show upd H2 D (.lst []) C=none
   rw [aH (Ne.symm vI)]
   exact Iq
  ·show upd H2 D (.lst []) c=none
   have l:=E3 y c (k7 y c e)
   rw [aH (fun q=>by rw [q,←hD] at l;exact Nat.lt_irrefl _ l)]
   exact I2.gn y c (k7 y c e)
  ·have XG:p∈X.pn++pins:=by simpa using (show p∈(X.pn++pins)++[] from hp)
   obtain ⟨e,n,ne,nf,d⟩:=I2.pin p XG
   have l:=Heap.lt_size e
   refine ⟨old _ _ e,?_,(below p.1 l).1,zm p.1 ne nf,d⟩
   rw [aH (fun q=>by rw [q,←hD] at l;exact Nat.lt_irrefl _ l)]
   exact n
  ·show (none::eV σ ix:St).length=N'.length
   rw [ok.len]
   simp [eV]
 have back:∀ {H4:Hp}{s4:Shared}{σ4:St}{ps:List (Addr×Obj)},Inv (X.cv N' aB C s2 H2 fp (X.pn++pins)) ps σ4 H4 s4→Inv X pins σ H4 s4:=fun I4 =>
  I2.UD I4.os I4.base I4.aE I4.bare fun b hb=>⟨(f2 b hb).2.2.2.1,(f2 b hb).2.1,(f2 b hb).2.2.2.2.1,(f2 b hb).2.2.2.2.2⟩
 have mv:C≠X.env.locals:=fun z=>by
  have l:=I2.lt
  rw [←z] at l
  exact absurd (Nat.lt_of_lt_of_le l qE) (Nat.lt_irrefl _)
 have jW:∀ y c,X.env.cells.lookup y=some c→c≠C:=fun y c e=>(below c (E3 y c e)).1
 have XH:∀ p∈X.pn++pins,p.1≠C:=fun p hp=>(below p.1 (Heap.lt_size (I2.pin p hp).1)).1
 have loop:∀ s₃:Shared,s₃={ s2 with heap:=h₁,toks:=s2.toks+([]:List (Str×Value)).length } →
   codeAny (model X.prog X.w) X.A (.compLoop (.ListComp elt [⟨.Name x px,iter,ifs,0⟩] aB pos) 0 (.ref it) (.ref D) (compEnvC aB (lT aB X.env) C X.env)) (RR (.ref D) C) s₃:=by
  rintro s₃ rfl
  obtain ⟨W,⟨m0,XI⟩,turn⟩:=hW D Ae
  refine Lj (fun n s'=>∃ i H',Inv (X.cv N' aB C s2 H2 fp (X.pn++pins)) [] (none::eV σ ix) H' s'∧tn i s'.heap∧(∀ b∈fp,H' b=none)∧W i n H') ?_ m0
   ⟨0,_,IB,T.keep _ _ _ bq fun b _ o e=>old b o e,fun b hb=>?_,XI⟩
  ·rintro n s3 ⟨i,H3,I3,bw,qY,w3⟩
   rcases turn i n H3 w3 with ⟨stop,qn⟩|⟨go,step⟩
   ·refine aF (T.done (X.cv N' aB C s2 H2 fp (X.pn++pins)) rfl rfl rfl hc i [] s3 _ H3 _ I3 (Af qY) bw stop) fun r s4 ⟨hr,I4⟩=>?_
    subst hr
    obtain ⟨m4,XJ,_⟩:=id I4.loc
    refine XD D C s4 H3 m4 (back I4) XJ (fun h' t' σ' s5 I5 sb=>I5.turned (it:=C) (fun b o hb e=>(sb.2 b hb).trans e) I4.free mv (.inr (Nat.le_trans I2.sz qE)) jW XH) mv jW qn
   ·refine aF (T.item (X.cv N' aB C s2 H2 fp (X.pn++pins)) rfl rfl rfl hc i [] s3 _ H3 _ I3 (Af qY) bw go) fun r s4 ⟨u,hr,h4⟩=>?_
    subst hr
    refine aF h4 fun _ s5 ⟨v,H5,I5,r5,y5,dQ,zX⟩=>?_
    have zY:=I5.pinned (Af zX) (T.obj _ _ dQ)
    have Iw:(compEnvC aB (lT aB X.env) C X.env).scope.names.lookup x=some .local:=lookup_relabel_local ok.loc
    have fin:∀ {H7:Hp}{s7:Shared},Inv (X.cv N' aB C s2 H2 fp (X.pn++pins)) ([]++qc fp s5.heap) (some v::eV σ ix) H7 s7→∀ {m':Nat},m' < n→W (i+1) m' H7 →
      ∃ m,m < n∧∃ i H',Inv (X.cv N' aB C s2 H2 fp (X.pn++pins)) [] (none::eV σ ix) H' s7∧tn i s7.heap∧(∀ b∈fp,H' b=none)∧W i m H':=fun {H7 s7} I7 {m'} hm w7=>by
     refine ⟨m',hm,i+1,H7,I7.tU.weak rfl (fun j q e=>?_),T.keep _ _ _ dQ fun b hb o e=>(I7.pin (b,o) (List.mem_append_right _ (List.mem_append_right _ (tO hb e)))).1,fun b hb=>?_,w7⟩
     ·cases j with
      |zero=>exact nomatch e
      |succ j=>exact e
     ·obtain ⟨o,e,d⟩:=T.obj _ _ dQ b hb
      exact (I7.pin (b,o) (List.mem_append_right _ (List.mem_append_right _ (tO hb e)))).2.1
    refine wpAny_mono (DL (X:=X.cv N' aB C s2 H2 fp (X.pn++pins)) (i:=0) ok.nd ok.hd (.inl Iw) (.inr Iw) _ s5 _ H5 v u (fun σ' H'=>σ'=some v::eV σ ix∧H'=H5) zY r5 ⟨rfl,rfl⟩) (fun _ s6 ⟨σ6,H6,I6,e1,e2⟩=>?_) fun _ _ z=>z.elim
    subst e1 e2
    refine wpAny_mono (gY C s2 H2 fp (X.pn++pins) _ s6 _ _ _ I6 (step v _ y5)) (fun b s7 ⟨H7,I7,q7⟩=>?_) fun _ _ z=>z.elim
    cases b with
    |false =>
     rw [if_neg Bool.false_ne_true] at q7 ⊢
     obtain ⟨m',hm,w7⟩:=q7
     exact fin I7 hm w7
    |true =>
     rw [if_pos rfl] at q7 ⊢
     refine wpAny_mono (fZ C s2 H2 fp (X.pn++pins) _ s7 _ _ _ I7 q7) (fun uy s8 ⟨y,H8,I8,r8,ys,mE,hl,m',hm,w8⟩=>?_) fun _ _ z=>z.elim
     refine wpAny_mono (CB (X:=X.cv N' aB C s2 H2 fp (X.pn++pins)) _ s8 _ H8 (.ref D) [y] (.ref D) [uy] (fun _ H'=>H'=upd H8 D (.lst (ys++[y]))) I8 rfl (.cons r8 .nil) ⟨D,ys,y,rfl,rfl,mE,hl,rfl⟩) (fun _ s9 ⟨z,H9,I9,_,q9⟩=>?_) fun _ _ z=>z.elim
     subst q9
     exact fin I9 hm w8
  ·show upd H2 D (.lst []) b=none
   have l:=zl b hb
   rw [aH (fun q=>by rw [q,←hD] at l;exact Nat.lt_irrefl _ l)]
   exact (f2 b hb).1
 exact codeAny_compStart_list (loop _ rfl) (T.self X.A 0 _ _ _ (T.keep _ _ _ bq fun b _ o e=>old b o e) (loop _ rfl))
theorem ug (ok:lG X.N N' X.env.scope aB x ix) (hc:X.calm=true) (hi:PI X (.Name x px) iter wi) (gY:∀ C s₂ H₂ fp pn,mD (X.cv N' aB C s₂ H₂ fp pn) ifs tc) (fZ:∀ C s₂ H₂ fp pn,PE (X.cv N' aB C s₂ H₂ fp pn) elt te)
  (hs:∀ x,foldedSetIterable iter X.env x=pure x:=by intro _;rfl):PE X (.ListComp elt [⟨.Name x px,iter,ifs,0⟩] aB pos) (nR wi ix tc te):=by
 intro pins s σ H Q I h
 rw [eval_ListComp]
 refine wpAny_comprehension_free (use:=none) rfl hs (BF fun y hy e=>I.ok.has y.1 (.inl (ok.free y hy e))) ok.kind ok.names (aF (hi pins s σ H _ I h) fun v s1 h1=>aF h1 fun vA s2 h2=>?_)
 obtain ⟨it,fp,tn,J,H2,e,I2,T,bq,f2,hW⟩:=h2
 subst e
 refine B5 (RR:=fun acc C=>compPost (model X.prog X.w) X.A X.xe none (EP X pins σ Q) acc C) (Qd:=fun D H=>Q (.ref D) H) ok hc I2 T bq f2 gY fZ hW ?_
 intro D C s4 H4 m I4 oG tr _ _ q
 exact ⟨m,oG,fun h' sb=>⟨.ref D,H4,tr h' s4.toks σ s4 I4 sb,rfl,q⟩⟩
theorem LR {i:Nat}{y:Str}{py qF:Pos} (hN:X.N.Nodup) (Ag:X.N[i]?=some y) (hy:X.env.scope.names.lookup y=some .local) (ok:lG X.N N' X.env.scope aB x ix) (hc:X.calm=true) (hi:PI X (.Name x px) iter wi) (gY:∀ C s₂ H₂ fp pn,mD (X.cv N' aB C s₂ H₂ fp pn) ifs tc)
  (fZ:∀ C s₂ H₂ fp pn,PE (X.cv N' aB C s₂ H₂ fp pn) elt te) (Ah:swapsWith (.ListComp elt [⟨.Name x px,iter,ifs,0⟩] aB pos) (some (.Name y py)) qF.line X.env=pure true:=by rfl)
  (hs:∀ x,foldedSetIterable iter X.env x=pure x:=by intro _;rfl):PS X (.Assign [.Name y py] (.ListComp elt [⟨.Name x px,iter,ifs,0⟩] aB pos) qF) (gQ (nR wi ix tc te) (iT i)):=by
 intro pins s σ H D I h
 rw [exec_Assign_Name_used _ _ _ _ Ah]
 refine wpAny_bind (wpAny_standAt (wpAny_bind ?_))
 show wpAny _ X.A (do let _ ←comprehension (.ListComp elt [⟨.Name x px,iter,ifs,0⟩] aB pos) aB X.env _ (newList []) false (eval iter X.env) (some (assign (.Name y py) X.env))) _ _ s
 refine wpAny_bind (wpAny_mono (wpAny_comprehension_free (use:=some (assign (.Name y py) X.env)) (Q:=fun _ s'=>SP X pins D .next s') rfl hs (BF fun y hy e=>I.ok.has y.1 (.inl (ok.free y hy e))) ok.kind ok.names
  (aF (hi pins s σ H _ I h) fun v s1 h1=>aF h1 fun vA s2 h2=>?_)) (fun _ s' hq=>wpAny_pure (wpAny_pure hq)) fun _ _ e=>e)
 obtain ⟨it,fp,tn,J,H2,e,I2,T,bq,f2,hW⟩:=h2
 subst e
 refine B5 (RR:=fun acc C=>compPost (model X.prog X.w) X.A X.xe (some (assign (.Name y py) X.env)) (fun _ s'=>SP X pins D .next s') acc C) (Qd:=fun B H=>D.nx (σ.set i (some (.ref B))) H) ok hc I2 T bq f2 gY fZ hW ?_
 intro B C s4 H4 m I4 oG tr mv jW q
 show wpAny _ X.A (assign (.Name y py) X.env (.ref B)) _ _ s4
 refine wpAny_assign_Name (Cu I4 hN Ag (.inl hy) (show RelV (.ref B) (.ref B) from rfl) (fun s5 I5 ⟨a,sb,ha⟩=>?_) (.inr hy))
 have XM:C≠a:=by
  rcases ha with e|e
  ·rw [e];exact mv
  ·exact Ne.symm (jW y a e)
 exact ⟨m,oG.sameBut sb XM,fun h' XO=>⟨_,H4,tr h' s5.toks _ s5 I5 XO,q⟩⟩
end
def gK (h:Heap) (d:Addr) (es:Array DictEntry) (ep:Nat):Prop:=∃ o,h.get? d=some o∧o.ExactDict∧o.data=.dict es ep
theorem gK.ty {s:Shared}{d:Addr}{es:Array DictEntry}{ep:Nat} (x:gK s.heap d es ep):s.TypeIs (.ref d) "dict" := let ⟨o,ho,hc,_⟩:=x;⟨o,ho,hc.1⟩
theorem gK.at {h h':Heap}{d:Addr}{es:Array DictEntry}{ep:Nat} (x:gK h d es ep) (e:∀ o,h.get? d=some o→h'.get? d=some o):gK h' d es ep:=let ⟨o,ho,r⟩:=x;⟨o,e _ ho,r⟩
theorem gK.lt {h:Heap}{d:Addr}{es:Array DictEntry}{ep:Nat} (x:gK h d es ep):d < h.objs.size:=let ⟨_,ho,_⟩:=x;Heap.lt_size ho
section
variable {prog:Program}{w:World}{A:Around}{E:Value→Shared→Prop}{s:Shared}{d it:Addr}{es:Array DictEntry}{i ep:Nat}
theorem LV {Q:Value→Shared→Prop} (hd:(d==sysModules)=false) (hm:gK s.heap d es ep)
  (hQ:Q (.ref s.heap.objs.size) { s with heap:=s.heap.push { cls:=.type "dict_keyiterator",data:=.fields #[.ref d,.int 0 0,.int es.size 0,.int ep 0] } }):wpAny (model prog w) A (pyIter (.ref d)) Q E s:=by
 obtain ⟨o,ho,hc,jM⟩:=id hm
 have hT:=hm.ty
 refine wpAny_pyIter_slot hT F.slot_dict_iter (wpAny_call_entry F.slot_dict_iter hT F.entry_dict_iter ?_ (F.args_dict_iter_1 _));unfold Builtin.«dict.__iter__»
 refine wpAny_bind ?_;unfold Builtin.Dict.dictSlotNone;refine wpAny_bind (wpAny_notOrdered_dict hT ?_)
 show wpAny _ _ (pure (Value.ref d)) _ _ s;refine wpAny_pure ?_
 show wpAny _ _ (Builtin.Dict.showsAll d >>= _) _ _ s;unfold Builtin.Dict.showsAll
 rw [if_neg (by rw [hd];exact Bool.false_ne_true)];refine wpAny_bind (wpAny_pure ?_)
 refine wpAny_bind (wpAny_dictEntries ho jM ?_);refine wpAny_bind (wpAny_dictEpoch ho jM ?_)
 refine wpAny_bind (wpAny_newObj_type (wpAny_pure ⟨_,rfl, "dict_keyiterator",_,⟨_,Heap.get?_push_size _ rfl,rfl⟩,F.slot_dict_keyiterator_next.lookup,?_⟩));simpa [rawInt] using hQ
theorem LW {e:DictEntry}{Q:Option Value→Shared→Prop} (hit:s.heap.IsKeyIter it d i es.size ep) (hm:gK s.heap d es ep) (hx:es[i]?=some e)
  (hQ:∀ h',h'.IsKeyIter it d (i+1) es.size ep→Heap.SameBut it s.heap h'→Q (some e.key) { s with heap:=h' }):wpAny (model prog w) A (pyNext (.ref it)) Q E s:=by
 obtain ⟨o,ho,hc,hd⟩:=id hit;obtain ⟨od,k8,gA,k9⟩:=id hm
 unfold pyNext;refine wpAny_bind (wpAny_attempt (wpAny_callSpecial?_slot (name:=Str.ofString "__next__") hit.typeIs F.slot_dict_keyiterator_next (wpAny_call_entry F.slot_dict_keyiterator_next hit.typeIs F.entry_dict_keyiterator_next ?_ (F.args_dict_keyiterator_next_1 _))))
 refine wpAny_bind (wpAny_pure ?_);refine wpAny_bind ?_;refine wpAny_bind ?_
 (first|refine wpAny_bind (wpAny_typeNameOfWhole_keyiter hit.typeIs (wpAny_pure ?_))|refine wpAny_bind (wpAny_typeNameOf_keyiter hit.typeIs (wpAny_pure ?_)));refine wpAny_bind (wpAny_fieldsOf ho hd ?_)
 have zo:Builtin.Dict_items.ownsTuple "dict_keyiterator" = false:=by decide +kernel
 simp only [zo,Bool.false_eq_true,if_false];show wpAny _ _ (if (Value.ref d==Value.none)=true then _ else _) _ _ s
 rw [if_neg (show ¬ ((Value.ref d==Value.none)=true) from Bool.false_ne_true)];refine wpAny_bind (wpAny_pure ?_)
 refine wpAny_bind (wpAny_dictEntries k8 k9 ?_);rw [if_neg (by simp)];refine wpAny_bind (wpAny_pure ?_)
 refine wpAny_bind (wpAny_dictEpoch k8 k9 ?_);rw [if_neg (by simp)];refine wpAny_pure ?_
 have aS:i < es.size:=(Array.getElem?_eq_some_iff.mp hx).1
 have jm:es[i]=e:=(Array.getElem?_eq_some_iff.mp hx).2
 simp only [show ¬ ((i:Int) < 0) from by omega,if_false,Int.toNat_natCast,Array.getElem?_eq_getElem aS];refine wpAny_bind ?_
 (first|refine wpAny_bind (wpAny_typeNameOfWhole_keyiter hit.typeIs (wpAny_pure ?_))|refine wpAny_bind (wpAny_typeNameOf_keyiter hit.typeIs (wpAny_pure ?_)));refine wpAny_bind (wpAny_isOneOf_keyiter hit.typeIs ?_)
 show wpAny _ _ (setField (.ref it) 1 (rawInt ((i:Int)+1)) >>= _) _ _ s;refine wpAny_bind (wpAny_setField ho hd (by simp) ?_)
 have kM:(s.heap.update it (Obj.mapFields (·.setIfInBounds 1 (rawInt ((i:Int)+1))))).IsKeyIter it d (i+1) es.size ep:=⟨_,Heap.get?_update_self _ ho (Obj.isFreed_of_fields (Obj.data_mapFields hd _)),(Obj.cls_mapFields ..).trans hc,by rw [Obj.data_mapFields hd];simp [rawInt]⟩
 refine wpAny_bind (wpAny_holding ?_);refine wpAny_bind (wpAny_isOneOf_keyiter (s:={ s with heap:=s.heap.update it (Obj.mapFields (·.setIfInBounds 1 (rawInt ((i:Int)+1)))) }) kM.typeIs ?_)
 show wpAny _ _ (pure es[i].key) _ _ _;rw [jm]
 exact wpAny_pure (wpAny_pure ⟨_,rfl,wpAny_pure (hQ _ kM (Heap.SameBut.update ..))⟩)
theorem Mu {Q:Option Value→Shared→Prop} (hh:A.handled=none) (hit:s.heap.IsKeyIter it d i es.size ep) (hm:gK s.heap d es ep) (hx:es.size≤i)
  (hQ:∀ h',Heap.ExtBut it s.heap h'→Q none { s with heap:=h' }):wpAny (model prog w) A (pyNext (.ref it)) Q E s:=by
 obtain ⟨o,ho,hc,hd⟩:=id hit;obtain ⟨od,k8,gA,k9⟩:=id hm
 unfold pyNext;refine wpAny_bind (wpAny_attempt (wpAny_callSpecial?_slot (name:=Str.ofString "__next__") hit.typeIs F.slot_dict_keyiterator_next (wpAny_call_entry F.slot_dict_keyiterator_next hit.typeIs F.entry_dict_keyiterator_next ?_ (F.args_dict_keyiterator_next_1 _))))
 refine wpAny_bind (wpAny_pure ?_);refine wpAny_bind ?_;refine wpAny_bind ?_
 (first|refine wpAny_bind (wpAny_typeNameOfWhole_keyiter hit.typeIs (wpAny_pure ?_))|refine wpAny_bind (wpAny_typeNameOf_keyiter hit.typeIs (wpAny_pure ?_)));refine wpAny_bind (wpAny_fieldsOf ho hd ?_)
 have zo:Builtin.Dict_items.ownsTuple "dict_keyiterator" = false:=by decide +kernel
 simp only [zo,Bool.false_eq_true,if_false];show wpAny _ _ (if (Value.ref d==Value.none)=true then _ else _) _ _ s
 rw [if_neg (show ¬ ((Value.ref d==Value.none)=true) from Bool.false_ne_true)];refine wpAny_bind (wpAny_pure ?_)
 refine wpAny_bind (wpAny_dictEntries k8 k9 ?_);rw [if_neg (by simp)];refine wpAny_bind (wpAny_pure ?_)
 refine wpAny_bind (wpAny_dictEpoch k8 k9 ?_);rw [if_neg (by simp)];refine wpAny_pure ?_
 simp only [show ¬ ((i:Int) < 0) from by omega,if_false,Int.toNat_natCast,Array.getElem?_eq_none hx];refine wpAny_bind ?_
 (first|refine wpAny_bind (wpAny_typeNameOfWhole_keyiter hit.typeIs (wpAny_pure ?_))|refine wpAny_bind (wpAny_typeNameOf_keyiter hit.typeIs (wpAny_pure ?_)));show wpAny _ _ (setField (.ref it) 0 .none >>= _) _ _ s
 refine wpAny_bind (wpAny_setField ho hd (by simp) ?_);show wpAny _ _ (newExc (.type "StopIteration") [] >>= _) _ _ _
 refine wpAny_bind ?_;simp only [newExc,newTuple];refine wpAny_bind (wpAny_newObj_type ?_ (by size_fits))
 refine wpAny_bind (m:=firstArgMember _ _) (wpAny_of_eq (a:=Value.none) (by first|rfl | (simp only [firstArgMember];rfl)) ?_);refine wpAny_newObj_type ?_ (by size_fits)
 simp only [raiseNew];refine wpAny_bind (wpAny_handled ?_);rw [show A.in1.handled=none from hh]
 refine wpAny_bind (wpAny_pure (wpAny_throw ?_));refine wpAny_bind (wpAny_isInstance (T := "StopIteration") (b:=true) ⟨_,Heap.get?_push_size _ rfl,rfl⟩ isSubtype_stop ?_)
 exact wpAny_pure (hQ _ (((Heap.SameBut.update ..).extBut.push _).push _))
theorem Lk (hh:A.handled=none) (I d:Addr) (eO:d≠I) (es:Array DictEntry) (ep:Nat) :
  Walks prog w A I [I,d] [I] es.size (fun i v=>∃ e,es[i]?=some e∧v=e.key) (fun i h=>h.IsKeyIter I d i es.size ep∧gK h d es ep) where
 sub:=fun b hb=>by
  have e:b=I:=by simpa using hb
  rw [e];exact List.mem_cons_self
 frame:=fun _ _ _ st hk=>⟨st.1.at fun o e=>hk I List.mem_cons_self o e,st.2.at fun o e=>hk d (List.mem_cons_of_mem _ List.mem_cons_self) o e⟩
 item:=fun i s Q E hi st hQ=>LW st.1 st.2 (e:=es[i]) (by simp [hi]) fun h' kM oJ=>hQ _ h' s.toks ⟨es[i],by simp [hi],rfl⟩ ⟨kM,st.2.at fun o e=>oJ.extBut d o eO e⟩ fun b o hb e=>oJ.extBut b o (fun z=>hb (by rw [z];exact List.mem_cons_self)) e
 done:=fun s Q E st hQ=>Mu hh st.1 st.2 (Nat.le_refl _) fun h' XQ=>hQ h' s.toks fun b o hb e=>XQ b o (fun z=>hb (by rw [z];exact List.mem_cons_self)) e
 self:=fun _ _ _ _ st hQ=>wpAny_pyIter_keyiter st.1 hQ
theorem Mv (lo:(d==sysModules)=false):PySem.W.KdlSrc prog w "dict" d d es.size (fun i v=>∃ e,es[i]?=some e∧v=e.key) (fun h=>gK h d es ep) where
 type:=fun _ hm=>hm.ty
 there:=fun _ hm=>⟨hm.lt,hm.lt⟩
 keep:=fun _ _ hm hk=>hm.at fun o e=>hk d (.inl rfl) o e
 notList:=by decide +kernel
 notTuple:=by decide +kernel
 hint:=fun _ _ _ _ hm hq=>PySem.W.kdl_hint_dict hm.ty hq
 iter:=fun _ _ hh hm=>⟨_,_,(fun _ _ hq=>LV lo hm hq),Lk hh _ d (Nat.ne_of_lt hm.lt) es ep,⟨⟨_,Heap.get?_push_size _ rfl,rfl,rfl⟩,hm.at fun o e=>Heap.get?_push_of_some _ e⟩⟩
end
def qe (H:Hp):List (List Key)→List Addr→Prop:=Paired fun k b=>H b=some (.tup (k.map kV))
section
variable {X:Cx}
theorem Bp:∀ (bs:List Addr),Vals (bs.map V.ref) (bs.map Value.ref)
 |[]=>.nil
 |_::r=>.cons rfl (Bp r)
theorem DZ {H:Hp}:∀ {ai:List (List Key×V)}{xs:List (List Key×Addr×Value)},Paired (fun (p:List Key×V) (q:List Key×Addr×Value)=>p.1=q.1∧H q.2.1=some (.tup (p.1.map kV))∧RelV p.2 q.2.2) ai xs→qe H (ai.map (·.1)) (xs.map (·.2.1))
 |_,_,.nil=>.nil
 |_,_,.cons r t=>.cons r.2.1 (DZ t)
theorem Lb (hc:X.calm=true):gJ X (.type "list") (fun xs H Q=>∃ d ai,xs=[.ref d]∧H d=some (.dT ai)∧∀ l bs,H l=none→qe H (ai.map (·.1)) bs→Q (.ref l) (upd H l (.lst (bs.map V.ref)))):=by
 intro pins s σ H xs us Q I r h
 obtain ⟨d,ai,rfl,hd,q⟩:=h
 obtain ⟨u,rfl,rx⟩:=vals1 r
 cases rx
 obtain ⟨hz,XR,ys,rel,o,es,ep,ho,hex,jM,fZ,mF⟩:=(show b9 X.prog X.w H s.heap d (.dT ai) from I.aE d _ hd)
 have hlen:es.size=ai.length:=by
  have e1:es.toList.length=ys.length:=by rw [fZ,List.length_map]
  have e2:=Paired.length rel
  simpa [e2] using e1
 refine PySem.W.kdl_call (Mv (es:=es) (ep:=ep) XR) (I.ok.hd hc) ⟨o,ho,hex,jM⟩ (by rw [hlen];exact hz) fun h' tk n9 c' kp e n8=>?_
 have ka:=DZ rel
 have hv:n9.toList=(ys.map (·.2.1)).map Value.ref:=by
  refine List.ext_getElem? fun j=>?_
  rw [List.map_map,List.getElem?_map]
  cases ej:ys[j]? with
  |none =>
   have:ys.length≤j:=List.getElem?_eq_none_iff.mp ej
   have e1:es.size=ys.length:=by rw [hlen,Paired.length rel]
   have e3:n9.size=es.size:=n8.1
   exact List.getElem?_eq_none_iff.mpr (by rw [Array.length_toList];omega)
  |some y =>
   have hj:j < ys.length:=(List.getElem?_eq_some_iff.mp ej).1
   have e1:es.size=ys.length:=by rw [hlen,Paired.length rel]
   have e3:n9.size=es.size:=n8.1
   have Iy:j < n9.size:=by omega
   obtain ⟨en,XS,hk⟩:=n8.2 j n9[j] (by simp [Iy])
   have GX:es[j]?=some (entryOfKey (tupleKind (cn X.prog X.w)) y):=by rw [←Array.getElem?_toList,fZ,List.getElem?_map,ej];rfl
   rw [XS] at GX
   cases GX
   rw [Array.getElem?_toList,Array.getElem?_eq_getElem Iy,hk]
   rfl
 refine ⟨.ref s.heap.objs.size,upd H s.heap.objs.size (.lst ((ys.map (·.2.1)).map V.ref)),I.laid kp (Nat.le_refl _) ?_,rfl,q _ _ (I.aE.fresh (Nat.le_refl _)) ka⟩
 refine (show b9 X.prog X.w _ h' _ (.lst ((ys.map (·.2.1)).map V.ref)) from ⟨?_,n9.toList,c',?_,?_⟩)
 ·rw [List.length_map,List.length_map,←Paired.length rel];exact hz
 ·rw [hv];exact Bp _
 ·rw [Array.toArray_toList];exact e
noncomputable def GY (K:PySem.W.Frag) (n:Nat) (t:gB):TG:=fun v σ H Q=>∃ a xs,v=.ref a∧bL K H a xs∧xs.length=n∧t xs σ H Q
theorem Sg {es:List Expr}{k:Nat}{pos:Pos}{t:gB}{n:Nat} (hc:X.calm=true) (h:oB X es t)
  (hn:(assignEach es X.env).length=n:=by rfl) (oC:(assignEach es X.env).findIdx? (·.1)=none:=by rfl):PG X (.Tuple es k pos) (GY X.K n t):=by
 intro pins s σ H v u Q I r hw
 obtain ⟨a,xs,e1,hq,hl,hw⟩:=hw
 subst e1
 cases r
 obtain ⟨its,rv,pl,hz⟩:=I.list hq
 rw [assign_Tuple]
 refine wpAny_bind (wpAny_standAt ?_)
 unfold unpack
 have hlen:(assignEach es X.env).length=its.toArray.size:=by rw [hn,←hl,rv.length];simp
 rw [hlen,oC]
 refine wpAny_bind (wpAny_holding (PySem.W.kun_itemsOf (I.ok.hd hc) pl.isList fun h' hx=>?_))
 have I1:Inv X pins σ H { s with heap:=h' }:=I.kept (t':=s.toks) fun b o e=>hx b o (Nat.ne_of_lt (Heap.lt_size e)) e
 exact h pins _ σ H xs _ Q I1 (by simpa using rv) hw
mutual
inductive Dn (K:PySem.W.Frag) (H:Hp):V→PyData→Prop
 |non:Dn K H .non .none
 |bl (b:Bool):Dn K H (.bl b) (.bool b)
 |int (i:Int):Dn K H (.int i) (.int i)
 |str (x:Str):Dn K H (.str x) (.str x)
 |lst {a:Addr}{xs:List V}{ds:List PyData}:bL K H a xs→bF K H xs ds→Dn K H (.ref a) (.list ds)
 |tup {a:Addr}{xs:List V}{ds:List PyData}:bA K H a xs→bF K H xs ds→Dn K H (.ref a) (.tuple ds)
inductive bF (K:PySem.W.Frag) (H:Hp):List V→List PyData→Prop
 |nil:bF K H [] []
 |cons {v:V}{d:PyData}{vs:List V}{ds:List PyData}:Dn K H v d→bF K H vs ds→bF K H (v::vs) (d::ds)
end
noncomputable def dV:V→PyData
 |.non=>.none
 |.bl b=>.bool b
 |.int i=>.int i
 |.str x=>.str x
 |_=>.none
theorem Inv.D0 {pins:List (Addr×Obj)}{σ:St}{H:Hp}{s:Shared}{a:Addr}{xs ys:List V} (I:Inv X pins σ H s) (h:bL X.K H a xs) (h':bA X.K H a ys):False:=by
 obtain ⟨_,_,⟨o,n,e1,e2,_⟩,_⟩:=I.list h
 obtain ⟨_,_,⟨o',k1,k2,_⟩,_⟩:=I.tuple h'
 rw [e1] at k1;cases k1;rw [e2] at k2;exact absurd k2 (by simp)
mutual
theorem Dn.unique {pins:List (Addr×Obj)}{σ:St}{H:Hp}{s:Shared} (I:Inv X pins σ H s):∀ {v:V}{d d':PyData},Dn X.K H v d→Dn X.K H v d'→d=d'
 |_,_,_,.non,h=>by cases h;rfl
 |_,_,_,.bl _,h=>by cases h;rfl
 |_,_,_,.int _,h=>by cases h;rfl
 |_,_,_,.str _,h=>by cases h;rfl
 |_,_,_,.lst hq hs,h=>by
  cases h with
  |lst kq ks=>cases I.tT hq kq;rw [bF.unique I hs ks]
  |tup kq ks=>exact (I.D0 hq kq).elim
 |_,_,_,.tup hq hs,h=>by
  cases h with
  |tup kq ks=>cases I.xr hq kq;rw [bF.unique I hs ks]
  |lst kq ks=>exact (I.D0 kq hq).elim
theorem bF.unique {pins:List (Addr×Obj)}{σ:St}{H:Hp}{s:Shared} (I:Inv X pins σ H s):∀ {vs:List V}{ds dS:List PyData},bF X.K H vs ds→bF X.K H vs dS→ds=dS
 |_,_,_,.nil,h=>by cases h;rfl
 |_,_,_,.cons h t,k=>by
  cases k with
  |cons h' t'=>rw [Dn.unique I h h',bF.unique I t t']
end
mutual
theorem Dn.refl {K:PySem.W.Frag}{H:Hp}:∀ {v:V}{d:PyData},Dn K H v d→PyData.eqv d d=true
 |_,_,.non=>by simp [PyData.eqv]
 |_,_,.bl _=>by simp [PyData.eqv]
 |_,_,.int _=>by simp [PyData.eqv]
 |_,_,.str _=>by simp [PyData.eqv]
 |_,_,.lst _ hs=>by simp only [PyData.eqv];exact bF.refl hs
 |_,_,.tup _ hs=>by simp only [PyData.eqv];exact bF.refl hs
theorem bF.refl {K:PySem.W.Frag}{H:Hp}:∀ {vs:List V}{ds:List PyData},bF K H vs ds→PyData.eqvAll ds ds=true
 |_,_,.nil=>by simp [PyData.eqvAll]
 |_,_,.cons h t=>by rw [PyData.eqvAll,Dn.refl h,bF.refl t];rfl
end
theorem bF.length {K:PySem.W.Frag}{H:Hp}:∀ {vs:List V}{ds:List PyData},bF K H vs ds→vs.length=ds.length
 |_,_,.nil=>rfl
 |_,_,.cons _ t=>by simp [bF.length t]
mutual
theorem Dn.kN {pins:List (Addr×Obj)}{σ:St}{H:Hp}{s:Shared} (I:Inv X pins σ H s):∀ {v:V}{d:PyData},Dn X.K H v d→∀ {v':V}{d':PyData},Dn X.K H v' d'→∀ {u u':Value},RelV v u→RelV v' u'→∀ {A:Around},A.units+min d.depth d'.depth < cLine→SeqAt.EqAt A s u u' (PyData.eqv d d')
 |_,_,.non,_,_,h',_,_,r,r',A,hu=>by
  cases (show _=Value.none from r)
  cases h' with
  |non=>cases (show _=Value.none from r');exact SeqAt.EqAt.same _
  |bl y=>cases (show _=Value.bool y from r');exact SeqAt.EqAt.none_bool y
  |int y=>obtain ⟨t,e⟩:=(show ∃ t,_=Value.int y t from r');subst e;exact SeqAt.EqAt.none_int y t
  |str y=>obtain ⟨t,e⟩:=(show ∃ t,_=Value.str y t from r');subst e;exact SeqAt.EqAt.none_str y t
  |@lst a xs ds q hs=>cases (show _=Value.ref a from r');obtain ⟨its,rv,pl,_⟩:=I.list q;exact SeqAt.EqAt.none_list pl.isList (SeqAt.room_here hu)
  |@tup a xs ds q hs=>cases (show _=Value.ref a from r');obtain ⟨its,rv,pl,_⟩:=I.tuple q;exact SeqAt.EqAt.none_tuple pl (SeqAt.room_here hu)
 |_,_,.bl x,_,_,h',_,_,r,r',A,hu=>by
  cases (show _=Value.bool x from r)
  cases h' with
  |non=>cases (show _=Value.none from r');exact SeqAt.EqAt.bool_none x
  |bl y=>cases (show _=Value.bool y from r');exact SeqAt.EqAt.bool_bool x y
  |int y=>obtain ⟨t,e⟩:=(show ∃ t,_=Value.int y t from r');subst e;exact SeqAt.EqAt.bool_int x y t
  |str y=>obtain ⟨t,e⟩:=(show ∃ t,_=Value.str y t from r');subst e;exact SeqAt.EqAt.bool_str x y t
  |@lst a xs ds q hs=>cases (show _=Value.ref a from r');obtain ⟨its,rv,pl,_⟩:=I.list q;exact SeqAt.EqAt.bool_list x pl.isList (SeqAt.room_here hu)
  |@tup a xs ds q hs=>cases (show _=Value.ref a from r');obtain ⟨its,rv,pl,_⟩:=I.tuple q;exact SeqAt.EqAt.bool_tuple x pl (SeqAt.room_here hu)
 |_,_,.int x,_,_,h',_,_,r,r',A,hu=>by
  obtain ⟨tx,ex⟩:=(show ∃ t,_=Value.int x t from r);subst ex
  cases h' with
  |non=>cases (show _=Value.none from r');exact SeqAt.EqAt.int_none x tx
  |bl y=>cases (show _=Value.bool y from r');exact SeqAt.EqAt.int_bool x tx y
  |int y=>obtain ⟨t,e⟩:=(show ∃ t,_=Value.int y t from r');subst e;exact SeqAt.EqAt.int_int x tx y t
  |str y=>obtain ⟨t,e⟩:=(show ∃ t,_=Value.str y t from r');subst e;exact SeqAt.EqAt.int_str x tx y t
  |@lst a xs ds q hs=>cases (show _=Value.ref a from r');obtain ⟨its,rv,pl,_⟩:=I.list q;exact SeqAt.EqAt.int_list x tx pl.isList (SeqAt.room_here hu)
  |@tup a xs ds q hs=>cases (show _=Value.ref a from r');obtain ⟨its,rv,pl,_⟩:=I.tuple q;exact SeqAt.EqAt.int_tuple x tx pl (SeqAt.room_here hu)
 |_,_,.str x,_,_,h',_,_,r,r',A,hu=>by
  obtain ⟨tx,ex⟩:=(show ∃ t,_=Value.str x t from r);subst ex
  cases h' with
  |non=>cases (show _=Value.none from r');exact SeqAt.EqAt.str_none x tx
  |bl y=>cases (show _=Value.bool y from r');exact SeqAt.EqAt.str_bool x tx y
  |int y=>obtain ⟨t,e⟩:=(show ∃ t,_=Value.int y t from r');subst e;exact SeqAt.EqAt.str_int x tx y t
  |str y=>obtain ⟨t,e⟩:=(show ∃ t,_=Value.str y t from r');subst e;exact SeqAt.EqAt.str_str x tx y t
  |@lst a xs ds q hs=>cases (show _=Value.ref a from r');obtain ⟨its,rv,pl,_⟩:=I.list q;exact SeqAt.EqAt.str_list x tx pl.isList (SeqAt.room_here hu)
  |@tup a xs ds q hs=>cases (show _=Value.ref a from r');obtain ⟨its,rv,pl,_⟩:=I.tuple q;exact SeqAt.EqAt.str_tuple x tx pl (SeqAt.room_here hu)
 |_,_,.lst (a:=b) hq hs,_,_,h',_,_,r,r',A,hu=>by
  cases (show _=Value.ref b from r)
  obtain ⟨fH,rb,dh,_⟩:=I.list hq
  cases h' with
  |non=>cases (show _=Value.none from r');exact SeqAt.EqAt.list_none dh.isList (SeqAt.room_here hu)
  |bl y=>cases (show _=Value.bool y from r');exact SeqAt.EqAt.list_bool y dh.isList (SeqAt.room_here hu)
  |int y=>obtain ⟨t,e⟩:=(show ∃ t,_=Value.int y t from r');subst e;exact SeqAt.EqAt.list_int y t dh.isList (SeqAt.room_here hu)
  |str y=>obtain ⟨t,e⟩:=(show ∃ t,_=Value.str y t from r');subst e;exact SeqAt.EqAt.list_str y t dh.isList (SeqAt.room_here hu)
  |@tup a xs ds q ks=>cases (show _=Value.ref a from r');obtain ⟨its,rv,pl,_⟩:=I.tuple q;exact SeqAt.EqAt.list_tuple dh.isList pl (SeqAt.room_here hu)
  |@lst a xs ds q ks =>
   cases (show _=Value.ref a from r')
   by_cases e:b=a
   ·subst e
    cases I.tT hq q
    rw [bF.unique I ks hs]
    simp only [PyData.eqv];rw [bF.refl hs];exact SeqAt.EqAt.same _
   ·obtain ⟨its,rv,pl,_⟩:=I.list q
    have n1:=rb.length;have n2:=rv.length;have n3:=bF.length hs;have n4:=bF.length ks
    simp only [PyData.eqv]
    have he:∀ j (j1:j < fH.toArray.size) (j2:j < its.toArray.size),SeqAt.EqAt A.in1 s fH.toArray[j] its.toArray[j] (SeqAt.pairEq _ _ j):=fun j j1 j2=>by
     have z:=bF.kN I hs ks rb rv (A:=A.in1) (SeqAt.room_in hu) j (by simpa using j1) (by simpa using j2)
     simpa using z
    refine SeqAt.EqAt.of_refs e ?_
    by_cases hsz:fH.toArray.size=its.toArray.size
    ·rw [←SeqAt.eqvAll_same_length (by simp at hsz;omega),show List.length _=fH.toArray.size by simp;omega]
     exact SeqAt.RcAt.lists dh.isList pl.isList hsz (SeqAt.room_here hu) he
    ·rw [SeqAt.eqvAll_other_length (by simp at hsz;omega)]
     exact SeqAt.RcAt.lists_lengths dh.isList pl.isList (by simpa using hsz) (SeqAt.room_here hu)
 |_,_,.tup (a:=b) hq hs,_,_,h',_,_,r,r',A,hu=>by
  cases (show _=Value.ref b from r)
  obtain ⟨fH,rb,dh,_⟩:=I.tuple hq
  cases h' with
  |non=>cases (show _=Value.none from r');exact SeqAt.EqAt.tuple_none dh (SeqAt.room_here hu)
  |bl y=>cases (show _=Value.bool y from r');exact SeqAt.EqAt.tuple_bool y dh (SeqAt.room_here hu)
  |int y=>obtain ⟨t,e⟩:=(show ∃ t,_=Value.int y t from r');subst e;exact SeqAt.EqAt.tuple_int y t dh (SeqAt.room_here hu)
  |str y=>obtain ⟨t,e⟩:=(show ∃ t,_=Value.str y t from r');subst e;exact SeqAt.EqAt.tuple_str y t dh (SeqAt.room_here hu)
  |@lst a xs ds q ks=>cases (show _=Value.ref a from r');obtain ⟨its,rv,pl,_⟩:=I.list q;exact SeqAt.EqAt.tuple_list dh pl.isList (SeqAt.room_here hu)
  |@tup a xs ds q ks =>
   cases (show _=Value.ref a from r')
   by_cases e:b=a
   ·subst e
    cases I.xr hq q
    rw [bF.unique I ks hs]
    simp only [PyData.eqv];rw [bF.refl hs];exact SeqAt.EqAt.same _
   ·obtain ⟨its,rv,pl,_⟩:=I.tuple q
    have n1:=rb.length;have n2:=rv.length;have n3:=bF.length hs;have n4:=bF.length ks
    simp only [PyData.eqv]
    have he:∀ j (j1:j < fH.toArray.size) (j2:j < its.toArray.size),SeqAt.EqAt A.in1 s fH.toArray[j] its.toArray[j] (SeqAt.pairEq _ _ j):=fun j j1 j2=>by
     have z:=bF.kN I hs ks rb rv (A:=A.in1) (SeqAt.room_in hu) j (by simpa using j1) (by simpa using j2)
     simpa using z
    refine SeqAt.EqAt.of_refs e ?_
    rw [←SeqAt.eqvAll_eq,←n3,←n4,n1,n2]
    have z:=SeqAt.RcAt.tuples dh pl (SeqAt.room_here hu) he
    simpa using z
theorem bF.kN {pins:List (Addr×Obj)}{σ:St}{H:Hp}{s:Shared} (I:Inv X pins σ H s):∀ {vs:List V}{ds:List PyData},bF X.K H vs ds→∀ {Iz:List V}{dS:List PyData},bF X.K H Iz dS→∀ {us Ai:List Value},Vals vs us→Vals Iz Ai→∀ {A:Around},A.units+min (PyData.depthAll ds) (PyData.depthAll dS) < cLine →
  ∀ j (h1:j < us.length) (h2:j < Ai.length),SeqAt.EqAt A s us[j] Ai[j] (SeqAt.pairEq ds dS j)
 |_,_,.nil,_,_,_,_,_,.nil,_,_,_,j,h1,_=>absurd h1 (Nat.not_lt_zero _)
 |_,_,.cons _ _,_,_,.nil,_,_,_,.nil,_,_,j,_,h2=>absurd h2 (Nat.not_lt_zero _)
 |_,_,.cons h t,_,_,.cons h' t',_,_,.cons r q,.cons r' q',A,hu,j,h1,h2=>by
  cases j with
  |zero=>exact Dn.kN I h h' r r' (SeqAt.room_head hu)
  |succ j=>exact bF.kN I t t' q q' (SeqAt.room_tail hu) j (Nat.lt_of_succ_lt_succ h1) (Nat.lt_of_succ_lt_succ h2)
end
inductive lU:PyData→PyData→Prop
 |lst (xs ys:List PyData):lU (.list xs) (.list ys)
 |tup (xs ys:List PyData):lU (.tuple xs) (.tuple ys)
 |non:lU .none .none
noncomputable def zp (K:PySem.W.Frag):R2:=fun x y H Q=>∃ dx dy,Dn K H x dx∧Dn K H y dy∧lU dx dy∧min dx.depth dy.depth≤60∧Q (.bl (PyData.eqv dx dy)) H
noncomputable def zq (K:PySem.W.Frag):R2:=fun x y H Q=>∃ dx dy,Dn K H x dx∧Dn K H y dy∧lU dx dy∧min dx.depth dy.depth≤60∧Q (.bl (!PyData.eqv dx dy)) H
theorem C7 {pins:List (Addr×Obj)}{σ:St}{H:Hp}{s:Shared} (I:Inv X pins σ H s) {A:Around}{x y:V}{u u':Value}{dx dy:PyData} (hx:Dn X.K H x dx) (hy:Dn X.K H y dy) (l:lU dx dy) (rx:RelV x u) (ry:RelV y u') (hu:A.units+min dx.depth dy.depth < cLine) :
  SeqAt.RcAt A s u u' (PyData.eqv dx dy)∧SeqAt.RcNeAt A s u u' (!PyData.eqv dx dy):=by
 cases l with
 |non =>
  cases hx;cases hy
  cases (show u=Value.none from rx)
  cases (show u'=Value.none from ry)
  exact ⟨SeqAt.RcAt.none_none,SeqAt.RcNeAt.none_none⟩
 |lst ds es =>
  cases hx with
  |@lst b _ _ hq hs =>
  cases hy with
  |@lst a _ _ q ks =>
   cases (show u=Value.ref b from rx)
   cases (show u'=Value.ref a from ry)
   obtain ⟨fH,rb,dh,_⟩:=I.list hq
   obtain ⟨its,rv,pl,_⟩:=I.list q
   have n1:=rb.length;have n2:=rv.length;have n3:=bF.length hs;have n4:=bF.length ks
   simp only [PyData.eqv]
   have he:∀ j (j1:j < fH.toArray.size) (j2:j < its.toArray.size),SeqAt.EqAt A.in1 s fH.toArray[j] its.toArray[j] (SeqAt.pairEq ds es j):=fun j j1 j2=>by
    have z:=bF.kN I hs ks rb rv (A:=A.in1) (SeqAt.room_in hu) j (by simpa using j1) (by simpa using j2)
    simpa using z
   by_cases hsz:fH.toArray.size=its.toArray.size
   ·have e:ds.length=fH.toArray.size:=by simp;omega
    rw [←SeqAt.eqvAll_same_length (show ds.length=es.length by simp at hsz;omega),e]
    exact ⟨SeqAt.RcAt.lists dh.isList pl.isList hsz (SeqAt.room_here hu) he,SeqAt.RcNeAt.lists dh.isList pl.isList hsz (SeqAt.room_here hu) he⟩
   ·rw [SeqAt.eqvAll_other_length (show ds.length≠es.length by simp at hsz;omega)]
    exact ⟨SeqAt.RcAt.lists_lengths dh.isList pl.isList (by simpa using hsz) (SeqAt.room_here hu),SeqAt.RcNeAt.lists_lengths dh.isList pl.isList (by simpa using hsz) (SeqAt.room_here hu)⟩
 |tup ds es =>
  cases hx with
  |@tup b _ _ hq hs =>
  cases hy with
  |@tup a _ _ q ks =>
   cases (show u=Value.ref b from rx)
   cases (show u'=Value.ref a from ry)
   obtain ⟨fH,rb,dh,_⟩:=I.tuple hq
   obtain ⟨its,rv,pl,_⟩:=I.tuple q
   have n1:=rb.length;have n2:=rv.length;have n3:=bF.length hs;have n4:=bF.length ks
   simp only [PyData.eqv]
   have he:∀ j (j1:j < fH.toArray.size) (j2:j < its.toArray.size),SeqAt.EqAt A.in1 s fH.toArray[j] its.toArray[j] (SeqAt.pairEq ds es j):=fun j j1 j2=>by
    have z:=bF.kN I hs ks rb rv (A:=A.in1) (SeqAt.room_in hu) j (by simpa using j1) (by simpa using j2)
    simpa using z
   have z1:=SeqAt.RcAt.tuples dh pl (SeqAt.room_here hu) he
   have z2:=SeqAt.RcNeAt.tuples dh pl (SeqAt.room_here hu) he
   rw [←SeqAt.eqvAll_eq ds es,←n3,←n4,n1,n2]
   exact ⟨by simpa using z1,by simpa using z2⟩
theorem Sh (hu:X.A.units+64 < cLine):bx X (compareOp .Eq) (zp X.K):=by
 intro pins s σ H x y v u Q I rx ry h
 obtain ⟨dx,dy,hx,hy,l,hd,q⟩:=h
 exact (C7 I hx hy l rx ry (A:=X.A) (by omega)).1 X.prog X.w X.xe _ ⟨.bl _,H,I,rfl,q⟩
theorem Si (hu:X.A.units+64 < cLine):bx X (compareOp .NotEq) (zq X.K):=by
 intro pins s σ H x y v u Q I rx ry h
 obtain ⟨dx,dy,hx,hy,l,hd,q⟩:=h
 exact (C7 I hx hy l rx ry (A:=X.A) (by omega)).2 X.prog X.w X.xe _ ⟨.bl _,H,I,rfl,q⟩
noncomputable def zr (K:PySem.W.Frag) (neg:Bool):R2:=fun x y H Q=>∃ p xs ds dx,y=.ref p∧bL K H p xs∧bF K H xs ds∧Dn K H x dx∧dx.depth≤50∧Q (.bl (if neg then !(ds.any fun d=>PyData.eqv d dx) else ds.any fun d=>PyData.eqv d dx)) H
theorem Nt {pins:List (Addr×Obj)}{σ:St}{H:Hp}{s:Shared} (I:Inv X pins σ H s) {A:Around}{x:V}{u:Value}{dx:PyData} (hx:Dn X.K H x dx) (rx:RelV x u) (hu:A.units+dx.depth < cLine):∀ {xs:List V}{ds:List PyData}{its:List Value},bF X.K H xs ds→Vals xs its →
  ∃ e:Value→Bool,(∀ y∈its,SeqAt.EqAt A s y u (e y))∧its.any e=ds.any fun d=>PyData.eqv d dx:=by
 intro xs ds its hs rv
 classical
 refine ⟨fun y=>decide (∃ v d,Dn X.K H v d∧RelV v y∧PyData.eqv d dx=true),fun y hy=>?_,?_⟩
 ·have key:∀ {xs:List V}{ds:List PyData}{its:List Value},bF X.K H xs ds→Vals xs its→y∈its→∃ v d,Dn X.K H v d∧RelV v y:=fun {xs}=>by
   induction xs with
   |nil=>intro ds its hs rv hy;cases rv;exact nomatch hy
   |cons v r ih =>
    intro ds its hs rv hy
    cases rv with
    |cons a b =>
     cases hs with
     |cons c d =>
      rcases List.mem_cons.mp hy with e|e
      ·subst e;exact ⟨_,_,c,a⟩
      ·exact ih d b e
  obtain ⟨v,d,hv,ry⟩:=key hs rv hy
  have z:=Dn.kN I hv hx ry rx (A:=A) (Nat.lt_of_le_of_lt (Nat.add_le_add_left (Nat.min_le_right _ _) _) hu)
  have e:PyData.eqv d dx=decide (∃ v d,Dn X.K H v d∧RelV v y∧PyData.eqv d dx=true):=by
   cases q:PyData.eqv d dx with
   |true=>exact (decide_eq_true ⟨v,d,hv,ry,q⟩).symm
   |false =>
    refine (decide_eq_false ?_).symm
    rintro ⟨v',d',h1,h2,h3⟩
    cases RelV.inj ry h2
    rw [Dn.unique I h1 hv,q] at h3
    cases h3
  rw [e] at z
  exact z
 ·induction xs generalizing ds its with
  |nil=>cases rv;cases hs;rfl
  |cons v r ih =>
   cases rv with
   |cons a b =>
    cases hs with
    |@cons _ d0 _ _ c d =>
     rw [List.any_cons,List.any_cons,ih d b]
     congr 1
     cases q:PyData.eqv d0 dx with
     |true=>exact decide_eq_true ⟨v,d0,c,a,q⟩
     |false =>
      refine decide_eq_false ?_
      rintro ⟨v',d',h1,h2,h3⟩
      cases RelV.inj a h2
      rw [Dn.unique I h1 c,q] at h3
      cases h3
theorem Mw (hu:X.A.units+64 < cLine):bx X (compareOp .NotIn) (zr X.K true):=by
 intro pins s σ H x y v u Q I rx ry h
 obtain ⟨p,xs,ds,dx,rfl,hq,hs,hx,hd,q⟩:=h
 cases ry
 obtain ⟨its,rv,pl,_⟩:=I.list hq
 obtain ⟨e,he,WV⟩:=Nt I hx rx (A:=X.A.in1) (show X.A.units+1+dx.depth < cLine by omega) hs rv
 refine SeqAt.notIn_listAt e pl.isList (fun w hw=>he w (by simpa using hw)) ⟨.bl _,H,I,rfl,?_⟩
 rw [show its.toArray.any e=its.any e by simp,WV]
 exact q
end
def Z4 (D:Addr) (H H':Hp):Prop:=∀ b o,b≠D→H b=some o→H' b=some o
section
variable {X:Cx}{K:PySem.W.Frag}
theorem D1 (h:X.K=K):jj X (vE K):=by subst h;exact R6
theorem LX (h:X.K=K):bx X (compareOp .In) (rh K false):=by subst h;exact Mm
theorem K5 (h:X.K=K):bx X (compareOp .NotIn) (rh K true):=by subst h;exact K8
theorem Mx (h:X.K=K):gJ X (.builtin "len") (fun xs H Q=>∃ x n,xs=[x]∧zb K x H n∧Q (.int n) H):=by subst h;exact Nh
theorem Mz {a:Expr}{ta:TE} (h:X.K=K) (ha:PE X a ta) (he:∀ whole,isTrue a X.env whole=(do let v ←whole;standAt a.pos;holding [v] (truthy v))):PT X a (fun σ H Q=>ta σ H fun x H'=>∃ k,u6 K x H' k∧Q k H'):=by subst h;exact Ng ha he
theorem Nu {tg l:Expr}{tl:TE} (h:X.K=K) (hl:PE X l tl):PI X tg l (yK K tl):=by subst h;exact OX hl
end
end L2
namespace My
open PySem PySem.Spec PyProof.Rows L2
theorem aI.none {H H':Hp}{p:Addr} (s:aI H H') (h:H' p=none):H p=none:=s.free h
theorem WW {σ:L2.St}{H:Hp}{A B:Hp→Prop} (h:A H):vd σ H fun b H3=>if b=true then A H3 else B H3:=by
 show if true=true then A H else B H
 exact WT h
theorem Paired.at {α β:Type}{F:α→β→Prop}:∀ {l:List α}{m:List β},Paired F l m→∀ {i:Nat}{b:β},m[i]?=some b→∃ a,l[i]?=some a∧F a b
 |_,_,.nil,_,_,h=>by simp at h
 |_,_,.cons r t,0,_,h=>by simp at h;subst h;exact ⟨_,rfl,r⟩
 |_,_,.cons r t,i+1,b,h=>by
  obtain ⟨a,e,q⟩:=Paired.at t (i:=i) (b:=b) (by simpa using h)
  exact ⟨a,by simpa using e,q⟩
inductive Rw where
 |reckon (x s:Str) (a b:Key)|copy (x:Str) (a:Key)|say (a:Key)|go (n:Int)|part (a:Key) (n:Int)|fin
noncomputable def Rw.vs:Rw→List V
 |.reckon x s a b=>[.str "reckon",.str x,.str s,kV a,kV b]
 |.copy x a=>[.str "copy",.str x,kV a]
 |.say a=>[.str "say",kV a]
 |.go n=>[.str "go",.int n]
 |.part a n=>[.str "part",kV a,.int n]
 |.fin=>[.str "end"]
noncomputable def Rw.word:Rw→Str
 |.reckon .. => "reckon" |.copy .. => "copy" |.say _ => "say" |.go _ => "go" |.part .. => "part" |.fin => "end"
noncomputable def Rw.sets:Rw→V
 |.reckon x _ _ _=>.str x|.copy x _=>.str x|_=>.non
noncomputable def Rw.rk:Rw→Option (List Key)
 |.reckon _ s a b=>some [.inr s,a,b]|_=>none
theorem n1:¬ (("copy" : Str) = "reckon"):=by decide +kernel
theorem n2:¬ (("say" : Str) = "reckon"):=by decide +kernel
theorem n3:¬ (("go" : Str) = "reckon"):=by decide +kernel
theorem n4:¬ (("part" : Str) = "reckon"):=by decide +kernel
structure Df (K:PySem.W.Frag) (mg:Str→Option Value) (x:Str) (st:Stmt) (ps:List Str) (f:Addr) (fd:FuncData):Prop where
 mg:mg x=some (.ref f)
 fn:oH K x x st f fd
 bd:Binds K fd ps []
end My
namespace L2
open PySem PySem.Spec PyProof.Rows
noncomputable def vJ (z:Str):It:=⟨fun i _=>i < z.cps.size,fun i H x H'=>H'=H∧∃ c,z.cps[i]?=some c∧x=.str ⟨#[c]⟩,fun i _=>z.cps.size≤i⟩
theorem Nv {P:Program}{w:World}{K:PySem.W.Frag}{tg:Expr} (it:Addr) (x:Str) (t:Tok) (ty:String) (fY:ty = "str_ascii_iterator" ∨ ty = "str_iterator"):Turn P w K tg (vJ x) [it] it (fun i h=>h.IsStrIter it ty x t i) where
 mem:=by simp
 obj:=fun i h st b hb=>by
  have e:b=it:=by simpa using hb
  subst e
  obtain ⟨o,e,c,d⟩:=st
  exact ⟨o,e,fun v z=>by rw [d] at z;cases z⟩
 keep:=fun i h h' st k=>by obtain ⟨o,e,r⟩:=st;exact ⟨o,k it (by simp) o e,r⟩
 item:=by
  intro X hP hw hK hc i pins s σ H E I hf st hg
  subst hP hw hK
  have hi:i < x.cps.size:=hg
  obtain ⟨f0,f1,f2,f3,f4,f5⟩:=hf it (by simp)
  have fin:∀ h',h'.IsStrIter it ty x t (i+1)→Heap.SameBut it s.heap h'→∃ u,some (Value.str ⟨#[x.cps[i]]⟩ s.toks)=some u ∧
    wpAny (model X.prog X.w) X.A (letOwnedTupleGo tg (.ref it) u) (fun _ s2=>∃ y H',Inv X pins σ H' s2∧RelV y u∧(vJ x).iF i H y H'∧s2.heap.IsStrIter it ty x t (i+1)∧∀ b∈[it],H' b=none) E { s with heap:=h',toks:=s.toks+1 }:=fun h' fW sb=>by
   have I1:Inv X pins σ H { s with heap:=h',toks:=s.toks+1 }:=I.turned (fun b o hb e=>(sb.2 b hb).trans e) f0 f1 f3 f4 f5
   obtain ⟨o,e,c,d⟩:=id fW
   refine ⟨_,rfl,qm (s:={ s with heap:=h',toks:=s.toks+1 }) e c d (by rcases fY with q|q<;>(rw [q];decide)) ⟨.str ⟨#[x.cps[i]]⟩,H,I1,⟨_,rfl⟩,⟨rfl,x.cps[i],by simp [hi],rfl⟩,fW,fun b hb=>(hf b hb).1⟩⟩
  rcases fY with q|q
  ·subst q;exact wpAny_pyNext_ascii_item st (c:=x.cps[i]) (by simp [hi]) fin
  ·subst q;exact wpAny_pyNext_wide_item st (c:=x.cps[i]) (by simp [hi]) fin
 done:=by
  intro X hP hw hK hc i pins s σ H E I hf st hg
  subst hP hw hK
  have hi:x.cps.size≤i:=hg
  obtain ⟨f0,f1,f2,f3,f4,f5⟩:=hf it (by simp)
  have fin:∀ h',Heap.ExtBut it s.heap h'→(none:Option Value)=none∧Inv X pins σ H { s with heap:=h' }:=fun h' eb=>⟨rfl,I.turned (t':=s.toks) (fun b o hb e=>eb b o hb e) f0 f1 f3 f4 f5⟩
  rcases fY with q|q
  ·subst q;exact wpAny_pyNext_ascii_end (I.ok.hd hc) st (by simp [hi]) fin
  ·subst q;exact wpAny_pyNext_wide_end (I.ok.hd hc) st (by simp [hi]) fin
 self:=fun _ _ _ _ _ st h=>by
  rcases fY with q|q
  ·subst q;exact wpAny_pyIter_striter_ascii st h
  ·subst q;exact wpAny_pyIter_striter_wide st h
section
variable {X:Cx}{tg:Expr}
noncomputable def GZ (tl:TE):TI:=fun σ H R=>tl σ H fun x H1=>∃ z,x=.str z∧R (vJ z) H1
theorem Sj {l:Expr}{tl:TE} (hl:PE X l tl):PI X tg l (GZ tl):=by
 intro pins s σ H R I h
 refine aF (hl pins s σ H _ I h) fun v s1 ⟨x,H1,I1,r1,q1⟩=>?_
 obtain ⟨z,e,q⟩:=q1
 subst e
 obtain ⟨t,e⟩:=(show ∃ t,v=Value.str z t from r1)
 subst e
 have fY:strIterType z = "str_ascii_iterator" ∨ strIterType z = "str_iterator" := by unfold strIterType;split<;>simp
 refine wpAny_pyIter_strU ?_
 refine ⟨s1.heap.objs.size,[s1.heap.objs.size],_,_,H1,rfl,I1.kept (t':=s1.toks) fun b o e=>Heap.get?_push_of_some _ e,Nv s1.heap.objs.size z t _ fY,⟨_,Heap.get?_push_size _ rfl,rfl,rfl⟩,fun b hb=>?_,q⟩
 have e:b=s1.heap.objs.size:=by simpa using hb
 subst e
 exact I1.nZ (Nat.le_refl _) (I1.aE.fresh (Nat.le_refl _))
theorem Sl:jY X (fun x lo hi H Q=>∃ z:Str,x=.str z∧z.length≤sizeLine∧Q (.str (Txt.slice z lo hi)) H):=by
 intro pins s σ H x v vl vu lo hi sl Q I rx hs pl pu h
 obtain ⟨z,rfl,hz,q⟩:=h
 obtain ⟨t,e⟩:=(show ∃ t,v=Value.str z t from rx)
 subst e
 have fin:∀ t' k,EP X pins σ Q (.str (Txt.slice z lo hi) t') { s with toks:=k }:=fun t' k=>⟨.str (Txt.slice z lo hi),H,I.tok k,⟨_,rfl⟩,q⟩
 refine ⟨"str",_,F.slot_str_getitem.lookup,typeIs_str _ _ _,?_⟩
 cases pl with
 |none =>
  cases pu with
  |none=>exact wpAny_getItem_str_slice (l:=none) (u:=none) (st:=none) hs rfl (post_val_or_str ⟨Nat.le_trans (Txt.slice_le z _ _) hz,fin⟩)
  |int j tj=>exact wpAny_getItem_str_slice (l:=none) (u:=some (j,tj)) (st:=none) hs rfl (post_val_or_str ⟨Nat.le_trans (Txt.slice_le z _ _) hz,fin⟩)
 |int i ti =>
  cases pu with
  |none=>exact wpAny_getItem_str_slice (l:=some (i,ti)) (u:=none) (st:=none) hs rfl (post_val_or_str ⟨Nat.le_trans (Txt.slice_le z _ _) hz,fin⟩)
  |int j tj=>exact wpAny_getItem_str_slice (l:=some (i,ti)) (u:=some (j,tj)) (st:=none) hs rfl (post_val_or_str ⟨Nat.le_trans (Txt.slice_le z _ _) hz,fin⟩)
theorem Nw {prog:Program}{w:World}{A:Around}{E:Value→Shared→Prop}{s:Shared}{t b:Addr}{ws:List Value}{Q:Value→Shared→Prop} (ht:IsTup s.heap t ([]:List Value).toArray) (hb:IsTup s.heap b ws.toArray) (h:Q (.ref b) s):wpAny (model prog w) A (binaryOp .Add (.ref t) (.ref b)) Q E s:=by
 obtain ⟨⟨c1,d1,da1,vK⟩,ho,hc,n,hd⟩:=id ht;obtain ⟨⟨c2,d2,da2,oE⟩,gX,fX,n2,hd2⟩:=id hb
 simp only at hc hd fX hd2;subst hc hd fX hd2
 exact concat_meets ⟨_,ho,rfl⟩ ⟨_,gX,rfl⟩ noFill_tuple_add seq_tuple_add PySem.F.slot_tuple_add PySem.F.entry_tuple_add (PySem.F.args_tuple_add_2 _ _) (tuple_addW0 t b ([]:List Value).toArray ws.toArray n n2 d1 d2 vK oE (by simp)) ⟨ho,gX,h⟩
theorem K1 {prog:Program}{w:World}{A:Around}{E:Value→Shared→Prop}{s:Shared}{t sl:Addr}{items:Array Value}{vl vu:Value}{lo hi:Option Int}{Q:Value→Shared→Prop} (ht:IsTup s.heap t items) (hs:s.heap.IsSliceOf sl vl vu .none) (pl:IsPart vl lo) (pu:IsPart vu hi)
  (h0:HT.aU items.size 0 lo=0) (h1:HT.aU items.size items.size hi=items.size) (h:Q (.ref t) s):wpAny (model prog w) A (getItem (.ref t) (.ref sl)) Q E s:=by
 obtain ⟨os,my,gY,iI⟩:=id hs;have z4:s.TypeIs (.ref sl) "slice" := ⟨os,my,gY⟩
 unfold getItem;try with_reducible refine wpAny_holding ?_
 first|refine wpAny_bind (wpAny_pure ?_)|skip
 refine wpAny_bind (wpAny_sequenceKey ht.typeIs (by decide) ?_);refine wpAny_bind (wpAny_callSpecial?_slot (name:=Str.ofString "__getitem__") ht.typeIs PyProof.Rows.slot_tuple_getitem (wpAny_call_entry PyProof.Rows.slot_tuple_getitem ht.typeIs entry_tuple_getitem ?_ (args_tuple_getitem _ _)))
 show wpAny _ _ (Builtin.Tuple.tupleItemsOf (.ref t) >>= _) _ _ s;refine wpAny_bind (tupleItemsOf_ ht ?_);refine wpAny_bind (wpAny_typeOf z4 ?_)
 rw [if_pos (by decide)];refine wpAny_bind (HT.Bm hs pl pu ?_)
 show wpAny _ _ (if (((HT.aU items.size 0 lo:Nat):Int)==0&&(1:Int)==1&&(HT.aU items.size items.size hi-HT.aU items.size 0 lo)==items.size)=true then _ else _) _ _ s
 rw [if_pos (by rw [h0,h1];simp)]
 refine wpAny_bind ?_;unfold Builtin.Tuple.tupleIsExact;refine wpAny_bind (wpAny_typeOf ht.typeIs ?_)
 refine wpAny_pure ?_;rw [if_pos (by decide)]
 first
  |exact wpAny_bind (wpAny_rule (wpAny_pure ⟨_,rfl,wpAny_pure h⟩))
  |exact wpAny_bind (wpAny_rule (wpAny_bind (wpAny_pure (wpAny_pure ⟨_,rfl,wpAny_pure h⟩))))
  |exact wpAny_bind (wpAny_bind (wpAny_rule (wpAny_pure (wpAny_pure ⟨_,rfl,wpAny_pure h⟩))))
end
end L2
set_option maxHeartbeats 4000000
namespace J
open PySem L2
inductive D where
 |non|bl (b:Bool)|int (i:Int)|str (x:Str)|ty (n:String)
 |tup (ds:List D)|lst (ds:List D)|dk (ks:List (Key×D))|dt (ks:List (List Key×D))
mutual
noncomputable def D.bQ:D→Bool
 |.tup ds=>D.cw ds
 |.lst _=>false
 |.dk _=>false
 |.dt _=>false
 |.non=>true
 |.bl _=>true
 |.int _=>true
 |.str _=>true
 |.ty _=>true
noncomputable def D.cw:List D→Bool
 |[]=>true
 |d::ds=>d.bQ&&D.cw ds
end
def vL (K:PySem.W.Frag) (a:Addr) (xs:List V):Prop:=∃ (o:Obj) (its:Array Value) (n:Nat),K.lookup a=some o∧o.cls=.type "list" ∧ o.dict=none∧o.data=.seq its n∧its.size≤sizeLine∧Vals xs its.toList
mutual
inductive Rp (K:PySem.W.Frag) (N:Addr→Prop) (H:Hp):V→D→Prop
 |non:Rp K N H .non .non
 |bl (b:Bool):Rp K N H (.bl b) (.bl b)
 |int (i:Int):Rp K N H (.int i) (.int i)
 |str (x:Str):Rp K N H (.str x) (.str x)
 |ty (n:String):Rp K N H (.ty n) (.ty n)
 |tup {a:Addr}{xs:List V}{ds:List D}:bA K H a xs→aw K N H xs ds→Rp K N H (.ref a) (.tup ds)
 |lst {a:Addr}{xs:List V}{ds:List D}:Rd H a (.lst xs)→N a→aw K N H xs ds→Rp K N H (.ref a) (.lst ds)
 |lstK {a:Addr}{xs:List V}{ds:List D}:vL K a xs→aw K N H xs ds→Rp K N H (.ref a) (.lst ds)
 |dk {a:Addr}{ai:List (Key×V)}{ks:List (Key×D)}:Rd H a (.dK ai)→N a→ai.map (·.1)=ks.map (·.1)→aw K N H (ai.map (·.2)) (ks.map (·.2))→Rp K N H (.ref a) (.dk ks)
 |dt {a:Addr}{ai:List (List Key×V)}{ks:List (List Key×D)}:Rd H a (.dT ai)→N a→ai.map (·.1)=ks.map (·.1)→aw K N H (ai.map (·.2)) (ks.map (·.2))→Rp K N H (.ref a) (.dt ks)
inductive aw (K:PySem.W.Frag) (N:Addr→Prop) (H:Hp):List V→List D→Prop
 |nil:aw K N H [] []
 |cons {v:V}{d:D}{vs:List V}{ds:List D}:Rp K N H v d→aw K N H vs ds→aw K N H (v::vs) (d::ds)
end
noncomputable def gZ:HO→Prop
 |.tup _=>True
 |.aW _ (.tup _)=>True
 |_=>False
def Keeps (N:Addr→Prop) (H H':Hp):Prop:=∀ a o,H a=some o→(N a∨gZ o)→H' a=some o
section
variable {K:PySem.W.Frag}{N N':Addr→Prop}{H H':Hp}
theorem Keeps.same (s:aI H H'):Keeps N H H':=fun a o e _=>s a o e
theorem Keeps.sq {a:Addr}{xs:List V} (k:Keeps N H H') (h:bA K H a xs):bA K H' a xs:=by
 rcases h with h|h
 ·exact .inl (k _ _ h (.inr trivial))
 ·exact .inr h
theorem Keeps.rd {a:Addr}{u:HO} (k:Keeps N H H') (n:N a) (h:Rd H a u):Rd H' a u:=by
 rcases h with h|⟨o,h⟩
 ·exact .inl (k _ _ h (.inl n))
 ·exact .inr ⟨o,k _ _ h (.inl n)⟩
mutual
theorem Rp.keep (k:Keeps N H H'):∀ {v:V}{d:D},Rp K N H v d→Rp K N H' v d
 |_,_,.non=>.non
 |_,_,.bl b=>.bl b
 |_,_,.int i=>.int i
 |_,_,.str x=>.str x
 |_,_,.ty n=>.ty n
 |_,_,.tup h r=>.tup (k.sq h) (aw.keep k r)
 |_,_,.lst h n r=>.lst (k.rd n h) n (aw.keep k r)
 |_,_,.lstK h r=>.lstK h (aw.keep k r)
 |_,_,.dk h n e r=>.dk (k.rd n h) n e (aw.keep k r)
 |_,_,.dt h n e r=>.dt (k.rd n h) n e (aw.keep k r)
theorem aw.keep (k:Keeps N H H'):∀ {vs:List V}{ds:List D},aw K N H vs ds→aw K N H' vs ds
 |_,_,.nil=>.nil
 |_,_,.cons h r=>.cons (Rp.keep k h) (aw.keep k r)
end
theorem Rd.some {a:Addr}{u:HO} (h:Rd H a u):∃ o,H a=some o:=by
 rcases h with h|⟨o,h⟩
 ·exact ⟨_,h⟩
 ·exact ⟨_,h⟩
mutual
theorem Rp.wk (w:∀ a,N a→(∃ o,H a=some o)→N' a):∀ {v:V}{d:D},Rp K N H v d→Rp K N' H v d
 |_,_,.non=>.non
 |_,_,.bl b=>.bl b
 |_,_,.int i=>.int i
 |_,_,.str x=>.str x
 |_,_,.ty n=>.ty n
 |_,_,.tup h r=>.tup h (aw.wk w r)
 |_,_,.lst h n r=>.lst h (w _ n (Rd.some h)) (aw.wk w r)
 |_,_,.lstK h r=>.lstK h (aw.wk w r)
 |_,_,.dk h n e r=>.dk h (w _ n (Rd.some h)) e (aw.wk w r)
 |_,_,.dt h n e r=>.dt h (w _ n (Rd.some h)) e (aw.wk w r)
theorem aw.wk (w:∀ a,N a→(∃ o,H a=some o)→N' a):∀ {vs:List V}{ds:List D},aw K N H vs ds→aw K N' H vs ds
 |_,_,.nil=>.nil
 |_,_,.cons h r=>.cons (Rp.wk w h) (aw.wk w r)
end
mutual
theorem Rp.im:∀ {v:V}{d:D},d.bQ=true→Rp K N H v d→Rp K N' H v d
 |_,_,_,.non=>.non
 |_,_,_,.bl b=>.bl b
 |_,_,_,.int i=>.int i
 |_,_,_,.str x=>.str x
 |_,_,_,.ty n=>.ty n
 |_,.tup ds,e,.tup h r=>.tup h (aw.im (by simpa only [D.bQ] using e) r)
 |_,.lst ds,e,.lst h n r=>by simp [D.bQ] at e
 |_,.lst ds,e,.lstK h r=>by simp [D.bQ] at e
 |_,.dk ds,e,.dk h n _ r=>by simp [D.bQ] at e
 |_,.dt ds,e,.dt h n _ r=>by simp [D.bQ] at e
theorem aw.im:∀ {vs:List V}{ds:List D},D.cw ds=true→aw K N H vs ds→aw K N' H vs ds
 |_,_,_,.nil=>.nil
 |_,d::ds,e,.cons h r=>by
  have e':d.bQ=true∧D.cw ds=true:=by simpa [D.cw] using e
  exact .cons (Rp.im e'.1 h) (aw.im e'.2 r)
end
theorem aw.paired:∀ {vs:List V}{ds:List D},aw K N H vs ds→Paired (fun d v=>Rp K N H v d) ds vs
 |_,_,.nil=>.nil
 |_,_,.cons h r=>.cons h (aw.paired r)
theorem aw.len {vs:List V}{ds:List D} (r:aw K N H vs ds):vs.length=ds.length:=(Paired.length r.paired).symm
theorem aw.get:∀ {vs:List V}{ds:List D}{i:Nat}{d:D},aw K N H vs ds→ds[i]?=some d→∃ v,vs[i]?=some v∧Rp K N H v d
 |_,_,_,_,.nil,e=>by simp at e
 |_,_,0,_,.cons h _,e=>by simp at e;subst e;exact ⟨_,rfl,h⟩
 |_,_,i+1,d,.cons _ r,e=>by
  obtain ⟨v,h1,h2⟩:=aw.get (i:=i) (d:=d) r (by simpa using e)
  exact ⟨v,by simpa using h1,h2⟩
theorem aw.app:∀ {vs ws:List V}{ds es:List D},aw K N H vs ds→aw K N H ws es→aw K N H (vs++ws) (ds++es)
 |_,_,_,_,.nil,s=>s
 |_,_,_,_,.cons h r,s=>.cons h (aw.app r s)
theorem aw.set {v:V}{d:D} (q:Rp K N H v d):∀ {vs:List V}{ds:List D} (i:Nat),aw K N H vs ds→aw K N H (vs.set i v) (ds.set i d)
 |_,_,_,.nil=>.nil
 |_,_,0,.cons _ t=>.cons q t
 |_,_,i+1,.cons h t=>.cons h (aw.set q i t)
theorem aw.take:∀ {vs:List V}{ds:List D} (n:Nat),aw K N H vs ds→aw K N H (vs.take n) (ds.take n)
 |_,_,0,_=>.nil
 |_,_,_+1,.nil=>.nil
 |_,_,n+1,.cons r t=>.cons r (aw.take n t)
theorem aw.drop:∀ {vs:List V}{ds:List D} (n:Nat),aw K N H vs ds→aw K N H (vs.drop n) (ds.drop n)
 |_,_,0,r=>r
 |_,_,_+1,.nil=>.nil
 |_,_,n+1,.cons _ t=>aw.drop n t
theorem aw.rev:∀ {vs:List V}{ds:List D},aw K N H vs ds→aw K N H vs.reverse ds.reverse
 |_,_,.nil=>.nil
 |_,_,.cons h t=>by
  rw [List.reverse_cons,List.reverse_cons]
  exact (aw.rev t).app (.cons h .nil)
theorem aw.dl {vs:List V}{ds:List D} (h:aw K N H vs ds):aw K N H vs.dropLast ds.dropLast:=by
 rw [List.dropLast_eq_take,List.dropLast_eq_take,h.len]
 exact h.take _
theorem aw.rep:∀ {vs:List V}{ds:List D} (n:Nat),aw K N H vs ds→aw K N H (List.replicate n vs).flatten (List.replicate n ds).flatten
 |_,_,0,_=>.nil
 |_,_,n+1,h=>by
  rw [List.replicate_succ,List.replicate_succ,List.flatten_cons,List.flatten_cons]
  exact h.app (aw.rep n h)
theorem aw.bt {vs:List V}{ds:List D}{i:Int}{d:D} (r:aw K N H vs ds) (e:L2.bt ds i=some d):∃ v,L2.bt vs i=some v∧Rp K N H v d:=by
 unfold L2.bt at e ⊢
 rw [r.len]
 cases q:cT ds.length i with
 |none=>rw [q] at e;cases e
 |some j =>
  rw [q] at e
  exact r.get e
end
inductive M where|al|fr|un|bo|bi|rb|nb
 deriving DecidableEq
noncomputable abbrev Ev:=List (Option (M×D))
noncomputable def Cell (K:PySem.W.Frag) (N:Addr→Prop) (H:Hp) (p:Addr):D→Prop
 |.lst ds=>∃ xs,H p=some (.lst xs)∧aw K N H xs ds
 |.dk ks=>∃ ai,H p=some (.dK ai)∧ai.map (·.1)=ks.map (·.1)∧aw K N H (ai.map (·.2)) (ks.map (·.2))
 |.dt ks=>∃ ai,H p=some (.dT ai)∧ai.map (·.1)=ks.map (·.1)∧aw K N H (ai.map (·.2)) (ks.map (·.2))
 |_=>False
noncomputable def NM (H₀:Hp) (O:Addr→Prop):M→Addr→Prop
 |.al,a=>¬ O a
 |.rb,a=>H₀ a=none
 |_,a=>¬ O a∧H₀ a=none
def iB (K:PySem.W.Frag) (H₀:Hp) (O:Addr→Prop) (H:Hp) (d:D) (v:V):Prop :=
 ∃ (p:Addr) (qs:List Addr) (aP:List (List D)),v=.ref p∧d=.lst (aP.map D.lst)∧O p∧H₀ p=none∧H p=some (.lst (qs.map V.ref))∧qs.Nodup∧(∀ q∈qs,O q∧H₀ q=none∧q≠p) ∧
  Paired (fun q ds=>∃ xs,H q=some (.lst xs)∧aw K (fun a=>¬ O a∧H₀ a=none) H xs ds) qs aP
noncomputable def Val (K:PySem.W.Frag) (H₀:Hp) (O:Addr→Prop) (Hb H:Hp):M→D→V→Prop
 |.al,d,v=>Rp K (fun a=>¬ O a) H v d
 |.fr,d,v=>Rp K (fun a=>¬ O a∧H₀ a=none) H v d
 |.rb,d,v=>Rp K (fun a=>H₀ a=none) H v d
 |.un,d,v=>∃ p,v=.ref p∧Hb p=none∧H₀ p=none∧¬ O p∧Cell K (fun a=>(¬ O a∧H₀ a=none)∧a≠p) H p d
 |.bo,d,v=>∃ p,v=.ref p∧O p∧H₀ p=none∧Cell K (fun a=>¬ O a∧H₀ a=none) H p d
 |.bi,d,v=>∃ p,v=.ref p∧O p∧Cell K (fun a=>¬ O a∧H₀ a=none) H p d
 |.nb,d,v=>iB K H₀ O H d v
noncomputable def aV:M→M
 |.al=>.al
 |.rb=>.rb
 |.nb=>.rb
 |_=>.fr
noncomputable abbrev HE:Hp:=fun _=>none
section
variable {K:PySem.W.Frag}{N N':Addr→Prop}{H H' H₀ Hb IA:Hp}{O:Addr→Prop}{m:M}{d:D}{v:V}{p:Addr}
theorem Cell.keep (k:Keeps N H H') (e:H' p=H p) (h:Cell K N H p d):Cell K N H' p d:=by
 cases d<;>simp only [Cell] at h ⊢
 ·obtain ⟨xs,q,r⟩:=h;exact ⟨xs,e.trans q,r.keep k⟩
 ·obtain ⟨xs,q,z,r⟩:=h;exact ⟨xs,e.trans q,z,r.keep k⟩
 ·obtain ⟨xs,q,z,r⟩:=h;exact ⟨xs,e.trans q,z,r.keep k⟩
theorem Cell.some (h:Cell K N H p d):∃ o,H p=some o∧¬ gZ o:=by
 cases d<;>simp only [Cell] at h
 ·obtain ⟨xs,q,r⟩:=h;exact ⟨_,q,fun z=>z⟩
 ·obtain ⟨xs,q,z,r⟩:=h;exact ⟨_,q,fun z=>z⟩
 ·obtain ⟨xs,q,z,r⟩:=h;exact ⟨_,q,fun z=>z⟩
theorem Cell.wk (w:∀ a,N a→(∃ o,H a=Option.some o)→N' a) (h:Cell K N H p d):Cell K N' H p d:=by
 cases d<;>simp only [Cell] at h ⊢
 ·obtain ⟨xs,q,r⟩:=h;exact ⟨xs,q,r.wk w⟩
 ·obtain ⟨xs,q,z,r⟩:=h;exact ⟨xs,q,z,r.wk w⟩
 ·obtain ⟨xs,q,z,r⟩:=h;exact ⟨xs,q,z,r.wk w⟩
theorem Cell.rp (n:N p) (h:Cell K N H p d):Rp K N H (.ref p) d:=by
 cases d<;>simp only [Cell] at h
 ·obtain ⟨xs,q,r⟩:=h;exact .lst (.inl q) n r
 ·obtain ⟨xs,q,z,r⟩:=h;exact .dk (.inl q) n z r
 ·obtain ⟨xs,q,z,r⟩:=h;exact .dt (.inl q) n z r
theorem jw {F G:Addr→List D→Prop}:∀ {qs:List Addr}{aP:List (List D)},(∀ q ds,q∈qs→F q ds→G q ds)→Paired F qs aP→Paired G qs aP
 |_,_,_,.nil=>.nil
 |_,_,h,.cons a t=>.cons (h _ _ List.mem_cons_self a) (jw (fun q ds m=>h q ds (List.mem_cons_of_mem _ m)) t)
theorem iB.keep (s:aI H H') (h:iB K H₀ O H d v):iB K H₀ O H' d v:=by
 obtain ⟨p,qs,aP,e1,e2,h1,h2,h3,h4,h5,h6⟩:=h
 exact ⟨p,qs,aP,e1,e2,h1,h2,s _ _ h3,h4,h5,jw (fun q ds _ ⟨xs,a,b⟩=>⟨xs,s _ _ a,b.keep (.same s)⟩) h6⟩
theorem iB.iK {F:Addr→Prop} (w:∀ a,H₀ a=none→F a):∀ {qs:List Addr}{aP:List (List D)},(∀ q∈qs,O q∧H₀ q=none∧q≠p)→Paired (fun q ds=>∃ xs,H q=some (.lst xs)∧aw K (fun a=>¬ O a∧H₀ a=none) H xs ds) qs aP→aw K F H (qs.map V.ref) (aP.map D.lst)
 |_,_,_,.nil=>.nil
 |_,_,h,.cons ⟨xs,a,b⟩ t=>.cons (.lst (.inl a) (w _ (h _ List.mem_cons_self).2.1) (b.wk fun x z _=>w x z.2)) (iB.iK w (fun q m=>h q (List.mem_cons_of_mem _ m)) t)
theorem iB.rp {F:Addr→Prop} (w:∀ a,H₀ a=none→F a) (h:iB K H₀ O H d v):Rp K F H v d:=by
 obtain ⟨p,qs,aP,rfl,rfl,h1,h2,h3,h4,h5,h6⟩:=h
 exact .lst (.inl h3) (w _ h2) (iB.iK w h5 h6)
theorem Val.keep (s:aI H H') (h:Val K H₀ O Hb H m d v):Val K H₀ O Hb H' m d v:=by
 cases m<;>simp only [Val] at h ⊢
 ·exact h.keep (.same s)
 ·exact h.keep (.same s)
 ·obtain ⟨p,e,h1,h2,h3,c⟩:=h
  obtain ⟨o,q,_⟩:=c.some
  exact ⟨p,e,h1,h2,h3,c.keep (.same s) ((s _ _ q).trans q.symm)⟩
 ·obtain ⟨p,e,h1,h2,c⟩:=h
  obtain ⟨o,q,_⟩:=c.some
  exact ⟨p,e,h1,h2,c.keep (.same s) ((s _ _ q).trans q.symm)⟩
 ·obtain ⟨p,e,h1,c⟩:=h
  obtain ⟨o,q,_⟩:=c.some
  exact ⟨p,e,h1,c.keep (.same s) ((s _ _ q).trans q.symm)⟩
 ·exact h.keep (.same s)
 ·exact h.keep s
theorem Val.hb (w:∀ a,Hb a=none→IA a=none) (h:Val K H₀ O Hb H m d v):Val K H₀ O IA H m d v:=by
 cases m<;>simp only [Val] at h ⊢
 ·exact h
 ·exact h
 ·obtain ⟨p,e,h1,r⟩:=h;exact ⟨p,e,w _ h1,r⟩
 ·exact h
 ·exact h
 ·exact h
 ·exact h
theorem Val.h0 (h:Val K H₀ O Hb H m d v):Val K H₀ O HE H m d v:=h.hb fun _ _=>rfl
theorem Val.weak (h:Val K H₀ O Hb H m d v):Rp K (fun _=>True) H v d:=by
 cases m<;>simp only [Val] at h
 ·exact h.wk fun _ _ _=>trivial
 ·exact h.wk fun _ _ _=>trivial
 ·obtain ⟨p,rfl,_,_,_,c⟩:=h;exact (c.wk fun _ _ _=>trivial).rp trivial
 ·obtain ⟨p,rfl,_,_,c⟩:=h;exact (c.wk fun _ _ _=>trivial).rp trivial
 ·obtain ⟨p,rfl,_,c⟩:=h;exact (c.wk fun _ _ _=>trivial).rp trivial
 ·exact h.wk fun _ _ _=>trivial
 ·exact h.rp fun _ _=>trivial
theorem Rp.int_inv {i:Int} (h:Rp K N H v (.int i)):v=.int i:=by cases h;rfl
theorem Rp.E4 {b:Bool} (h:Rp K N H v (.bl b)):v=.bl b:=by cases h;rfl
theorem Rp.str_inv {x:Str} (h:Rp K N H v (.str x)):v=.str x:=by cases h;rfl
theorem Rp.D2 (h:Rp K N H v .non):v=.non:=by cases h;rfl
theorem Rp.Sn {n:String} (h:Rp K N H v (.ty n)):v=.ty n:=by cases h;rfl
theorem Val.int {i:Int} (h:Val K H₀ O Hb H m (.int i) v):v=.int i:=h.weak.int_inv
theorem Val.bl {b:Bool} (h:Val K H₀ O Hb H m (.bl b) v):v=.bl b:=h.weak.E4
theorem Val.str {x:Str} (h:Val K H₀ O Hb H m (.str x) v):v=.str x:=h.weak.str_inv
theorem Val.non (h:Val K H₀ O Hb H m .non v):v=.non:=h.weak.D2
theorem Val.ty {x:String} (h:Val K H₀ O Hb H m (.ty x) v):v=.ty x:=h.weak.Sn
theorem Val.lst {ds:List D} (h:Val K H₀ O Hb H m (.lst ds) v):∃ a xs,v=.ref a∧bL K H a xs∧aw K (NM H₀ O (aV m)) H xs ds:=by
 cases m<;>simp only [Val,Cell] at h
 ·cases h with
  |lst r n q=>exact ⟨_,_,rfl,.inl r,q⟩
  |lstK r q=>exact ⟨_,_,rfl,.inr r,q⟩
 ·cases h with
  |lst r n q=>exact ⟨_,_,rfl,.inl r,q⟩
  |lstK r q=>exact ⟨_,_,rfl,.inr r,q⟩
 ·obtain ⟨p,rfl,_,_,_,xs,q,r⟩:=h;exact ⟨_,_,rfl,.inl (.inl q),r.wk fun a h _=>h.1⟩
 ·obtain ⟨p,rfl,_,_,xs,q,r⟩:=h;exact ⟨_,_,rfl,.inl (.inl q),r⟩
 ·obtain ⟨p,rfl,_,xs,q,r⟩:=h;exact ⟨_,_,rfl,.inl (.inl q),r⟩
 ·cases h with
  |lst r n q=>exact ⟨_,_,rfl,.inl r,q⟩
  |lstK r q=>exact ⟨_,_,rfl,.inr r,q⟩
 ·obtain ⟨p,qs,aP,rfl,e2,h1,h2,h3,h4,h5,h6⟩:=h
  cases e2
  exact ⟨p,_,rfl,.inl (.inl h3),iB.iK (fun _ z=>z) h5 h6⟩
theorem Val.tup {ds:List D} (h:Val K H₀ O Hb H m (.tup ds) v):∃ a xs,v=.ref a∧bA K H a xs∧aw K (NM H₀ O (aV m)) H xs ds:=by
 cases m<;>simp only [Val,Cell] at h
 ·cases h with|tup r q=>exact ⟨_,_,rfl,r,q⟩
 ·cases h with|tup r q=>exact ⟨_,_,rfl,r,q⟩
 ·obtain ⟨p,rfl,_,_,_,z⟩:=h;exact z.elim
 ·obtain ⟨p,rfl,_,_,z⟩:=h;exact z.elim
 ·obtain ⟨p,rfl,_,z⟩:=h;exact z.elim
 ·cases h with|tup r q=>exact ⟨_,_,rfl,r,q⟩
 ·obtain ⟨p,qs,aP,rfl,e2,_⟩:=h;cases e2
theorem Val.el {a:V}{e:D} (h:Rp K (NM H₀ O (aV m)) H a e):Val K H₀ O Hb H (aV m) e a:=by
 cases m<;>exact h
noncomputable def cG:M→D→Bool
 |.fr,_=>true
 |.un,_=>true
 |_,d=>d.bQ
noncomputable def f6:M→D→Bool
 |.fr,_=>true
 |.un,_=>true
 |.al,_=>true
 |_,d=>d.bQ
noncomputable def rq:M→D→Bool
 |.fr,_=>true
 |.un,_=>true
 |.bo,_=>true
 |.rb,_=>true
 |_,d=>d.bQ
theorem Val.cG (h:Val K H₀ O Hb H m d v) (e:J.cG m d=true):Rp K (fun a=>¬ O a∧H₀ a=none) H v d:=by
 cases m<;>simp only [J.cG] at e
 ·exact h.weak.im e
 ·exact h
 ·obtain ⟨p,rfl,_,h1,h2,c⟩:=h
  exact (c.wk fun a h _=>h.1).rp ⟨h2,h1⟩
 ·exact h.weak.im e
 ·exact h.weak.im e
 ·exact h.weak.im e
 ·exact Rp.im e h.weak
theorem Val.f6 (h:Val K H₀ O Hb H m d v) (e:J.f6 m d=true):Rp K (fun a=>¬ O a) H v d:=by
 cases m<;>simp only [J.f6] at e
 ·exact h
 ·exact Rp.wk (fun a h _=>h.1) (show Rp K (fun a=>¬ O a∧H₀ a=none) H v d from h)
 ·exact Rp.wk (fun a h _=>h.1) (h.cG rfl)
 ·exact h.weak.im e
 ·exact h.weak.im e
 ·exact h.weak.im e
 ·exact Rp.im e h.weak
theorem Val.rq (h:Val K H₀ O Hb H m d v) (e:J.rq m d=true):Rp K (fun a=>H₀ a=none) H v d:=by
 cases m<;>simp only [J.rq] at e
 ·exact h.weak.im e
 ·exact Rp.wk (fun a h _=>h.2) (show Rp K (fun a=>¬ O a∧H₀ a=none) H v d from h)
 ·exact Rp.wk (fun a h _=>h.2) (h.cG rfl)
 ·obtain ⟨p,rfl,_,h1,c⟩:=h
  exact (c.wk fun a h _=>h.2).rp h1
 ·exact h.weak.im e
 ·exact h
 ·exact Rp.im e h.weak
end
noncomputable def hG:M→Bool
 |.un=>false
 |.rb=>false
 |_=>true
structure dz (K:PySem.W.Frag) (H₀:Hp) (O:Addr→Prop) (H:Hp) (σ:St) (env:Ev):Prop where
 sl:Paired (fun (e:Option (M×D)) (x:Option V)=>∀ m d,e=some (m,d)→hG m=true∧∃ v,x=some v∧Val K H₀ O HE H m d v) env σ
 od:∀ a,O a→∃ o,H a=some o
 hd:∀ a o,H₀ a=some o→∃ o',H a=some o'
 on:∀ a o,O a→H a=some o→¬ gZ o
def JT (K:PySem.W.Frag) (te:TE) (f:Ev→Option (M×D)):Prop :=
 ∀ H₀ O H σ env Q m d,dz K H₀ O H σ env→f env=some (m,d)→(∀ v H',aI H H'→Val K H₀ O H H' m d v→Q v H')→te σ H Q
def eQ (K:PySem.W.Frag) (tt:TT) (f:Ev→Option Bool):Prop :=
 ∀ H₀ O H σ env Q b,dz K H₀ O H σ env→f env=some b→(∀ H',aI H H'→Q b H')→tt σ H Q
def fB (K:PySem.W.Frag) (H₀:Hp) (O:Addr→Prop) (Hb H:Hp) (aA:List (M×D)) (vs:List V):Prop:=Paired (fun md v=>Val K H₀ O Hb H md.1 md.2 v) aA vs
def hJ (K:PySem.W.Frag) (ta:TA) (f:Ev→Option (List (M×D))):Prop :=
 ∀ H₀ O H σ env Q aA,dz K H₀ O H σ env→f env=some aA→(∀ vs H',aI H H'→fB K H₀ O H H' aA vs→Q vs H')→ta σ H Q
section
variable {K:PySem.W.Frag}{H H' H₀:Hp}{O:Addr→Prop}{σ:St}{env:Ev}
theorem kz {α β:Type}{F G:α→β→Prop} (h:∀ a b,F a b→G a b):∀ {l:List α}{r:List β},Paired F l r→Paired G l r
 |_,_,.nil=>.nil
 |_,_,.cons q t=>.cons (h _ _ q) (kz h t)
theorem dz.keep (R:dz K H₀ O H σ env) (s:aI H H'):dz K H₀ O H' σ env :=
 ⟨kz (fun e x h m d q=>⟨(h m d q).1,let ⟨v,e,z⟩:=(h m d q).2;⟨v,e,z.keep s⟩⟩) R.sl,fun a h=>let ⟨o,q⟩:=R.od a h;⟨o,s _ _ q⟩,fun a o h=>let ⟨o,q⟩:=R.hd a o h;⟨o,s _ _ q⟩,fun a o h e=>by
  obtain ⟨o',q⟩:=R.od a h
  have z:=s _ _ q
  rw [e] at z;cases z
  exact R.on a _ h q⟩
theorem G0 {α β:Type}{F:α→β→Prop}:∀ {l:List α}{r:List β}{i:Nat}{a:α},Paired F l r→l[i]?=some a→∃ b,r[i]?=some b∧F a b
 |_,_,_,_,.nil,e=>by simp at e
 |_,_,0,_,.cons h _,e=>by simp at e;subst e;exact ⟨_,rfl,h⟩
 |_,_,i+1,a,.cons _ r,e=>by
  obtain ⟨v,h1,h2⟩:=G0 (i:=i) (a:=a) r (by simpa using e)
  exact ⟨v,by simpa using h1,h2⟩
theorem dz.at {i:Nat}{m:M}{d:D} (R:dz K H₀ O H σ env) (e:env[i]?=some (some (m,d))):∃ v,σ[i]?=some (some v)∧hG m=true∧Val K H₀ O HE H m d v:=by
 obtain ⟨x,hx,h⟩:=G0 R.sl e
 obtain ⟨h0,v,rfl,hz⟩:=h m d rfl
 exact ⟨v,hx,h0,hz⟩
theorem Val.F8 {m:M}{d:D}{v:V}{Hb:Hp} (n:hG m=true) (h:Val K H₀ O HE H m d v):Val K H₀ O Hb H m d v:=by
 cases m<;>first|exact h|cases n
noncomputable def jV (i:Nat):Ev→Option (M×D):=fun e=>(e[i]?).bind id
theorem Sq {i:Nat}:JT K (fQ i) (jV i):=by
 intro H₀ O H σ env Q m d R h q
 unfold jV at h
 cases e:env[i]? with
 |none=>rw [e] at h;cases h
 |some x =>
  rw [e] at h
  obtain rfl:x=some (m,d):=h
  obtain ⟨v,hv,n,hm⟩:=R.at e
  exact ⟨v,hv,q v H (aI.refl H) (hm.F8 n)⟩
noncomputable def jC (d:D):Ev→Option (M×D):=fun _=>some (.fr,d)
noncomputable def cD:V→Option D
 |.non=>some .non
 |.bl b=>some (.bl b)
 |.int i=>some (.int i)
 |.str x=>some (.str x)
 |.ty n=>some (.ty n)
 |_=>none
theorem og {v:V}{d:D} (e:cD v=some d):JT K (tC v) (jC d):=by
 intro H₀ O H σ env Q m d' R h q
 cases h
 refine q v H (aI.refl H) ?_
 cases v<;>simp only [cD] at e<;>cases e<;>constructor
def JR (K:PySem.W.Frag) (r:R2) (g:M×D→M×D→Option (M×D)):Prop :=
 ∀ H₀ O H x y a b Q m d,(∀ a,O a→∃ o,H a=some o)→(∀ a o,H₀ a=some o→∃ o',H a=some o')→Val K H₀ O HE H (Prod.fst a) a.2 x→Val K H₀ O HE H (Prod.fst b) b.2 y→g a b=some (m,d)→(∀ v H',aI H H'→Val K H₀ O H H' m d v→Q v H')→r x y H Q
noncomputable def ae (g:M×D→M×D→Option (M×D)) (fa fb:Ev→Option (M×D)):Ev→Option (M×D):=fun e=>(fa e).bind fun x=>(fb e).bind fun y=>g x y
theorem uJ {r:R2}{g:M×D→M×D→Option (M×D)}{ta tb:TE}{fa fb:Ev→Option (M×D)} (hr:JR K r g) (ha:JT K ta fa) (hb:JT K tb fb):JT K (oD r ta tb) (ae g fa fb):=by
 intro H₀ O H σ env Q m d R h q
 unfold ae at h
 cases ea:fa env with
 |none=>rw [ea] at h;cases h
 |some a =>
  cases eb:fb env with
  |none=>rw [ea,eb] at h;cases h
  |some b =>
   rw [ea,eb] at h
   refine ha H₀ O H σ env _ a.1 a.2 R ea fun x H1 s1 h1=>?_
   refine hb H₀ O H1 σ env _ b.1 b.2 (R.keep s1) eb fun y H2 s2 h2=>?_
   have R2:=(R.keep s1).keep s2
   refine hr H₀ O H2 x y a b Q m d R2.od R2.hd (h1.keep s2).h0 h2.h0 h fun v H3 s3 h3=>?_
   exact q v H3 ((s1.trans s2).trans s3) (h3.hb fun a z=>(s1.trans s2).free z)
noncomputable def bN (g:M×D→Option (M×D)) (fa:Ev→Option (M×D)):Ev→Option (M×D):=fun e=>(fa e).bind g
def JU (K:PySem.W.Frag) (r:V→Hp→VK→Prop) (g:M×D→Option (M×D)):Prop :=
 ∀ H₀ O H x a Q m d,(∀ a,O a→∃ o,H a=some o)→(∀ a o,H₀ a=some o→∃ o',H a=some o')→Val K H₀ O HE H (Prod.fst a) a.2 x→g a=some (m,d)→(∀ v H',aI H H'→Val K H₀ O H H' m d v→Q v H')→r x H Q
theorem U0 {r:V→Hp→VK→Prop}{g:M×D→Option (M×D)}{ta:TE}{fa:Ev→Option (M×D)} (hr:JU K r g) (ha:JT K ta fa):JT K (Ig r ta) (bN g fa):=by
 intro H₀ O H σ env Q m d R h q
 unfold bN at h
 cases ea:fa env with
 |none=>rw [ea] at h;cases h
 |some a =>
  rw [ea] at h
  refine ha H₀ O H σ env _ a.1 a.2 R ea fun x H1 s1 h1=>?_
  have R1:=R.keep s1
  exact hr H₀ O H1 x a Q m d R1.od R1.hd h1.h0 h fun v H3 s3 h3=>q v H3 (s1.trans s3) (h3.hb fun a z=>s1.free z)
theorem ip {H:Hp}{Hb:Hp}{i:Int}:Val K H₀ O Hb H .fr (.int i) (.int i):=Rp.int i
theorem eZ {H:Hp}{Hb:Hp}{i:Bool}:Val K H₀ O Hb H .fr (.bl i) (.bl i):=Rp.bl i
theorem yN {H:Hp}{Hb:Hp}{i:Str}:Val K H₀ O Hb H .fr (.str i) (.str i):=Rp.str i
noncomputable def gI (c:Int→Int→Prop) [∀ i j,Decidable (c i j)] (f:Int→Int→Int):M×D→M×D→Option (M×D)
 | (_,.int i),(_,.int j)=>if c i j then some (.fr,.int (f i j)) else none
 |_,_=>none
noncomputable def rA (f:Int→Int→Int):M×D→M×D→Option (M×D)
 | (_,.int i),(_,.int j)=>some (.fr,.int (f i j))
 |_,_=>none
noncomputable def vM (f:Int→Int→Bool):M×D→M×D→Option (M×D)
 | (_,.int i),(_,.int j)=>some (.fr,.bl (f i j))
 |_,_=>none
theorem qG {C:Int→Int→Prop}{c:Int→Int→Prop} [∀ i j,Decidable (c i j)] {f:Int→Int→Int} (w:∀ i j,c i j→C i j):JR K (rI C fun i j=>.int (f i j)) (gI c f):=by
 intro H₀ O H x y a b Q m d _ _ h1 h2 h q
 obtain ⟨ma,da⟩:=a;obtain ⟨mb,db⟩:=b
 cases da<;>try (cases h;done)
 cases db<;>try (cases h;done)
 rename_i i j
 simp only [gI] at h
 split at h
 ·rename_i hc
  cases h
  exact ⟨i,j,h1.int,h2.int,w i j hc,q _ H (aI.refl H) ip⟩
 ·cases h
theorem uK {f:Int→Int→Int}:JR K (dR fun i j=>.int (f i j)) (rA f):=by
 intro H₀ O H x y a b Q m d _ _ h1 h2 h q
 obtain ⟨ma,da⟩:=a;obtain ⟨mb,db⟩:=b
 cases da<;>try (cases h;done)
 cases db<;>try (cases h;done)
 rename_i i j
 cases h
 exact ⟨i,j,h1.int,h2.int,q _ H (aI.refl H) ip⟩
theorem yO {f:Int→Int→Bool}:JR K (dR fun i j=>.bl (f i j)) (vM f):=by
 intro H₀ O H x y a b Q m d _ _ h1 h2 h q
 obtain ⟨ma,da⟩:=a;obtain ⟨mb,db⟩:=b
 cases da<;>try (cases h;done)
 cases db<;>try (cases h;done)
 rename_i i j
 cases h
 exact ⟨i,j,h1.int,h2.int,q _ H (aI.refl H) eZ⟩
noncomputable def G3:=rA (·+·)
noncomputable def gR:=rA (· - ·)
noncomputable def eE:=gI (fun i j=>(-18446744073709551616 < i∧i < 18446744073709551616)∨(-18446744073709551616 < j∧j < 18446744073709551616)) (· * ·)
noncomputable def aT:=gI (fun _ j=>0 < j) (· % ·)
noncomputable def gq:=gI (fun i j=>0≤j∧j≤1000000∧i.natAbs < 2 ^ 64) (fun i j=>i ^ j.toNat)
noncomputable def lV:=gI (fun i j=>0≤j∧j≤1000000∧i.natAbs < 2 ^ 64) (fun i j=>i*2 ^ j.toNat)
noncomputable def fq:=vM (fun i j=>decide (i < j))
noncomputable def oK:=vM (fun i j=>decide (i≤j))
noncomputable def gC:=vM (fun i j=>decide (j < i))
theorem Sr:JR K (dR fun i j=>.int (i+j)) G3:=uK
theorem Ss:JR K (dR fun i j=>.int (i-j)) gR:=uK
theorem XT:(2:Int) ^ 64=18446744073709551616:=by decide
theorem Sv:JR K (rI qB fun i j=>.int (i*j)) eE:=qG fun i j h=>by
 unfold qB;rw [XT];exact h
theorem Sw:JR K (rI (fun _ j=>0 < j) fun i j=>.int (i%j)) aT:=qG fun _ _ h=>h
theorem Sx:JR K (rI u5 fun i j=>.int (i ^ j.toNat)) gq:=qG fun _ _ h=>h
theorem Sy:JR K (rI u5 fun i j=>.int (i*2 ^ j.toNat)) lV:=qG fun _ _ h=>h
theorem U1:JR K (dR fun i j=>.bl (decide (i < j))) fq:=yO
theorem U2:JR K (dR fun i j=>.bl (decide (i≤j))) oK:=yO
theorem U3:JR K (dR fun i j=>.bl (decide (j < i))) gC:=yO
noncomputable def dB:D→Option V
 |.non=>some .non
 |.bl b=>some (.bl b)
 |.int i=>some (.int i)
 |.str x=>some (.str x)
 |_=>none
theorem nS {N:Addr→Prop}{d:D}{v w:V} (h:Rp K N H v d) (e:dB d=some w):v=w:=by
 cases h<;>simp only [dB] at e<;>cases e<;>rfl
noncomputable def aN:M×D→M×D→Option (M×D):=fun a b=>(dB a.2).bind fun x=>(dB b.2).bind fun y=>if jK x y=true then some (.fr,.bl (decide (x=y))) else none
noncomputable def ft:M×D→M×D→Option (M×D):=fun a b=>(dB a.2).bind fun x=>(dB b.2).bind fun y=>if jK x y=true then some (.fr,.bl (!decide (x=y))) else none
theorem U4:JR K Ii aN:=by
 intro H₀ O H x y a b Q m d _ _ h1 h2 h q
 unfold aN at h
 cases e1:dB a.2 with
 |none=>rw [e1] at h;cases h
 |some x' =>
  cases e2:dB b.2 with
  |none=>rw [e1,e2] at h;cases h
  |some y' =>
   rw [e1,e2] at h
   obtain rfl:=nS h1.weak e1
   obtain rfl:=nS h2.weak e2
   simp only [Option.bind_some] at h
   split at h
   ·rename_i hc
    cases h
    exact ⟨hc,q _ H (aI.refl H) eZ⟩
   ·cases h
theorem U5:JR K Ij ft:=by
 intro H₀ O H x y a b Q m d _ _ h1 h2 h q
 unfold ft at h
 cases e1:dB a.2 with
 |none=>rw [e1] at h;cases h
 |some x' =>
  cases e2:dB b.2 with
  |none=>rw [e1,e2] at h;cases h
  |some y' =>
   rw [e1,e2] at h
   obtain rfl:=nS h1.weak e1
   obtain rfl:=nS h2.weak e2
   simp only [Option.bind_some] at h
   split at h
   ·rename_i hc
    cases h
    exact ⟨hc,q _ H (aI.refl H) eZ⟩
   ·cases h
noncomputable def qu:M×D→M×D→Option (M×D)
 | (_,.non),(_,.non)=>some (.fr,.bl false)
 | (_,_),(_,.non)=>some (.fr,.bl true)
 |_,_=>none
theorem Sz {N:Addr→Prop}{d:D}{v:V} (h:Rp K N H v d):(v=.non↔d=.non):=by
 cases h<;>simp
theorem Pp:JR K (fun x y H Q=>y=.non∧Q (.bl (!decide (x=.non))) H) qu:=by
 intro H₀ O H x y a b Q m d _ _ h1 h2 h q
 obtain ⟨ma,da⟩:=a;obtain ⟨mb,db⟩:=b
 have e:=Sz h1.weak
 cases db<;>try (cases da<;>cases h;done)
 refine ⟨h2.non,?_⟩
 cases da<;>cases h<;>(simp only [e,reduceCtorEq,decide_true,decide_false];exact q _ H (aI.refl H) eZ)
noncomputable def ak:M×D→M×D→Option (M×D)
 | (m,.lst ds),(_,.int i)=>(bt ds i).map fun d=>(aV m,d)
 | (m,.tup ds),(_,.int i)=>(bt ds i).map fun d=>(aV m,d)
 | (_,.str z),(_,.int i)=>if z.length≤sizeLine then (bt z.cps.toList i).map fun c=>(.fr,.str ⟨#[c]⟩) else none
 |_,_=>none
theorem U6:JR K (vE K) ak:=by
 intro H₀ O H x y a b Q m d _ _ h1 h2 h q
 obtain ⟨ma,da⟩:=a;obtain ⟨mb,db⟩:=b
 cases da<;>try (cases db<;>cases h;done)
 ·cases db<;>try (cases h;done)
  rename_i z i
  simp only [ak] at h
  split at h
  ·rename_i hl
   cases e:bt z.cps.toList i with
   |none=>rw [e] at h;cases h
   |some c =>
    rw [e] at h;cases h
    exact .inr (.inr ⟨z,i,c,h1.str,h2.int,hl,e,q _ H (aI.refl H) yN⟩)
  ·cases h
 ·cases db<;>try (cases h;done)
  rename_i ds i
  simp only [ak] at h
  cases e:bt ds i with
  |none=>rw [e] at h;cases h
  |some c =>
   rw [e] at h;cases h
   obtain ⟨p,xs,rfl,hp,hs⟩:=h1.tup
   obtain ⟨v,hv,r⟩:=hs.bt e
   exact .inr (.inl ⟨p,xs,i,v,rfl,h2.int,hp,hv,q _ H (aI.refl H) (.el r)⟩)
 ·cases db<;>try (cases h;done)
  rename_i ds i
  simp only [ak] at h
  cases e:bt ds i with
  |none=>rw [e] at h;cases h
  |some c =>
   rw [e] at h;cases h
   obtain ⟨p,xs,rfl,hp,hs⟩:=h1.lst
   obtain ⟨v,hv,r⟩:=hs.bt e
   exact .inl ⟨p,xs,i,v,rfl,h2.int,hp,hv,q _ H (aI.refl H) (.el r)⟩
end
section
variable {K:PySem.W.Frag}{H H' H₀:Hp}{O:Addr→Prop}{σ:St}{env:Ev}
noncomputable def lg:M×D→Option Bool
 | (_,.bl b)=>some b
 |_=>none
theorem nC {a:M×D}{b:Bool} (h:lg a=some b):a.2=.bl b:=by
 obtain ⟨m,d⟩:=a
 cases d<;>simp only [lg] at h<;>first | (cases h;rfl)|cases h
noncomputable def kO (fa fb:Ev→Option (M×D)):Ev→Option (M×D):=fun e=>(fa e).bind fun x=>(lg x).bind fun b=>if b=true then fb e else some (.fr,.bl false)
noncomputable def rB (fa fb:Ev→Option (M×D)):Ev→Option (M×D):=fun e=>(fa e).bind fun x=>(lg x).bind fun b=>if b=true then some (.fr,.bl true) else fb e
noncomputable def zt (fa:Ev→Option (M×D)):Ev→Option (M×D):=fun e=>(fa e).bind fun x=>(lg x).bind fun b=>some (.fr,.bl (!b))
theorem ay {α β:Type}{x:Option α}{f:α→Option β}{y:β} (h:x.bind f=some y):∃ a,x=some a∧f a=some y:=by
 cases x with
 |none=>cases h
 |some a=>exact ⟨a,rfl,h⟩
theorem SD {ta tb:TE}{fa fb:Ev→Option (M×D)} (ha:JT K ta fa) (hb:JT K tb fb):JT K (FU ta tb) (kO fa fb):=by
 intro H₀ O H σ env Q m d R h q
 obtain ⟨a,ea,h⟩:=ay h
 obtain ⟨b,eb,h⟩:=ay h
 refine ha H₀ O H σ env _ a.1 a.2 R ea fun x H1 s1 h1=>?_
 rw [nC eb] at h1
 refine ⟨b,h1.bl,?_⟩
 cases b with
 |true =>
  rw [if_pos rfl] at h ⊢
  exact hb H₀ O H1 σ env _ m d (R.keep s1) h fun v H2 s2 h2=>q v H2 (s1.trans s2) (h2.hb fun a z=>s1.free z)
 |false =>
  rw [if_neg Bool.false_ne_true] at h ⊢
  cases h
  exact q _ H1 s1 eZ
theorem U7 {ta tb:TE}{fa fb:Ev→Option (M×D)} (ha:JT K ta fa) (hb:JT K tb fb):JT K (GF ta tb) (rB fa fb):=by
 intro H₀ O H σ env Q m d R h q
 obtain ⟨a,ea,h⟩:=ay h
 obtain ⟨b,eb,h⟩:=ay h
 refine ha H₀ O H σ env _ a.1 a.2 R ea fun x H1 s1 h1=>?_
 rw [nC eb] at h1
 refine ⟨b,h1.bl,?_⟩
 cases b with
 |true =>
  rw [if_pos rfl] at h ⊢
  cases h
  exact q _ H1 s1 eZ
 |false =>
  rw [if_neg Bool.false_ne_true] at h ⊢
  exact hb H₀ O H1 σ env _ m d (R.keep s1) h fun v H2 s2 h2=>q v H2 (s1.trans s2) (h2.hb fun a z=>s1.free z)
theorem SF {ta:TE}{fa:Ev→Option (M×D)} (ha:JT K ta fa):JT K (FV ta) (zt fa):=by
 intro H₀ O H σ env Q m d R h q
 obtain ⟨a,ea,h⟩:=ay h
 obtain ⟨b,eb,h⟩:=ay h
 cases h
 refine ha H₀ O H σ env _ a.1 a.2 R ea fun x H1 s1 h1=>?_
 rw [nC eb] at h1
 exact ⟨b,h1.bl,q _ H1 s1 eZ⟩
noncomputable def jB (f:Ev→Option (M×D)):Ev→Option Bool:=fun e=>(f e).bind lg
theorem yP {t:TE}{f:Ev→Option (M×D)} (h:JT K t f):eQ K (tB t) (jB f):=by
 intro H₀ O H σ env Q b R e q
 obtain ⟨a,ea,e⟩:=ay e
 refine h H₀ O H σ env _ a.1 a.2 R ea fun x H1 s1 h1=>?_
 rw [nC e] at h1
 exact ⟨b,h1.bl,q H1 s1⟩
theorem C8 {t:TE}{f:Ev→Option (M×D)} (h:JT K t f):eQ K (yL t) (jB f):=yP h
theorem MA {t:TE}{f:Ev→Option (M×D)} (h:JT K t f):eQ K (fun σ H Q=>t σ H fun x H'=>∃ k,u6 K x H' k∧Q k H') (jB f):=by
 intro H₀ O H σ env Q b R e q
 obtain ⟨a,ea,e⟩:=ay e
 refine h H₀ O H σ env _ a.1 a.2 R ea fun x H1 s1 h1=>?_
 rw [nC e] at h1
 exact ⟨b,by rw [h1.bl];exact rfl,q H1 s1⟩
noncomputable def cX (f g:Ev→Option Bool):Ev→Option Bool:=fun e=>(f e).bind fun b=>if b=true then g e else some false
noncomputable def cY (f g:Ev→Option Bool):Ev→Option Bool:=fun e=>(f e).bind fun b=>if b=true then some true else g e
noncomputable def fC (f:Ev→Option Bool):Ev→Option Bool:=fun e=>(f e).bind fun b=>some (!b)
theorem Pq {t u:TT}{f g:Ev→Option Bool} (h:eQ K t f) (h':eQ K u g):eQ K (GC t u) (cX f g):=by
 intro H₀ O H σ env Q b R e q
 obtain ⟨c,ec,e⟩:=ay e
 refine h H₀ O H σ env _ c R ec fun H1 s1=>?_
 cases c with
 |true =>
  rw [if_pos rfl] at e ⊢
  exact h' H₀ O H1 σ env _ b (R.keep s1) e fun H2 s2=>q H2 (s1.trans s2)
 |false =>
  rw [if_neg Bool.false_ne_true] at e ⊢
  cases e
  exact q H1 s1
theorem SG {t u:TT}{f g:Ev→Option Bool} (h:eQ K t f) (h':eQ K u g):eQ K (Ia t u) (cY f g):=by
 intro H₀ O H σ env Q b R e q
 obtain ⟨c,ec,e⟩:=ay e
 refine h H₀ O H σ env _ c R ec fun H1 s1=>?_
 cases c with
 |true =>
  rw [if_pos rfl] at e ⊢
  cases e
  exact q H1 s1
 |false =>
  rw [if_neg Bool.false_ne_true] at e ⊢
  exact h' H₀ O H1 σ env _ b (R.keep s1) e fun H2 s2=>q H2 (s1.trans s2)
theorem Pr {t:TT}{f:Ev→Option Bool} (h:eQ K t f):eQ K (GD t) (fC f):=by
 intro H₀ O H σ env Q b R e q
 obtain ⟨c,ec,e⟩:=ay e
 cases e
 exact h H₀ O H σ env _ c R ec fun H1 s1=>q H1 s1
noncomputable def oh (c:Ev→Option Bool) (fa fb:Ev→Option (M×D)):Ev→Option (M×D):=fun e=>(c e).bind fun b=>if b=true then fa e else fb e
theorem SJ {t:TT}{c:Ev→Option Bool}{ta tb:TE}{fa fb:Ev→Option (M×D)} (hc:eQ K t c) (ha:JT K ta fa) (hb:JT K tb fb):JT K (Ib t ta tb) (oh c fa fb):=by
 intro H₀ O H σ env Q m d R h q
 obtain ⟨b,eb,h⟩:=ay h
 refine hc H₀ O H σ env _ b R eb fun H1 s1=>?_
 cases b with
 |true =>
  rw [if_pos rfl] at h ⊢
  exact ha H₀ O H1 σ env _ m d (R.keep s1) h fun v H2 s2 h2=>q v H2 (s1.trans s2) (h2.hb fun a z=>s1.free z)
 |false =>
  rw [if_neg Bool.false_ne_true] at h ⊢
  exact hb H₀ O H1 σ env _ m d (R.keep s1) h fun v H2 s2 h2=>q v H2 (s1.trans s2) (h2.hb fun a z=>s1.free z)
noncomputable def nD (g g':M×D→M×D→Option (M×D)) (fa fb fc:Ev→Option (M×D)):Ev→Option (M×D):=fun e=>(fa e).bind fun x=>(fb e).bind fun y=>(g x y).bind fun z=>(lg z).bind fun k=>if k=true then (fc e).bind fun w=>g' y w else some (.fr,.bl false)
noncomputable def ah:Ev→Option (List (M×D)):=fun _=>some []
noncomputable def ag (f:Ev→Option (M×D)) (g:Ev→Option (List (M×D))):Ev→Option (List (M×D)):=fun e=>(f e).bind fun x=>(g e).bind fun r=>some (x::r)
theorem Pt:hJ K kJ ah:=by
 intro H₀ O H σ env Q aA R h q
 cases h
 exact q [] H (aI.refl H) .nil
theorem Nx {te:TE}{ta:TA}{f:Ev→Option (M×D)}{g:Ev→Option (List (M×D))} (hf:JT K te f) (hg:hJ K ta g):hJ K (lJ te ta) (ag f g):=by
 intro H₀ O H σ env Q aA R h q
 obtain ⟨x,ex,h⟩:=ay h
 obtain ⟨r,er,h⟩:=ay h
 cases h
 refine hf H₀ O H σ env _ x.1 x.2 R ex fun v H1 s1 h1=>?_
 refine hg H₀ O H1 σ env _ r (R.keep s1) er fun vs H2 s2 h2=>?_
 exact q (v::vs) H2 (s1.trans s2) (.cons (h1.keep s2) (kz (fun _ _ z=>z.hb fun a z=>s1.free z) h2))
theorem fB.iK {N:Addr→Prop}{Hb:Hp}:∀ {aA:List (M×D)}{vs:List V},(∀ md∈aA,∀ v,Val K H₀ O Hb H md.1 md.2 v→Rp K N H v md.2)→fB K H₀ O Hb H aA vs→aw K N H vs (aA.map (·.2))
 |_,_,_,.nil=>.nil
 |md::aA,v::vs,h,.cons a r=>.cons (h md List.mem_cons_self v a) (fB.iK (fun x hx=>h x (List.mem_cons_of_mem _ hx)) r)
theorem cB {p:Addr}{o:HO} (h:H p=none):aI H (upd H p o):=fun b u e=>by rw [aH (dY e h)];exact e
noncomputable def fP (aA:List (M×D)):Option (M×D) :=
 if aA.length≤sizeLine then
  if (aA.all fun md=>cG md.1 md.2)=true then some (.un,.lst (aA.map (·.2)))
  else if (aA.all fun md=>f6 md.1 md.2)=true then some (.al,.lst (aA.map (·.2))) else none
 else none
noncomputable def bE (fs:Ev→Option (List (M×D))):Ev→Option (M×D):=fun e=>(fs e).bind fP
theorem pY {p:Addr}{xs:List V}{ds:List D} (od:∀ a,O a→∃ o,H a=some o) (hd:∀ a o,H₀ a=some o→∃ o',H a=some o') (hp:H p=none) (r:aw K (fun a=>¬ O a∧H₀ a=none) H xs ds):Val K H₀ O H (upd H p (.lst xs)) .un (.lst ds) (.ref p):=by
 refine ⟨p,rfl,hp,?_,?_,xs,bG,?_⟩
 ·cases e:H₀ p with
  |none=>rfl
  |some o=>obtain ⟨o',e'⟩:=hd p o e;rw [hp] at e';cases e'
 ·intro z;obtain ⟨o,e⟩:=od p z;rw [hp] at e;cases e
 ·refine (aw.wk (fun a h ⟨o,e⟩=>⟨h,?_⟩) r).keep (.same (cB hp))
  exact dY e hp
theorem hZ {p:Addr} (od:∀ a,O a→∃ o,H a=some o) (hp:H p=none):¬ O p:=by
 intro z;obtain ⟨o,e⟩:=od p z;rw [hp] at e;cases e
theorem kl {p:Addr} (hd:∀ a o,H₀ a=some o→∃ o',H a=some o') (hp:H p=none):H₀ p=none:=by
 cases e:H₀ p with
 |none=>rfl
 |some o=>obtain ⟨o',e'⟩:=hd p o e;rw [hp] at e';cases e'
theorem SK {ta:TA}{fs:Ev→Option (List (M×D))} (ha:hJ K ta fs):JT K (u9 ta) (bE fs):=by
 intro H₀ O H σ env Q m d R h q
 obtain ⟨aA,e,h⟩:=ay h
 unfold fP at h
 split at h
 ·rename_i hl
  refine ha H₀ O H σ env _ aA R e fun vs H1 s1 h1=>⟨by rw [←Paired.length h1];exact hl,fun p hp=>?_⟩
  have R1:=R.keep s1
  split at h
  ·rename_i hs
   cases h
   rw [List.all_eq_true] at hs
   exact q _ _ (s1.trans (cB hp)) ((pY R1.od R1.hd hp (h1.iK fun md hm v hv=>hv.cG (hs md hm))).hb fun a z=>s1.free z)
  ·split at h
   ·rename_i hs
    cases h
    rw [List.all_eq_true] at hs
    refine q _ _ (s1.trans (cB hp)) ?_
    exact Rp.lst (.inl bG) (hZ R1.od hp) ((h1.iK fun md hm v hv=>hv.f6 (hs md hm)).keep (.same (cB hp)))
   ·cases h
 ·cases h
noncomputable def jF (aA:List (M×D)):Option (M×D) :=
 if aA.length≤sizeLine then
  if (aA.all fun md=>cG md.1 md.2)=true then some (.fr,.tup (aA.map (·.2)))
  else if (aA.all fun md=>f6 md.1 md.2)=true then some (.al,.tup (aA.map (·.2)))
  else if (aA.all fun md=>rq md.1 md.2)=true then some (.rb,.tup (aA.map (·.2))) else none
 else none
noncomputable def aQ (fs:Ev→Option (List (M×D))):Ev→Option (M×D):=fun e=>(fs e).bind jF
theorem SM {ta:TA}{fs:Ev→Option (List (M×D))} (ha:hJ K ta fs):JT K (GN ta) (aQ fs):=by
 intro H₀ O H σ env Q m d R h q
 obtain ⟨aA,e,h⟩:=ay h
 unfold jF at h
 split at h
 ·rename_i hl
  refine ha H₀ O H σ env _ aA R e fun vs H1 s1 h1=>⟨by rw [←Paired.length h1];exact hl,fun p hp=>?_⟩
  split at h
  ·rename_i hs
   cases h
   rw [List.all_eq_true] at hs
   exact q _ _ (s1.trans (cB hp)) (Rp.tup (.inl bG) ((h1.iK fun md hm v hv=>hv.cG (hs md hm)).keep (.same (cB hp))))
  ·split at h
   ·rename_i hs
    cases h
    rw [List.all_eq_true] at hs
    exact q _ _ (s1.trans (cB hp)) (Rp.tup (.inl bG) ((h1.iK fun md hm v hv=>hv.f6 (hs md hm)).keep (.same (cB hp))))
   ·split at h
    ·rename_i hs
     cases h
     rw [List.all_eq_true] at hs
     exact q _ _ (s1.trans (cB hp)) (Rp.tup (.inl bG) ((h1.iK fun md hm v hv=>hv.rq (hs md hm)).keep (.same (cB hp))))
    ·cases h
 ·cases h
noncomputable def eR (m:M) (ds:List D):Option (M×D) :=
 if aV m=.al then (if D.cw ds=true then some (.un,.lst ds) else some (.al,.lst ds)) else if aV m=.rb then (if D.cw ds=true then some (.un,.lst ds) else none) else some (.un,.lst ds)
theorem p7 {p:Addr}{xs:List V}{ds:List D}{m m':M}{d:D} (od:∀ a,O a→∃ o,H a=some o) (hd:∀ a o,H₀ a=some o→∃ o',H a=some o') (hp:H p=none) (r:aw K (NM H₀ O (aV m)) H xs ds) (h:eR m ds=some (m',d)):Val K H₀ O H (upd H p (.lst xs)) m' d (.ref p):=by
 unfold eR at h
 split at h
 ·rename_i e
  rw [e] at r
  split at h
  ·rename_i e;cases h;exact pY od hd hp (aw.im e r)
  ·cases h;exact Rp.lst (.inl bG) (hZ od hp) (r.keep (.same (cB hp)))
 ·split at h
  ·split at h
   ·rename_i e;cases h;exact pY od hd hp (aw.im e r)
   ·cases h
  ·rename_i e1 e2
   cases h
   have e:aV m=.fr:=by cases m<;>simp [aV] at e1 e2 ⊢
   rw [e] at r
   exact pY od hd hp r
def j5 (K:PySem.W.Frag) (r:List V→Hp→VK→Prop) (g:List (M×D)→Option (M×D)):Prop :=
 ∀ H₀ O H vs aA Q m d,(∀ a,O a→∃ o,H a=some o)→(∀ a o,H₀ a=some o→∃ o',H a=some o')→fB K H₀ O HE H aA vs→g aA=some (m,d)→(∀ v H',aI H H'→Val K H₀ O H H' m d v→Q v H')→r vs H Q
noncomputable def aJ (g:List (M×D)→Option (M×D)) (fs:Ev→Option (List (M×D))):Ev→Option (M×D):=fun e=>(fs e).bind g
theorem U8 {r:List V→Hp→VK→Prop}{g:List (M×D)→Option (M×D)}{ta:TA}{fs:Ev→Option (List (M×D))} (hr:j5 K r g) (ha:hJ K ta fs):JT K (vB r ta) (aJ g fs):=by
 intro H₀ O H σ env Q m d R h q
 obtain ⟨aA,e,h⟩:=ay h
 refine ha H₀ O H σ env _ aA R e fun vs H1 s1 h1=>?_
 have R1:=R.keep s1
 exact hr H₀ O H1 vs aA Q m d R1.od R1.hd (kz (fun _ _ z=>z.h0) h1) h fun v H3 s3 h3=>q v H3 (s1.trans s3) (h3.hb fun a z=>s1.free z)
theorem fB.one {Hb:Hp}{a:M×D}{vs:List V} (h:fB K H₀ O Hb H [a] vs):∃ v,vs=[v]∧Val K H₀ O Hb H a.1 a.2 v:=by
 cases h with|cons q t=>cases t;exact ⟨_,rfl,q⟩
theorem fB.two {Hb:Hp}{a b:M×D}{vs:List V} (h:fB K H₀ O Hb H [a,b] vs):∃ v w,vs=[v,w]∧Val K H₀ O Hb H a.1 a.2 v∧Val K H₀ O Hb H b.1 b.2 w:=by
 cases h with|cons q t=>cases t with|cons q' t=>cases t;exact ⟨_,_,rfl,q,q'⟩
noncomputable def bz:List (M×D)→Option (M×D)
 |[(_,.lst ds)]=>some (.fr,.int ds.length)
 |[(_,.tup ds)]=>some (.fr,.int ds.length)
 |[(_,.str z)]=>if z.length≤sizeLine then some (.fr,.int z.length) else none
 |_=>none
theorem Pu:j5 K (fun xs H Q=>∃ x n,xs=[x]∧zb K x H n∧Q (.int n) H) bz:=by
 intro H₀ O H vs aA Q m d _ _ hv h q
 unfold bz at h
 split at h
 ·cases h
  obtain ⟨v,rfl,hw⟩:=hv.one
  obtain ⟨a,xs,rfl,r,s⟩:=hw.lst
  exact ⟨_,_,rfl,.inl ⟨xs,r,s.len.symm⟩,q _ H (aI.refl H) ip⟩
 ·cases h
  obtain ⟨v,rfl,hw⟩:=hv.one
  obtain ⟨a,xs,rfl,r,s⟩:=hw.tup
  exact ⟨_,_,rfl,.inr ⟨xs,r,s.len.symm⟩,q _ H (aI.refl H) ip⟩
 ·split at h
  ·rename_i hz
   cases h
   obtain ⟨v,rfl,hw⟩:=hv.one
   obtain rfl:=hw.str
   exact ⟨_,_,rfl,⟨hz,rfl⟩,q _ H (aI.refl H) ip⟩
  ·cases h
 ·cases h
noncomputable def kQ:List (M×D)→Option (M×D)
 |[(_,.int i)]=>some (.fr,.int i)
 |[(_,.bl k)]=>some (.fr,.int (if k then 1 else 0))
 |_=>none
theorem Pw:j5 K (fun xs H Q=>(∃ i,xs=[.int i]∧Q (.int i) H)∨∃ k,xs=[.bl k]∧Q (.int (if k then 1 else 0)) H) kQ:=by
 intro H₀ O H vs aA Q m d _ _ hv h q
 unfold kQ at h
 split at h
 ·cases h
  obtain ⟨v,rfl,hw⟩:=hv.one
  obtain rfl:=hw.int
  exact .inl ⟨_,rfl,q _ H (aI.refl H) ip⟩
 ·cases h
  obtain ⟨v,rfl,hw⟩:=hv.one
  obtain rfl:=hw.bl
  exact .inr ⟨_,rfl,q _ H (aI.refl H) ip⟩
 ·cases h
noncomputable def qH:List (M×D)→Option (M×D)
 |[(_,.int i),(_,.int j)]=>some (.fr,.int (if j > i then j else i))
 |_=>none
theorem Px:j5 K (fun xs H Q=>∃ i j,xs=[.int i,.int j]∧Q (.int (if j > i then j else i)) H) qH:=by
 intro H₀ O H vs aA Q m d _ _ hv h q
 unfold qH at h
 split at h
 ·cases h
  obtain ⟨v,w,rfl,hx,hw⟩:=hv.two
  obtain rfl:=hx.int
  obtain rfl:=hw.int
  exact ⟨_,_,rfl,q _ H (aI.refl H) ip⟩
 ·cases h
noncomputable def lM:List (M×D)→Option (M×D)
 |[(m,.lst ds)]=>eR m ds
 |[(m,.tup ds)]=>eR m ds
 |_=>none
theorem Ny:j5 K (fun xs H Q=>∃ p ys,xs=[.ref p]∧(bL K H p ys∨bA K H p ys)∧∀ l,H l=none→Q (.ref l) (upd H l (.lst ys))) lM:=by
 intro H₀ O H vs aA Q m d od hd hv h q
 unfold lM at h
 split at h
 ·obtain ⟨v,rfl,hw⟩:=hv.one
  obtain ⟨a,xs,rfl,r,s⟩:=hw.lst
  exact ⟨_,_,rfl,.inl r,fun l hl=>q _ _ (cB hl) (p7 od hd hl s h)⟩
 ·obtain ⟨v,rfl,hw⟩:=hv.one
  obtain ⟨a,xs,rfl,r,s⟩:=hw.tup
  exact ⟨_,_,rfl,.inr r,fun l hl=>q _ _ (cB hl) (p7 od hd hl s h)⟩
 ·cases h
def oM (K:PySem.W.Frag) (t:TO) (f:Ev→Option (Option Int)):Prop :=
 ∀ H₀ O H σ env Q b,dz K H₀ O H σ env→f env=some b→(∀ H',aI H H'→Q b H')→t σ H Q
noncomputable def gS:Ev→Option (Option Int):=fun _=>some none
noncomputable def lW:M×D→Option Int
 | (_,.int i)=>some i
 |_=>none
theorem xR {a:M×D}{b:Int} (h:lW a=some b):a.2=.int b:=by
 obtain ⟨m,d⟩:=a
 cases d<;>simp only [lW] at h<;>first | (cases h;rfl)|cases h
noncomputable def dM (f:Ev→Option (M×D)):Ev→Option (Option Int):=fun e=>(f e).bind fun x=>(lW x).map some
theorem Nz:oM K DT gS:=by
 intro H₀ O H σ env Q b R h q
 cases h
 exact q H (aI.refl H)
theorem NB {t:TE}{f:Ev→Option (M×D)} (h:JT K t f):oM K (F0 t) (dM f):=by
 intro H₀ O H σ env Q b R e q
 obtain ⟨a,ea,e⟩:=ay e
 cases ei:lW a with
 |none=>rw [ei] at e;cases e
 |some i =>
  rw [ei] at e;cases e
  refine h H₀ O H σ env _ a.1 a.2 R ea fun x H1 s1 h1=>?_
  rw [xR ei] at h1
  exact ⟨i,h1.int,q H1 s1⟩
def lh (K:PySem.W.Frag) (r:V→Option Int→Option Int→Hp→VK→Prop) (g:M×D→Option Int→Option Int→Option (M×D)):Prop :=
 ∀ H₀ O H x lo hi a Q m d,(∀ a,O a→∃ o,H a=some o)→(∀ a o,H₀ a=some o→∃ o',H a=some o')→Val K H₀ O HE H (Prod.fst a) a.2 x→g a lo hi=some (m,d)→(∀ v H',aI H H'→Val K H₀ O H H' m d v→Q v H')→r x lo hi H Q
noncomputable def fu (g:M×D→Option Int→Option Int→Option (M×D)) (f:Ev→Option (M×D)) (l u:Ev→Option (Option Int)):Ev→Option (M×D):=fun e=>(f e).bind fun x=>(l e).bind fun lo=>(u e).bind fun hi=>g x lo hi
theorem U9 {r:V→Option Int→Option Int→Hp→VK→Prop}{g:M×D→Option Int→Option Int→Option (M×D)}{te:TE}{tl th:TO}{f:Ev→Option (M×D)}{l u:Ev→Option (Option Int)} (hr:lh K r g) (he:JT K te f) (hl:oM K tl l) (hu:oM K th u):JT K (Il r te tl th) (fu g f l u):=by
 intro H₀ O H σ env Q m d R h q
 obtain ⟨x,ex,h⟩:=ay h
 obtain ⟨lo,el,h⟩:=ay h
 obtain ⟨hi,eh,h⟩:=ay h
 refine he H₀ O H σ env _ x.1 x.2 R ex fun v H1 s1 h1=>?_
 refine hl H₀ O H1 σ env _ lo (R.keep s1) el fun H2 s2=>?_
 refine hu H₀ O H2 σ env _ hi ((R.keep s1).keep s2) eh fun H3 s3=>?_
 have R3:=((R.keep s1).keep s2).keep s3
 exact hr H₀ O H3 v lo hi x Q m d R3.od R3.hd ((h1.keep s2).keep s3).h0 h fun v H4 s4 h4=>q v H4 (((s1.trans s2).trans s3).trans s4) (h4.hb fun a z=>((s1.trans s2).trans s3).free z)
noncomputable def cut {α:Type} (xs:List α) (lo hi:Option Int):List α:=(xs.drop (HT.aU xs.length 0 lo)).take (HT.aU xs.length xs.length hi-HT.aU xs.length 0 lo)
noncomputable def zu:M×D→Option Int→Option Int→Option (M×D)
 | (m,.lst ds),lo,hi=>eR m (cut ds lo hi)
 |_,_,_=>none
theorem aw.cut {N:Addr→Prop}{xs:List V}{ds:List D}{lo hi:Option Int} (r:aw K N H xs ds):aw K N H (iz xs lo hi) (J.cut ds lo hi):=by
 unfold iz J.cut
 rw [r.len]
 exact (r.drop _).take _
theorem NC:lh K (zf K) zu:=by
 intro H₀ O H x lo hi a Q m d od hd h1 h q
 obtain ⟨ma,da⟩:=a
 cases da<;>try (cases h;done)
 obtain ⟨p,xs,rfl,r,s⟩:=h1.lst
 exact ⟨p,xs,rfl,r,fun l hl=>q _ _ (cB hl) (p7 od hd hl s.cut h)⟩
noncomputable def mJ:M→M→M
 |.al,_=>.al
 |_,.al=>.al
 |.rb,_=>.rb
 |_,.rb=>.rb
 |_,_=>.fr
theorem NM.IC {a b:M}{x:Addr} (ha:aV a≠.rb) (hb:aV b≠.rb) (h:NM H₀ O (aV a) x):NM H₀ O (aV (mJ a b)) x:=by
 cases a<;>cases b<;>first|exact h|exact h.1|exact absurd rfl ha|exact absurd rfl hb
theorem NM.IE {a b:M}{x:Addr} (ha:aV a≠.rb) (hb:aV b≠.rb) (h:NM H₀ O (aV b) x):NM H₀ O (aV (mJ a b)) x:=by
 cases a<;>cases b<;>first|exact h|exact h.1|exact absurd rfl ha|exact absurd rfl hb
noncomputable def oi:M×D→M×D→Option (M×D)
 | (m,.lst ds),(n,.lst es)=>if aV m=.rb∨aV n=.rb then none else if ds.length+es.length≤sizeLine then eR (mJ m n) (ds++es) else none
 |_,_=>none
noncomputable def uL (K:PySem.W.Frag):R2:=fun x y H Q=>∃ l b xs zs,x=.ref l∧y=.ref b∧bL K H l xs∧bL K H b zs∧xs.length+zs.length≤sizeLine∧∀ p,H p=none→Q (.ref p) (upd H p (.lst (xs++zs)))
theorem SN:JR K (uL K) oi:=by
 intro H₀ O H x y a b Q m d od hd h1 h2 h q
 obtain ⟨ma,da⟩:=a;obtain ⟨mb,db⟩:=b
 cases da<;>try (cases db<;>cases h;done)
 cases db<;>try (cases h;done)
 simp only [oi] at h
 split at h
 ·cases h
 ·rename_i hn
  split at h
  ·rename_i hl
   obtain ⟨p,xs,rfl,r,s⟩:=h1.lst
   obtain ⟨p',Aj,rfl,r',s'⟩:=h2.lst
   have n1:aV ma≠.rb:=fun z=>hn (.inl z)
   have n2:aV mb≠.rb:=fun z=>hn (.inr z)
   refine ⟨p,p',xs,Aj,rfl,rfl,r,r',by rw [s.len,s'.len];exact hl,fun l hl=>q _ _ (cB hl) (p7 od hd hl (aw.app (s.wk fun _ h _=>NM.IC n1 n2 h) (s'.wk fun _ h _=>NM.IE n1 n2 h)) h)⟩
  ·cases h
end
noncomputable def own:M→Bool
 |.bo=>true
 |.bi=>true
 |_=>false
theorem Py {m:M} (h:own m=true):hG m=true:=by cases m<;>first|rfl|cases h
theorem lA {α β:Type}{F:α→β→Prop}:∀ {l:List α}{r:List β},l.length=r.length→(∀ (j:Nat) a b,l[j]?=some a→r[j]?=some b→F a b)→Paired F l r
 |[],[],_,_=>.nil
 |a::l,b::r,e,h=>.cons (h 0 a b rfl rfl) (lA (by simpa using e) fun j x y h1 h2=>h (j+1) x y (by simpa using h1) (by simpa using h2))
 |[],_::_,e,_=>by simp at e
 |_::_,[],e,_=>by simp at e
def vN (H:Hp) (σ:St) (env:Ev):Prop :=
 (∀ (i j:Nat) (d d':D),env[i]?=some (some (.nb,d))→env[j]?=some (some (.nb,d'))→i=j) ∧
 ∀ (i j:Nat) (d:D) (x:M×D) (p q:Addr) (xs:List V),env[i]?=some (some (.nb,d))→σ[i]?=some (some (.ref p))→env[j]?=some (some x)→own x.1=true→σ[j]?=some (some (.ref q))→H p=some (.lst xs)→q≠p∧V.ref q∉xs
structure Rel (K:PySem.W.Frag) (H₀:Hp) (I:Nat→Option Addr) (O:Addr→Prop) (H:Hp) (σ:St) (env:Ev):Prop where
 e:dz K H₀ O H σ env
 fr:∀ a o,(∀ i,I i≠some a)→H₀ a=some o→H a=some o
 ow:∀ a,O a→(∃ i,I i=some a)∨H₀ a=none
 ba:∀ (i:Nat) d p,env[i]?=some (some (.bi,d))→σ[i]?=some (some (.ref p))→I i=some p
 dj:∀ (i j:Nat) (x y:M×D) (p:Addr),env[i]?=some (some x)→env[j]?=some (some y)→own x.1=true→own y.1=true→σ[i]?=some (some (.ref p))→σ[j]?=some (some (.ref p))→i=j
 nd:vN H σ env
def aM (O:Addr→Prop) (H:Hp) (O':Addr→Prop) (H':Hp):Prop:=∀ a o,H a=some o→¬ O a→H' a=some o∧¬ O' a
inductive Fl where
 |nx (e:Ev)|bk (e:Ev)|ct (e:Ev)|rt (e:Ev) (m:M) (d:D)
noncomputable def lX (K:PySem.W.Frag) (H₀:Hp) (I:Nat→Option Addr) (O:Addr→Prop) (H:Hp) (Ds:Ends):Fl→Prop
 |.nx e=>∀ O' H' σ',Rel K H₀ I O' H' σ' e→aM O H O' H'→Ds.nx σ' H'
 |.bk e=>∀ O' H' σ',Rel K H₀ I O' H' σ' e→aM O H O' H'→Ds.bk σ' H'
 |.ct e=>∀ O' H' σ',Rel K H₀ I O' H' σ' e→aM O H O' H'→Ds.ct σ' H'
 |.rt e m d=>∀ O' H' σ' v,Rel K H₀ I O' H' σ' e→aM O H O' H'→Val K H₀ O' HE H' m d v→Ds.rt v H'
def JS (K:PySem.W.Frag) (ts:TS) (g:Ev→Option Fl):Prop :=
 ∀ H₀ I O H σ env Ds fl,Rel K H₀ I O H σ env→g env=some fl→lX K H₀ I O H Ds fl→ts Ds σ H
section
variable {K:PySem.W.Frag}{H H' H₀:Hp}{I:Nat→Option Addr}{O O':Addr→Prop}{σ:St}{env:Ev}
theorem aM.refl:aM O H O H:=fun a o h n=>⟨h,n⟩
theorem aM.trans {O1 O2:Addr→Prop}{H1 H2:Hp} (a:aM O H O1 H1) (b:aM O1 H1 O2 H2):aM O H O2 H2:=fun x o h n=>b x o (a x o h n).1 (a x o h n).2
theorem aM.same (s:aI H H'):aM O H O H':=fun a o h n=>⟨s a o h,n⟩
theorem vN.keep (h:vN H σ env) (w:∀ (i:Nat) d p,env[i]?=some (some (.nb,d))→σ[i]?=some (some (.ref p))→H' p=H p):vN H' σ env :=
 ⟨h.1,fun i j d x p q xs h1 h2 h3 h4 h5 h6=>h.2 i j d x p q xs h1 h2 h3 h4 h5 (by rw [←w i d p h1 h2];exact h6)⟩
theorem dz.nest (R:dz K H₀ O H σ env) {i:Nat}{d:D}{p:Addr} (h1:env[i]?=some (some (.nb,d))) (h2:σ[i]?=some (some (.ref p))):∃ (qs:List Addr) (aP:List (List D)),d=.lst (aP.map D.lst)∧O p∧H₀ p=none∧H p=some (.lst (qs.map V.ref))∧qs.Nodup∧(∀ q∈qs,O q∧H₀ q=none∧q≠p) ∧
  Paired (fun q ds=>∃ xs,H q=some (.lst xs)∧aw K (fun a=>¬ O a∧H₀ a=none) H xs ds) qs aP:=by
 obtain ⟨v,hv,_,hm⟩:=R.at h1
 rw [h2] at hv;cases hv
 obtain ⟨p',qs,aP,e,r⟩:=hm
 cases e
 exact ⟨qs,aP,r⟩
theorem Rel.keep (R:Rel K H₀ I O H σ env) (s:aI H H'):Rel K H₀ I O H' σ env:=⟨R.e.keep s,fun a o n h=>s _ _ (R.fr a o n h),R.ow,R.ba,R.dj,R.nd.keep fun i d p h1 h2=>by
 obtain ⟨qs,aP,_,_,_,e,_⟩:=R.e.nest h1 h2
 rw [s _ _ e,e]⟩
noncomputable def IG:M→Bool
 |.al=>true
 |.fr=>true
 |_=>false
theorem Pz {m:M} (h:IG m=true):hG m=true:=by cases m<;>first|rfl|cases h
theorem lX.pre {O1:Addr→Prop}{H1:Hp}{Ds:Ends}{fl:Fl} (s:aM O H O1 H1) (h:lX K H₀ I O H Ds fl):lX K H₀ I O1 H1 Ds fl:=by
 cases fl<;>simp only [lX] at h ⊢
 ·exact fun O' H' σ' R t=>h O' H' σ' R (s.trans t)
 ·exact fun O' H' σ' R t=>h O' H' σ' R (s.trans t)
 ·exact fun O' H' σ' R t=>h O' H' σ' R (s.trans t)
 ·exact fun O' H' σ' v R t=>h O' H' σ' v R (s.trans t)
noncomputable def aR:Ev→Option Fl:=fun e=>some (.nx e)
theorem PB:JS K yI aR:=by
 intro H₀ I O H σ env Ds fl R h q
 cases h
 exact q O H σ R aM.refl
noncomputable def yQ:Ev→Option Fl:=fun e=>some (.ct e)
theorem PD:JS K yJ yQ:=by
 intro H₀ I O H σ env Ds fl R h q
 cases h
 exact q O H σ R aM.refl
noncomputable def aj (f g:Ev→Option Fl):Ev→Option Fl:=fun e=>(f e).bind fun r=>match r with
 |.nx e'=>g e'
 |.bk e'=>some (.bk e')
 |.ct e'=>some (.ct e')
 |.rt e' m d=>some (.rt e' m d)
theorem SQ {t u:TS}{f g:Ev→Option Fl} (ht:JS K t f) (hu:JS K u g):JS K (y4 t u) (aj f g):=by
 intro H₀ I O H σ env Ds fl R h q
 obtain ⟨r,er,h⟩:=ay h
 refine ht H₀ I O H σ env _ r R er ?_
 cases r with
 |nx e'=>exact fun O' H' σ' R' s=>hu H₀ I O' H' σ' e' Ds fl R' h (q.pre s)
 |bk e'=>cases h;exact q
 |ct e'=>cases h;exact q
 |rt e' m d=>cases h;exact q
noncomputable def aG (f:Ev→Option (M×D)):Ev→Option Fl:=fun e=>(f e).bind fun x=>some (.rt e x.1 x.2)
theorem SR {t:TE}{f:Ev→Option (M×D)} (h:JT K t f):JS K (uY t) (aG f):=by
 intro H₀ I O H σ env Ds fl R e q
 obtain ⟨x,ex,e⟩:=ay e
 cases e
 exact h H₀ O H σ env _ x.1 x.2 R.e ex fun v H1 s1 h1=>q O H1 σ v (R.keep s1) (aM.same s1) h1.h0
noncomputable def aK (c:Ev→Option Bool) (f g:Ev→Option Fl):Ev→Option Fl:=fun e=>(c e).bind fun b=>if b=true then f e else g e
theorem Va {c:TT}{t u:TS}{fc:Ev→Option Bool}{f g:Ev→Option Fl} (hc:eQ K c fc) (ht:JS K t f) (hu:JS K u g):JS K (y6 c t u) (aK fc f g):=by
 intro H₀ I O H σ env Ds fl R h q
 obtain ⟨b,eb,h⟩:=ay h
 refine hc H₀ O H σ env _ b R.e eb fun H1 s1=>?_
 cases b with
 |true =>
  rw [if_pos rfl] at h ⊢
  exact ht H₀ I O H1 σ env Ds fl (R.keep s1) h (q.pre (aM.same s1))
 |false =>
  rw [if_neg Bool.false_ne_true] at h ⊢
  exact hu H₀ I O H1 σ env Ds fl (R.keep s1) h (q.pre (aM.same s1))
noncomputable def F9:M→Option M
 |.al=>some .al
 |.fr=>some .fr
 |.un=>some .bo
 |_=>none
noncomputable def nE (x:M×D):Option (M×D):=match F9 x.1 with
 |some m=>some (m,x.2)
 |none=>if x.2.bQ=true then some (.fr,x.2) else none
theorem zv {α β:Type}{F:α→β→Prop}{a:α}{b:β} (q:F a b):∀ {l:List α}{r:List β} (i:Nat),Paired F l r→Paired F (l.set i a) (r.set i b)
 |_,_,_,.nil=>.nil
 |_,_,0,.cons _ t=>.cons q t
 |_,_,i+1,.cons h t=>.cons h (zv q i t)
theorem get_set {α:Type}{l:List α}{i j:Nat}{a b:α} (h:(l.set i a)[j]?=some b):(j=i∧b=a)∨(j≠i∧l[j]?=some b):=by
 rw [List.getElem?_set] at h
 split at h
 ·rename_i e
  split at h
  ·exact .inl ⟨e.symm,(Option.some.inj h).symm⟩
  ·cases h
 ·rename_i e
  exact .inr ⟨fun z=>e z.symm,h⟩
theorem Rel.lH {i:Nat}{x:M×D}{p:Addr} (R:Rel K H₀ I O H σ env) (hx:env[i]?=some (some x)) (ho:own x.1=true) (hp:σ[i]?=some (some (.ref p))):O p∧Cell K (fun a=>¬ O a∧H₀ a=none) H p x.2:=by
 obtain ⟨m,d⟩:=x
 obtain ⟨v,hv,n,hm⟩:=R.e.at hx
 rw [hp] at hv
 cases hv
 cases m<;>simp only [own] at ho<;>try (cases ho;done)
 ·obtain ⟨p',e,h1,_,c⟩:=hm;cases e;exact ⟨h1,c⟩
 ·obtain ⟨p',e,h1,c⟩:=hm;cases e;exact ⟨h1,c⟩
theorem xD {F:Addr→List D→Prop}:∀ {qs:List Addr}{aP:List (List D)}{q:Addr},Paired F qs aP→q∈qs→∃ ds,F q ds
 |_,_,_,.nil,h=>nomatch h
 |_,_,_,.cons a t,h=>by
  rcases List.mem_cons.mp h with rfl|h
  ·exact ⟨_,a⟩
  ·exact xD t h
theorem Rel.set_plain {i:Nat}{m:M}{d:D}{v:V} (R:Rel K H₀ I O H σ env) (hm:own m=false) (hu:IG m=true) (h:Val K H₀ O HE H m d v):Rel K H₀ I O H (σ.set i (some v)) (env.set i (some (m,d))):=by
 refine ⟨⟨zv (fun m' d' q=>?_) i R.e.sl,R.e.od,R.e.hd,R.e.on⟩,R.fr,R.ow,fun i' d' p h1 p1=>?_,fun i' j x y p h1 h2 o1 o2 p1 p2=>?_,⟨fun i' j d1 d2 h1 h2=>?_,fun i' j d1 x p q xs h1 p1 h2 o2 p2 e=>?_⟩⟩
 ·cases q;exact ⟨Pz hu,v,rfl,h⟩
 ·rcases get_set h1 with ⟨rfl,q⟩|⟨n1,q1⟩
  ·cases q;cases hm
  ·rw [List.getElem?_set_ne (fun z=>n1 z.symm)] at p1
   exact R.ba i' d' p q1 p1
 ·rcases get_set h1 with ⟨rfl,q⟩|⟨n1,q1⟩
  ·cases q;rw [hm] at o1;cases o1
  ·rcases get_set h2 with ⟨rfl,q⟩|⟨n2,q2⟩
   ·cases q;rw [hm] at o2;cases o2
   ·rw [List.getElem?_set_ne (fun z=>n1 z.symm)] at p1
    rw [List.getElem?_set_ne (fun z=>n2 z.symm)] at p2
    exact R.dj i' j x y p q1 q2 o1 o2 p1 p2
 ·rcases get_set h1 with ⟨rfl,q⟩|⟨n1,q1⟩
  ·cases q;cases hu
  ·rcases get_set h2 with ⟨rfl,q⟩|⟨n2,q2⟩
   ·cases q;cases hu
   ·exact R.nd.1 i' j d1 d2 q1 q2
 ·rcases get_set h1 with ⟨rfl,q⟩|⟨n1,q1⟩
  ·cases q;cases hu
  ·rcases get_set h2 with ⟨rfl,q⟩|⟨n2,q2⟩
   ·cases q;rw [hm] at o2;cases o2
   ·rw [List.getElem?_set_ne (fun z=>n1 z.symm)] at p1
    rw [List.getElem?_set_ne (fun z=>n2 z.symm)] at p2
    exact R.nd.2 i' j d1 x p q xs q1 p1 q2 o2 p2 e
theorem Rel.SV {i:Nat}{d:D}{v:V}{H1:Hp} (R:Rel K H₀ I O H σ env) (s:aI H H1) (h:Val K H₀ O H H1 .un d v):∃ O',Rel K H₀ I O' H1 (σ.set i (some v)) (env.set i (some (.bo,d)))∧aM O H O' H1:=by
 obtain ⟨p,rfl,hp,h0,ho,c⟩:=h
 have np:∀ a,(∃ o,H a=some o)→a≠p:=fun a ⟨o,e⟩=>dY e hp
 have wk:∀ {N:Addr→Prop}{d:D}{v:V},Rp K N H v d→Rp K (fun a=>N a∧a≠p) H1 v d:=fun r=>(r.wk fun a n e=>⟨n,np a e⟩).keep (.same s)
 have rC:∀ {N:Addr→Prop}{d:D}{q:Addr},Cell K N H q d→Cell K (fun a=>N a∧a≠p) H1 q d:=fun {N d q} r=>by
  obtain ⟨o,e,_⟩:=r.some
  exact (r.wk fun a n e=>⟨n,np a e⟩).keep (.same s) ((s _ _ e).trans e.symm)
 obtain ⟨o,eo,XU⟩:=c.some
 refine ⟨fun a=>O a∨a=p,⟨⟨zv (fun m' d' q=>?_) i (kz (fun e x h m d q=>?_) R.e.sl),?_,?_,?_⟩,?_,?_,?_,?_,?_⟩,?_⟩
 ·cases q
  exact ⟨rfl,_,rfl,p,rfl,.inr rfl,h0,c.wk fun a h _=>⟨fun z=>z.elim h.1.1 h.2,h.1.2⟩⟩
 ·obtain ⟨n,v,rfl,z⟩:=h m d q
  refine ⟨n,v,rfl,?_⟩
  cases m
  ·exact (wk z).wk fun a h _=>fun z=>z.elim h.1 h.2
  ·exact (wk z).wk fun a h _=>⟨fun z=>z.elim h.1.1 h.2,h.1.2⟩
  ·cases n
  ·obtain ⟨q,rfl,h1,h2,c'⟩:=z
   exact ⟨q,rfl,.inl h1,h2,(rC c').wk fun a h _=>⟨fun z=>z.elim h.1.1 h.2,h.1.2⟩⟩
  ·obtain ⟨q,rfl,h1,c'⟩:=z
   exact ⟨q,rfl,.inl h1,(rC c').wk fun a h _=>⟨fun z=>z.elim h.1.1 h.2,h.1.2⟩⟩
  ·cases n
  ·obtain ⟨q,qs,aP,e1,e2,h1,h2,h3,h4,h5,h6⟩:=z
   exact ⟨q,qs,aP,e1,e2,.inl h1,h2,s _ _ h3,h4,fun x hx=>⟨.inl (h5 x hx).1,(h5 x hx).2⟩,jw (fun x ds _ ⟨xs,a,r⟩=>⟨xs,s _ _ a,((r.wk fun a n e=>(⟨n,np a e⟩:(¬ O a∧H₀ a=none)∧a≠p)).keep (.same s)).wk fun a h _=>⟨fun z=>z.elim h.1.1 h.2,h.1.2⟩⟩) h6⟩
 ·intro a ha
  rcases ha with ha|rfl
  ·obtain ⟨o,e⟩:=R.e.od a ha;exact ⟨o,s _ _ e⟩
  ·exact ⟨o,eo⟩
 ·exact fun a o h=>let ⟨o,e⟩:=R.e.hd a o h;⟨o,s _ _ e⟩
 ·intro a u ha e
  rcases ha with ha|rfl
  ·exact (R.e.keep s).on a u ha e
  ·rw [eo] at e;cases e;exact XU
 ·exact fun a o n h=>s _ _ (R.fr a o n h)
 ·intro a ha
  rcases ha with ha|rfl
  ·exact R.ow a ha
  ·exact .inr h0
 ·intro i' d' p' h1 p1
  rcases get_set h1 with ⟨rfl,q⟩|⟨n1,q1⟩
  ·cases q
  ·rw [List.getElem?_set_ne (fun z=>n1 z.symm)] at p1
   exact R.ba i' d' p' q1 p1
 ·intro i' j x y q h1 h2 o1 o2 p1 p2
  rcases get_set h1 with ⟨rfl,q1⟩|⟨n1,q1⟩
  ·rcases get_set h2 with ⟨rfl,q2⟩|⟨n2,q2⟩
   ·rfl
   ·exfalso
    rw [List.getElem?_set_ne (fun z=>n2 z.symm)] at p2
    rcases get_set p1 with ⟨_,z⟩|⟨z,_⟩
    ·cases z
     obtain ⟨_,c'⟩:=R.lH q2 o2 p2
     obtain ⟨o',e',_⟩:=c'.some
     rw [hp] at e';cases e'
    ·exact z rfl
  ·rcases get_set h2 with ⟨rfl,q2⟩|⟨n2,q2⟩
   ·exfalso
    rw [List.getElem?_set_ne (fun z=>n1 z.symm)] at p1
    rcases get_set p2 with ⟨_,z⟩|⟨z,_⟩
    ·cases z
     obtain ⟨_,c'⟩:=R.lH q1 o1 p1
     obtain ⟨o',e',_⟩:=c'.some
     rw [hp] at e';cases e'
    ·exact z rfl
   ·rw [List.getElem?_set_ne (fun z=>n1 z.symm)] at p1
    rw [List.getElem?_set_ne (fun z=>n2 z.symm)] at p2
    exact R.dj i' j x y q q1 q2 o1 o2 p1 p2
 ·refine ⟨fun i' j d1 d2 h1 h2=>?_,fun i' j d1 x p' q xs h1 p1 h2 o2 p2 e=>?_⟩
  ·rcases get_set h1 with ⟨rfl,z⟩|⟨n1,q1⟩
   ·cases z
   ·rcases get_set h2 with ⟨rfl,z⟩|⟨n2,q2⟩
    ·cases z
    ·exact R.nd.1 i' j d1 d2 q1 q2
  ·rcases get_set h1 with ⟨rfl,z⟩|⟨n1,q1⟩
   ·cases z
   ·rw [List.getElem?_set_ne (fun z=>n1 z.symm)] at p1
    obtain ⟨qs,aP,_,_,_,e3,_,_,h6⟩:=R.e.nest q1 p1
    rw [s _ _ e3] at e;cases e
    rcases get_set h2 with ⟨rfl,z⟩|⟨n2,q2⟩
    ·rcases get_set p2 with ⟨_,z⟩|⟨z,_⟩
     ·cases z
      refine ⟨(fun z=>by rw [z,e3] at hp;cases hp),fun z=>?_⟩
      obtain ⟨a,ha,ea⟩:=List.mem_map.mp z
      cases ea
      obtain ⟨ds,xs,hx,_⟩:=xD h6 ha
      rw [hp] at hx;cases hx
     ·exact absurd rfl z
    ·rw [List.getElem?_set_ne (fun z=>n2 z.symm)] at p2
     exact R.nd.2 i' j d1 x p' q _ q1 p1 q2 o2 p2 e3
 ·intro a o h n
  exact ⟨s a o h,fun z=>z.elim n (np a ⟨o,h⟩)⟩
theorem Rel.give {i:Nat}{x y:M×D}{v:V}{H1:Hp} (R:Rel K H₀ I O H σ env) (s:aI H H1) (h:Val K H₀ O H H1 x.1 x.2 v) (e:nE x=some y):∃ O',Rel K H₀ I O' H1 (σ.set i (some v)) (env.set i (some y))∧aM O H O' H1:=by
 obtain ⟨m,d⟩:=x
 unfold nE at e
 cases m<;>simp only [F9] at e
 ·cases e;exact ⟨O,(R.keep s).set_plain rfl rfl h,.same s⟩
 ·cases e;exact ⟨O,(R.keep s).set_plain rfl rfl h,.same s⟩
 ·cases e;exact R.SV s h
 ·split at e
  ·rename_i hi;cases e;exact ⟨O,(R.keep s).set_plain rfl rfl (show Rp K _ H1 v d from h.weak.im hi),.same s⟩
  ·cases e
 ·split at e
  ·rename_i hi;cases e;exact ⟨O,(R.keep s).set_plain rfl rfl (show Rp K _ H1 v d from h.weak.im hi),.same s⟩
  ·cases e
 ·split at e
  ·rename_i hi;cases e;exact ⟨O,(R.keep s).set_plain rfl rfl (show Rp K _ H1 v d from h.weak.im hi),.same s⟩
  ·cases e
 ·split at e
  ·rename_i hi;cases e;exact ⟨O,(R.keep s).set_plain rfl rfl (show Rp K _ H1 v d from h.weak.im hi),.same s⟩
  ·cases e
noncomputable def ao (i:Nat) (f:Ev→Option (M×D)):Ev→Option Fl:=fun e=>(f e).bind fun x=>(nE x).bind fun y=>some (.nx (e.set i (some y)))
theorem E5 {i:Nat}{t:TE}{f:Ev→Option (M×D)} (h:JT K t f):JS K (gQ t (iT i)) (ao i f):=by
 intro H₀ I O H σ env Ds fl R e q
 obtain ⟨x,ex,e⟩:=ay e
 obtain ⟨y,ey,e⟩:=ay e
 cases e
 refine h H₀ O H σ env _ x.1 x.2 R.e ex fun v H1 s1 h1=>?_
 obtain ⟨O',R',st⟩:=R.give (i:=i) s1 h1 ey
 exact q O' H1 _ R' st
theorem Rel.mut {i:Nat}{m:M}{d d':D}{p:Addr}{o:HO} (R:Rel K H₀ I O H σ env) (hx:env[i]?=some (some (m,d))) (ho:own m=true) (hp:σ[i]?=some (some (.ref p)))
  (c:Cell K (fun a=>¬ O a∧H₀ a=none) (upd H p o) p d'):Rel K H₀ I O (upd H p o) σ (env.set i (some (m,d')))∧aM O H O (upd H p o):=by
 obtain ⟨hO,c0⟩:=R.lH hx ho hp
 obtain ⟨o0,e0,nt⟩:=c0.some
 have kp:∀ {N:Addr→Prop},(∀ a,N a→¬ O a)→Keeps N H (upd H p o):=fun w a u h z=>by
  have eO:a≠p:=by
   rintro rfl
   rcases z with z|z
   ·exact w _ z hO
   ·rw [e0] at h;cases h;exact nt z
  rw [aH eO];exact h
 have hi:i < env.length:=by
  rcases Nat.lt_or_ge i env.length with h|h
  ·exact h
  ·rw [List.getElem?_eq_none h] at hx;cases hx
 have hσ:σ=σ.set i (some (.ref p)):=by
  refine List.ext_getElem? fun j=>?_
  rw [List.getElem?_set]
  split
  ·rename_i z;subst z
   have hl:i < σ.length:=by rw [←Paired.length R.e.sl];exact hi
   rw [if_pos hl,hp]
  ·rfl
 refine ⟨⟨⟨?_,?_,?_,?_⟩,?_,R.ow,?_,?_,?_⟩,?_⟩
 ·
  have base:∀ (j:Nat) (e:Option (M×D)) (x:Option V),(env.set i (some (m,d')))[j]?=some e→σ[j]?=some x→∀ m d,e=some (m,d)→hG m=true∧∃ v,x=some v∧Val K H₀ O HE (upd H p o) m d v:=by
   intro j e x he rD m1 d1 q
   subst q
   rcases get_set he with ⟨rfl,q⟩|⟨nj,q⟩
   ·cases q
    rw [hp] at rD;cases rD
    refine ⟨Py ho,_,rfl,?_⟩
    cases m<;>simp only [own] at ho<;>try (cases ho;done)
    ·obtain ⟨v,hv,n,hm⟩:=R.e.at hx
     rw [hp] at hv;cases hv
     obtain ⟨p',e,h1,h2,_⟩:=hm;cases e
     exact ⟨p,rfl,h1,h2,c⟩
    ·exact ⟨p,rfl,hO,c⟩
   ·obtain ⟨v,hv,n,hm⟩:=R.e.at q
    rw [rD] at hv;cases hv
    refine ⟨n,v,rfl,?_⟩
    have nq:∀ {p':Addr},own m1=true→v=.ref p'→p'≠p:=fun {p'} Ak ev z=>by
     subst ev;subst z
     exact nj (R.dj j i _ _ p' q hx Ak ho rD hp)
    cases m1
    ·exact Rp.keep (kp fun a h=>h) hm
    ·exact Rp.keep (kp fun a h=>h.1) hm
    ·cases n
    ·obtain ⟨p',rfl,h1,h2,c'⟩:=hm
     exact ⟨p',rfl,h1,h2,c'.keep (kp fun a h=>h.1) (aH (nq rfl rfl))⟩
    ·obtain ⟨p',rfl,h1,c'⟩:=hm
     exact ⟨p',rfl,h1,c'.keep (kp fun a h=>h.1) (aH (nq rfl rfl))⟩
    ·cases n
    ·obtain ⟨p',qs,aP,rfl,e2,h1,h2,h3,h4,h5,h6⟩:=hm
     obtain ⟨z1,z2⟩:=R.nd.2 j i d1 (m,d) p' p _ q rD hx ho hp h3
     refine ⟨p',qs,aP,rfl,e2,h1,h2,by rw [aH (fun z=>z1 z.symm)];exact h3,h4,h5,jw (fun x ds hx ⟨xs,a,r⟩=>⟨xs,?_,r.keep (kp fun a h=>h.1)⟩) h6⟩
     rw [aH (fun z=>z2 (List.mem_map.mpr ⟨x,hx,by rw [z]⟩))];exact a
  refine lA ?_ fun j e x h1 h2=>base j e x h1 h2
  rw [List.length_set];exact Paired.length R.e.sl
 ·intro a ha
  by_cases z:a=p
  ·subst z;exact ⟨o,bG⟩
  ·rw [aH z];exact R.e.od a ha
 ·intro a u h
  by_cases z:a=p
  ·subst z;exact ⟨o,bG⟩
  ·rw [aH z];exact R.e.hd a u h
 ·intro a u ha e
  by_cases z:a=p
  ·subst z
   obtain ⟨o1,e1,n1⟩:=c.some
   rw [e] at e1;cases e1;exact n1
  ·rw [aH z] at e;exact R.e.on a u ha e
 ·intro a u n h
  have z:a≠p:=by
   rintro rfl
   rcases R.ow a hO with ⟨i,q⟩|q
   ·exact n i q
   ·rw [h] at q;cases q
  rw [aH z];exact R.fr a u n h
 ·intro i' e' p' h1 p1
  rcases get_set h1 with ⟨rfl,q⟩|⟨n1,q1⟩
  ·cases q;exact R.ba _ d p' hx p1
  ·exact R.ba i' e' p' q1 p1
 ·intro i' j x y q h1 h2 o1 o2 p1 p2
  have f:∀ {k:Nat}{x:M×D},(env.set i (some (m,d')))[k]?=some (some x)→own x.1=true→∃ x',env[k]?=some (some x')∧own x'.1=true:=fun {k x} h o=>by
   rcases get_set h with ⟨rfl,q⟩|⟨_,q⟩
   ·exact ⟨_,hx,ho⟩
   ·exact ⟨x,q,o⟩
  obtain ⟨x',a1,b1⟩:=f h1 o1
  obtain ⟨y',a2,b2⟩:=f h2 o2
  exact R.dj i' j x' y' q a1 a2 b1 b2 p1 p2
 ·have g:∀ {k:Nat}{d1:D},(env.set i (some (m,d')))[k]?=some (some (.nb,d1))→env[k]?=some (some (.nb,d1)):=fun {k d1} h=>by
   rcases get_set h with ⟨rfl,q⟩|⟨_,q⟩
   ·cases q;cases ho
   ·exact q
  refine ⟨fun i' j d1 d2 h1 h2=>R.nd.1 i' j d1 d2 (g h1) (g h2),fun i' j d1 x p' q xs h1 p1 h2 o2 p2 e=>?_⟩
  obtain ⟨qs,aP,_,_,_,e3,_⟩:=R.e.nest (g h1) p1
  obtain ⟨z1,_⟩:=R.nd.2 i' i d1 (m,d) p' p _ (g h1) p1 hx ho hp e3
  rw [aH (fun z=>z1 z.symm)] at e
  rcases get_set h2 with ⟨rfl,z⟩|⟨_,z⟩
  ·cases z;exact R.nd.2 i' j d1 (m,d) p' q xs (g h1) p1 hx ho p2 e
  ·exact R.nd.2 i' j d1 x p' q xs (g h1) p1 z o2 p2 e
 ·intro a u h n
  have z:a≠p:=by rintro rfl;exact n hO
  exact ⟨by rw [aH z];exact h,n⟩
end
section
variable {K:PySem.W.Frag}{H H' H₀:Hp}{I:Nat→Option Addr}{O O':Addr→Prop}{σ:St}{env:Ev}
noncomputable def dE (i:Nat) (e:Ev):Option (M×List D):=match e[i]? with
 |some (some (m,.lst ds))=>if own m=true then some (m,ds) else none
 |_=>none
theorem D3 {i:Nat}{e:Ev}{m:M}{ds:List D} (h:dE i e=some (m,ds)):e[i]?=some (some (m,.lst ds))∧own m=true:=by
 unfold dE at h
 split at h
 ·rename_i e
  split at h
  ·cases h;exact ⟨e,by assumption⟩
  ·cases h
 ·cases h
theorem Rel.lst {i:Nat}{m:M}{ds:List D} (R:Rel K H₀ I O H σ env) (h:dE i env=some (m,ds)):∃ p xs,σ[i]?=some (some (.ref p))∧O p∧H p=some (.lst xs)∧aw K (fun a=>¬ O a∧H₀ a=none) H xs ds:=by
 obtain ⟨e,o⟩:=D3 h
 obtain ⟨v,hv,n,hm⟩:=R.e.at e
 cases m<;>simp only [own] at o<;>try (cases o;done)
 ·obtain ⟨p,rfl,h1,h2,xs,c,r⟩:=hm;exact ⟨p,xs,hv,h1,c,r⟩
 ·obtain ⟨p,rfl,h1,xs,c,r⟩:=hm;exact ⟨p,xs,hv,h1,c,r⟩
theorem aw.upd {xs:List V}{ds:List D}{p:Addr}{o:HO}{o0:HO} (hO:O p) (h0:H p=some o0) (nt:¬ gZ o0) (r:aw K (fun a=>¬ O a∧H₀ a=none) H xs ds):aw K (fun a=>¬ O a∧H₀ a=none) (L2.upd H p o) xs ds:=by
 refine r.keep fun a u e z=>?_
 have eO:a≠p:=by
  rintro rfl
  rcases z with z|z
  ·exact z.1 hO
  ·rw [h0] at e;cases e;exact nt z
 rw [aH eO];exact e
theorem Rel.vf {i:Nat}{m:M}{ds:List D}{p:Addr}{xs ys:List V}{es:List D} (R:Rel K H₀ I O H σ env) (h:dE i env=some (m,ds)) (hp:σ[i]?=some (some (.ref p))) (hx:H p=some (.lst xs)) (r:aw K (fun a=>¬ O a∧H₀ a=none) H ys es) :
  Rel K H₀ I O (L2.upd H p (.lst ys)) σ (env.set i (some (m,.lst es)))∧aM O H O (L2.upd H p (.lst ys)):=by
 obtain ⟨e,o⟩:=D3 h
 have hO:=(R.lH e o hp).1
 exact R.mut e o hp ⟨ys,bG,r.upd hO hx (fun z=>z)⟩
noncomputable def cE (i:Nat) (f:Ev→Option (M×D)):Ev→Option Fl:=fun e=>(f e).bind fun x=>if cG x.1 x.2=true then (dE i e).bind fun y=>if y.2.length < sizeLine then some (.nx (e.set i (some (y.1,.lst (y.2++[x.2]))))) else none else none
theorem SW {i:Nat}{t:TE}{f:Ev→Option (M×D)} (h:JT K t f):JS K (nP (vF K "list" uc (fQ i) (lJ t kJ))) (cE i f):=by
 intro H₀ I O H σ env Ds fl R e q
 obtain ⟨x,ex,e⟩:=ay e
 split at e
 ·rename_i hs
  obtain ⟨⟨m,ds⟩,ey,e⟩:=ay e
  split at e
  ·rename_i hl
   cases e
   obtain ⟨p,xs,hp,hO,hx,r⟩:=R.lst ey
   refine ⟨.ref p,hp,.inl ⟨rfl,xs,.inl (.inl hx)⟩,?_⟩
   refine h H₀ O H σ env _ x.1 x.2 R.e ex fun v H1 s1 h1=>?_
   refine ⟨p,xs,v,rfl,rfl,s1 _ _ hx,by rw [r.len];exact hl,?_⟩
   have R1:=R.keep s1
   obtain ⟨R2,st⟩:=R1.vf (ys:=xs++[v]) (es:=ds++[x.2]) ey hp (s1 _ _ hx) ((r.keep (.same s1)).app (.cons (h1.cG hs) .nil))
   exact q O _ σ R2 ((aM.same s1).trans st)
  ·cases e
 ·cases e
noncomputable def c9 (i:Nat) (fk fe:Ev→Option (M×D)):Ev→Option Fl:=fun e=>(fe e).bind fun x=>(fk e).bind fun k=>(lW k).bind fun k=>if cG x.1 x.2=true then (dE i e).bind fun y=>(cT y.2.length k).bind fun j=>some (.nx (e.set i (some (y.1,.lst (y.2.set j x.2))))) else none
theorem NF {i:Nat}{t tk:TE}{f fk:Ev→Option (M×D)} (h:JT K t f) (hk:JT K tk fk):JS K (gQ t (GL (fQ i) tk F2)) (c9 i fk f):=by
 intro H₀ I O H σ env Ds fl R e q
 obtain ⟨x,ex,e⟩:=ay e
 obtain ⟨k,ek,e⟩:=ay e
 obtain ⟨k',XW,e⟩:=ay e
 split at e
 ·rename_i hs
  obtain ⟨⟨m,ds⟩,ey,e⟩:=ay e
  obtain ⟨j,ej,e⟩:=ay e
  cases e
  obtain ⟨p,xs,hp,hO,hx,r⟩:=R.lst ey
  refine h H₀ O H σ env _ x.1 x.2 R.e ex fun v H1 s1 h1=>?_
  refine ⟨.ref p,hp,?_⟩
  refine hk H₀ O H1 σ env _ k.1 k.2 (R.keep s1).e ek fun w H2 s2 h2=>?_
  rw [xR XW] at h2
  have s:=s1.trans s2
  refine ⟨p,xs,k',j,rfl,h2.int,s _ _ hx,by rw [r.len];exact ej,?_⟩
  obtain ⟨R2,st⟩:=(R.keep s).vf (ys:=xs.set j v) (es:=ds.set j x.2) ey hp (s _ _ hx) ((r.keep (.same s)).set ((h1.keep s2).cG hs) j)
  exact q O _ σ R2 ((aM.same s).trans st)
 ·cases e
noncomputable def kR (j i:Nat):Ev→Option Fl:=fun e=>(dE i e).bind fun y=>(y.2[y.2.length-1]?).bind fun d=>some (.nx ((e.set i (some (y.1,.lst y.2.dropLast))).set j (some (.fr,d))))
theorem SX {i j:Nat}:JS K (gQ (qD K "list" GR (fQ i)) (iT j)) (kR j i):=by
 intro H₀ I O H σ env Ds fl R e q
 obtain ⟨⟨m,ds⟩,ey,e⟩:=ay e
 obtain ⟨d,ed,e⟩:=ay e
 cases e
 obtain ⟨p,xs,hp,hO,hx,r⟩:=R.lst ey
 refine ⟨.ref p,hp,.inl ⟨rfl,xs,.inl (.inl hx)⟩,?_⟩
 obtain ⟨v,hv,rv⟩:=r.get ed
 refine ⟨p,xs,v,rfl,rfl,hx,by rw [r.len];exact hv,?_⟩
 obtain ⟨R2,st⟩:=R.vf (ys:=xs.dropLast) (es:=ds.dropLast) ey hp hx r.dl
 have Al:Rp K (fun a=>¬ O a∧H₀ a=none) (L2.upd H p (.lst xs.dropLast)) v d:=by
  have z:=aw.upd (o:=.lst xs.dropLast) hO hx (fun z=>z) (aw.cons rv .nil)
  cases z with|cons a _=>exact a
 exact q O _ _ (R2.set_plain (i:=j) (m:=.fr) rfl rfl Al) st
noncomputable def yl (i:Nat):Ev→Option Fl:=fun e=>(dE i e).bind fun y=>some (.nx (e.set i (some (y.1,.lst []))))
theorem NK {i:Nat}:JS K (nP (qD K "list" EV (fQ i))) (yl i):=by
 intro H₀ I O H σ env Ds fl R e q
 obtain ⟨⟨m,ds⟩,ey,e⟩:=ay e
 cases e
 obtain ⟨p,xs,hp,hO,hx,r⟩:=R.lst ey
 refine ⟨.ref p,hp,.inl ⟨rfl,xs,.inl (.inl hx)⟩,p,xs,rfl,rfl,hx,?_⟩
 obtain ⟨R2,st⟩:=R.vf (ys:=[]) (es:=[]) ey hp hx .nil
 exact q O _ σ R2 st
noncomputable def aW (i:Nat) (e:Ev):Ev:=match e[i]? with
 |some (some (.bo,d))=>e.set i (some (.fr,d))
 |_=>e
noncomputable def cN (i:Nat) (g:Ev→Option Fl):Ev→Option Fl:=fun e=>g (aW i e)
theorem Rel.aW {i:Nat} (R:Rel K H₀ I O H σ env):∃ O',Rel K H₀ I O' H σ (J.aW i env)∧aM O H O' H:=by
 unfold J.aW
 split
 ·rename_i d e
  obtain ⟨v,hv,n,p,rfl,hO,h0,c⟩:=R.e.at e
  have hi:i < env.length:=by
   rcases Nat.lt_or_ge i env.length with h|h
   ·exact h
   ·rw [List.getElem?_eq_none h] at e;cases e
  have W:∀ {a:Addr},¬ O a→¬ (O a∧a≠p):=fun h z=>h z.1
  refine ⟨fun a=>O a∧a≠p,⟨⟨?_,fun a h=>R.e.od a h.1,R.e.hd,fun a o h=>R.e.on a o h.1⟩,R.fr,fun a h=>R.ow a h.1,?_,?_,?_⟩,fun a o h n=>⟨h,W n⟩⟩
  ·have base:∀ (j:Nat) (y:Option (M×D)) (x:Option V),(env.set i (some (.fr,d)))[j]?=some y→σ[j]?=some x→∀ m d,y=some (m,d)→hG m=true∧∃ v,x=some v∧Val K H₀ (fun a=>O a∧a≠p) HE H m d v:=by
    intro j y x hy hx m1 d1 q
    subst q
    rcases get_set hy with ⟨rfl,q⟩|⟨nj,q⟩
    ·cases q
     rw [hv] at hx;cases hx
     exact ⟨rfl,_,rfl,(c.wk fun a h _=>(⟨W h.1,h.2⟩:¬ (O a∧a≠p)∧H₀ a=none)).rp ⟨fun z=>z.2 rfl,h0⟩⟩
    ·obtain ⟨v,f7,n1,hm⟩:=R.e.at q
     rw [hx] at f7;cases f7
     refine ⟨n1,v,rfl,?_⟩
     have nq:∀ {p':Addr},own m1=true→v=.ref p'→p'≠p:=fun {p'} Ak ev z=>by
      subst ev;subst z
      exact nj (R.dj j i _ _ p' q e Ak rfl hx hv)
     cases m1
     ·exact Rp.wk (fun a h _=>W h) hm
     ·exact Rp.wk (fun a h _=>⟨W h.1,h.2⟩) hm
     ·cases n1
     ·obtain ⟨p',rfl,h1,h2,c'⟩:=hm
      exact ⟨p',rfl,⟨h1,nq rfl rfl⟩,h2,c'.wk fun a h _=>⟨W h.1,h.2⟩⟩
     ·obtain ⟨p',rfl,h1,c'⟩:=hm
      exact ⟨p',rfl,⟨h1,nq rfl rfl⟩,c'.wk fun a h _=>⟨W h.1,h.2⟩⟩
     ·cases n1
     ·obtain ⟨p',qs,aP,rfl,e2,h1,h2,h3,h4,h5,h6⟩:=hm
      obtain ⟨z1,z2⟩:=R.nd.2 j i d1 (.bo,d) p' p _ q hx e rfl hv h3
      exact ⟨p',qs,aP,rfl,e2,⟨h1,fun z=>z1 z.symm⟩,h2,h3,h4,fun x hx=>⟨⟨(h5 x hx).1,fun z=>z2 (List.mem_map.mpr ⟨x,hx,by rw [z]⟩)⟩,(h5 x hx).2⟩,jw (fun x ds _ ⟨xs,a,r⟩=>⟨xs,a,r.wk fun a h _=>⟨W h.1,h.2⟩⟩) h6⟩
   refine lA ?_ fun j e x h1 h2=>base j e x h1 h2
   rw [List.length_set];exact Paired.length R.e.sl
  ·intro i' d' p' h1 p1
   rcases get_set h1 with ⟨rfl,z⟩|⟨_,z1⟩
   ·cases z
   ·exact R.ba i' d' p' z1 p1
  ·intro i' j x y q h1 h2 o1 o2 p1 p2
   rcases get_set h1 with ⟨rfl,z⟩|⟨_,z1⟩
   ·cases z;cases o1
   ·rcases get_set h2 with ⟨rfl,z⟩|⟨_,z2⟩
    ·cases z;cases o2
    ·exact R.dj i' j x y q z1 z2 o1 o2 p1 p2
  ·refine ⟨fun i' j d1 d2 h1 h2=>?_,fun i' j d1 x p' q xs h1 p1 h2 o2 p2 e'=>?_⟩
   ·rcases get_set h1 with ⟨rfl,z⟩|⟨_,z1⟩
    ·cases z
    ·rcases get_set h2 with ⟨rfl,z⟩|⟨_,z2⟩
     ·cases z
     ·exact R.nd.1 i' j d1 d2 z1 z2
   ·rcases get_set h1 with ⟨rfl,z⟩|⟨_,z1⟩
    ·cases z
    ·rcases get_set h2 with ⟨rfl,z⟩|⟨_,z2⟩
     ·cases z;cases o2
     ·exact R.nd.2 i' j d1 x p' q xs z1 p1 z2 o2 p2 e'
 ·exact ⟨O,R,aM.refl⟩
theorem SY {i:Nat}{t:TS}{g:Ev→Option Fl} (h:JS K t g):JS K t (cN i g):=by
 intro H₀ I O H σ env Ds fl R e q
 obtain ⟨O',R',st⟩:=R.aW (i:=i)
 exact h H₀ I O' H σ _ Ds fl R' e (q.pre st)
theorem Rp.XX {N:Addr→Prop}{v:V}{d:D}{O2:Addr→Prop}{H2:Hp} (on:∀ a o,O a→H a=some o→¬ gZ o) (st:aM O H O2 H2) (w:∀ a,N a→¬ O a) (r:Rp K N H v d):Rp K (fun a=>N a∧¬ O2 a) H2 v d:=by
 refine (Rp.wk (N':=fun a=>N a∧¬ O2 a) (fun a n ⟨o,e⟩=>⟨n,(st a o e (w a n)).2⟩) r).keep fun a o e z=>?_
 refine (st a o e ?_).1
 rcases z with z|z
 ·exact w a z.1
 ·exact fun h=>on a o h e z
structure jN (K:PySem.W.Frag) (H₀:Hp) (O:Addr→Prop) (J:It) (H:Hp) (m:M) (ds:List D):Prop where
 go:∀ O2 H2 i,aM O H O2 H2→i < ds.length→J.go i H2
 iF:∀ O2 H2 i x H3,aM O H O2 H2→i < ds.length→J.iF i H2 x H3→aI H2 H3∧∃ d,ds[i]?=some d∧Val K H₀ O2 HE H3 m d x
 stop:∀ O2 H2,aM O H O2 H2→J.stop ds.length H2
noncomputable def eJ:M→Bool
 |.al=>true
 |.fr=>true
 |_=>false
def JI (K:PySem.W.Frag) (wi:TI) (it:Ev→Option (M×List D)):Prop :=
 ∀ H₀ O H σ env R m ds,dz K H₀ O H σ env→it env=some (m,ds)→(∀ J H',aI H H'→eJ m=true→jN K H₀ O J H' m ds→R J H')→wi σ H R
noncomputable def bX:M→Option M
 |.al=>some .al
 |.fr=>some .fr
 |.un=>some .fr
 |_=>none
noncomputable def bO (f:Ev→Option (M×D)):Ev→Option (M×List D):=fun e=>(f e).bind fun x=>match x.2 with
 |.lst ds=>(bX x.1).map fun m=>(m,ds)
 |_=>none
theorem D4 {m n:M}{ds:List D}{v:V}{Hb:Hp} (e:bX m=some n) (h:Val K H₀ O Hb H m (.lst ds) v):eJ n=true∧∃ a xs,v=.ref a∧((Rd H a (.lst xs)∧¬ O a)∨vL K a xs)∧aw K (NM H₀ O n) H xs ds:=by
 cases m<;>simp only [bX] at e<;>cases e
 ·cases h with
  |lst r n q=>exact ⟨rfl,_,_,rfl,.inl ⟨r,n⟩,q⟩
  |lstK r q=>exact ⟨rfl,_,_,rfl,.inr r,q⟩
 ·cases h with
  |lst r n q=>exact ⟨rfl,_,_,rfl,.inl ⟨r,n.1⟩,q⟩
  |lstK r q=>exact ⟨rfl,_,_,rfl,.inr r,q⟩
 ·obtain ⟨p,rfl,_,_,h2,xs,q,r⟩:=h;exact ⟨rfl,_,_,rfl,.inl ⟨.inl q,h2⟩,r.wk fun a h _=>h.1⟩
theorem NM.no {n:M}{a:Addr} (e:eJ n=true) (h:NM H₀ O n a):¬ O a:=by
 cases n<;>first|exact h|exact h.1|cases e
theorem uh {n:M}{d:D}{v:V}{O2:Addr→Prop}{H2:Hp} (e:eJ n=true) (on:∀ a o,O a→H a=some o→¬ gZ o) (st:aM O H O2 H2) (r:Rp K (NM H₀ O n) H v d):Val K H₀ O2 HE H2 n d v:=by
 have z:=Rp.XX on st (fun a h=>NM.no e h) r
 cases n
 ·exact z.wk fun a h _=>h.2
 ·exact z.wk fun a h _=>⟨h.2,h.1.2⟩
 ·cases e
 ·cases e
 ·cases e
 ·cases e
 ·cases e
theorem MB {a:Addr}{xs:List V}{ds:List D}{n:M} (e:eJ n=true) (on:∀ a o,O a→H a=some o→¬ gZ o) (hr:(Rd H a (.lst xs)∧¬ O a)∨vL K a xs) (r:aw K (NM H₀ O n) H xs ds):jN K H₀ O (zV K a) H n ds:=by
 have st:∀ {O2:Addr→Prop}{H2:Hp},aM O H O2 H2→bL K H2 a xs:=fun {O2 H2} s=>by
  rcases hr with ⟨h|⟨o,h⟩,ha⟩|h
  ·exact .inl (.inl (s _ _ h ha).1)
  ·exact .inl (.inr ⟨o,(s _ _ h ha).1⟩)
  ·exact .inr h
 refine ⟨fun O2 H2 i s hi=>?_,fun O2 H2 i x H3 s hi y=>?_,fun O2 H2 s=>⟨xs,st s,by rw [r.len];exact Nat.le_refl _⟩⟩
 ·exact ⟨xs,xs[i]'(by rw [r.len];exact hi),st s,by simp⟩
 ·obtain ⟨rfl,y⟩:=y
  have y:=y xs (st s)
  obtain ⟨v,hv,rv⟩:=r.get (i:=i) (d:=ds[i]) (by simp [hi])
  rw [y] at hv;cases hv
  exact ⟨aI.refl _,ds[i],by simp [hi],uh e on s rv⟩
theorem PF {t:TE}{f:Ev→Option (M×D)} (h:JT K t f):JI K (yK K t) (bO f):=by
 intro H₀ O H σ env R m ds Re e q
 obtain ⟨⟨m0,d0⟩,ex,e⟩:=ay e
 cases d0<;>simp only at e<;>try (cases e;done)
 cases em:bX m0 with
 |none=>rw [em] at e;cases e
 |some n =>
  rw [em] at e;cases e
  refine h H₀ O H σ env _ _ _ Re ex fun v H1 s1 h1=>?_
  obtain ⟨e1,a,xs,rfl,hr,r⟩:=D4 em h1
  exact ⟨a,rfl,⟨xs,hr.elim (fun z=>.inl z.1) .inr⟩,q _ H1 s1 e1 (MB e1 (Re.keep s1).on hr r)⟩
theorem NP {a:Addr}{xs:List V}{ds:List D}{n:M} (e:eJ n=true) (on:∀ a o,O a→H a=some o→¬ gZ o) (hr:bA K H a xs) (r:aw K (NM H₀ O n) H xs ds):jN K H₀ O (zW K a) H n ds:=by
 have st:∀ {O2:Addr→Prop}{H2:Hp},aM O H O2 H2→bA K H2 a xs:=fun {O2 H2} s=>by
  rcases hr with h|h
  ·exact .inl (s _ _ h fun z=>on _ _ z h trivial).1
  ·exact .inr h
 refine ⟨fun O2 H2 i s hi=>?_,fun O2 H2 i x H3 s hi y=>?_,fun O2 H2 s=>⟨xs,st s,by rw [r.len];exact Nat.le_refl _⟩⟩
 ·exact ⟨xs,xs[i]'(by rw [r.len];exact hi),st s,by simp⟩
 ·obtain ⟨rfl,y⟩:=y
  have y:=y xs (st s)
  obtain ⟨v,hv,rv⟩:=r.get (i:=i) (d:=ds[i]) (by simp [hi])
  rw [y] at hv;cases hv
  exact ⟨aI.refl _,ds[i],by simp [hi],uh e on s rv⟩
noncomputable def II (f:Ev→Option (M×D)):Ev→Option (M×List D):=fun e=>(f e).bind fun x=>match x.2 with
 |.tup ds=>(bX x.1).map fun m=>(m,ds)
 |_=>none
theorem S0 {t:TE}{f:Ev→Option (M×D)} (h:JT K t f):JI K (y8 K t) (II f):=by
 intro H₀ O H σ env R m ds Re e q
 obtain ⟨⟨m0,d0⟩,ex,e⟩:=ay e
 cases d0<;>simp only at e<;>try (cases e;done)
 cases em:bX m0 with
 |none=>rw [em] at e;cases e
 |some n =>
  rw [em] at e;cases e
  refine h H₀ O H σ env _ _ _ Re ex fun v H1 s1 h1=>?_
  obtain ⟨a,xs,rfl,hr,r⟩:=h1.tup
  have e1:aV m0=m∧eJ m=true:=by clear ex h1 r;cases m0<;>cases em<;>exact ⟨rfl,rfl⟩
  rw [e1.1] at r
  exact ⟨a,rfl,⟨xs,hr⟩,q _ H1 s1 e1.2 (NP e1.2 (Re.keep s1).on hr r)⟩
noncomputable def bT (lo:Int) (n:Nat):List D:=(List.range n).map fun (k:Nat)=>.int (lo+(k:Int))
theorem C9 {lo:Int}{n:Nat}:jN K H₀ O (qX lo n) H .fr (bT lo n):=by
 have l:(bT lo n).length=n:=by simp [bT]
 refine ⟨fun O2 H2 i s hi=>by rw [l] at hi;exact hi,fun O2 H2 i x H3 s hi y=>?_,fun O2 H2 s=>by rw [l];exact Nat.le_refl n⟩
 obtain ⟨rfl,rfl⟩:=y
 rw [l] at hi
 exact ⟨aI.refl _,.int (lo+i),by simp [bT,hi],Rp.int _⟩
theorem vO:(2:Int) ^ 62=4611686018427387904:=by decide
noncomputable def bP (fs:Ev→Option (List (M×D))):Ev→Option (M×List D):=fun e=>(fs e).bind fun l=>match l with
 |[(_,.int j)]=>if -4611686018427387904≤j∧j < 4611686018427387904 then some (.fr,bT 0 j.toNat) else none
 |_=>none
theorem PH {t:TA}{fs:Ev→Option (List (M×D))} (h:hJ K t fs):JI K (FX t) (bP fs):=by
 intro H₀ O H σ env R m ds Re e q
 obtain ⟨l,el,e⟩:=ay e
 split at e
 ·split at e
  ·rename_i hj
   cases e
   refine h H₀ O H σ env _ _ Re el fun vs H1 s1 h1=>?_
   obtain ⟨v,rfl,hv⟩:=h1.one
   obtain rfl:=hv.int
   exact ⟨_,rfl,by rw [vO];exact hj.1,by rw [vO];exact hj.2,q _ H1 s1 rfl C9⟩
  ·cases e
 ·cases e
noncomputable def qI (fs:Ev→Option (List (M×D))):Ev→Option (M×List D):=fun e=>(fs e).bind fun l=>match l with
 |[(_,.int i),(_,.int j)]=>if -4611686018427387904≤i∧i < 4611686018427387904∧-4611686018427387904≤j∧j < 4611686018427387904 then some (.fr,bT i (j-i).toNat) else none
 |_=>none
theorem PJ {t:TA}{fs:Ev→Option (List (M×D))} (h:hJ K t fs):JI K (FY t) (qI fs):=by
 intro H₀ O H σ env R m ds Re e q
 obtain ⟨l,el,e⟩:=ay e
 split at e
 ·split at e
  ·rename_i hj
   cases e
   refine h H₀ O H σ env _ _ Re el fun vs H1 s1 h1=>?_
   obtain ⟨v,w,rfl,hv,hw⟩:=h1.two
   obtain rfl:=hv.int
   obtain rfl:=hw.int
   exact ⟨_,_,rfl,by rw [vO];exact hj,q _ H1 s1 rfl C9⟩
  ·cases e
 ·cases e
end
section
variable {K:PySem.W.Frag}{H H' H₀:Hp}{I:Nat→Option Addr}{O O':Addr→Prop}{σ:St}{env:Ev}
def JG (K:PySem.W.Frag) (g:TG) (fg:M×D→Ev→Option Ev):Prop :=
 ∀ H₀ I O H σ env x v fh Q,Rel K H₀ I O H σ env→eJ (Prod.fst x)=true→Val K H₀ O HE H (Prod.fst x) x.2 v→fg x env=some fh→(∀ σ',Rel K H₀ I O H σ' fh→Q σ' H)→g v σ H Q
def oN (K:PySem.W.Frag) (g:gB) (fg:M→List D→Ev→Option Ev):Prop :=
 ∀ H₀ I O H σ env m ds vs fh Q,Rel K H₀ I O H σ env→eJ m=true→aw K (NM H₀ O m) H vs ds→fg m ds env=some fh→(∀ σ',Rel K H₀ I O H σ' fh→Q σ' H)→g vs σ H Q
noncomputable def gN (i:Nat):M×D→Ev→Option Ev:=fun x e=>some (e.set i (some x))
theorem PK {i:Nat}:JG K (iT i) (gN i):=by
 intro H₀ I O H σ env x v fh Q R hm hv e q
 cases e
 obtain ⟨m,d⟩:=x
 exact q _ (R.set_plain (by cases m<;>first|rfl|cases hm) (by cases m<;>first|rfl|cases hm) hv)
noncomputable def du:M→List D→Ev→Option Ev:=fun _ ds e=>match ds with
 |[]=>some e
 |_=>none
noncomputable def bJ (f:M×D→Ev→Option Ev) (g:M→List D→Ev→Option Ev):M→List D→Ev→Option Ev:=fun m ds e=>match ds with
 |d::r=>(f (m,d) e).bind fun e'=>g m r e'
 |[]=>none
theorem PL:oN K GJ du:=by
 intro H₀ I O H σ env m ds vs fh Q R hm hv e q
 cases hv with
 |nil=>cases e;exact ⟨rfl,q _ R⟩
 |cons=>cases e
theorem NQ {g:TG}{gs:gB}{f:M×D→Ev→Option Ev}{fs:M→List D→Ev→Option Ev} (h:JG K g f) (hs:oN K gs fs):oN K (FW g gs) (bJ f fs):=by
 intro H₀ I O H σ env m ds vs fh Q R hm hv e q
 cases hv with
 |nil=>cases e
 |@cons v d vs ds hv r =>
  obtain ⟨e',e1,e⟩:=ay e
  refine ⟨v,vs,rfl,?_⟩
  have f7:Val K H₀ O HE H m d v:=by cases m<;>first|exact hv|cases hm
  exact h H₀ I O H σ env (m,d) v e' _ R hm f7 e1 fun σ' R'=>hs H₀ I O H σ' e' m ds vs fh Q R' hm r e q
noncomputable def gT (n:Nat) (f:M→List D→Ev→Option Ev):M×D→Ev→Option Ev:=fun x e=>match x.2 with
 |.tup ds=>if ds.length=n then f (aV x.1) ds e else none
 |_=>none
theorem S1 {n:Nat}{gs:gB}{fs:M→List D→Ev→Option Ev} (hs:oN K gs fs):JG K (GK K n gs) (gT n fs):=by
 intro H₀ I O H σ env x v fh Q R hm hv e q
 obtain ⟨m,d⟩:=x
 cases d<;>simp only [gT] at e<;>try (cases e;done)
 split at e
 ·rename_i hl
  obtain ⟨a,xs,rfl,oJ,r⟩:=hv.tup
  exact ⟨a,xs,rfl,oJ,by rw [r.len];exact hl,hs H₀ I O H σ env (aV m) _ xs fh Q R (by cases m<;>first|rfl|cases hm) r e q⟩
 ·cases e
noncomputable def gL (n:Nat) (f:M→List D→Ev→Option Ev):M×D→Ev→Option Ev:=fun x e=>match x.2 with
 |.lst ds=>if ds.length=n then f (aV x.1) ds e else none
 |_=>none
noncomputable def zx:M→M
 |.un=>.fr
 |m=>m
noncomputable def lY (fg:M×D→Ev→Option Ev) (f:Ev→Option (M×D)):Ev→Option Fl:=fun e=>(f e).bind fun x=>if eJ (zx x.1)=true then (fg (zx x.1,x.2) e).bind fun e'=>some (.nx e') else none
theorem S2 {t:TE}{g:TG}{f:Ev→Option (M×D)}{fg:M×D→Ev→Option Ev} (h:JT K t f) (hg:JG K g fg):JS K (gQ t g) (lY fg f):=by
 intro H₀ I O H σ env Ds fl R e q
 obtain ⟨⟨m,d⟩,ex,e⟩:=ay e
 split at e
 ·rename_i hm
  obtain ⟨e',e1,e⟩:=ay e
  cases e
  refine h H₀ O H σ env _ m d R.e ex fun v H1 s1 h1=>?_
  refine hg H₀ I O H1 σ env _ v e' _ (R.keep s1) hm ?_ e1 fun σ' R'=>q O H1 σ' R' (aM.same s1)
  cases m
  ·exact h1
  ·exact h1
  ·exact h1.cG rfl
  ·cases hm
  ·cases hm
  ·cases hm
  ·cases hm
 ·cases e
noncomputable def forL (g:M×D→Ev→Option Ev) (b:Ev→Option Fl) (m:M):List D→Ev→Option Fl
 |[],e=>some (.nx e)
 |d::ds,e=>(g (m,d) e).bind fun e1=>(b e1).bind fun r=>match r with
  |.nx e2=>forL g b m ds e2
  |.ct e2=>forL g b m ds e2
  |.bk e2=>some (.nx e2)
  |.rt e2 m' d'=>some (.rt e2 m' d')
noncomputable def aY (it:Ev→Option (M×List D)) (g:M×D→Ev→Option Ev) (b:Ev→Option Fl):Ev→Option Fl:=fun e=>(it e).bind fun x=>forL g b x.1 x.2 e
theorem S3 {wi:TI}{g:TG}{tb:TS}{it:Ev→Option (M×List D)}{fg:M×D→Ev→Option Ev}{b:Ev→Option Fl} (hi:JI K wi it) (hg:JG K g fg) (hb:JS K tb b):JS K (n5 wi g tb) (aY it fg b):=by
 intro H₀ I O H σ env Ds fl R e q
 obtain ⟨⟨m,ds⟩,ei,e⟩:=ay e
 refine hi H₀ O H σ env _ m ds R.e ei fun J H1 s1 hm ok=>?_
 have q1:=q.pre (aM.same s1)
 refine ⟨fun i n σ2 H2=>∃ O2 cR,Rel K H₀ I O2 H2 σ2 cR∧aM O H1 O2 H2∧i≤ds.length∧n=ds.length-i∧forL fg b m (ds.drop i) cR=some fl,⟨_,O,env,R.keep s1,aM.refl,Nat.zero_le _,rfl,e⟩,?_⟩
 rintro i n σ2 H2 ⟨O2,cR,R2,st,hle,rfl,ef⟩
 by_cases aS:i < ds.length
 ·refine .inr ⟨ok.go O2 H2 i st aS,fun σ' H'=>∃ O2 cR,Rel K H₀ I O2 H' σ' cR∧aM O H1 O2 H'∧forL fg b m (ds.drop (i+1)) cR=some fl,?_,?_⟩
  ·rintro σ' H' ⟨O3,zy,R3,bw,Am⟩
   exact ⟨ds.length-(i+1),by omega,O3,zy,R3,bw,aS,rfl,Am⟩
  ·intro x H3 y
   obtain ⟨s3,d,hd,hv⟩:=ok.iF O2 H2 i x H3 st aS y
   have rE:ds.drop i=d::ds.drop (i+1):=by
    rw [List.drop_eq_getElem_cons aS]
    rw [List.getElem?_eq_getElem aS] at hd
    cases hd;rfl
   rw [rE] at ef
   simp only [forL] at ef
   obtain ⟨e1,g1,ef⟩:=ay ef
   obtain ⟨r,br,ef⟩:=ay ef
   refine hg H₀ I O2 H3 σ2 cR (m,d) x e1 _ (R2.keep s3) hm hv g1 fun σ4 R4=>?_
   have j6:=st.trans (aM.same (O:=O2) s3)
   refine hb H₀ I O2 H3 σ4 e1 _ r R4 br ?_
   cases r with
   |nx e2=>exact fun O5 H5 σ5 R5 dQ=>⟨O5,e2,R5,j6.trans dQ,ef⟩
   |ct e2=>exact fun O5 H5 σ5 R5 dQ=>⟨O5,e2,R5,j6.trans dQ,ef⟩
   |bk e2=>cases ef;exact (q1.pre j6)
   |rt e2 m' d'=>cases ef;exact (q1.pre j6)
 ·have hi:i=ds.length:=by omega
  subst hi
  rw [List.drop_length] at ef
  cases ef
  exact .inl ⟨ok.stop O2 H2 st,q1 O2 H2 σ2 R2 st⟩
noncomputable def cK (c:Ev→Option Bool) (b:Ev→Option Fl):Nat→Ev→Option Fl
 |0,_=>none
 |n+1,e=>(c e).bind fun k=>if k=true then (b e).bind fun r=>(match r with
  |.nx e2=>cK c b n e2
  |.ct e2=>cK c b n e2
  |.bk e2=>some (.nx e2)
  |.rt e2 m' d'=>some (.rt e2 m' d')) else some (.nx e)
theorem tH {c:Ev→Option Bool}{b:Ev→Option Fl}{fl:Fl}:∀ {n k:Nat}{e:Ev},n≤k→cK c b n e=some fl→cK c b k e=some fl
 |0,_,_,_,h=>by cases h
 |n+1,0,_,h,_=>by omega
 |n+1,k+1,e,hk,h=>by
  simp only [cK] at h ⊢
  obtain ⟨x,ex,h⟩:=ay h
  rw [ex,Option.bind_some]
  cases x with
  |false=>exact h
  |true =>
   rw [if_pos rfl] at h ⊢
   obtain ⟨r,er,h⟩:=ay h
   rw [er,Option.bind_some]
   cases r with
   |nx e2=>exact tH (by omega) h
   |ct e2=>exact tH (by omega) h
   |bk e2=>exact h
   |rt e2 m' d'=>exact h
open Classical in
noncomputable def gk (c:Ev→Option Bool) (b:Ev→Option Fl):Ev→Option Fl:=fun e=>if h:∃ n fl,cK c b n e=some fl then some (Classical.choose (Classical.choose_spec h)) else none
theorem xu {c:Ev→Option Bool}{b:Ev→Option Fl}{fl:Fl}{n:Nat}{e:Ev} (h:cK c b n e=some fl):gk c b e=some fl:=by
 have hx:∃ n fl,cK c b n e=some fl:=⟨n,fl,h⟩
 unfold gk
 rw [dif_pos hx]
 have s:=Classical.choose_spec (Classical.choose_spec hx)
 have a:=tH (Nat.le_max_left n (Classical.choose hx)) h
 have b':=tH (Nat.le_max_right n (Classical.choose hx)) s
 rw [a] at b'
 exact b'.symm
theorem LY {c:Ev→Option Bool}{b:Ev→Option Fl}{fl:Fl}{e:Ev} (h:gk c b e=some fl):∃ n,cK c b n e=some fl:=by
 unfold gk at h
 split at h
 ·rename_i hx
  cases h
  exact ⟨_,Classical.choose_spec (Classical.choose_spec hx)⟩
 ·cases h
theorem NR {c:TT}{tb:TS}{fc:Ev→Option Bool}{b:Ev→Option Fl} (hc:eQ K c fc) (hb:JS K tb b):JS K (yh c tb) (gk fc b):=by
 intro H₀ I O H σ env Ds fl R e q
 obtain ⟨n,e⟩:=LY e
 refine ⟨fun n σ2 H2=>∃ O2 cR,Rel K H₀ I O2 H2 σ2 cR∧aM O H O2 H2∧cK fc b n cR=some fl,⟨n,O,env,R,aM.refl,e⟩,?_⟩
 rintro n σ2 H2 ⟨O2,cR,R2,st,ef⟩
 cases n with
 |zero=>cases ef
 |succ n =>
  simp only [cK] at ef
  obtain ⟨k,ek,ef⟩:=ay ef
  refine hc H₀ O2 H2 σ2 cR _ k R2.e ek fun H3 s3=>?_
  have bw:=st.trans (aM.same (O:=O2) s3)
  cases k with
  |false =>
   rw [if_neg Bool.false_ne_true] at ef ⊢
   cases ef
   exact q O2 H3 σ2 (R2.keep s3) bw
  |true =>
   rw [if_pos rfl] at ef ⊢
   obtain ⟨r,er,ef⟩:=ay ef
   refine ⟨fun σ' H'=>∃ O2 cR,Rel K H₀ I O2 H' σ' cR∧aM O H O2 H'∧cK fc b n cR=some fl,fun σ' H' ⟨O3,e3,R3,s3,f3⟩=>⟨n,Nat.lt_succ_self n,O3,e3,R3,s3,f3⟩,?_⟩
   refine hb H₀ I O2 H3 σ2 cR _ r (R2.keep s3) er ?_
   cases r with
   |nx e2=>exact fun O5 H5 σ5 R5 dQ=>⟨O5,e2,R5,bw.trans dQ,ef⟩
   |ct e2=>exact fun O5 H5 σ5 R5 dQ=>⟨O5,e2,R5,bw.trans dQ,ef⟩
   |bk e2=>cases ef;exact (q.pre bw)
   |rt e2 m' d'=>cases ef;exact (q.pre bw)
noncomputable def Ga (K:PySem.W.Frag) (H H':Hp):M→D→V→Prop
 |.un,d,v=>∃ p,v=.ref p∧H p=none∧Cell K (fun a=>H a=none∧a≠p) H' p d
 |.fr,d,v=>Rp K (fun a=>H a=none) H' v d
 |_,_,_=>False
noncomputable def mG (K:PySem.W.Frag) (n:Nat) (F:List D→Option (M×D)):Sp:=fun vs H Q _=>vs.length=n∧∃ ds m d,aw K (fun _=>True) H vs ds∧F ds=some (m,d)∧∀ v H',aI H H'→Ga K H H' m d v→Q v H'
noncomputable def out:Fl→Option (M×D)
 |.nx _=>some (.fr,.non)
 |.rt _ .un d=>some (.un,d)
 |.rt _ .bo d=>some (.un,d)
 |.rt _ .fr d=>some (.fr,d)
 |.rt _ .rb d=>some (.fr,d)
 |.rt _ .nb d=>some (.fr,d)
 |.rt _ .al d=>if d.bQ=true then some (.fr,d) else none
 |_=>none
noncomputable def fn (L:Nat) (g:Ev→Option Fl):List D→Option (M×D):=fun ds=>(g (ds.map (fun d=>some (.al,d))++List.replicate (L-ds.length) none)).bind out
theorem MC {vs:List V}{ds:List D} (r:aw K (fun _=>True) H vs ds) (k:Nat):Paired (fun (e:Option (M×D)) (x:Option V)=>∀ m d,e=some (m,d)→hG m=true∧∃ v,x=some v∧Val K H (fun _=>False) HE H m d v) (ds.map (fun d=>some (.al,d))++List.replicate k none) (vs.map some++List.replicate k none):=by
 have rep:∀ k,Paired (fun (e:Option (M×D)) (x:Option V)=>∀ m d,e=some (m,d)→hG m=true∧∃ v,x=some v∧Val K H (fun _=>False) HE H m d v) (List.replicate k none) (List.replicate k none):=fun k=>by
  induction k with
  |zero=>exact .nil
  |succ k ih=>exact .cons (fun m d e=>nomatch e) ih
 have go:∀ {vs:List V}{ds:List D},aw K (fun _=>True) H vs ds→Paired (fun (e:Option (M×D)) (x:Option V)=>∀ m d,e=some (m,d)→hG m=true∧∃ v,x=some v∧Val K H (fun _=>False) HE H m d v) (ds.map (fun d=>some (.al,d))++List.replicate k none) (vs.map some++List.replicate k none):=by
  intro vs ds
  induction vs generalizing ds with
  |nil=>intro r;cases r;exact rep k
  |cons v vs ih=>intro r;cases r with|cons h r=>exact .cons (fun m d e=>by cases e;exact ⟨rfl,v,rfl,h.wk fun _ _ _ z=>z⟩) (ih r)
 exact go r
theorem MD {ds:List D}{k i:Nat}{d:D} (h:(ds.map (fun d=>some (M.al,d))++List.replicate k none)[i]?=some (some (M.bi,d))):False:=by
 have hm:=List.mem_of_getElem? h
 rcases List.mem_append.mp hm with z|z
 ·obtain ⟨d,_,e⟩:=List.mem_map.mp z;cases e
 ·have:=List.eq_of_mem_replicate z;cases this
theorem B6 {ds:List D}{k i:Nat}{d:D} (h:(ds.map (fun d=>some (M.al,d))++List.replicate k none)[i]?=some (some (M.nb,d))):False:=by
 have hm:=List.mem_of_getElem? h
 rcases List.mem_append.mp hm with z|z
 ·obtain ⟨d,_,e⟩:=List.mem_map.mp z;cases e
 ·have:=List.eq_of_mem_replicate z;cases this
theorem D5 {ts:TS}{g:Ev→Option Fl}{n:Nat}{N:List Str}{vs:List V}{Q:VK}{E:XK} (h:JS K ts g) (hs:mG K n (fn N.length g) vs H Q E):ts { nx:=fun _ H'=>Q .non H',rt:=Q } (L2.start N vs) H:=by
 obtain ⟨hl,ds,m,d,r,e,q⟩:=hs
 obtain ⟨fl,ef,eo⟩:=ay e
 have R:Rel K H (fun _=>none) (fun _=>False) H (L2.start N vs) (ds.map (fun d=>some (.al,d))++List.replicate (N.length-ds.length) none) :=
  ⟨⟨by unfold L2.start;rw [r.len];exact MC r _,fun _ z=>z.elim,fun a o e=>⟨o,e⟩,fun _ _ z=>z.elim⟩,fun a o _ e=>e,fun _ z=>z.elim,fun i d p h1=>(MD h1).elim,(fun i j x y p h1 h2 o1 o2=>by
   exfalso
   have k:∀ {i:Nat}{x:M×D},(ds.map (fun d=>some (M.al,d))++List.replicate (N.length-ds.length) none)[i]?=some (some x)→x.1=.al:=fun {i x} h=>by
    have hm:=List.mem_of_getElem? h
    rcases List.mem_append.mp hm with z|z
    ·obtain ⟨d,_,e⟩:=List.mem_map.mp z;cases e;rfl
    ·have:=List.eq_of_mem_replicate z;cases this
   rw [k h1] at o1;cases o1),⟨fun i j d d' h1=>(B6 h1).elim,fun i j d x p q xs h1=>(B6 h1).elim⟩⟩
 refine h H (fun _=>none) (fun _=>False) H _ _ _ fl R ef ?_
 cases fl with
 |nx e'=>cases eo;exact fun O' H' σ' R' st=>q .non H' (fun a o e=>R'.fr a o (fun _ z=>nomatch z) e) Rp.non
 |bk e'=>cases eo
 |ct e'=>cases eo
 |rt e' m' d' =>
  intro O' H' σ' v R' st hv
  have sm:aI H H':=fun a o e=>R'.fr a o (fun _ z=>nomatch z) e
  cases m'<;>simp only [out] at eo
  ·split at eo
   ·rename_i hi;cases eo;exact q v H' sm (show Rp K _ H' v d from hv.weak.im hi)
   ·cases eo
  ·cases eo;exact q v H' sm (show Rp K _ H' v d from Rp.wk (fun a h _=>h.2) hv)
  ·cases eo
   obtain ⟨p,rfl,_,h0,_,c⟩:=hv
   exact q _ H' sm ⟨p,rfl,h0,c.wk fun a h _=>⟨h.1.2,h.2⟩⟩
  ·cases eo
   obtain ⟨p,rfl,hO,h0,c⟩:=hv
   exact q _ H' sm ⟨p,rfl,h0,c.wk fun a h _=>⟨h.2,fun z=>h.1 (z▸hO)⟩⟩
  ·cases eo
  ·cases eo;exact q v H' sm (show Rp K _ H' v d from hv)
  ·cases eo;exact q v H' sm (show Rp K _ H' v d from iB.rp (fun _ z=>z) hv)
noncomputable def ax (F:List D→Option (M×D)) (fs:Ev→Option (List (M×D))):Ev→Option (M×D):=fun e=>(fs e).bind fun aA=>F (aA.map (·.2))
theorem PN {m:M}{d:D}{v:V} (od:∀ a,O a→∃ o,H a=some o) (hd:∀ a o,H₀ a=some o→∃ o',H a=some o') (h:Ga K H H' m d v):Val K H₀ O H H' m d v:=by
 cases m<;>try exact h.elim
 ·exact Rp.wk (fun a h _=>⟨hZ od h,kl hd h⟩) h
 ·obtain ⟨p,rfl,hp,c⟩:=h
  exact ⟨p,rfl,hp,kl hd hp,hZ od hp,c.wk fun a h _=>⟨⟨hZ od h.1,kl hd h.1⟩,h.2⟩⟩
theorem PQ {n:Nat}{F:List D→Option (M×D)}{ta:TA}{fs:Ev→Option (List (M×D))}{E:XK} (ha:hJ K ta fs) (hl:∀ e aA,fs e=some aA→aA.length=n):JT K (qo (mG K n F) [] E ta) (ax F fs):=by
 intro H₀ O H σ env Q m d R h q
 obtain ⟨aA,e,h⟩:=ay h
 refine ha H₀ O H σ env _ aA R e fun vs H1 s1 h1=>?_
 have R1:=R.keep s1
 rw [List.append_nil]
 refine ⟨by rw [←Paired.length h1];exact hl _ _ e,aA.map (·.2),m,d,h1.iK (fun md hm v hv=>hv.weak),h,fun v H2 s2 h2=>?_⟩
 exact q v H2 (s1.trans s2) ((PN R1.od R1.hd h2).hb fun a z=>s1.free z)
end
section
variable {K:PySem.W.Frag}{H H' H₀:Hp}{O O':Addr→Prop}{σ:St}{env:Ev}
noncomputable def df:M×D→Option (M×D)
 | (_,.int i)=>some (.fr,.int (-i))
 |_=>none
noncomputable def kU:M×D→Option (M×D)
 | (_,.int i)=>some (.fr,.int (Builtin.bitNot i))
 |_=>none
theorem S4:JU K (rU fun i=>.int (-i)) df:=by
 intro H₀ O H x a Q m d _ _ h1 h q
 obtain ⟨ma,da⟩:=a
 cases da<;>cases h
 exact ⟨_,h1.int,q _ H (aI.refl H) ip⟩
theorem S5:JU K (rU fun i=>.int (Builtin.bitNot i)) kU:=by
 intro H₀ O H x a Q m d _ _ h1 h q
 obtain ⟨ma,da⟩:=a
 cases da<;>cases h
 exact ⟨_,h1.int,q _ H (aI.refl H) ip⟩
noncomputable def iW:=rA Builtin.bitAnd
noncomputable def kW:=rA Builtin.bitOr
theorem PR:JR K (dR fun i j=>.int (Builtin.bitAnd i j)) iW:=uK
theorem S6:JR K (dR fun i j=>.int (Builtin.bitOr i j)) kW:=uK
def Gb (i j:Int):Prop:=0 < j∧j < 1606938044258990275541962092341162602522202993782792835301376
noncomputable def bW:=gI (fun _ j=>0 < j∧j < 1606938044258990275541962092341162602522202993782792835301376) (· / ·)
theorem PV:JR K (rI Gb fun i j=>.int (i / j)) bW:=qG fun _ _ h=>h
theorem log2_lt {n:Nat} (h:n < 2 ^ 200):n.log2 < 9000:=by
 rcases Nat.eq_zero_or_pos n with rfl|h0
 ·decide
 ·exact Nat.lt_trans ((Nat.log2_lt (by omega)).mpr h) (by decide)
theorem NS {X:Cx}:bx X (binaryOp .FloorDiv) (rI Gb fun i j=>.int (i / j)):=q8 fun i j _ _ _ _ _ hc q=>by
 have e:i / j=i.fdiv j:=(Int.fdiv_eq_ediv_of_nonneg i (Int.le_of_lt hc.1)).symm
 rw [e] at q
 have h1:=hc.1
 have h2:=hc.2
 have hl:j.natAbs < 2 ^ 200:=by
  have e2:(2:Nat) ^ 200=1606938044258990275541962092341162602522202993782792835301376:=by decide
  rw [e2];omega
 exact PyProof.Rows.floordiv_int (Int.ne_of_gt hc.1) q (.inl (PyProof.noPylong_of_log2 (log2_lt hl)))
theorem PX {X:Cx}:bx X (binaryOp .Add) (uL X.K):=by
 intro pins s σ H x y v u Q I rx ry h
 obtain ⟨l,b,xs,zs,rfl,rfl,hl,hb,hz,q⟩:=h
 cases (show v=Value.ref l from rx)
 cases (show u=Value.ref b from ry)
 obtain ⟨its,r,pl,_⟩:=I.list hl
 obtain ⟨qC,r2,pm,_⟩:=I.list hb
 obtain ⟨⟨cls,dd,data,sl⟩,ho,hc,n,hd⟩:=pl.isList
 obtain ⟨⟨WH,vC,data2,oE⟩,gX,fX,n2,hd2⟩:=pm.isList
 simp only at hc hd fX hd2
 subst hc hd fX hd2
 have ea:its.toArray++qC.toArray=(its++qC).toArray:=by simp
 have e1:=r.length
 have e2:=r2.length
 refine concat_meets ⟨_,ho,rfl⟩ ⟨_,gX,rfl⟩ noFill_list_add seq_list_add PySem.F.slot_list_add PySem.F.entry_list_add (PySem.F.args_list_add_2 _ _) (PyProof.Rows.list_addW l b its.toArray qC.toArray n n2 dd vC sl oE (by rw [List.size_toArray,List.size_toArray];omega)) ⟨ho,gX,?_⟩
 rw [ea]
 exact ⟨.ref _,_,I.WM (t':=s.toks) (r.append r2) (by rw [List.length_append];omega),rfl,q _ I.fresh⟩
theorem NT {X:Cx} (h:X.K=K):bx X (binaryOp .Add) (uL K):=by subst h;exact PX
theorem NV {r r':R2}{g g':M×D→M×D→Option (M×D)}{ta tb tc:TE}{fa fb fc:Ev→Option (M×D)} (hr:JR K r g) (XY:JR K r' g') (ha:JT K ta fa) (hb:JT K tb fb) (hc:JT K tc fc):JT K (EJ r r' ta tb tc) (nD g g' fa fb fc):=by
 intro H₀ O H σ env Q m d R h q
 obtain ⟨a,ea,h⟩:=ay h
 obtain ⟨b,eb,h⟩:=ay h
 obtain ⟨z,ez,h⟩:=ay h
 obtain ⟨k,ek,h⟩:=ay h
 refine ha H₀ O H σ env _ a.1 a.2 R ea fun x H1 s1 h1=>?_
 refine hb H₀ O H1 σ env _ b.1 b.2 (R.keep s1) eb fun y H2 s2 h2=>?_
 have R2:=(R.keep s1).keep s2
 refine hr H₀ O H2 x y a b _ z.1 z.2 R2.od R2.hd (h1.keep s2).h0 h2.h0 ez fun v H3 s3 h3=>?_
 rw [nC ek] at h3
 refine ⟨k,h3.bl,?_⟩
 cases k with
 |false =>
  rw [if_neg Bool.false_ne_true] at h ⊢
  cases h
  exact q _ H3 ((s1.trans s2).trans s3) eZ
 |true =>
  rw [if_pos rfl] at h ⊢
  obtain ⟨c,ec,h⟩:=ay h
  refine hc H₀ O H3 σ env _ c.1 c.2 (R2.keep s3) ec fun w H4 s4 h4=>?_
  have R4:=(R2.keep s3).keep s4
  refine XY H₀ O H4 y w b c Q m d R4.od R4.hd ((h2.keep s3).keep s4).h0 h4.h0 h fun v H5 s5 h5=>?_
  have s:=((s1.trans s2).trans s3).trans s4
  exact q v H5 (s.trans s5) (h5.hb fun a z=>s.free z)
noncomputable def vg:List D→Option (List V)
 |[]=>some []
 |d::ds=>(dB d).bind fun v=>(vg ds).bind fun r=>some (v::r)
theorem D6 {N:Addr→Prop}:∀ {ds:List D}{vs ws:List V},aw K N H vs ds→vg ds=some ws→vs=ws∧ws.all iU=true
 |_,_,_,.nil,e=>by cases e;exact ⟨rfl,rfl⟩
 |d::ds,v::vs,ws,.cons h r,e=>by
  obtain ⟨w,ew,e⟩:=ay e
  obtain ⟨r',er,e⟩:=ay e
  cases e
  obtain ⟨rfl,f⟩:=D6 r er
  obtain rfl:=nS h ew
  refine ⟨rfl,?_⟩
  rw [List.all_cons,f,Bool.and_true]
  cases h<;>simp only [dB] at ew<;>first|rfl|cases ew
noncomputable def vh:D→Option (List D)
 |.lst ds=>some ds
 |.tup ds=>some ds
 |_=>none
noncomputable def dN (neg:Bool):M×D→M×D→Option (M×D):=fun a b=>(dB a.2).bind fun x=>(vh b.2).bind fun ds=>(vg ds).bind fun vs=>some (.fr,.bl (if neg then !dH x vs else dH x vs))
theorem seq_val {m:M}{d:D}{ds:List D}{v:V}{Hb:Hp} (e:vh d=some ds) (h:Val K H₀ O Hb H m d v):∃ p xs,v=.ref p∧(bL K H p xs∨bA K H p xs)∧aw K (NM H₀ O (aV m)) H xs ds:=by
 cases d<;>simp only [vh] at e<;>cases e
 ·obtain ⟨p,xs,rfl,h,r⟩:=h.tup;exact ⟨p,xs,rfl,.inr h,r⟩
 ·obtain ⟨p,xs,rfl,h,r⟩:=h.lst;exact ⟨p,xs,rfl,.inl h,r⟩
theorem NW {d:D}{x:V} (e:dB d=some x):iU x=true:=by
 cases d<;>simp only [dB] at e<;>cases e<;>rfl
theorem Gd {neg:Bool}:JR K (rh K neg) (dN neg):=by
 intro H₀ O H x y a b Q m d _ _ h1 h2 h q
 obtain ⟨x',ex,h⟩:=ay h
 obtain ⟨ds,ed,h⟩:=ay h
 obtain ⟨vs,ev,h⟩:=ay h
 cases h
 obtain ⟨p,xs,rfl,hs,r⟩:=seq_val ed h2
 obtain ⟨rfl,f⟩:=D6 r ev
 obtain rfl:=nS h1.weak ex
 exact ⟨p,_,rfl,hs,NW ex,f,q _ H (aI.refl H) eZ⟩
theorem NX {m:M} (h:eJ m=true):hG m=true:=by cases m<;>first|rfl|cases h
noncomputable def dA:Ev→Option Bool:=fun _=>some true
theorem D7:eQ K vd dA:=by
 intro H₀ O H σ env Q b R h q
 cases h
 exact q H (aI.refl H)
noncomputable def eW (e:Ev) (ix:List Nat):Ev:=ix.map fun i=>(e[i]?).getD none
noncomputable def cV (fc:Ev→Option Bool) (fe:Ev→Option (M×D)) (m:M) (fr:Ev):List D→Option (List (M×D))
 |[]=>some []
 |d::ds=>(fc (some (m,d)::fr)).bind fun b=>if b=true then (fe (some (m,d)::fr)).bind fun x=>(cV fc fe m fr ds).bind fun r=>some (x::r) else cV fc fe m fr ds
noncomputable def cf (it:Ev→Option (M×List D)) (ix:List Nat) (fc:Ev→Option Bool) (fe:Ev→Option (M×D)):Ev→Option (M×D):=fun e=>(it e).bind fun x=>(cV fc fe x.1 (eW e ix) x.2).bind fP
theorem dz.fr {ix:List Nat} (R:dz K H₀ O H σ env):Paired (fun (e:Option (M×D)) (x:Option V)=>∀ m d,e=some (m,d)→hG m=true∧∃ v,x=some v∧Val K H₀ O HE H m d v) (eW env ix) (eV σ ix):=by
 unfold eW eV
 induction ix with
 |nil=>exact .nil
 |cons i ix ih =>
  refine .cons (fun m d e=>?_) ih
  have e':env[i]?=some (some (m,d)):=by
   have e:(env[i]?).getD none=some (m,d):=e
   cases q:env[i]? with
   |none=>rw [q] at e;cases e
   |some z=>rw [q] at e;exact congrArg some e
  obtain ⟨v,hv,n,h⟩:=R.at e'
  exact ⟨n,v,by show (σ[i]?).getD none=_;rw [hv];rfl,h⟩
theorem dz.more {C:Addr} (R:dz K H₀ O H σ env) (hC:H C=none) {H2:Hp} (s:aI H H2) (ys:List V) (e:H2 C=some (.lst ys)):dz K H₀ (fun a=>O a∨a=C) H2 σ env:=by
 have np:∀ a,(∃ o,H a=some o)→a≠C:=fun a ⟨o,e⟩=>dY e hC
 have w:∀ {N:Addr→Prop}{d:D}{v:V},Rp K N H v d→Rp K (fun a=>N a∧a≠C) H2 v d:=fun r=>(r.wk fun a n e=>⟨n,np a e⟩).keep (.same s)
 have ws:∀ {N:Addr→Prop}{d:D}{q:Addr},Cell K N H q d→Cell K (fun a=>N a∧a≠C) H2 q d:=fun {N d q} r=>by
  obtain ⟨o,e,_⟩:=r.some
  exact (r.wk fun a n e=>⟨n,np a e⟩).keep (.same s) ((s _ _ e).trans e.symm)
 refine ⟨kz (fun e x h m d q=>?_) R.sl,fun a h=>?_,fun a o h=>?_,fun a o h q=>?_⟩
 ·obtain ⟨n,v,rfl,z⟩:=h m d q
  refine ⟨n,v,rfl,?_⟩
  cases m
  ·exact (w z).wk fun a h _=>fun z=>z.elim h.1 h.2
  ·exact (w z).wk fun a h _=>⟨fun z=>z.elim h.1.1 h.2,h.1.2⟩
  ·cases n
  ·obtain ⟨q,rfl,h1,h2,c'⟩:=z
   exact ⟨q,rfl,.inl h1,h2,(ws c').wk fun a h _=>⟨fun z=>z.elim h.1.1 h.2,h.1.2⟩⟩
  ·obtain ⟨q,rfl,h1,c'⟩:=z
   exact ⟨q,rfl,.inl h1,(ws c').wk fun a h _=>⟨fun z=>z.elim h.1.1 h.2,h.1.2⟩⟩
  ·cases n
  ·obtain ⟨q,qs,aP,e1,e2,h1,h2,h3,h4,h5,h6⟩:=z
   exact ⟨q,qs,aP,e1,e2,.inl h1,h2,s _ _ h3,h4,fun x hx=>⟨.inl (h5 x hx).1,(h5 x hx).2⟩,jw (fun x ds _ ⟨xs,a,r⟩=>⟨xs,s _ _ a,((r.wk fun a n e=>(⟨n,np a e⟩:(¬ O a∧H₀ a=none)∧a≠C)).keep (.same s)).wk fun a h _=>⟨fun z=>z.elim h.1.1 h.2,h.1.2⟩⟩) h6⟩
 ·rcases h with h|rfl
  ·obtain ⟨o,q⟩:=R.od a h;exact ⟨o,s _ _ q⟩
  ·exact ⟨_,e⟩
 ·obtain ⟨o',q⟩:=R.hd a o h;exact ⟨o',s _ _ q⟩
 ·rcases h with h|rfl
  ·exact (R.keep s).on a o h q
  ·rw [e] at q;cases q;exact fun z=>z
theorem CF {J:It}{m:M}{ds:List D}{tc:TT}{te:TE}{fc:Ev→Option Bool}{fe:Ev→Option (M×D)}{H1:Hp}{ix:List Nat}{cj:List (M×D)}{bb:Bool}{Q:Addr→Hp→Prop}{C:Addr}
  (R:dz K H₀ O H1 σ env) (hm:eJ m=true) (ok:jN K H₀ O J H1 m ds) (hc:eQ K tc fc) (he:JT K te fe) (hl:cj.length≤sizeLine) (et:cV fc fe m (eW env ix) ds=some cj)
  (hs:∀ x∈cj,(if bb then cG x.1 x.2 else f6 x.1 x.2)=true) (hC:H1 C=none)
  (q:∀ ys H',aI H1 H'→H' C=some (.lst ys)→aw K (fun a=>¬ (O a∨a=C)∧(bb=true→H₀ a=none)) H' ys (cj.map (·.2))→Q C H'):yM J C H1 (eV σ ix) tc te Q:=by
 have hN:∀ {N:Addr→Prop}{Ha Hb:Hp},(∀ a,N a→a≠C)→(∀ b o,b≠C→Ha b=some o→Hb b=some o)→(∀ o,Ha C=some o→¬ gZ o)→Keeps N Ha Hb:=fun w s nt a o e z=>s a o (by
  rcases z with z|z
  ·exact w a z
  ·rintro rfl;exact nt o e z) e
 refine ⟨fun i n H2=>n=ds.length-i∧i≤ds.length∧aI H1 H2∧∃ ys acc rest,H2 C=some (.lst ys)∧cV fc fe m (eW env ix) (ds.drop i)=some rest∧cj=acc++rest∧aw K (fun a=>¬ (O a∨a=C)∧(bb=true→H₀ a=none)) H2 ys (acc.map (·.2)),⟨_,rfl,Nat.zero_le _,cB hC,[],[],cj,bG,et,rfl,.nil⟩,?_⟩
 rintro i n H2 ⟨rfl,hle,s2,ys,acc,rest,mE,er,oj,rr⟩
 have bq:aM O H1 O H2:=aM.same s2
 by_cases aS:i < ds.length
 ·refine .inr ⟨ok.go O H2 i bq aS,fun x H3 y=>?_⟩
  have WX:aM O H1 (fun a=>O a∨a=C) H2:=fun a o e n=>⟨s2 a o e,fun z=>z.elim n (dY e hC)⟩
  obtain ⟨s3,d,hd,hv⟩:=ok.iF (fun a=>O a∨a=C) H2 i x H3 WX aS y
  have R2:=R.more hC s2 ys mE
  have R3:=R2.keep s3
  have IJ:dz K H₀ (fun a=>O a∨a=C) H3 (some x::eV σ ix) (some (m,d)::eW env ix) :=
   ⟨.cons (fun m' d' e=>by cases e;exact ⟨NX hm,x,rfl,hv⟩) R3.fr,R3.od,R3.hd,R3.on⟩
  have rE:ds.drop i=d::ds.drop (i+1):=by
   rw [List.drop_eq_getElem_cons aS]
   rw [List.getElem?_eq_getElem aS] at hd
   cases hd;rfl
  rw [rE] at er
  simp only [cV] at er
  obtain ⟨b,eb,er⟩:=ay er
  refine hc H₀ _ H3 _ _ _ b IJ eb fun H4 s4=>?_
  cases b with
  |true =>
   rw [if_pos rfl] at er ⊢
   obtain ⟨z,ez,er⟩:=ay er
   obtain ⟨r',XZ,er⟩:=ay er
   cases er
   refine he H₀ _ H4 _ _ _ z.1 z.2 (IJ.keep s4) ez fun w H5 s5 h5=>?_
   have vP:aI H2 H5:=(s3.trans s4).trans s5
   have X1:ys.length=acc.length:=by rw [rr.len,List.length_map]
   have hR:acc.length < sizeLine:=by
    have e1:=congrArg List.length oj
    rw [List.length_append,List.length_cons] at e1
    omega
   refine ⟨ys,vP _ _ mE,by rw [X1];exact hR,ds.length-(i+1),by omega,rfl,aS,?_,ys++[w],acc++[z],r',bG,XZ,by rw [oj,List.append_assoc];rfl,?_⟩
   ·intro a o e
    rw [aH (dY e hC)]
    exact vP _ _ (s2 _ _ e)
   ·rw [List.map_append]
    have hz:Rp K (fun a=>¬ (O a∨a=C)∧(bb=true→H₀ a=none)) H5 w z.2:=by
     have h:=hs z (by rw [oj];exact List.mem_append_right _ List.mem_cons_self)
     cases bb with
     |true=>exact (h5.cG h).wk fun a h _=>⟨h.1,fun _=>h.2⟩
     |false=>exact (h5.f6 h).wk fun a h _=>⟨h,fun z=>nomatch z⟩
    have kp:Keeps (fun a=>¬ (O a∨a=C)∧(bb=true→H₀ a=none)) H5 (upd H5 C (.lst (ys++[w]))):=hN (fun a h z=>h.1 (.inr z)) (fun b o ne e=>by rw [aH ne];exact e) (fun o e=>by rw [vP _ _ mE] at e;cases e;exact fun z=>z)
    exact ((rr.keep (.same vP)).keep kp).app (.cons (hz.keep kp) .nil)
  |false =>
   rw [if_neg Bool.false_ne_true] at er ⊢
   have An:=s3.trans s4
   exact ⟨ds.length-(i+1),by omega,rfl,aS,s2.trans An,ys,acc,rest,An _ _ mE,er,oj,rr.keep (.same An)⟩
 ·have hi:i=ds.length:=by omega
  subst hi
  rw [List.drop_length] at er
  cases er
  rw [List.append_nil] at oj
  subst oj
  exact .inl ⟨ok.stop O H2 bq,q ys H2 s2 mE rr⟩
theorem ui {wi:TI}{ix:List Nat}{tc:TT}{te:TE}{it:Ev→Option (M×List D)}{fc:Ev→Option Bool}{fe:Ev→Option (M×D)} (hi:JI K wi it) (hc:eQ K tc fc) (he:JT K te fe):JT K (nR wi ix tc te) (cf it ix fc fe):=by
 intro H₀ O H σ env Q m d R e q
 obtain ⟨⟨mi,ds⟩,ei,e⟩:=ay e
 obtain ⟨cj,et,e⟩:=ay e
 refine hi H₀ O H σ env _ mi ds R ei fun J H1 s1 hm ok C hC=>?_
 have R1:=R.keep s1
 unfold fP at e
 split at e
 ·rename_i hl
  split at e
  ·rename_i ha
   cases e
   rw [List.all_eq_true] at ha
   refine CF (bb:=true) R1 hm ok hc he hl et (fun x hx=>ha x hx) hC fun ys H' s' hy r=>?_
   refine q _ H' (s1.trans s') ⟨C,rfl,s1.free hC,kl R1.hd hC,hZ R1.od hC,ys,hy,r.wk fun a h _=>⟨⟨fun z=>h.1 (.inl z),h.2 rfl⟩,fun z=>h.1 (.inr z)⟩⟩
  ·split at e
   ·rename_i ha
    cases e
    rw [List.all_eq_true] at ha
    refine CF (bb:=false) R1 hm ok hc he hl et (fun x hx=>ha x hx) hC fun ys H' s' hy r=>?_
    exact q _ H' (s1.trans s') (Rp.lst (.inl hy) (hZ R1.od hC) (r.wk fun a h _=>fun z=>h.1 (.inl z)))
   ·cases e
 ·cases e
theorem PY:∀ e aA,ah e=some aA→aA.length=0:=fun e aA h=>by cases h;rfl
theorem NZ {n:Nat}{f:Ev→Option (M×D)}{g:Ev→Option (List (M×D))} (h:∀ e aA,g e=some aA→aA.length=n):∀ e aA,ag f g e=some aA→aA.length=n+1:=fun e aA q=>by
 obtain ⟨x,ex,q⟩:=ay q
 obtain ⟨r,er,q⟩:=ay q
 cases q
 rw [List.length_cons,h e r er]
end
section
variable {K:PySem.W.Frag}{H H' H₀:Hp}{O O':Addr→Prop}{σ:L2.St}{env:Ev}
theorem zA {X:Cx}{f:Value→Value→Sem Value}{r r':R2} (h:bx X f r) (h':bx X f r'):bx X f (fun x y H Q=>r x y H Q∨r' x y H Q) :=
 fun pins s σ H x y v u Q I rx ry q=>q.elim (h pins s σ H x y v u Q I rx ry) (h' pins s σ H x y v u Q I rx ry)
noncomputable def mH (g g':M×D→M×D→Option (M×D)):M×D→M×D→Option (M×D):=fun a b=>match g a b with
 |some z=>some z
 |none=>g' a b
theorem yR {r r':R2}{g g':M×D→M×D→Option (M×D)} (h:JR K r g) (h':JR K r' g'):JR K (fun x y H Q=>r x y H Q∨r' x y H Q) (mH g g'):=by
 intro H₀ O H x y a b Q m d od hd h1 h2 e q
 unfold mH at e
 split at e
 ·rename_i z ez;cases e;exact .inl (h H₀ O H x y a b Q m d od hd h1 h2 ez q)
 ·exact .inr (h' H₀ O H x y a b Q m d od hd h1 h2 e q)
noncomputable def nT:M×D→M×D→Option (M×D)
 | (_,.str x),(_,.str y)=>if x.length+y.length≤sizeLine then some (.fr,.str (x++y)) else none
 |_,_=>none
theorem PZ:JR K (fun x y H Q=>∃ i j,x=.str i∧y=.str j∧i.length+j.length≤sizeLine∧Q (.str (i++j)) H) nT:=by
 intro H₀ O H x y a b Q m d _ _ h1 h2 h q
 obtain ⟨ma,da⟩:=a;obtain ⟨mb,db⟩:=b
 cases da<;>try (cases h;done)
 cases db<;>try (cases h;done)
 simp only [nT] at h
 split at h
 ·rename_i hl;cases h
  exact ⟨_,_,h1.str,h2.str,hl,q _ H (aI.refl H) yN⟩
 ·cases h
noncomputable def uM (K:PySem.W.Frag):R2:=fun x y H Q=>∃ a b xs ys,x=.ref a∧y=.ref b∧bA K H a xs∧bA K H b ys∧xs.length+ys.length≤sizeLine∧∀ p H',aI H H'→bA K H' p (xs++ys)→Q (.ref p) H'
theorem P4 {X:Cx}:bx X (binaryOp .Add) (uM X.K):=by
 intro pins s σ H x y v u Q I rx ry h
 obtain ⟨a,b,xs,ys,rfl,rfl,ha,hb,hz,q⟩:=h
 by_cases e:xs=[]
 ·subst e
  cases rx;cases ry
  obtain ⟨its,r1,p1,_⟩:=I.tuple ha;obtain ⟨qC,r2,p2,_⟩:=I.tuple hb
  cases r1
  exact Nw p1 p2 ⟨.ref b,H,I,rfl,q b H (aI.refl H) hb⟩
 ·refine O9 pins s σ H (.ref a) (.ref b) v u Q I rx ry ⟨a,b,xs,ys,rfl,rfl,ha,hb,e,hz,fun e2=>?_,fun _ p hp=>q p _ (cB hp) (bA.of bG)⟩
  subst e2
  exact q a H (aI.refl H) (by rw [List.append_nil];exact ha)
theorem N0 {X:Cx} (h:X.K=K):bx X (binaryOp .Add) (uM K):=by subst h;exact P4
noncomputable def uN:M×D→M×D→Option (M×D)
 | (m,.tup ds),(n,.tup es)=>if aV m=.rb∨aV n=.rb then none else if ds.length+es.length≤sizeLine then some (aV (mJ m n),.tup (ds++es)) else none
 |_,_=>none
theorem P5:JR K (uM K) uN:=by
 intro H₀ O H x y a b Q m d od hd h1 h2 h q
 obtain ⟨ma,da⟩:=a;obtain ⟨mb,db⟩:=b
 cases da<;>try (cases db<;>cases h;done)
 cases db<;>try (cases h;done)
 simp only [uN] at h
 split at h
 ·cases h
 ·rename_i hn
  split at h
  ·rename_i hl
   cases h
   obtain ⟨p,xs,rfl,r,s⟩:=h1.tup
   obtain ⟨p',Aj,rfl,r',s'⟩:=h2.tup
   have n1:aV ma≠.rb:=fun z=>hn (.inl z)
   have n2:aV mb≠.rb:=fun z=>hn (.inr z)
   refine ⟨p,p',xs,Aj,rfl,rfl,r,r',by rw [s.len,s'.len];exact hl,fun l H' sm hq=>q _ _ sm (Val.el (Rp.tup hq ?_))⟩
   exact (aw.app (s.wk fun _ h _=>NM.IC n1 n2 h) (s'.wk fun _ h _=>NM.IE n1 n2 h)).keep (.same sm)
  ·cases h
def zB (K:PySem.W.Frag):V→Option Int→Option Int→Hp→VK→Prop:=fun x lo hi H Q=>∃ a xs,x=.ref a∧bA K H a xs∧∀ p H',aI H H'→bA K H' p (iz xs lo hi)→Q (.ref p) H'
theorem P6 {X:Cx}:jY X (zB X.K):=by
 intro pins s σ H x v vl vu lo hi sl Q I rx hs pl pu h
 obtain ⟨a,xs,rfl,hx,q⟩:=h
 by_cases e:HT.aU xs.length 0 lo=0∧HT.aU xs.length xs.length hi=xs.length
 ·cases rx
  obtain ⟨its,r,ht,hz⟩:=I.tuple hx
  have hlen:its.toArray.size=xs.length:=by rw [List.size_toArray];exact r.length.symm
  refine ⟨"tuple",_,PyProof.Rows.slot_tuple_getitem.lookup,ht.typeIs,K1 ht hs pl pu (by rw [hlen];exact e.1) (by rw [hlen];exact e.2) ⟨.ref a,H,I,rfl,q a H (aI.refl H) ?_⟩⟩
  have ec:iz xs lo hi=xs:=by unfold iz;rw [e.1,e.2,List.drop_zero,Nat.sub_zero];exact List.take_of_length_le (Nat.le_refl _)
  rw [ec];exact hx
 ·exact RX pins s σ H (.ref a) v vl vu lo hi sl Q I rx hs pl pu ⟨a,xs,rfl,hx,e,fun p hp=>q p _ (cB hp) (bA.of bG)⟩
noncomputable def G4:M×D→Option Int→Option Int→Option (M×D)
 | (m,.tup ds),lo,hi=>some (aV m,.tup (cut ds lo hi))
 |_,_,_=>none
theorem P7:lh K (zB K) G4:=by
 intro H₀ O H x lo hi a Q m d od hd h1 h q
 obtain ⟨ma,da⟩:=a
 cases da<;>try (cases h;done)
 cases h
 obtain ⟨p,xs,rfl,r,s⟩:=h1.tup
 exact ⟨p,xs,rfl,r,fun l H' sm hq=>q _ _ sm (Val.el (Rp.tup hq (s.cut.keep (.same sm))))⟩
noncomputable def zC:M×D→Option Int→Option Int→Option (M×D)
 | (_,.str z),lo,hi=>if z.length≤sizeLine then some (.fr,.str (Txt.slice z lo hi)) else none
 |_,_,_=>none
theorem P8:lh K (fun x lo hi H Q=>∃ z:Str,x=.str z∧z.length≤sizeLine∧Q (.str (Txt.slice z lo hi)) H) zC:=by
 intro H₀ O H x lo hi a Q m d od hd h1 h q
 obtain ⟨ma,da⟩:=a
 cases da<;>try (cases h;done)
 simp only [zC] at h
 split at h
 ·rename_i hl;cases h;exact ⟨_,h1.str,hl,q _ H (aI.refl H) yN⟩
 ·cases h
noncomputable def qJ (g g':M×D→Option Int→Option Int→Option (M×D)):M×D→Option Int→Option Int→Option (M×D):=fun a l h=>match g a l h with
 |some z=>some z
 |none=>g' a l h
theorem E6 {r r':V→Option Int→Option Int→Hp→VK→Prop}{g g':M×D→Option Int→Option Int→Option (M×D)} (h:lh K r g) (h':lh K r' g'):lh K (fun x l u H Q=>r x l u H Q∨r' x l u H Q) (qJ g g'):=by
 intro H₀ O H x lo hi a Q m d od hd h1 e q
 unfold qJ at e
 split at e
 ·rename_i z ez;cases e;exact .inl (h H₀ O H x lo hi a Q m d od hd h1 ez q)
 ·exact .inr (h' H₀ O H x lo hi a Q m d od hd h1 e q)
theorem E7 {X:Cx}{r r':V→Option Int→Option Int→Hp→VK→Prop} (h:jY X r) (h':jY X r'):jY X (fun x l u H Q=>r x l u H Q∨r' x l u H Q) :=
 fun pins s σ H x v vl vu lo hi sl Q I rx hs pl pu q=>q.elim (h pins s σ H x v vl vu lo hi sl Q I rx hs pl pu) (h' pins s σ H x v vl vu lo hi sl Q I rx hs pl pu)
noncomputable abbrev zc (K:PySem.W.Frag):R2:=fun x y H Q=>dR (fun i j=>.int (i+j)) x y H Q∨(fun x y H Q=>(fun x y H Q=>∃ i j,x=.str i∧y=.str j∧i.length+j.length≤sizeLine∧Q (.str (i++j)) H) x y H Q∨(fun x y H Q=>uL K x y H Q∨uM K x y H Q) x y H Q) x y H Q
noncomputable def bB:=mH G3 (mH nT (mH oi uN))
theorem P9 {X:Cx} (h:X.K=K):bx X (binaryOp .Add) (zc K):=zA RB (zA LD (zA (NT h) (N0 h)))
theorem Qa:JR K (zc K) bB:=yR Sr (yR PZ (yR SN P5))
abbrev IK (K:PySem.W.Frag):V→Option Int→Option Int→Hp→VK→Prop:=fun x l u H Q=>zf K x l u H Q∨(fun x l u H Q=>zB K x l u H Q∨(fun x lo hi H Q=>∃ z:Str,x=.str z∧z.length≤sizeLine∧Q (.str (Txt.slice z lo hi)) H) x l u H Q) x l u H Q
noncomputable def f9:=qJ zu (qJ G4 zC)
theorem WY {X:Cx} (h:X.K=K):jY X (IK K):=by subst h;exact E7 Pb (E7 P6 Sl)
theorem Vb:lh K (IK K) f9:=E6 NC (E6 P7 P8)
noncomputable def rF:D→String
 |.non => "NoneType"
 |.bl _ => "bool"
 |.int _ => "int"
 |.str _ => "str"
 |.ty _ => "type"
 |.tup _ => "tuple"
 |.lst _ => "list"
 |.dk _ => "dict"
 |.dt _ => "dict"
noncomputable def jO:List (M×D)→Option (M×D)
 |[(_,d),(_,.ty T)]=>if rF d = "type" then none else if ["bool", "int", "str", "tuple", "list", "dict"].contains T=true then some (.fr,.bl (rF d==T||(rF d == "bool" && T == "int"))) else none
 |_=>none
end
inductive TyJ (K:PySem.W.Frag) (H:Hp):V→String→Prop where
 |non:TyJ K H .non "NoneType"
 |bl (x:Bool):TyJ K H (.bl x) "bool"
 |int (i:Int):TyJ K H (.int i) "int"
 |str (x:Str):TyJ K H (.str x) "str"
 |lst {a:Addr}{xs:List V} (e:bL K H a xs):TyJ K H (.ref a) "list"
 |tup {a:Addr}{xs:List V} (e:bA K H a xs):TyJ K H (.ref a) "tuple"
 |dK {a:Addr}{ai:List (Key×V)} (e:Rd H a (.dK ai)):TyJ K H (.ref a) "dict"
 |dT {a:Addr}{ai:List (List Key×V)} (e:Rd H a (.dT ai)):TyJ K H (.ref a) "dict"
noncomputable def rG (t T:String):Bool:=t==T||(t == "bool" && T == "int")
theorem S7 (K:PySem.W.Frag) {t T:String} (h1:["NoneType", "bool", "int", "str", "tuple", "list", "dict"].contains t=true) (h2:["bool", "int", "str", "tuple", "list", "dict"].contains T=true):PySem.W.kitOne K (.type t) (.type T)=some (rG t T):=by
 simp only [List.contains_cons,List.contains_nil,Bool.or_false,Bool.or_eq_true,beq_iff_eq] at h1 h2
 rcases h1 with rfl|rfl|rfl|rfl|rfl|rfl|rfl<;>rcases h2 with rfl|rfl|rfl|rfl|rfl|rfl<;>rfl
section
variable {K:PySem.W.Frag}{H H' H₀:Hp}{O O':Addr→Prop}{σ:L2.St}{env:Ev}
theorem S8 {x:V}{t:String} (h:TyJ K H x t):["NoneType", "bool", "int", "str", "tuple", "list", "dict"].contains t=true:=by cases h<;>decide
theorem MF {X:Cx} (hK:X.K=K):gJ X (.builtin "isinstance") (fun xs H Q=>∃ x T t,xs=[x,.ty T]∧TyJ K H x t∧["bool", "int", "str", "tuple", "list", "dict"].contains T=true∧Q (.bl (rG t T)) H):=by
 subst hK
 intro pins s σ H xs us Q I r h
 obtain ⟨x,T,t,rfl,ty,hT,q⟩:=h
 obtain ⟨u,u',rfl,rx,ry⟩:=vals2 r
 cases (show u'=Value.type T from ry)
 have e:=S7 X.K (S8 ty) hT
 have fin:∀ tk,EP X pins σ Q (.bool (rG t T)) { s with toks:=tk }:=fun tk=>⟨.bl (rG t T),H,I.tok tk,rfl,q⟩
 cases ty with
 |non=>cases (show u=Value.none from rx);exact PySem.W.kia_one PySem.W.kitx_none I.fV True.intro e (fun z=>nomatch z) fin
 |bl y=>cases (show u=Value.bool y from rx);exact PySem.W.kia_one PySem.W.kitx_bool I.fV True.intro e (fun z=>nomatch z) fin
 |int i=>obtain ⟨t,q⟩:=(show ∃ t,u=Value.int i t from rx);cases q;exact PySem.W.kia_one PySem.W.kitx_int I.fV True.intro e (fun z=>nomatch z) fin
 |str y=>obtain ⟨t,q⟩:=(show ∃ t,u=Value.str y t from rx);cases q;exact PySem.W.kia_one PySem.W.kitx_str I.fV True.intro e (fun z=>nomatch z) fin
 |@lst a xs ea =>
  cases (show u=Value.ref a from rx)
  obtain ⟨its,_,⟨o,n,h1,h2,_⟩,_⟩:=I.list ea
  exact PySem.W.kia_one PySem.W.kitx_list I.fV ⟨o,h1,h2⟩ e (fun z=>nomatch z) fin
 |@tup a xs ea =>
  cases (show u=Value.ref a from rx)
  obtain ⟨its,_,p,_⟩:=I.tuple ea
  obtain ⟨o,h1,h2,_⟩:=p
  exact PySem.W.kia_one PySem.W.kitx_tuple I.fV ⟨o,h1,h2⟩ e (fun z=>nomatch z) fin
 |@dK a ai ea =>
  cases (show u=Value.ref a from rx)
  obtain ⟨_,_,vs,_,p⟩:=ea.ok I.aE
  obtain ⟨o,es,ep,h1,h2,_⟩:=p
  exact PySem.W.kia_one PySem.W.kitx_dict I.fV ⟨o,h1,h2.1⟩ e (fun z=>nomatch z) fin
 |@dT a ai ea =>
  cases (show u=Value.ref a from rx)
  obtain ⟨_,_,vs,_,o,es,ep,h1,h2,_⟩:=ea.ok I.aE
  exact PySem.W.kia_one PySem.W.kitx_dict I.fV ⟨o,h1,h2.1⟩ e (fun z=>nomatch z) fin
theorem S9 {N:Addr→Prop}{v:V}{d:D} (h:Rp K N H v d) (n:rF d ≠ "type"):TyJ K H v (rF d):=by
 cases h with
 |non=>exact .non
 |bl b=>exact .bl b
 |int i=>exact .int i
 |str x=>exact .str x
 |ty x=>exact absurd rfl n
 |tup h _=>exact .tup h
 |lst h _ _=>exact .lst (.inl h)
 |lstK h _=>exact .lst (.inr h)
 |dk h _ _ _=>exact .dK h
 |dt h _ _ _=>exact .dT h
theorem Qb:j5 K (fun xs H Q=>∃ x T t,xs=[x,.ty T]∧TyJ K H x t∧["bool", "int", "str", "tuple", "list", "dict"].contains T=true∧Q (.bl (rG t T)) H) jO:=by
 intro H₀ O H vs aA Q m d _ _ hv h q
 unfold jO at h
 split at h
 ·split at h
  ·cases h
  ·rename_i hn
   split at h
   ·rename_i hT
    cases h
    obtain ⟨v,w,rfl,hx,hw⟩:=hv.two
    obtain rfl:=hw.ty
    exact ⟨v,_,_,rfl,S9 hx.weak hn,hT,q _ H (aI.refl H) eZ⟩
   ·cases h
 ·cases h
end
section
variable {K:PySem.W.Frag}{H:Hp}
theorem xS {N:Addr→Prop}:∀ (ns:List Int),aw K N H (ns.map V.int) (ns.map D.int)
 |[]=>.nil
 |n::ns=>.cons (.int n) (xS ns)
theorem Ta {F:List D→Option (M×D)}{a:Addr}{ns:List Int}{E:XK} (h:bL K H a (ns.map V.int)) (e:∃ m,F [.lst (ns.map .int)]=some (m,.bl true)):mG K 1 F [.ref a] H (fun v _=>v=.bl true) E:=by
 obtain ⟨m,e⟩:=e
 refine ⟨rfl,_,m,_,.cons ?_ .nil,e,fun v H' _ r=>?_⟩
 ·rcases h with h|h
  ·exact .lst h trivial (xS ns)
  ·exact .lstK h (xS ns)
 ·cases m<;>try exact r.elim
  ·exact Rp.E4 r
  ·obtain ⟨p,_,_,c⟩:=r;exact c.elim
end
section
variable {m n:M}{i j:Int}{x y:Str}{b c:Bool}{ds es:List D}{d:D}
theorem jG:aN (m,.int i) (n,.int j)=some (.fr,.bl (decide (i=j))):=by simp [aN,dB,jK]
theorem de:aN (m,.str x) (n,.str y)=some (.fr,.bl (decide (x=y))):=by simp [aN,dB,jK]
theorem Vc:aN (m,.str x) (n,.int j)=some (.fr,.bl false):=by simp [aN,dB,jK]
theorem uO:ft (m,.int i) (n,.int j)=some (.fr,.bl (!decide (i=j))):=by simp [ft,dB,jK]
theorem Ge:ft (m,.str x) (n,.str y)=some (.fr,.bl (!decide (x=y))):=by simp [ft,dB,jK]
theorem nF:bB (m,.int i) (n,.int j)=some (.fr,.int (i+j)):=rfl
theorem uv (h:x.length+y.length≤sizeLine):bB (m,.str x) (n,.str y)=some (.fr,.str (x++y)):=by
 show (match (none:Option (M×D)) with|some z=>some z|none=>mH nT (mH oi uN) (m,.str x) (n,.str y))=_
 show (match nT (m,.str x) (n,.str y) with|some z=>some z|none=>_)=_
 simp only [nT,if_pos h]
theorem ym (hm:aV m≠.rb) (hn:aV n≠.rb) (h:ds.length+es.length≤sizeLine):bB (m,.lst ds) (n,.lst es)=eR (mJ m n) (ds++es):=by
 show (match oi (m,.lst ds) (n,.lst es) with|some z=>some z|none=>none)=_
 simp only [oi,hm,hn,or_self,if_false,h,if_true]
 cases eR (mJ m n) (ds++es)<;>rfl
theorem yn:gR (m,.int i) (n,.int j)=some (.fr,.int (i-j)):=rfl
theorem mul_r (h:-18446744073709551616 < j∧j < 18446744073709551616):eE (m,.int i) (n,.int j)=some (.fr,.int (i*j)):=by show (if _ then _ else _)=_;rw [if_pos (.inr h)]
theorem Gf (h:-18446744073709551616 < i∧i < 18446744073709551616):eE (m,.int i) (n,.int j)=some (.fr,.int (i*j)):=by show (if _ then _ else _)=_;rw [if_pos (.inl h)]
theorem jy (h:0 < j):aT (m,.int i) (n,.int j)=some (.fr,.int (i%j)):=by show (if _ then _ else _)=_;rw [if_pos h]
theorem div_ii (h:0 < j∧j < 1606938044258990275541962092341162602522202993782792835301376):bW (m,.int i) (n,.int j)=some (.fr,.int (i / j)):=by show (if _ then _ else _)=_;rw [if_pos h]
theorem yo (h:0≤j∧j≤1000000∧i.natAbs < 2 ^ 64):gq (m,.int i) (n,.int j)=some (.fr,.int (i ^ j.toNat)):=by show (if _ then _ else _)=_;rw [if_pos h]
theorem Tb (h:0≤j∧j≤1000000∧i.natAbs < 2 ^ 64):lV (m,.int i) (n,.int j)=some (.fr,.int (i*2 ^ j.toNat)):=by show (if _ then _ else _)=_;rw [if_pos h]
theorem Vd:gq (m,.int 2) (n,.int 64)=some (.fr,.int 18446744073709551616):=by
 rw [yo (by decide)]
 have:(2:Int) ^ (64:Int).toNat=18446744073709551616:=by decide
 rw [this]
theorem Ve:fq (m,.int i) (n,.int j)=some (.fr,.bl (decide (i < j))):=rfl
theorem Vf:oK (m,.int i) (n,.int j)=some (.fr,.bl (decide (i≤j))):=rfl
theorem nU:gC (m,.int i) (n,.int j)=some (.fr,.bl (decide (j < i))):=rfl
theorem D8:iW (m,.int i) (n,.int j)=some (.fr,.int (Builtin.bitAnd i j)):=rfl
theorem E8:kW (m,.int i) (n,.int j)=some (.fr,.int (Builtin.bitOr i j)):=rfl
theorem iX:df (m,.int i)=some (.fr,.int (-i)):=rfl
theorem Vg:kU (m,.int i)=some (.fr,.int (Builtin.bitNot i)):=rfl
theorem cL:ak (m,.lst ds) (n,.int i)=(bt ds i).map fun d=>(aV m,d):=rfl
theorem Vh (h:x.length≤sizeLine):ak (m,.str x) (n,.int i)=(bt x.cps.toList i).map fun c=>(.fr,.str ⟨#[c]⟩):=by simp [ak,h]
theorem cW:bz [(m,.lst ds)]=some (.fr,.int ds.length):=rfl
theorem Vi:kQ [(m,.bl b)]=some (.fr,.int (if b then 1 else 0)):=rfl
theorem bj:lg (m,.bl b)=some b:=rfl
theorem ig:lW (m,.int i)=some i:=rfl
theorem fA:nE (.fr,d)=some (.fr,d):=rfl
theorem Qc:nE (.al,d)=some (.al,d):=rfl
theorem fO:nE (.un,d)=some (.bo,d):=rfl
theorem nG {e:Ev}:out (.rt e .fr d)=some (.fr,d):=rfl
theorem yp {e:Ev}:out (.rt e .un d)=some (.un,d):=rfl
theorem yq {e:Ev}:out (.rt e .bo d)=some (.un,d):=rfl
theorem E9 {e:Ev} (h:d.bQ=true):out (.rt e .al d)=some (.fr,d):=by simp [out,h]
theorem dZ:cG .fr d=true:=rfl
theorem yr:cG .al d=d.bQ:=rfl
theorem qK:D.bQ (.int i)=true:=by simp only [D.bQ]
theorem G5:D.bQ (.str x)=true:=by simp only [D.bQ]
theorem cQ:aV .al=.al:=rfl
theorem ku:aV .fr=.fr:=rfl
theorem Tc:aV .un=.fr:=rfl
theorem jz:aV .bo=.fr:=rfl
theorem Fc (h:D.cw ds=true):eR .al ds=some (.un,.lst ds):=by simp [eR,aV,h]
theorem Fd:eR .fr ds=some (.un,.lst ds):=by simp [eR,aV]
theorem Td:eR .bo ds=some (.un,.lst ds):=by simp [eR,aV]
theorem av {f g:Ev→Option Fl}{e e':Ev} (h:f e=some (.nx e')):aj f g e=g e':=by simp [aj,h]
theorem dq {f g:Ev→Option Fl}{e e':Ev} (h:f e=some (.rt e' m d)):aj f g e=some (.rt e' m d):=by simp [aj,h]
theorem bp {c:Ev→Option Bool}{f g:Ev→Option Fl}{e:Ev} (h:c e=some true):aK c f g e=f e:=by simp [aK,h]
theorem bH {c:Ev→Option Bool}{f g:Ev→Option Fl}{e:Ev} (h:c e=some false):aK c f g e=g e:=by simp [aK,h]
theorem xv:∀ ns:List Int,D.cw (ns.map .int)=true
 |[]=>by simp only [List.map_nil,D.cw]
 |n::ns=>by simp only [List.map_cons,D.cw,D.bQ,xv ns,Bool.and_self]
theorem lE {α:Type}{l:List α}{k:Nat} (h:k < l.length):L2.bt l (k:Int)=some l[k]:=by
 unfold L2.bt L2.cT
 rw [if_pos (Int.natCast_nonneg k),if_pos (by omega)]
 simp [h]
theorem gF {α:Type}{l:List α}{k:Int} (h0:0≤k) (h1:k < l.length):L2.bt l k=some (l[k.toNat]'(by omega)):=by
 unfold L2.bt L2.cT
 rw [if_pos h0,if_pos h1]
 have:k.toNat < l.length:=by omega
 simp [this]
theorem Dc {ns:List Int}{k:Int} (h0:0≤k) (h1:k < ns.length):∃ c,L2.bt (ns.map D.int) k=some (.int c):=by
 rw [gF h0 (by simpa using h1)]
 exact ⟨ns[k.toNat]'(by omega),by simp⟩
end
theorem cP {g:M×D→Ev→Option Ev}{b:Ev→Option Fl}{m:M}:∀ {ds:List D}{e:Ev} (Iv:Nat→Ev→Prop),Iv 0 e →
  (∀ (k:Nat) d e,ds[k]?=some d→Iv k e→∃ e1 e2,g (m,d) e=some e1∧b e1=some (.nx e2)∧Iv (k+1) e2)→∃ e',forL g b m ds e=some (.nx e')∧Iv ds.length e'
 |[],e,Iv,h0,_=>⟨e,rfl,h0⟩
 |d::ds,e,Iv,h0,hs=>by
  obtain ⟨e1,e2,h1,h2,h3⟩:=hs 0 d e rfl h0
  obtain ⟨e',h4,h5⟩:=cP (ds:=ds) (e:=e2) (fun k e=>Iv (k+1) e) h3 fun k d e hd hi=>hs (k+1) d e (by simpa using hd) hi
  refine ⟨e',?_,h5⟩
  simp only [forL,h1,h2,Option.bind_some]
  exact h4
theorem jA {lo:Int}{n k:Nat}{d:D} (h:(bT lo n)[k]?=some d):k < n∧d=.int (lo+k):=by
 unfold bT at h
 rw [List.getElem?_map] at h
 have hk:k < n:=by
  rcases Nat.lt_or_ge k n with z|z
  ·exact z
  ·rw [List.getElem?_eq_none (by simpa using z)] at h;cases h
 rw [List.getElem?_range hk] at h
 cases h
 exact ⟨hk,rfl⟩
theorem iQ {lo:Int}{n:Nat}:(bT lo n).length=n:=by simp [bT]
theorem CG {c:Ev→Option Bool}{b:Ev→Option Fl}{e:Ev} (Iv:Ev→Prop) (μ:Ev→Nat) (h0:Iv e)
  (hs:∀ e,Iv e→c e=some false∨(c e=some true∧∃ e2,b e=some (.nx e2)∧Iv e2∧μ e2 < μ e)):∃ e',gk c b e=some (.nx e')∧Iv e'∧c e'=some false:=by
 have:∀ (n:Nat) e,μ e≤n→Iv e→∃ e',cK c b (n+1) e=some (.nx e')∧Iv e'∧c e'=some false:=by
  intro n
  induction n with
  |zero =>
   intro e hn hi
   rcases hs e hi with h|⟨_,e2,_,_,h⟩
   ·exact ⟨e,by simp [cK,h],hi,h⟩
   ·omega
  |succ n ih =>
   intro e hn hi
   rcases hs e hi with h|⟨h,e2,h1,h2,h3⟩
   ·exact ⟨e,by simp [cK,h],hi,h⟩
   ·obtain ⟨e',q1,q2,q3⟩:=ih e2 (by omega) h2
    refine ⟨e',?_,q2,q3⟩
    rw [cK,h,Option.bind_some,if_pos rfl,h1,Option.bind_some]
    exact q1
 obtain ⟨e',h1,h2,h3⟩:=this (μ e) e (Nat.le_refl _) h0
 exact ⟨e',xu h1,h2,h3⟩
theorem IL {n:Nat} (h:n≤1000):(n≤sizeLine)=True:=eq_true (Nat.le_trans h (by decide))
end J
namespace J
open PySem PySem.Spec PyProof.Rows L2
section
variable {X:Cx}{pins:List (Addr×Obj)}{σ:L2.St}{H:Hp}{s:Shared}{h':Heap}
theorem LZ {fp:List Addr}{t':Nat} (I:L2.Inv X pins σ H s) (k:∀ b o,b∉fp→s.heap.get? b=some o→h'.get? b=some o) (hf:∀ b∈fp,i3 X pins H b):L2.Inv X pins σ H { s with heap:=h',toks:=t' }:=by
 have k5:∀ b u,H b=some u→b∉fp:=fun b u e z=>by rw [(hf b z).1] at e;cases e
 refine I.step (g':=s.gens) (d':=s.drawn) (ch:=fp) (fun b hb=>?_) (fun b o _ _ hc e _=>k b o hc e) (fun b o _ _ hc e _=>⟨o.slots,k b o hc e⟩) (fun _ _ _ _ n=>n)
  (fun b o hc e=>⟨o,k b o hc e⟩) (fun _ _ e=>e) (fun _ _ _ e=>e) (fun b ps e=>⟨#[],by rw [e];simp⟩) (fun m hm=>?_) (fun b u e=>?_) I.bare
 ·obtain ⟨f0,f1,f2,f3,f4,f5⟩:=hf b hb
  exact ⟨f3,f1,f4,f5⟩
 ·obtain ⟨o,es,ep,ho,r⟩:=hm
  exact ⟨o,es,ep,k _ o (fun z=>(hf _ z).2.1 rfl) ho,r⟩
 ·refine (I.aE b u e).kH (fun c v hc q=>k c v ?_ q) (fun _ q=>q) fun _ _ q=>q
  rcases hc with z|z
  ·rw [z];exact k5 b u e
  ·exact k5 c _ z
theorem Ln {fp:List Addr}{t':Nat}{o:HO} (I:L2.Inv X pins σ H s) (k:∀ b o,b∉fp→s.heap.get? b=some o→h'.get? b=some o) (hf:∀ b∈fp,i3 X pins H b) (new:b9 X.prog X.w (upd H s.heap.objs.size o) h' s.heap.objs.size o) :
  L2.Inv X pins σ (upd H s.heap.objs.size o) { s with heap:=h',toks:=t' }:=by
 have k5:∀ b u,H b=some u→b∉fp:=fun b u e z=>by rw [(hf b z).1] at e;cases e
 have hT:H s.heap.objs.size=none:=I.aE.fresh (Nat.le_refl _)
 have neT:∀ b u,H b=some u→b≠s.heap.objs.size:=fun b u e=>dY e hT
 have X2:∀ b o,s.heap.get? b=some o→b≠s.heap.objs.size:=fun b o e=>Nat.ne_of_lt (Heap.lt_size e)
 refine I.step (g':=s.gens) (d':=s.drawn) (ch:=fp) (fun b hb=>?_) (fun b o _ _ hc e _=>k b o hc e) (fun b o _ _ hc e _=>⟨o.slots,k b o hc e⟩) (fun b o _ e n=>by rw [aH (X2 b o e)];exact n)
  (fun b o hc e=>⟨o,k b o hc e⟩) (fun b xs e=>by rw [aH (neT b _ e)];exact e) (fun b _ _ e=>by rw [aH (neT b _ e)];exact e) (fun b ps e=>⟨#[],by rw [aH (neT b _ e),e];simp⟩) (fun m hm=>?_) (fun b u e=>?_) I.bare
 ·obtain ⟨f0,f1,f2,f3,f4,f5⟩:=hf b hb
  exact ⟨f3,f1,f4,f5⟩
 ·obtain ⟨o,es,ep,ho,r⟩:=hm
  exact ⟨o,es,ep,k _ o (fun z=>(hf _ z).2.1 rfl) ho,r⟩
 ·by_cases hb:b=s.heap.objs.size
  ·subst hb;rw [bG] at e;cases e;exact new
  ·rw [aH hb] at e
   refine (I.aE b u e).kH (fun c v hc q=>k c v ?_ q) (fun c q=>by rw [aH (neT c _ q)];exact q) fun c xs q=>by rw [aH (neT c _ q)];exact q
   rcases hc with z|z
   ·rw [z];exact k5 b u e
   ·exact k5 c _ z
end
noncomputable def Ao (K:PySem.W.Frag) (a:Addr):It :=
 ⟨fun i H=>∃ xs x,bL K H a xs∧xs[i]?=some x,fun i H x H'=>∃ t y,x=.ref t∧H t=none∧H'=upd H t (.tup [.int i,y])∧∀ xs,bL K H a xs→xs[i]?=some y,fun i H=>∃ xs,bL K H a xs∧xs.length≤i⟩
theorem MG {P:Program}{w:World}{K:PySem.W.Frag}{elts:List Expr} {x1} {pos:Pos} (a e it:Addr) (jm:e≠it):Turn P w K (.Tuple elts x1 pos) (Ao K a) [e,it] e (fun i h=>(∃ old,IsEnum h e it i old)∧h.IsListIter it a i) where
 mem:=by simp
 obj:=fun i h st b hb=>by
  obtain ⟨⟨old,he⟩,o,ho,c,d⟩:=st
  rcases List.mem_cons.mp hb with rfl|hb
  ·exact ⟨_,he,fun v z=>nomatch z⟩
  ·have e:b=it:=by simpa using hb
   subst e
   exact ⟨o,ho,fun v z=>by rw [d] at z;cases z⟩
 keep:=fun i h h' st k=>by
  obtain ⟨⟨old,he⟩,hit⟩:=st
  exact ⟨⟨old,k e (by simp) _ he⟩,hit.at fun o q=>k it (by simp) o q⟩
 item:=by
  intro X hP hw hK hc i pins s σ H E I hf st hg
  subst hP hw hK
  obtain ⟨xs,x,hq,hx⟩:=hg
  obtain ⟨its,rv,p,hz⟩:=I.list hq
  obtain ⟨u,hu,ru⟩:=rv.get hx
  obtain ⟨⟨old,he⟩,hit⟩:=st
  have Ap:e < s.heap.objs.size:=Heap.lt_size he
  have X3:it < s.heap.objs.size:=by obtain ⟨_,q,_⟩:=hit;exact Heap.lt_size q
  have hT:H s.heap.objs.size=none:=I.aE.fresh (Nat.le_refl _)
  refine wpAny_pyNext_enum_item he hit p.isList (x:=u) (by simpa using hu) jm fun h1 ho WZ ht hsz hk=>⟨_,rfl,?_⟩
  refine wpAny_letOwnedTupleGo_enum ho fun h2 Aq sb=>?_
  have X4:h2.get? s.heap.objs.size=some { cls:=.type "tuple",data:=.seq #[.int i s.toks,u] }:=(sb.2 _ (Nat.ne_of_gt Ap)).trans ht
  have k2:∀ b o,b∉[e,it]→s.heap.get? b=some o→h2.get? b=some o:=fun b o nb q=>by
   have n1:b≠e:=fun z=>nb (by simp [z])
   have n2:b≠it:=fun z=>nb (by simp [z])
   exact (sb.2 b n1).trans (hk b o n1 n2 q)
  refine ⟨.ref s.heap.objs.size,upd H s.heap.objs.size (.tup [.int i,x]),?_,rfl,⟨s.heap.objs.size,x,rfl,hT,rfl,fun ys hy=>by rw [I.tT hy hq];exact hx⟩,⟨⟨_,by simpa using Aq⟩,WZ.at fun o q=>(sb.2 it jm.symm).trans q⟩,fun b hb=>?_⟩
  ·refine Ln (t':=s.toks+1) I k2 hf ⟨by show 2≤sizeLine;decide,[.int i s.toks,u],.cons ⟨_,rfl⟩ (.cons ru .nil),⟨_,X4,rfl,_,rfl⟩⟩
  ·have oO:b < s.heap.objs.size:=by
    rcases List.mem_cons.mp hb with rfl|hb
    ·exact Ap
    ·have e:b=it:=by simpa using hb
     rw [e];exact X3
   rw [aH (Nat.ne_of_lt oO)]
   exact (hf b hb).1
 done:=by
  intro X hP hw hK hc i pins s σ H E I hf st hg
  subst hP hw hK
  obtain ⟨xs,hq,hx⟩:=hg
  obtain ⟨its,rv,p,hz⟩:=I.list hq
  obtain ⟨⟨old,he⟩,hit⟩:=st
  have hl:=rv.length
  refine wpAny_pyNext_enum_end (I.ok.hd hc) he hit p.isList (by simp;omega) fun h1 eb=>⟨rfl,?_⟩
  exact LZ (fp:=[e,it]) (t':=s.toks) I (fun b o nb q=>eb b o (fun z=>nb (by simp [z])) q) hf
 self:=fun A i s Q E st h=>by
  obtain ⟨⟨old,he⟩,_⟩:=st
  exact wpAny_pyIter_enum he h
section
variable {X:Cx}
noncomputable def yS (K:PySem.W.Frag) (ta:TA):TI:=fun σ H R=>ta σ H fun vs H1=>∃ a xs,vs=[.ref a]∧bL K H1 a xs∧R (Ao K a) H1
theorem Qe {a:Expr}{ta:TA}{p pos pos':Pos}{elts:List Expr} {x1} (hg:Gl X "enumerate") (hm:X.mg "enumerate" = none) (ha:PA X [a] ta) (hs:starEach [a] X.env=[(false,eval a X.env)]:=by rfl):PI X (.Tuple elts x1 pos') (.Call (.Name "enumerate" p) [a] [] pos) (yS X.K ta):=by
 intro pins s σ H R I h
 refine Call_ (ko I hg hm PyProof.Rows.Boot.«enumerate» (PyProof.Rows.callWith_type1 (aF (ha pos pins s σ H _ I h) fun us s1 ⟨vs,H1,I1,r1,q1⟩=>?_) hs rfl))
 obtain ⟨l,xs,e,hq,q⟩:=q1
 subst e
 cases r1 with
 |cons r rr =>
  cases rr
  cases r
  obtain ⟨its,rv,pl,hz⟩:=I1.list hq
  refine call_enumerate_list pl.isList fun h1 he hit hsz hk=>?_
  have I2:L2.Inv X pins σ H1 { s1 with heap:=h1 }:=I1.kept (t':=s1.toks) hk
  refine wpAny_pyIter_enum he ?_
  have n1:s1.heap.objs.size+1≠s1.heap.objs.size:=by omega
  refine ⟨s1.heap.objs.size+1,[s1.heap.objs.size+1,s1.heap.objs.size],_,_,H1,rfl,I2,MG l _ _ n1,⟨⟨_,he⟩,hit⟩,fun b hb=>?_,q⟩
  have oO:s1.heap.objs.size≤b:=by
   rcases List.mem_cons.mp hb with rfl|hb
   ·omega
   ·have e:b=s1.heap.objs.size:=by simpa using hb
    exact Nat.le_of_eq e.symm
  have z:=I1.nZ (H':=H1) oO (I1.aE.fresh oO)
  exact z
theorem N1 {K:PySem.W.Frag}{a:Expr}{ta:TA}{p pos pos':Pos}{elts:List Expr} {x1} (hK:X.K=K) (hg:Gl X "enumerate") (hm:X.mg "enumerate" = none) (ha:PA X [a] ta) (hs:starEach [a] X.env=[(false,eval a X.env)]:=by rfl):PI X (.Tuple elts x1 pos') (.Call (.Name "enumerate" p) [a] [] pos) (yS K ta):=by subst hK;exact Qe hg hm ha hs
end
noncomputable def bS (ds:List D):List D:=ds.mapIdx fun i d=>.tup [.int i,d]
noncomputable def gb (fs:Ev→Option (List (M×D))):Ev→Option (M×List D):=fun e=>(fs e).bind fun l=>match l with
 |[(m,.lst ds)]=>(bX m).map fun n=>(n,bS ds)
 |_=>none
section
variable {K:PySem.W.Frag}{H H' H₀:Hp}{O O':Addr→Prop}{σ:L2.St}{env:Ev}
theorem MH {a:Addr}{xs:List V}{ds:List D}{n:M} (e:eJ n=true) (on:∀ a o,O a→H a=some o→¬ gZ o) (hr:(Rd H a (.lst xs)∧¬ O a)∨vL K a xs) (r:aw K (NM H₀ O n) H xs ds):jN K H₀ O (Ao K a) H n (bS ds):=by
 have st:∀ {O2:Addr→Prop}{H2:Hp},aM O H O2 H2→bL K H2 a xs:=fun {O2 H2} s=>by
  rcases hr with ⟨h|⟨o,h⟩,ha⟩|h
  ·exact .inl (.inl (s _ _ h ha).1)
  ·exact .inl (.inr ⟨o,(s _ _ h ha).1⟩)
  ·exact .inr h
 have l:(bS ds).length=ds.length:=by simp [bS]
 refine ⟨fun O2 H2 i s hi=>?_,fun O2 H2 i x H3 s hi y=>?_,fun O2 H2 s=>⟨xs,st s,by rw [r.len,l];exact Nat.le_refl _⟩⟩
 ·rw [l] at hi
  exact ⟨xs,xs[i]'(by rw [r.len];exact hi),st s,by simp⟩
 ·rw [l] at hi
  obtain ⟨t,z,rfl,ht,rfl,y⟩:=y
  have y:=y xs (st s)
  obtain ⟨v,hv,rv⟩:=r.get (i:=i) (d:=ds[i]) (by simp [hi])
  rw [y] at hv;cases hv
  have sm:aI H2 (upd H2 t (.tup [.int i,z])):=cB ht
  have hz:=(uh e on s rv).keep sm
  refine ⟨sm,.tup [.int i,ds[i]],by simp [bS,hi],?_⟩
  cases n
  ·exact Rp.tup (bA.of bG) (.cons (.int _) (.cons hz .nil))
  ·exact Rp.tup (bA.of bG) (.cons (.int _) (.cons hz .nil))
  ·cases e
  ·cases e
  ·cases e
  ·cases e
  ·cases e
theorem Qf {t:TA}{fs:Ev→Option (List (M×D))} (h:hJ K t fs):JI K (yS K t) (gb fs):=by
 intro H₀ O H σ env R m ds Re e q
 obtain ⟨l,el,e⟩:=ay e
 split at e
 ·rename_i m0 d0
  cases em:bX m0 with
  |none=>rw [em] at e;cases e
  |some n =>
   rw [em] at e;cases e
   refine h H₀ O H σ env _ _ Re el fun vs H1 s1 h1=>?_
   obtain ⟨v,rfl,hv⟩:=h1.one
   obtain ⟨e1,a,xs,rfl,hr,r⟩:=D4 em hv
   exact ⟨a,xs,rfl,hr.elim (fun z=>.inl z.1) .inr,q _ H1 s1 e1 (MH e1 (Re.keep s1).on hr r)⟩
 ·cases e
end
end J
namespace J
open PySem L2
noncomputable def gD:D→Bool
 |.lst ds=>D.cw ds
 |.dk ks=>D.cw (ks.map (·.2))
 |.dt ks=>D.cw (ks.map (·.2))
 |_=>false
def iL (io:List Nat) (vs:List V) (a:Addr):Prop:=∃ i,i∈io∧vs[i]?=some (.ref a)
structure uw (K:PySem.W.Frag) (H:Hp) (io:List Nat) (vs:List V) (ds:List D):Prop where
 len:vs.length=ds.length
 rd:∀ (i:Nat) v d,i∉io→vs[i]?=some v→ds[i]?=some d→Rp K (fun a=>¬ iL io vs a) H v d
 cl:∀ (i:Nat) d,i∈io→ds[i]?=some d→∃ p,vs[i]?=some (.ref p)∧Cell K (fun _=>False) H p d
 dj:∀ (i j:Nat) p,i∈io→j∈io→vs[i]?=some (.ref p)→vs[j]?=some (.ref p)→i=j
noncomputable def iR (io:List Nat) (ds:List D):Ev:=ds.mapIdx fun i d=>some (if i∈io then M.bi else M.al,d)
section
variable {K:PySem.W.Frag}{H H' H₀:Hp}{I:Nat→Option Addr}{O O':Addr→Prop}{σ:L2.St}{env:Ev}
theorem Cell.im {N N':Addr→Prop}{p:Addr}{d:D} (e:gD d=true) (h:Cell K N H p d):Cell K N' H p d:=by
 cases d<;>simp only [gD] at e<;>try (cases e;done)
 ·obtain ⟨xs,q,r⟩:=h;exact ⟨xs,q,r.im e⟩
 ·obtain ⟨xs,q,z,r⟩:=h;exact ⟨xs,q,z,r.im e⟩
 ·obtain ⟨xs,q,z,r⟩:=h;exact ⟨xs,q,z,r.im e⟩
theorem Lp {io:List Nat}{N:List Str}{vs:List V}{ds:List D} (A:uw K H io vs ds):∃ I0:Nat→Option Addr,(∀ {i p},I0 i=some p→i∈io∧vs[i]?=some (.ref p))∧Rel K H I0 (iL io vs) H (L2.start N vs) (iR io ds++List.replicate (N.length-ds.length) none):=by
 let I0:Nat→Option Addr:=fun i=>if i∈io then (match vs[i]? with|some (.ref p)=>some p|_=>none) else none
 have oP:∀ {i p},I0 i=some p→i∈io∧vs[i]?=some (.ref p):=fun {i p} z=>by
  simp only [I0] at z
  split at z
  ·rename_i hi
   split at z
   ·rename_i w hw;cases z;exact ⟨hi,hw⟩
   ·cases z
  ·cases z
 have IQ:∀ {i p},i∈io→vs[i]?=some (.ref p)→I0 i=some p:=fun {i p} hi hv=>by simp only [I0,if_pos hi,hv]
 have qf:∀ {i:Nat}{y:M×D},(iR io ds++List.replicate (N.length-ds.length) none)[i]?=some (some y)→ds[i]?=some y.2∧y.1=(if i∈io then M.bi else M.al):=fun {i y} z=>by
  rw [List.getElem?_append] at z
  split at z
  ·rename_i hi
   simp only [iR,List.getElem?_mapIdx,List.length_mapIdx] at z hi
   rw [List.getElem?_eq_getElem hi] at z ⊢
   simp only [Option.map_some,Option.some.injEq] at z
   subst z;exact ⟨rfl,rfl⟩
  ·have:=List.mem_of_getElem? z
   have:=List.eq_of_mem_replicate this
   cases this
 have vi:∀ {i:Nat}{v:V},vs[i]?=some v→(L2.start N vs)[i]?=some (some v):=fun {i v} z=>by
  unfold L2.start
  have hi:i < vs.length:=(List.getElem?_eq_some_iff.mp z).1
  rw [List.getElem?_append_left (by simpa using hi),List.getElem?_map,z];rfl
 refine ⟨I0,oP,?_⟩
 show Rel K H I0 (iL io vs) H (L2.start N vs) (iR io ds++List.replicate (N.length-ds.length) none)
 refine ⟨⟨lA ?_ ?_,?_,fun a o e=>⟨o,e⟩,?_⟩,fun a o _ e=>e,?_,?_,?_,?_⟩
 ·unfold L2.start iR;simp [A.len]
 ·intro j y z hy hz m' d' ey
  subst ey
  obtain ⟨hd,hm⟩:=qf hy
  have hj:j < vs.length:=by rw [A.len];exact (List.getElem?_eq_some_iff.mp hd).1
  have hv:vs[j]?=some vs[j]:=List.getElem?_eq_getElem hj
  rw [vi hv] at hz;cases hz
  simp only at hm hd
  by_cases hi:j∈io
  ·rw [if_pos hi] at hm;subst hm
   obtain ⟨p,hp,c⟩:=A.cl j d' hi hd
   rw [hv] at hp
   refine ⟨rfl,_,rfl,p,Option.some.inj hp,⟨j,hi,by rw [hv,hp]⟩,c.wk fun _ z _=>z.elim⟩
  ·rw [if_neg hi] at hm;subst hm
   exact ⟨rfl,_,rfl,A.rd j _ d' hi hv hd⟩
 ·rintro a ⟨i,hi,hv⟩
  have aS:i < ds.length:=by rw [←A.len];exact (List.getElem?_eq_some_iff.mp hv).1
  obtain ⟨p,hp,c⟩:=A.cl i ds[i] hi (List.getElem?_eq_getElem aS)
  rw [hv] at hp;cases hp
  obtain ⟨o,eo,_⟩:=c.some
  exact ⟨o,eo⟩
 ·rintro a o ⟨i,hi,hv⟩ eo
  have aS:i < ds.length:=by rw [←A.len];exact (List.getElem?_eq_some_iff.mp hv).1
  obtain ⟨p,hp,c⟩:=A.cl i ds[i] hi (List.getElem?_eq_getElem aS)
  rw [hv] at hp;cases hp
  obtain ⟨o',IU,nt⟩:=c.some
  rw [eo] at IU;cases IU;exact nt
 ·rintro a ⟨i,hi,hv⟩;exact .inl ⟨i,IQ hi hv⟩
 ·intro i d' p h1 p1
  obtain ⟨hd,hm⟩:=qf h1
  by_cases hi:i∈io
  ·obtain ⟨p',hp,_⟩:=A.cl i d' hi hd
   rw [vi hp] at p1;cases p1
   exact IQ hi hp
  ·rw [if_neg hi] at hm;cases hm
 ·intro i j y z p h1 h2 o1 o2 p1 p2
  obtain ⟨d1,m1⟩:=qf h1
  obtain ⟨d2,m2⟩:=qf h2
  have hi:i∈io:=by
   by_cases hi:i∈io
   ·exact hi
   ·rw [if_neg hi] at m1;rw [m1] at o1;cases o1
  have hj:j∈io:=by
   by_cases hj:j∈io
   ·exact hj
   ·rw [if_neg hj] at m2;rw [m2] at o2;cases o2
  obtain ⟨q1,IV,_⟩:=A.cl i _ hi d1
  obtain ⟨q2,mz,_⟩:=A.cl j _ hj d2
  rw [vi IV] at p1;cases p1
  rw [vi mz] at p2;cases p2
  exact A.dj i j p hi hj IV mz
 ·have no:∀ {i:Nat}{d:D},(iR io ds++List.replicate (N.length-ds.length) none)[i]?=some (some (M.nb,d))→False:=fun {i d} z=>by
   obtain ⟨_,hm⟩:=qf z
   simp only at hm
   split at hm<;>cases hm
  exact ⟨fun i j d d' h1=>(no h1).elim,fun i j d x p q xs h1=>(no h1).elim⟩
end
section
variable {K:PySem.W.Frag}{H H' H₀:Hp}{I:Nat→Option Addr}{O O':Addr→Prop}{σ:L2.St}{env:Ev}
def lj (K:PySem.W.Frag) (ta:TA) (fs:Ev→Option (List (M×D))) (pos:List (Nat×Nat)):Prop :=
 ∀ H₀ O H σ env Q aA,dz K H₀ O H σ env→fs env=some aA→(∀ vs H',aI H H'→fB K H₀ O H H' aA vs→(∀ ij∈pos,∃ v x,vs[ij.1]?=some v∧σ[ij.2]?=some (some v)∧env[ij.2]?=some (some x)∧aA[ij.1]?=some x)→Q vs H')→ta σ H Q
theorem Qg:lj K kJ ah []:=by
 intro H₀ O H σ env Q aA R h q
 cases h
 exact q [] H (aI.refl H) .nil (fun _ z=>nomatch z)
noncomputable def vQ (pos:List (Nat×Nat)):List (Nat×Nat):=pos.map fun ij=>(ij.1+1,ij.2)
theorem N2 {te:TE}{ta:TA}{f:Ev→Option (M×D)}{g:Ev→Option (List (M×D))}{pos:List (Nat×Nat)} (hf:JT K te f) (hg:lj K ta g pos):lj K (lJ te ta) (ag f g) (vQ pos):=by
 intro H₀ O H σ env Q aA R h q
 obtain ⟨x,ex,h⟩:=ay h
 obtain ⟨r,er,h⟩:=ay h
 cases h
 refine hf H₀ O H σ env _ x.1 x.2 R ex fun v H1 s1 h1=>?_
 refine hg H₀ O H1 σ env _ r (R.keep s1) er fun vs H2 s2 h2 hp=>?_
 refine q (v::vs) H2 (s1.trans s2) (.cons (h1.keep s2) (kz (fun _ _ z=>z.hb fun a z=>s1.free z) h2)) (fun ij mI=>?_)
 obtain ⟨Ar,hm,rfl⟩:=List.mem_map.mp mI
 obtain ⟨w,y,a,b,c,d⟩:=hp Ar hm
 exact ⟨w,y,by simpa using a,b,c,by simpa using d⟩
theorem Qh {i:Nat}{ta:TA}{g:Ev→Option (List (M×D))}{pos:List (Nat×Nat)} (hg:lj K ta g pos):lj K (lJ (fQ i) ta) (ag (jV i) g) ((0,i)::vQ pos):=by
 intro H₀ O H σ env Q aA R h q
 obtain ⟨x,ex,h⟩:=ay h
 obtain ⟨r,er,h⟩:=ay h
 cases h
 have ei:env[i]?=some (some x):=by
  unfold jV at ex
  cases e:env[i]? with
  |none=>rw [e] at ex;cases ex
  |some z=>rw [e] at ex;exact congrArg some ex
 obtain ⟨v,hv,n,hm⟩:=R.at ei
 refine ⟨v,hv,?_⟩
 refine hg H₀ O H σ env _ r R er fun vs H2 s2 h2 hp=>?_
 refine q (v::vs) H2 s2 (.cons ((hm.F8 n).keep s2) h2) (fun ij mI=>?_)
 rcases List.mem_cons.mp mI with rfl|mI
 ·exact ⟨v,x,rfl,hv,ei,rfl⟩
 ·obtain ⟨Ar,hm,rfl⟩:=List.mem_map.mp mI
  obtain ⟨w,y,a,b,c,d⟩:=hp Ar hm
  exact ⟨w,y,by simpa using a,b,c,by simpa using d⟩
end
section
variable {K:PySem.W.Frag}{H H' H₀:Hp}{I:Nat→Option Addr}{O O':Addr→Prop}{σ:L2.St}{env:Ev}
theorem fB.at {Hb:Hp}:∀ {aA:List (M×D)}{vs:List V}{i:Nat}{x:M×D},fB K H₀ O Hb H aA vs→aA[i]?=some x→∃ v,vs[i]?=some v∧Val K H₀ O Hb H x.1 x.2 v
 |_,_,_,_,.nil,e=>by simp at e
 |_,_,0,_,.cons h _,e=>by simp at e;subst e;exact ⟨_,rfl,h⟩
 |_,_,i+1,x,.cons _ r,e=>by
  obtain ⟨v,h1,h2⟩:=fB.at (i:=i) (x:=x) r (by simpa using e)
  exact ⟨v,by simpa using h1,h2⟩
theorem pW {α:Type}:∀ {l:List α}{i j:Nat}{a:α},l.Nodup→l[i]?=some a→l[j]?=some a→i=j
 |[],_,_,_,_,h,_=>by simp at h
 |x::l,0,0,_,_,_,_=>rfl
 |x::l,0,j+1,a,nd,h1,h2=>by
  simp at h1;subst h1
  exact absurd (List.mem_of_getElem? (show l[j]?=some x by simpa using h2)) (List.nodup_cons.mp nd).1
 |x::l,i+1,0,a,nd,h1,h2=>by
  simp at h2;subst h2
  exact absurd (List.mem_of_getElem? (show l[i]?=some x by simpa using h1)) (List.nodup_cons.mp nd).1
 |x::l,i+1,j+1,a,nd,h1,h2=>by
  rw [pW (List.nodup_cons.mp nd).2 (show l[i]?=some a by simpa using h1) (by simpa using h2)]
structure G6 (io sl:List Nat) (pos:List (Nat×Nat)) (aA:List (M×D)):Prop where
 c1:∀ (k i:Nat),io[k]?=some i→∃ j,sl[k]?=some j∧(i,j)∈pos
 c2:sl.Nodup
 c3:∀ (i:Nat) x,i∉io→aA[i]?=some x→f6 x.1 x.2=true∨(own x.1=true∧∃ j,(i,j)∈pos∧j∉sl)
 c4:∀ (i:Nat) x,i∈io→aA[i]?=some x→own x.1=true∧gD x.2=true
 c5:sl.length=io.length
noncomputable def j7 (io sl:List Nat) (pos:List (Nat×Nat)) (aA:List (M×D)):Bool :=
 decide (sl.length=io.length)&&decide sl.Nodup&&(List.range io.length).all (fun k=>match io[k]?,sl[k]? with|some i,some j=>decide ((i,j)∈pos)|_,_=>false) &&
 (List.range aA.length).all (fun i=>match aA[i]? with
  |some x=>if i∈io then own x.1&&gD x.2 else f6 x.1 x.2||(own x.1&&pos.any fun ij=>decide (ij.1=i)&&!decide (ij.2∈sl))
  |none=>true)
theorem Te {io sl:List Nat}{pos:List (Nat×Nat)}{aA:List (M×D)} (h:j7 io sl pos aA=true):G6 io sl pos aA:=by
 unfold j7 at h
 simp only [Bool.and_eq_true,decide_eq_true_eq,List.all_eq_true,List.mem_range] at h
 obtain ⟨⟨⟨h1,h2⟩,h3⟩,h4⟩:=h
 refine ⟨fun k i hk=>?_,h2,fun i x hi hx=>?_,fun i x hi hx=>?_,h1⟩
 ·have aS:k < io.length:=(List.getElem?_eq_some_iff.mp hk).1
  have q:=h3 k aS
  rw [hk] at q
  cases e:sl[k]? with
  |none=>rw [e] at q;cases q
  |some j=>rw [e] at q;exact ⟨j,rfl,by simpa using q⟩
 ·have aS:i < aA.length:=(List.getElem?_eq_some_iff.mp hx).1
  have q:=h4 i aS
  rw [hx] at q
  simp only [if_neg hi,Bool.or_eq_true,Bool.and_eq_true,List.any_eq_true] at q
  rcases q with q|⟨q,ij,hm,z⟩
  ·exact .inl q
  ·refine .inr ⟨q,ij.2,?_,by simpa using z.2⟩
   have e:ij.1=i:=by simpa using z.1
   rw [←e];exact hm
 ·have aS:i < aA.length:=(List.getElem?_eq_some_iff.mp hx).1
  have q:=h4 i aS
  rw [hx] at q
  simpa only [if_pos hi,Bool.and_eq_true] using q
theorem Qi {io sl:List Nat}{pos:List (Nat×Nat)}{aA:List (M×D)}{vs:List V}{H1:Hp} (R:Rel K H₀ I O H σ env) (R1:Rel K H₀ I O H1 σ env) (ok:G6 io sl pos aA) (hv:fB K H₀ O H H1 aA vs)
  (hp:∀ ij∈pos,∃ v x,vs[ij.1]?=some v∧σ[ij.2]?=some (some v)∧env[ij.2]?=some (some x)∧aA[ij.1]?=some x) :
  (∀ {i j:Nat},(i,j)∈pos→∀ {x:M×D},aA[i]?=some x→own x.1=true→∃ p:Addr,vs[i]?=some (V.ref p)∧σ[j]?=some (some (V.ref p))∧env[j]?=some (some x)∧O p∧Cell K (fun a=>¬ O a∧H₀ a=none) H1 p x.2) ∧
  (∀ {i:Nat}{p:Addr},i∈io→vs[i]?=some (V.ref p)→∃ (k j:Nat) (x:M×D),io[k]?=some i∧sl[k]?=some j∧aA[i]?=some x∧σ[j]?=some (some (V.ref p))∧env[j]?=some (some x)∧own x.1=true∧O p∧Cell K (fun a=>¬ O a∧H₀ a=none) H1 p x.2∧gD x.2=true) ∧
  (∀ a,iL io vs a→O a)∧uw K H1 io vs (aA.map (·.2)):=by
 have hlen:aA.length=vs.length:=Paired.length hv
 have at_:∀ {i:Nat}{x:M×D},aA[i]?=some x→∃ v,vs[i]?=some v∧Val K H₀ O H H1 x.1 x.2 v:=fun {i x} hx=>fB.at hv hx
 have qL:∀ {i j:Nat},(i,j)∈pos→∀ {x:M×D},aA[i]?=some x→own x.1=true→∃ p:Addr,vs[i]?=some (V.ref p)∧σ[j]?=some (some (V.ref p))∧env[j]?=some (some x)∧O p∧Cell K (fun a=>¬ O a∧H₀ a=none) H1 p x.2:=fun {i j} mI {x} hx ox=>by
  obtain ⟨v,x',a,b,c,z⟩:=hp (i,j) mI
  simp only at a b c z
  rw [hx] at z;cases z
  obtain ⟨w,hw,_,hm⟩:=R1.e.at (i:=j) (m:=x.1) (d:=x.2) c
  rw [b] at hw;cases hw
  obtain ⟨mx,dx⟩:=x
  cases mx<;>simp only [own] at ox<;>try (cases ox;done)
  ·obtain ⟨p,rfl,h1,h2,cc⟩:=hm;exact ⟨p,a,b,c,h1,cc⟩
  ·obtain ⟨p,rfl,h1,cc⟩:=hm;exact ⟨p,a,b,c,h1,cc⟩
 have lZ:∀ {i:Nat}{p:Addr},i∈io→vs[i]?=some (V.ref p)→∃ (k j:Nat) (x:M×D),io[k]?=some i∧sl[k]?=some j∧aA[i]?=some x∧σ[j]?=some (some (V.ref p))∧env[j]?=some (some x)∧own x.1=true∧O p∧Cell K (fun a=>¬ O a∧H₀ a=none) H1 p x.2∧gD x.2=true:=fun {i p} hi j8=>by
  obtain ⟨k,hk⟩:=List.getElem?_of_mem hi
  obtain ⟨j,hj,zD⟩:=ok.c1 k i hk
  have aS:i < aA.length:=by rw [hlen];exact (List.getElem?_eq_some_iff.mp j8).1
  have hx:aA[i]?=some aA[i]:=List.getElem?_eq_getElem aS
  obtain ⟨ox,cx⟩:=ok.c4 i _ hi hx
  obtain ⟨p',a,b,c,h1,cc⟩:=qL zD hx ox
  rw [j8] at a;cases a
  exact ⟨k,j,_,hk,hj,hx,b,c,ox,h1,cc,cx⟩
 have sub:∀ a,iL io vs a→O a:=fun a ⟨i,hi,j8⟩=>by
  obtain ⟨_,_,_,_,_,_,_,_,_,h1,_⟩:=lZ hi j8;exact h1
 have A:uw K H1 io vs (aA.map (·.2)):=by
  refine ⟨by rw [List.length_map,hlen],fun i v d hi j8 hd=>?_,fun i d hi hd=>?_,fun i j p hi hj h1 h2=>?_⟩
  ·rw [List.getElem?_map] at hd
   cases hx:aA[i]? with
   |none=>rw [hx] at hd;cases hd
   |some x =>
    rw [hx] at hd;cases hd
    obtain ⟨v',f7,W0⟩:=at_ hx
    rw [j8] at f7;cases f7
    rcases ok.c3 i x hi hx with z|⟨z,j,hj,nj⟩
    ·exact (W0.f6 z).wk fun a h _=>fun w=>h (sub a w)
    ·obtain ⟨p,a,b,c,h1,cc⟩:=qL hj hx z
     rw [j8] at a;cases a
     refine (cc.wk fun a h _=>(fun w=>h.1 (sub a w):¬ iL io vs a)).rp (fun ⟨i2,X5,X6⟩=>?_)
     obtain ⟨k,j2,x2,_,X7,_,s2,e2,o2,_⟩:=lZ X5 X6
     have:=R.dj j j2 x x2 p c e2 z o2 b s2
     exact nj (this▸List.mem_of_getElem? X7)
  ·rw [List.getElem?_map] at hd
   cases hx:aA[i]? with
   |none=>rw [hx] at hd;cases hd
   |some x =>
    rw [hx] at hd;cases hd
    obtain ⟨k,hk⟩:=List.getElem?_of_mem hi
    obtain ⟨j,hj,zD⟩:=ok.c1 k i hk
    obtain ⟨ox,cx⟩:=ok.c4 i _ hi hx
    obtain ⟨p',a,b,c,h1,cc⟩:=qL zD hx ox
    exact ⟨p',a,cc.im cx⟩
  ·obtain ⟨k1,j1,x1,X8,X9,_,Ya,Yb,o1,_⟩:=lZ hi h1
   obtain ⟨k2,j2,x2,IW,Yc,_,Yd,Ye,o2,_⟩:=lZ hj h2
   have ej:=R.dj j1 j2 x1 x2 p Yb Ye o1 o2 Ya Yd
   subst ej
   have ek:k1=k2:=pW ok.c2 X9 Yc
   subst ek
   rw [X8] at IW;exact Option.some.inj IW
 exact ⟨qL,lZ,sub,A⟩
end
mutual
noncomputable def toPy:D→PyData
 |.non=>.none
 |.bl b=>.bool b
 |.int i=>.int i
 |.str x=>.str x
 |.tup ds=>.tuple (cM ds)
 |.lst ds=>.list (cM ds)
 |.ty _=>.none
 |.dk _=>.none
 |.dt _=>.none
noncomputable def cM:List D→List PyData
 |[]=>[]
 |d::ds=>toPy d::cM ds
end
mutual
noncomputable def plain:D→Bool
 |.tup ds=>eC ds
 |.lst ds=>eC ds
 |.ty _=>false
 |.dk _=>false
 |.dt _=>false
 |.non=>true
 |.bl _=>true
 |.int _=>true
 |.str _=>true
noncomputable def eC:List D→Bool
 |[]=>true
 |d::ds=>plain d&&eC ds
end
section
variable {K:PySem.W.Frag}{H H' H₀:Hp}{O O':Addr→Prop}{σ:L2.St}{env:Ev}
mutual
theorem nV {N:Addr→Prop}:∀ {v:V}{d:D},plain d=true→Rp K N H v d→Dn K H v (toPy d)
 |_,_,_,.non=>by simp only [toPy];exact .non
 |_,_,_,.bl b=>by simp only [toPy];exact .bl b
 |_,_,_,.int i=>by simp only [toPy];exact .int i
 |_,_,_,.str x=>by simp only [toPy];exact .str x
 |_,.ty n,e,.ty _=>by simp [plain] at e
 |_,.tup ds,e,.tup h r=>by simp only [toPy];exact .tup h (p8 (by simpa only [plain] using e) r)
 |_,.lst ds,e,.lst h n r=>by simp only [toPy];exact .lst (.inl h) (p8 (by simpa only [plain] using e) r)
 |_,.lst ds,e,.lstK h r=>by simp only [toPy];exact .lst (.inr h) (p8 (by simpa only [plain] using e) r)
 |_,.dk ds,e,.dk h n _ r=>by simp [plain] at e
 |_,.dt ds,e,.dt h n _ r=>by simp [plain] at e
theorem p8 {N:Addr→Prop}:∀ {vs:List V}{ds:List D},eC ds=true→aw K N H vs ds→bF K H vs (cM ds)
 |_,_,_,.nil=>by simp only [cM];exact .nil
 |_,d::ds,e,.cons h r=>by
  have e':plain d=true∧eC ds=true:=by simpa [eC] using e
  simp only [cM]
  exact .cons (nV e'.1 h) (p8 e'.2 r)
end
noncomputable def lN:D→D→Bool
 |.lst _,.lst _=>true
 |.tup _,.tup _=>true
 |.non,.non=>true
 |_,_=>false
theorem D9 {a b:D} (h:lN a b=true):lU (toPy a) (toPy b):=by
 cases a<;>cases b<;>simp only [lN] at h<;>try (cases h;done)
 ·simp only [toPy];exact .non
 ·simp only [toPy];exact .tup _ _
 ·simp only [toPy];exact .lst _ _
noncomputable def i5 (a b:D):Bool:=plain a&&plain b&&lN a b&&decide (min (toPy a).depth (toPy b).depth≤60)
noncomputable def gu:M×D→M×D→Option (M×D):=fun a b=>if i5 a.2 b.2=true then some (.fr,.bl (PyData.eqv (toPy a.2) (toPy b.2))) else none
noncomputable def fS:M×D→M×D→Option (M×D):=fun a b=>if i5 a.2 b.2=true then some (.fr,.bl (!PyData.eqv (toPy a.2) (toPy b.2))) else none
theorem Dg {a b:D} (h:i5 a b=true):plain a=true∧plain b=true∧lN a b=true∧min (toPy a).depth (toPy b).depth≤60:=by
 unfold i5 at h
 simp only [Bool.and_eq_true,decide_eq_true_eq] at h
 exact ⟨h.1.1.1,h.1.1.2,h.1.2,h.2⟩
theorem Tf:JR K (zp K) gu:=by
 intro H₀ O H x y a b Q m d _ _ h1 h2 h q
 unfold gu at h
 split at h
 ·rename_i ok
  cases h
  obtain ⟨p1,p2,l,dp⟩:=Dg ok
  exact ⟨_,_,nV p1 h1.weak,nV p2 h2.weak,D9 l,dp,q _ H (aI.refl H) eZ⟩
 ·cases h
theorem Ti:JR K (zq K) fS:=by
 intro H₀ O H x y a b Q m d _ _ h1 h2 h q
 unfold fS at h
 split at h
 ·rename_i ok
  cases h
  obtain ⟨p1,p2,l,dp⟩:=Dg ok
  exact ⟨_,_,nV p1 h1.weak,nV p2 h2.weak,D9 l,dp,q _ H (aI.refl H) eZ⟩
 ·cases h
theorem Tj {X:Cx} (h:X.K=K) (hu:X.A.units+64 < cLine):bx X (compareOp .Eq) (zp K):=by subst h;exact Sh hu
theorem Tn {X:Cx} (h:X.K=K) (hu:X.A.units+64 < cLine):bx X (compareOp .NotEq) (zq K):=by subst h;exact Si hu
noncomputable def mh (neg:Bool):M×D→M×D→Option (M×D)
 | (_,d),(_,.lst ds)=>if plain d=true∧eC ds=true∧(toPy d).depth≤50 then some (.fr,.bl (if neg then !((cM ds).any fun e=>PyData.eqv e (toPy d)) else (cM ds).any fun e=>PyData.eqv e (toPy d))) else none
 |_,_=>none
theorem Tp {neg:Bool}:JR K (zr K neg) (mh neg):=by
 intro H₀ O H x y a b Q m d _ _ h1 h2 h q
 obtain ⟨ma,da⟩:=a;obtain ⟨mb,db⟩:=b
 cases db<;>simp only [mh] at h<;>try (cases h;done)
 split at h
 ·rename_i ok
  cases h
  obtain ⟨p,xs,rfl,hs,r⟩:=h2.lst
  exact ⟨p,xs,_,_,rfl,hs,p8 ok.2.1 r,nV ok.1 h1.weak,ok.2.2,q _ H (aI.refl H) eZ⟩
 ·cases h
theorem L0 {X:Cx} (h:X.K=K) (hu:X.A.units+64 < cLine):bx X (compareOp .NotIn) (zr K true):=by subst h;exact Mw hu
theorem Tq {n:Nat}{gs:gB}{fs:M→List D→Ev→Option Ev} (hs:oN K gs fs):JG K (GY K n gs) (gL n fs):=by
 intro H₀ I O H σ env x v fh Q R hm hv e q
 obtain ⟨m,d⟩:=x
 cases d<;>simp only [gL] at e<;>try (cases e;done)
 split at e
 ·rename_i hl
  obtain ⟨a,xs,rfl,oJ,r⟩:=hv.lst
  exact ⟨a,xs,rfl,oJ,by rw [r.len];exact hl,hs H₀ I O H σ env (aV m) _ xs fh Q R (by cases m<;>first|rfl|cases hm) r e q⟩
 ·cases e
theorem Qj {X:Cx}{tg l:Expr}{tl:TE} (h:X.K=K) (hl:PE X l tl):PI X tg l (y8 K tl):=by subst h;exact Rz hl
theorem K6 {X:Cx} (h:X.K=K):gJ X (.type "list") (fun xs H Q=>∃ p ys,xs=[.ref p]∧(bL K H p ys∨bA K H p ys)∧∀ l,H l=none→Q (.ref l) (upd H l (.lst ys))):=by subst h;exact K9
end
theorem CH {fc:Ev→Option Bool}{fe:Ev→Option (M×D)}{m:M}{fr:Ev}{P:D→Prop}:∀ {ds:List D},(∀ d∈ds,fc (some (m,d)::fr)=some true∧∃ x,fe (some (m,d)::fr)=some (.fr,x)∧P x)→∃ xs:List D,cV fc fe m fr ds=some (xs.map fun x=>(M.fr,x))∧xs.length=ds.length∧∀ x∈xs,P x
 |[],_=>⟨[],rfl,rfl,fun _ h=>nomatch h⟩
 |d::ds,h=>by
  obtain ⟨h1,x,h2,h3⟩:=h d List.mem_cons_self
  obtain ⟨xs,q1,q2,q3⟩:=CH (ds:=ds) fun e he=>h e (List.mem_cons_of_mem _ he)
  refine ⟨x::xs,?_,by rw [List.length_cons,List.length_cons,q2],fun y hy=>?_⟩
  ·rw [cV,h1,Option.bind_some,if_pos rfl,h2,Option.bind_some,q1,Option.bind_some];rfl
  ·rcases List.mem_cons.mp hy with rfl|hy
   ·exact h3
   ·exact q3 y hy
theorem gG {xs:List D} (h:xs.length≤1000):fP (xs.map fun x=>(M.fr,x))=some (.un,.lst xs):=by
 unfold fP
 rw [if_pos (by rw [List.length_map];exact Nat.le_trans h (by decide)),if_pos (by rw [List.all_map];exact List.all_eq_true.mpr fun _ _=>rfl),List.map_map]
 congr 3
 exact List.map_id xs
def One (d:D):Prop:=∃ c:Nat,d=.str ⟨#[c]⟩
theorem xT {m n:M}{x:Str}{i:Int} (hs:x.length≤sizeLine) (h0:0≤i) (h1:i < x.cps.toList.length):∃ d,ak (m,.str x) (n,.int i)=some (.fr,d)∧One d:=by
 rw [Vh hs,gF h0 h1]
 exact ⟨_,rfl,_,rfl⟩
noncomputable abbrev Ko:=Sum Int Str
noncomputable def kD:Ko→D
 |.inl i=>.int i
 |.inr x=>.str x
theorem qg (k:Ko):(kD k).bQ=true:=by cases k<;>simp only [kD,D.bQ]
inductive Row where
 |rk (x s:Str) (a b:Ko)|cp (x:Str) (a:Ko)|sy (a:Ko)|go (t:Int)|pt (a:Ko) (t:Int)|en
noncomputable def Row.ds:Row→List D
 |.rk x s a b=>[.str "reckon",.str x,.str s,kD a,kD b]
 |.cp x a=>[.str "copy",.str x,kD a]
 |.sy a=>[.str "say",kD a]
 |.go t=>[.str "go",.int t]
 |.pt a t=>[.str "part",kD a,.int t]
 |.en=>[.str "end"]
noncomputable def Row.d (r:Row):D:=.tup r.ds
theorem Row.bQ (r:Row):r.d.bQ=true:=by cases r<;>simp only [Row.d,Row.ds,D.bQ,D.cw,qg,Bool.and_self]
theorem lC:∀ rs:List Row,D.cw (rs.map Row.d)=true
 |[]=>by simp only [List.map_nil,D.cw]
 |r::rs=>by simp only [List.map_cons,D.cw,Row.bQ,lC rs,Bool.and_self]
noncomputable def Row.word:Row→Str
 |.rk _ _ _ _ => "reckon"
 |.cp _ _ => "copy"
 |.sy _ => "say"
 |.go _ => "go"
 |.pt _ _ => "part"
 |.en => "end"
theorem Row.Yf (r:Row):L2.bt r.ds 0=some (.str r.word):=by cases r<;>rfl
theorem N3 {ns:List Str}{k:Int} (h0:0≤k) (h1:k < ns.length):∃ c,L2.bt (ns.map D.str) k=some (.str c):=by
 rw [gF h0 (by simpa using h1)]
 exact ⟨ns[k.toNat]'(by omega),by simp⟩
theorem N4 {rs:List Row}{k:Int} (h0:0≤k) (h1:k < rs.length):L2.bt (rs.map Row.d) k=some (rs[k.toNat]'(by omega)).d:=by
 rw [gF h0 (by simpa using h1)]
 simp
section
variable {K:PySem.W.Frag}{H H' H₀:Hp}{O:Addr→Prop}{σ:L2.St}{env:Ev}
noncomputable def nH:Ev→Option (M×D):=fun _=>some (.un,.dk [])
theorem N5:JT K EX nH:=by
 intro H₀ O H σ env Q m d R h q
 cases h
 intro p hp
 refine q _ _ (cB hp) ⟨p,rfl,hp,kl R.hd hp,hZ R.od hp,[],bG,rfl,.nil⟩
theorem Tr {a:Addr}{xs:List V}{ds:List D} (w:∀ H:Hp,bA K H a xs) (r:∀ (N:Addr→Prop) (H:Hp),aw K N H xs ds):JT K (tC (.ref a)) (jC (.tup ds)):=by
 intro H₀ O H σ env Q m d' R h q
 cases h
 exact q _ H (aI.refl H) (Rp.tup (w H) (r _ H))
theorem B7 {N:Addr→Prop}:∀ (ys:List Str),aw K N H (ys.map V.str) (ys.map D.str)
 |[]=>.nil
 |y::ys=>.cons (.str y) (B7 ys)
end
theorem Qk {u:Value}{y:Str} (h:nY u=some (V.str y)):RelV (.str y) u:=by
 cases u<;>simp only [nY] at h<;>cases h
 exact ⟨_,rfl⟩
theorem Dh:∀ {us:List Value}{ys:List Str},us.map nY=ys.map (fun y=>some (V.str y))→Vals (ys.map V.str) us
 |[],[],_=>.nil
 |[],_::_,h=>by cases h
 |_::_,[],h=>by cases h
 |u::us,y::ys,h=>by
  rw [List.map_cons,List.map_cons] at h
  exact .cons (Qk (List.cons.inj h).1) (Dh (List.cons.inj h).2)
theorem Ql {K:PySem.W.Frag}{a:Addr}{od:Option Addr}{its:Array Value}{n:Nat}{sl:Array (Option Value)}{ys:List Str} (l:K.lookup a=some ⟨.type "tuple",od,.seq its n,sl⟩) (v:its.toList.map nY=ys.map (fun y=>some (V.str y))) (hz:4≤ys.length∧ys.length≤1000) (H:Hp):bA K H a (ys.map V.str):=by
 have r:=Dh v
 have e:=r.length
 simp only [List.length_map,Array.length_toList] at e
 exact .inr ⟨_,its,n,l,rfl,rfl,Nat.le_trans (by omega) (show 1000≤sizeLine by decide),by omega,r⟩
section
variable {K:PySem.W.Frag}{H H₀:Hp}{O:Addr→Prop}
noncomputable def rH (z:Str):List D:=z.cps.toList.map fun c=>.str ⟨#[c]⟩
theorem N6 {z:Str}:jN K H₀ O (vJ z) H .fr (rH z):=by
 have l:(rH z).length=z.cps.size:=by simp [rH]
 refine ⟨fun O2 H2 i s hi=>by rw [l] at hi;exact hi,fun O2 H2 i x H3 s hi y=>?_,fun O2 H2 s=>by rw [l];exact Nat.le_refl z.cps.size⟩
 obtain ⟨rfl,c,hc,rfl⟩:=y
 refine ⟨aI.refl _,.str ⟨#[c]⟩,?_,Rp.str _⟩
 unfold rH
 rw [List.getElem?_map,Array.getElem?_toList,hc]
 rfl
noncomputable def As (f:Ev→Option (M×D)):Ev→Option (M×List D):=fun e=>(f e).bind fun x=>match x.2 with
 |.str z=>some (.fr,rH z)
 |_=>none
theorem Ts {t:TE}{f:Ev→Option (M×D)} (h:JT K t f):JI K (GZ t) (As f):=by
 intro H₀ O H σ env R m ds Re e q
 obtain ⟨⟨m0,d0⟩,ex,e⟩:=ay e
 cases d0<;>simp only at e<;>try (cases e;done)
 cases e
 refine h H₀ O H σ env _ _ _ Re ex fun v H1 s1 h1=>?_
 exact ⟨_,h1.str,q _ H1 s1 rfl N6⟩
end
end J
namespace L2
open PySem
end L2
namespace J
open PySem L2
section
variable {m n:M}{z:Str}{i:Int}{b:Bool}{ds:List D}{ks:List (Key×D)}{kt:List (List Key×D)}
theorem Lq:jO [(m,.int i),(n,.ty "int")]=some (.fr,.bl true):=rfl
theorem Lc:jO [(m,.int i),(n,.ty "bool")]=some (.fr,.bl false):=rfl
end
section
variable {K:PySem.W.Frag}
end
structure eY (X:Cx) (st:Stmt) (t:TS):Prop where
 go:PS X st t
structure jP (X:Cx) (ss:List Stmt) (t:TS):Prop where
 go:fF X ss t
section
variable {X:Cx}{st:Stmt}{rest a b body:List Stmt}{t u tb:TS}{e c iter tg o i value:Expr}{te td ty tv:TE}{tc:TT}{g:TG}{wi:TI}{pos pos':Pos}{k:Nat}{x:Str}
theorem Qm:jP X [] yI:=⟨OS⟩
theorem N7 (h1:eY X st t) (h2:jP X rest u):jP X (st::rest) (y4 t u):=⟨M9 h1.go h2.go⟩
theorem Qn (h1:eY X st t):jP X [st] t:=⟨OU h1.go⟩
theorem Lr:eY X (.Continue pos) yJ:=⟨Lg⟩
theorem uj (he:PE X e te) (hs:swapsWith e none pos.line X.env=pure false:=by rfl):eY X (.Expr e pos) (nP te):=⟨OV he hs⟩
theorem Fe (he:PE X e te):eY X (.Return (some e) pos) (uY te):=⟨Rr he⟩
theorem Vj (hc:PT X c tc) (ha:jP X a t) (hb:jP X b u):eY X (.If c a b pos) (y6 tc t u):=⟨UI hc ha.go hb.go⟩
theorem Ff (he:PE X e te) (hg:PG X tg g) (hs:swapsWithSole [tg] e pos.line X.env=pure false:=by rfl) (hw:swappedStores [tg] e X.env=pure none:=by rfl)
 (h1:(assignEach [tg] X.env).map (·.2)=[assign tg X.env]:=by rfl):eY X (.Assign [tg] e pos) (gQ te g):=⟨Rx he hg hs hw h1⟩
theorem Tt {i:Nat} (hN:X.N.Nodup) (hi:X.N[i]?=some x) (hx:Loc X.env.scope x) (he:PE X e te) (hs:swapsWith e (some (.Name x pos')) pos.line X.env=pure false:=by rfl) (hf:X.fn x=true∨X.env.scope.names.lookup x=some .local:=by first|exact .inl rfl|exact .inr rfl|assumption) :
 eY X (.Assign [.Name x pos'] e pos) (gQ te (iT i)):=⟨Ry hN hi hx he hs hf⟩
theorem N8 (hp:PassesOwn (model X.prog X.w) X.A X.env X.xe) (hc:PT X c tc) (hb:jP X body tb):eY X (.While c body [] pos) (yh tc tb):=⟨Nc hp hc hb.go⟩
theorem Fg (hp:PassesOwn (model X.prog X.w) X.A X.env X.xe) (hc:X.calm=true) (hi:PI X tg iter wi) (hg:PG X tg g) (hb:jP X body tb)
 (hs:∀ x,foldedSetIterable iter X.env x=pure x:=by intro _;rfl):eY X (.For tg iter body [] pos) (n5 wi g tb):=⟨RA hp hc hi hg hb.go hs⟩
theorem Ea (hu:X.A.units+1 < cLine) (ho:PE X o td) (hi:PE X i ty) (hv:PE X value tv) (hs:swapsWith value (some (.Subscript o i pos')) pos.line X.env=pure false) :
 eY X (.Assign [.Subscript o i pos'] value pos) (uI td ty tv):=⟨Pk hu ho hi hv hs⟩
theorem B8 {N':List Str}{aB:Scope}{ix:List Nat}{elt:Expr}{ifs:List Expr}{px:Pos}{i:Nat}{y:Str}{py qF:Pos} (hN:X.N.Nodup) (Ag:X.N[i]?=some y) (hy:X.env.scope.names.lookup y=some .local) (ok:lG X.N N' X.env.scope aB x ix) (hc:X.calm=true) (hi:PI X (.Name x px) iter wi) (gY:∀ C s₂ H₂ fp pn,mD (X.cv N' aB C s₂ H₂ fp pn) ifs tc)
 (fZ:∀ C s₂ H₂ fp pn,PE (X.cv N' aB C s₂ H₂ fp pn) elt te) (Ah:swapsWith (.ListComp elt [⟨.Name x px,iter,ifs,0⟩] aB pos) (some (.Name y py)) qF.line X.env=pure true:=by rfl)
 (hs:∀ x,foldedSetIterable iter X.env x=pure x:=by intro _;rfl):eY X (.Assign [.Name y py] (.ListComp elt [⟨.Name x px,iter,ifs,0⟩] aB pos) qF) (gQ (nR wi ix tc te) (iT i)):=⟨LR hN Ag hy ok hc hi gY fZ Ah hs⟩
end
noncomputable def keyOf:D→Option Key
 |.int i=>some (.inl i)
 |.str x=>some (.inr x)
 |.non=>some .non
 |_=>none
noncomputable def cS {κ:Type} [DecidableEq κ] (ks:List (κ×D)) (k:κ):Option D:=(ks.find? fun kv=>decide (kv.1=k)).map (·.2)
noncomputable def putD {κ:Type} [DecidableEq κ] (ks:List (κ×D)) (k:κ) (d:D):List (κ×D) :=
 if (ks.any fun kv=>decide (kv.1=k))=true then ks.map (fun kv=>if kv.1=k then (kv.1,d) else kv) else ks++[(k,d)]
section
variable {K:PySem.W.Frag}{H H' H₀:Hp}{I:Nat→Option Addr}{O:Addr→Prop}{σ:L2.St}{env:Ev}
theorem m6 {N:Addr→Prop}{d:D}{k:Key}{v:V} (e:keyOf d=some k) (h:Rp K N H v d):v=kV k:=by
 cases d<;>simp only [keyOf] at e<;>cases e
 ·exact h.D2
 ·exact h.int_inv
 ·exact h.str_inv
def Ent {κ:Type} (K:PySem.W.Frag) (N:Addr→Prop) (H:Hp) (ai:List (κ×V)) (ks:List (κ×D)):Prop:=ai.map (·.1)=ks.map (·.1)∧aw K N H (ai.map (·.2)) (ks.map (·.2))
theorem Ent.cons_inv {κ:Type}{N:Addr→Prop}{p:κ×V}{ai:List (κ×V)}{q:κ×D}{ks:List (κ×D)} (h:Ent K N H (p::ai) (q::ks)):p.1=q.1∧Rp K N H p.2 q.2∧Ent K N H ai ks:=by
 obtain ⟨e,r⟩:=h
 rw [List.map_cons,List.map_cons] at e r
 obtain ⟨e1,e2⟩:=List.cons.inj e
 cases r with|cons a b=>exact ⟨e1,a,e2,b⟩
theorem Ent.len {κ:Type}{N:Addr→Prop}{ai:List (κ×V)}{ks:List (κ×D)} (h:Ent K N H ai ks):ai.length=ks.length:=by
 have:=congrArg List.length h.1
 simpa using this
theorem Ent.val {κ:Type} [DecidableEq κ] {N:Addr→Prop}:∀ {ai:List (κ×V)}{ks:List (κ×D)} (k:κ),Ent K N H ai ks→(cS ks k=none∧eD ai k=none)∨∃ d v,cS ks k=some d∧eD ai k=some v∧Rp K N H v d
 |[],[],k,_=>.inl ⟨rfl,rfl⟩
 |[],_::_,k,h=>absurd h.len (by simp)
 |_::_,[],k,h=>absurd h.len (by simp)
 |p::ai,q::ks,k,h=>by
  obtain ⟨e,r,t⟩:=h.cons_inv
  by_cases z:q.1=k
  ·exact .inr ⟨q.2,p.2,by simp [cS,List.find?_cons,z],tW (e.trans z),r⟩
  ·have e1:cS (q::ks) k=cS ks k:=by simp [cS,List.find?_cons,z]
   rw [e1,tX (fun w=>z (e.symm.trans w))]
   exact Ent.val k t
theorem Ent.put {κ:Type} [DecidableEq κ] {N:Addr→Prop}{ai:List (κ×V)}{ks:List (κ×D)}{k:κ}{v:V}{d:D} (h:Ent K N H ai ks) (hv:Rp K N H v d):Ent K N H (putK ai k v) (putD ks k d):=by
 have ha:(ai.any fun kv=>decide (kv.1=k))=(ks.any fun kv=>decide (kv.1=k)):=by
  have:∀ {α β:Type} (l:List (α×β)) (f:α→Bool),l.any (fun kv=>f kv.1)=(l.map (·.1)).any f:=fun l f=>by rw [List.any_map];rfl
  rw [this ai fun a=>decide (a=k),this ks fun a=>decide (a=k),h.1]
 unfold putK putD
 rw [ha]
 split
 ·have go:∀ {ai:List (κ×V)}{ks:List (κ×D)},Ent K N H ai ks→Ent K N H (ai.map fun kv=>if kv.1=k then (kv.1,v) else kv) (ks.map fun kv=>if kv.1=k then (kv.1,d) else kv):=by
   intro ai
   induction ai with
   |nil=>intro ks h;cases ks with
    |nil=>exact ⟨rfl,.nil⟩
    |cons _ _=>exact absurd h.len (by simp)
   |cons p ai ih =>
    intro ks h
    cases ks with
    |nil=>exact absurd h.len (by simp)
    |cons q ks =>
     obtain ⟨e,r,t⟩:=h.cons_inv
     obtain ⟨i1,i2⟩:=ih t
     rw [List.map_cons,List.map_cons]
     by_cases z:q.1=k
     ·rw [if_pos z,if_pos (e.trans z)]
      exact ⟨by rw [List.map_cons,List.map_cons,i1,e],.cons hv i2⟩
     ·rw [if_neg z,if_neg (fun w=>z (e.symm.trans w))]
      exact ⟨by rw [List.map_cons,List.map_cons,i1,e],.cons r i2⟩
  exact go h
 ·exact ⟨by rw [List.map_append,List.map_append,h.1];rfl,by rw [List.map_append,List.map_append];exact h.2.app (.cons hv .nil)⟩
theorem Val.dk {m:M}{ks:List (Key×D)}{v:V}{Hb:Hp} (h:Val K H₀ O Hb H m (.dk ks) v):∃ a ai,v=.ref a∧Rd H a (.dK ai)∧Ent K (NM H₀ O (aV m)) H ai ks:=by
 cases m<;>simp only [Val,Cell] at h
 ·cases h with|dk r n e q=>exact ⟨_,_,rfl,r,e,q⟩
 ·cases h with|dk r n e q=>exact ⟨_,_,rfl,r,e,q⟩
 ·obtain ⟨p,rfl,_,_,_,xs,q,e,r⟩:=h;exact ⟨_,_,rfl,.inl q,e,r.wk fun a h _=>h.1⟩
 ·obtain ⟨p,rfl,_,_,xs,q,e,r⟩:=h;exact ⟨_,_,rfl,.inl q,e,r⟩
 ·obtain ⟨p,rfl,_,xs,q,e,r⟩:=h;exact ⟨_,_,rfl,.inl q,e,r⟩
 ·cases h with|dk r n e q=>exact ⟨_,_,rfl,r,e,q⟩
 ·obtain ⟨p,qs,aP,rfl,e2,_⟩:=h;cases e2
noncomputable def jQ:D→Option (List (Key×D))
 |.dk ks=>some ks
 |_=>none
theorem xU {d:D}{ks:List (Key×D)} (h:jQ d=some ks):d=.dk ks:=by cases d<;>simp only [jQ] at h<;>cases h;rfl
noncomputable def qv (fd fk:Ev→Option (M×D)):Ev→Option (M×D):=fun e=>(fd e).bind fun x=>(fk e).bind fun y=>(jQ x.2).bind fun ks=>(keyOf y.2).bind fun k=>(cS ks k).bind fun d=>some (aV x.1,d)
theorem Qo {td ty:TE}{fd fk:Ev→Option (M×D)} (hd:JT K td fd) (hk:JT K ty fk):JT K (F5 td ty) (qv fd fk):=by
 intro H₀ O H σ env Q m d R h q
 obtain ⟨x,ex,h⟩:=ay h
 obtain ⟨y,ey,h⟩:=ay h
 obtain ⟨ks,mK,h⟩:=ay h
 obtain ⟨k,ek,h⟩:=ay h
 obtain ⟨d',ed,h⟩:=ay h
 cases h
 refine hd H₀ O H σ env _ x.1 x.2 R ex fun v H1 s1 h1=>?_
 refine hk H₀ O H1 σ env _ y.1 y.2 (R.keep s1) ey fun w H2 s2 h2=>?_
 rw [xU mK] at h1
 obtain ⟨a,ai,rfl,rd,en⟩:=(h1.keep s2).dk
 obtain rfl:=m6 ek h2.weak
 rcases en.val k with ⟨z,_⟩|⟨d2,v2,z1,z2,r⟩
 ·rw [z] at ed;cases ed
 ·rw [z1] at ed;cases ed
  exact ⟨a,v2,rfl,.inl ⟨ai,k,rd,rfl,z2.symm⟩,q v2 H2 (s1.trans s2) (Val.el r)⟩
noncomputable def dO (neg:Bool) (fk fd:Ev→Option (M×D)):Ev→Option (M×D):=fun e=>(fk e).bind fun y=>(fd e).bind fun x=>(jQ x.2).bind fun ks=>(keyOf y.2).bind fun k=>some (.fr,.bl (if neg then !(cS ks k).isSome else (cS ks k).isSome))
theorem Ent.isSome {κ:Type} [DecidableEq κ] {N:Addr→Prop}{ai:List (κ×V)}{ks:List (κ×D)}{k:κ} (h:Ent K N H ai ks):(eD ai k).isSome=(cS ks k).isSome:=by
 rcases h.val k with ⟨a,b⟩|⟨d,v,a,b,_⟩<;>rw [a,b]<;>rfl
theorem Tv {td ty:TE}{fd fk:Ev→Option (M×D)} (hk:JT K ty fk) (hd:JT K td fd):JT K (GU ty td) (dO false fk fd):=by
 intro H₀ O H σ env Q m d R h q
 obtain ⟨y,ey,h⟩:=ay h
 obtain ⟨x,ex,h⟩:=ay h
 obtain ⟨ks,mK,h⟩:=ay h
 obtain ⟨k,ek,h⟩:=ay h
 cases h
 refine hk H₀ O H σ env _ y.1 y.2 R ey fun w H1 s1 h1=>?_
 refine hd H₀ O H1 σ env _ x.1 x.2 (R.keep s1) ex fun v H2 s2 h2=>?_
 rw [xU mK] at h2
 obtain ⟨a,ai,rfl,rd,en⟩:=h2.dk
 obtain rfl:=m6 ek h1.weak
 refine ⟨a,eD ai k,rfl,.inl ⟨ai,k,rd,rfl,rfl⟩,?_⟩
 rw [en.isSome]
 exact q _ H2 (s1.trans s2) eZ
theorem MJ {td ty:TE}{fd fk:Ev→Option (M×D)} (hk:JT K ty fk) (hd:JT K td fd):JT K (DW ty td) (dO true fk fd):=by
 intro H₀ O H σ env Q m d R h q
 obtain ⟨y,ey,h⟩:=ay h
 obtain ⟨x,ex,h⟩:=ay h
 obtain ⟨ks,mK,h⟩:=ay h
 obtain ⟨k,ek,h⟩:=ay h
 cases h
 refine hk H₀ O H σ env _ y.1 y.2 R ey fun w H1 s1 h1=>?_
 refine hd H₀ O H1 σ env _ x.1 x.2 (R.keep s1) ex fun v H2 s2 h2=>?_
 rw [xU mK] at h2
 obtain ⟨a,ai,rfl,rd,en⟩:=h2.dk
 obtain rfl:=m6 ek h1.weak
 refine ⟨a,eD ai k,rfl,.inl ⟨ai,k,rd,rfl,rfl⟩,?_⟩
 rw [en.isSome]
 exact q _ H2 (s1.trans s2) eZ
noncomputable def jR (i:Nat) (e:Ev):Option (M×List (Key×D)):=match e[i]? with
 |some (some (m,.dk ds))=>if own m=true then some (m,ds) else none
 |_=>none
theorem Eb {i:Nat}{e:Ev}{m:M}{ds:List (Key×D)} (h:jR i e=some (m,ds)):e[i]?=some (some (m,.dk ds))∧own m=true:=by
 unfold jR at h
 split at h
 ·rename_i e
  split at h
  ·cases h;exact ⟨e,by assumption⟩
  ·cases h
 ·cases h
theorem Rel.dct {i:Nat}{m:M}{ds:List (Key×D)} (R:Rel K H₀ I O H σ env) (h:jR i env=some (m,ds)):∃ p ai,σ[i]?=some (some (.ref p))∧O p∧H p=some (.dK ai)∧Ent K (fun a=>¬ O a∧H₀ a=none) H ai ds:=by
 obtain ⟨e,o⟩:=Eb h
 obtain ⟨v,hv,n,hm⟩:=R.e.at e
 cases m<;>simp only [own] at o<;>try (cases o;done)
 ·obtain ⟨p,rfl,h1,h2,xs,c,z,r⟩:=hm;exact ⟨p,xs,hv,h1,c,z,r⟩
 ·obtain ⟨p,rfl,h1,xs,c,z,r⟩:=hm;exact ⟨p,xs,hv,h1,c,z,r⟩
theorem Rel.W2 {i:Nat}{m:M}{ds:List (Key×D)}{p:Addr}{xs ys:List (Key×V)}{es:List (Key×D)} (R:Rel K H₀ I O H σ env) (h:jR i env=some (m,ds)) (hp:σ[i]?=some (some (.ref p))) (hx:H p=some (.dK xs)) (r:Ent K (fun a=>¬ O a∧H₀ a=none) H ys es) :
  Rel K H₀ I O (L2.upd H p (.dK ys)) σ (env.set i (some (m,.dk es)))∧aM O H O (L2.upd H p (.dK ys)):=by
 obtain ⟨e,o⟩:=Eb h
 have hO:=(R.lH e o hp).1
 exact R.mut e o hp ⟨ys,bG,r.1,r.2.upd hO hx (fun z=>z)⟩
noncomputable def iY (i:Nat) (fk fe:Ev→Option (M×D)):Ev→Option Fl:=fun e=>(fe e).bind fun x=>(fk e).bind fun y=>(keyOf y.2).bind fun k=>if cG x.1 x.2=true then (jR i e).bind fun z=>if z.2.length < sizeLine then some (.nx (e.set i (some (z.1,.dk (putD z.2 k x.2))))) else none else none
theorem Qp {i:Nat}{t tk:TE}{f fk:Ev→Option (M×D)} (h:JT K t f) (hk:JT K tk fk):JS K (uI (fQ i) tk t) (iY i fk f):=by
 intro H₀ I O H σ env Ds fl R e q
 obtain ⟨x,ex,e⟩:=ay e
 obtain ⟨y,ey,e⟩:=ay e
 obtain ⟨k,ek,e⟩:=ay e
 split at e
 ·rename_i hs
  obtain ⟨⟨m,ds⟩,ez,e⟩:=ay e
  split at e
  ·rename_i hl
   cases e
   obtain ⟨p,ai,hp,hO,hx,r⟩:=R.dct ez
   refine h H₀ O H σ env _ x.1 x.2 R.e ex fun v H1 s1 h1=>?_
   refine ⟨.ref p,hp,?_⟩
   refine hk H₀ O H1 σ env _ y.1 y.2 (R.keep s1).e ey fun w H2 s2 h2=>?_
   obtain rfl:=m6 ek h2.weak
   have s:=s1.trans s2
   refine ⟨p,_,rfl,.inl ⟨ai,k,s _ _ hx,rfl,by rw [r.len];exact hl,rfl⟩,?_⟩
   obtain ⟨R2,st⟩:=(R.keep s).W2 (ys:=putK ai k v) (es:=putD ds k x.2) ez hp (s _ _ hx) (Ent.put ⟨r.1,r.2.keep (.same s)⟩ ((h1.keep s2).cG hs))
   exact q O _ σ R2 ((aM.same s).trans st)
  ·cases e
 ·cases e
noncomputable def yT (fk fv:Ev→Option (M×D)):Ev→Option (M×D):=fun e=>(fk e).bind fun y=>(fv e).bind fun x=>(keyOf y.2).bind fun k=>if x.2.bQ=true then some (.un,.dk [(k,x.2)]) else none
theorem Qq {tk tv:TE}{fk fv:Ev→Option (M×D)} (hk:JT K tk fk) (hv:JT K tv fv):JT K (F6 [(tk,tv)]) (yT fk fv):=by
 intro H₀ O H σ env Q m d R h q
 obtain ⟨y,ey,h⟩:=ay h
 obtain ⟨x,ex,h⟩:=ay h
 obtain ⟨k,ek,h⟩:=ay h
 split at h
 ·rename_i IX
  cases h
  intro p hp
  have s0:aI H (upd H p (.dK [])):=cB hp
  refine hk H₀ O _ σ env _ y.1 y.2 (R.keep s0) ey fun w H1 s1 h1=>?_
  refine hv H₀ O H1 σ env _ x.1 x.2 ((R.keep s0).keep s1) ex fun v H2 s2 h2=>?_
  obtain rfl:=m6 ek h1.weak
  have mz:H2 p=some (.dK []):=s2 _ _ (s1 _ _ bG)
  refine ⟨mz,[(k,v)],rfl,by show 1≤15;decide,?_⟩
  have sm:aI H (upd H2 p (.dK (nB [] [(k,v)]))):=fun a o e=>by
   rw [aH (dY e hp)]
   exact s2 _ _ (s1 _ _ (s0 _ _ e))
  refine q _ _ sm ⟨p,rfl,hp,kl R.hd hp,hZ R.od hp,[(k,v)],bG,rfl,.cons ?_ .nil⟩
  refine (Rp.im (N':=fun _=>False) IX h2.weak).keep (fun a o e z=>?_) |>.im IX
  have eO:a≠p:=by
   rintro rfl
   rcases z with z|z
   ·exact z
   ·rw [mz] at e;cases e;exact z
  rw [aH eO];exact e
 ·cases h
end
section
variable {K:PySem.W.Frag}{H H' H₀:Hp}{I:Nat→Option Addr}{O:Addr→Prop}{σ:L2.St}{env:Ev}
theorem Rel.Tw {i:Nat}{C:Addr}{qs:List Addr}{aP:List (List D)}{H1:Hp} (R:Rel K H₀ I O H σ env) (s:aI H H1) (nn:∀ (j:Nat) d,j≠i→env[j]?≠some (some (.nb,d))) (hC:H C=none) (hq:∀ q∈qs,H q=none∧q≠C) (nd:qs.Nodup)
  (e:H1 C=some (.lst (qs.map V.ref))) (hp:Paired (fun q ds=>∃ xs,H1 q=some (.lst xs)∧aw K (fun a=>¬ (O a∨a=C∨a∈qs)∧H₀ a=none) H1 xs ds) qs aP) :
  Rel K H₀ I (fun a=>O a∨a=C∨a∈qs) H1 (σ.set i (some (.ref C))) (env.set i (some (.nb,.lst (aP.map D.lst))))∧aM O H (fun a=>O a∨a=C∨a∈qs) H1:=by
 have np:∀ a,(∃ o,H a=some o)→¬ (a=C∨a∈qs):=fun a ⟨o,ea⟩ z=>by
  rcases z with rfl|z
  ·rw [hC] at ea;cases ea
  ·rw [(hq a z).1] at ea;cases ea
 have n0:∀ a,(a=C∨a∈qs)→H₀ a=none:=fun a z=>by
  cases h0:H₀ a with
  |none=>rfl
  |some o=>exact absurd z (np a (R.e.hd a o h0))
 have nO:∀ a,(a=C∨a∈qs)→¬ O a:=fun a z ho=>np a (R.e.od a ho) z
 have wk:∀ {N:Addr→Prop}{d:D}{v:V},Rp K N H v d→Rp K (fun a=>N a∧¬ (a=C∨a∈qs)) H1 v d:=fun r=>(r.wk fun a n e=>⟨n,np a e⟩).keep (.same s)
 have rC:∀ {N:Addr→Prop}{d:D}{q:Addr},Cell K N H q d→Cell K (fun a=>N a∧¬ (a=C∨a∈qs)) H1 q d:=fun {N d q} r=>by
  obtain ⟨o,e,_⟩:=r.some
  exact (r.wk fun a n e=>⟨n,np a e⟩).keep (.same s) ((s _ _ e).trans e.symm)
 have Au:∀ {j:Nat}{d:D},(env.set i (some (M.nb,D.lst (aP.map D.lst))))[j]?=some (some (.nb,d))→j=i:=fun {j d} h=>by
  rcases get_set h with ⟨z,_⟩|⟨z,q⟩
  ·exact z
  ·exact absurd q (nn j d z)
 have IY:∀ a,(a=C∨a∈qs)→∃ o,H1 a=some o∧¬ gZ o:=fun a z=>by
  rcases z with rfl|z
  ·exact ⟨_,e,fun z=>z⟩
  ·obtain ⟨ds,xs,hx,_⟩:=xD hp z
   exact ⟨_,hx,fun z=>z⟩
 refine ⟨⟨⟨lA ?_ ?_,?_,?_,?_⟩,?_,?_,?_,?_,?_⟩,?_⟩
 ·rw [List.length_set,List.length_set];exact Paired.length R.e.sl
 ·intro j y x hy hx m d ey
  subst ey
  rcases get_set hy with ⟨rfl,z⟩|⟨nj,q⟩
  ·cases z
   rcases get_set hx with ⟨_,z⟩|⟨z,_⟩
   ·subst z
    exact ⟨rfl,_,rfl,C,qs,aP,rfl,rfl,.inr (.inl rfl),n0 C (.inl rfl),e,nd,fun q hm=>⟨.inr (.inr hm),n0 q (.inr hm),(hq q hm).2⟩,hp⟩
   ·exact absurd rfl z
  ·rw [List.getElem?_set_ne (fun z=>nj z.symm)] at hx
   obtain ⟨v,hv,n,z⟩:=R.e.at q
   rw [hx] at hv;cases hv
   refine ⟨n,v,rfl,?_⟩
   cases m
   ·exact (wk z).wk fun a h _=>fun z=>z.elim h.1 h.2
   ·exact (wk z).wk fun a h _=>⟨fun z=>z.elim h.1.1 h.2,h.1.2⟩
   ·cases n
   ·obtain ⟨q,rfl,h1,h2,c'⟩:=z
    exact ⟨q,rfl,.inl h1,h2,(rC c').wk fun a h _=>⟨fun z=>z.elim h.1.1 h.2,h.1.2⟩⟩
   ·obtain ⟨q,rfl,h1,c'⟩:=z
    exact ⟨q,rfl,.inl h1,(rC c').wk fun a h _=>⟨fun z=>z.elim h.1.1 h.2,h.1.2⟩⟩
   ·cases n
   ·exact absurd q (nn j d nj)
 ·intro a ha
  rcases ha with ha|ha
  ·obtain ⟨o,e⟩:=R.e.od a ha;exact ⟨o,s _ _ e⟩
  ·obtain ⟨o,eo,_⟩:=IY a ha;exact ⟨o,eo⟩
 ·exact fun a o h=>let ⟨o,e⟩:=R.e.hd a o h;⟨o,s _ _ e⟩
 ·intro a u ha eu
  rcases ha with ha|ha
  ·exact (R.e.keep s).on a u ha eu
  ·obtain ⟨o,eo,nt⟩:=IY a ha
   rw [eu] at eo;cases eo;exact nt
 ·exact fun a o n h=>s _ _ (R.fr a o n h)
 ·intro a ha
  rcases ha with ha|ha
  ·exact R.ow a ha
  ·exact .inr (n0 a ha)
 ·intro i' d' p' h1 p1
  rcases get_set h1 with ⟨rfl,q⟩|⟨n1,q1⟩
  ·cases q
  ·rw [List.getElem?_set_ne (fun z=>n1 z.symm)] at p1
   exact R.ba i' d' p' q1 p1
 ·intro i' j x y q h1 h2 o1 o2 p1 p2
  rcases get_set h1 with ⟨rfl,q1⟩|⟨n1,q1⟩
  ·cases q1;cases o1
  ·rcases get_set h2 with ⟨rfl,q2⟩|⟨n2,q2⟩
   ·cases q2;cases o2
   ·rw [List.getElem?_set_ne (fun z=>n1 z.symm)] at p1
    rw [List.getElem?_set_ne (fun z=>n2 z.symm)] at p2
    exact R.dj i' j x y q q1 q2 o1 o2 p1 p2
 ·refine ⟨fun i' j d1 d2 h1 h2=>(Au h1).trans (Au h2).symm,fun i' j d1 x p' q xs h1 p1 h2 o2 p2 ex=>?_⟩
  have hi:=Au h1
  subst hi
  have rJ:p'=C:=by
   rcases get_set p1 with ⟨_,z⟩|⟨z,_⟩
   ·cases z;rfl
   ·exact absurd rfl z
  subst rJ
  rw [e] at ex;cases ex
  rcases get_set h2 with ⟨rfl,z⟩|⟨n2,q2⟩
  ·cases z;cases o2
  ·rw [List.getElem?_set_ne (fun z=>n2 z.symm)] at p2
   have hO:=(R.lH q2 o2 p2).1
   refine ⟨fun z=>nO q (.inl z) hO,fun z=>?_⟩
   obtain ⟨a,ha,ea⟩:=List.mem_map.mp z
   exact nO q (.inr (by cases ea;exact ha)) hO
 ·intro a o h n
  exact ⟨s a o h,fun z=>z.elim n (np a ⟨o,h⟩)⟩
noncomputable def zE (i:Nat) (e:Ev):Bool:=(List.range e.length).all fun j=>decide (j=i)||(match e[j]? with
 |some (some (.nb,_))=>false
 |_=>true)
theorem Qr {i:Nat}{e:Ev} (h:zE i e=true) (j:Nat) (d:D) (hj:j≠i):e[j]?≠some (some (.nb,d)):=fun z=>by
 have hl:j < e.length:=(List.getElem?_eq_some_iff.mp z).1
 have:=List.all_eq_true.mp h j (List.mem_range.mpr hl)
 rw [z,decide_eq_false hj] at this
 cases this
noncomputable def uP (i:Nat) (it:Ev→Option (M×List D)):Ev→Option Fl:=fun e=>(it e).bind fun y=>if zE i e=true∧y.2.length < sizeLine then some (.nx (e.set i (some (.nb,.lst ((y.2.map fun _=>([]:List D)).map D.lst))))) else none
theorem Qs {i:Nat}{wi:TI}{ix:List Nat}{it:Ev→Option (M×List D)} (hi:JI K wi it):JS K (gQ (nR wi ix vd (u9 kJ)) (iT i)) (uP i it):=by
 intro H₀ I O H σ env Ds fl R e q
 obtain ⟨⟨mi,ds⟩,ei,e⟩:=ay e
 split at e
 ·rename_i hc
  obtain ⟨hn,hl⟩:=hc
  cases e
  refine hi H₀ O H σ env _ mi ds R.e ei fun J H1 s1 hm ok C hC=>?_
  refine ⟨fun k n H2=>n=ds.length-k∧k≤ds.length∧aI H1 H2∧∃ qs:List Addr,H2 C=some (.lst (qs.map V.ref))∧qs.length=k∧qs.Nodup∧∀ q∈qs,H1 q=none∧q≠C∧H2 q=some (.lst []),⟨_,rfl,Nat.zero_le _,cB hC,[],bG,rfl,List.nodup_nil,fun _ h=>nomatch h⟩,?_⟩
  rintro k n H2 ⟨rfl,hle,s2,qs,IZ,Av,mF,rK⟩
  have bq:aM O H1 O H2:=aM.same s2
  by_cases aS:k < ds.length
  ·refine .inr ⟨ok.go O H2 k bq aS,fun x H3 y=>?_⟩
   obtain ⟨s3,_⟩:=ok.iF O H2 k x H3 bq aS y
   refine My.WW (σ:=some x::eV σ ix) (H:=H3) (A:=fun H3=>u9 kJ (some x::eV σ ix) H3 _) (B:=fun H3=>_) ?_
   refine ⟨Nat.zero_le _,fun p hp=>?_⟩
   have c3:H3 C=some (.lst (qs.map V.ref)):=s3 _ _ IZ
   have rJ:C≠p:=dY c3 hp
   have Yg:p∉qs:=fun z=>by rw [s3 _ _ (rK p z).2.2] at hp;cases hp
   refine ⟨qs.map V.ref,by rw [aH rJ];exact c3,by rw [List.length_map,Av];exact Nat.lt_trans aS hl,ds.length-(k+1),by omega,rfl,aS,fun a o ha=>?_,qs++[p],?_,by rw [List.length_append,Av];rfl,?_,fun a ha=>?_⟩
   ·rw [aH (dY ha hC)]
    have h3:=s3 _ _ (s2 _ _ ha)
    rw [aH (dY h3 hp)];exact h3
   ·rw [bG,List.map_append];rfl
   ·rw [List.nodup_append]
    refine ⟨mF,by simp,fun a ha b hb=>?_⟩
    have:b=p:=by simpa using hb
    subst this
    exact fun z=>Yg (z▸ha)
   ·rcases List.mem_append.mp ha with ha|ha
    ·obtain ⟨z1,z2,z3⟩:=rK a ha
     refine ⟨z1,z2,?_⟩
     have h3:=s3 _ _ z3
     rw [aH z2,aH (dY h3 hp)];exact h3
    ·have:a=p:=by simpa using ha
     subst this
     have Yh:H1 a=none:=by
      cases h1:H1 a with
      |none=>rfl
      |some o=>rw [s3 _ _ (s2 _ _ h1)] at hp;cases hp
     exact ⟨Yh,fun z=>rJ z.symm,by rw [aH (fun z=>rJ z.symm),bG]⟩
  ·have hk:k=ds.length:=by omega
   subst hk
   refine .inl ⟨ok.stop O H2 bq,?_⟩
   have pr:∀ (qs:List Addr) (ds:List D) (N:Addr→Prop),qs.length=ds.length→(∀ q∈qs,H2 q=some (.lst []))→Paired (fun q (es:List D)=>∃ xs,H2 q=some (.lst xs)∧aw K N H2 xs es) qs (ds.map fun _=>([]:List D)):=by
    intro qs
    induction qs with
    |nil=>intro ds N h _;cases ds with
     |nil=>exact .nil
     |cons _ _=>cases h
    |cons a qs ih=>intro ds N h hh;cases ds with
     |nil=>cases h
     |cons d ds=>exact .cons ⟨[],hh a List.mem_cons_self,.nil⟩ (ih ds N (by simpa using h) fun q hq=>hh q (List.mem_cons_of_mem _ hq))
   obtain ⟨R',st⟩:=(R.keep s1).Tw (i:=i) (C:=C) (qs:=qs) (aP:=ds.map fun _=>[]) s2 (fun j d hj=>Qr hn j d hj) hC (fun a ha=>⟨(rK a ha).1,(rK a ha).2.1⟩) mF IZ (pr qs ds _ Av fun a ha=>(rK a ha).2.2)
   exact q _ H2 _ R' ((aM.same s1).trans st)
 ·cases e
noncomputable def ot:List D→Option (List (List D))
 |[]=>some []
 |.lst d::r=>(ot r).bind fun x=>some (d::x)
 |_=>none
theorem Ec:∀ {ds:List D}{aP:List (List D)},ot ds=some aP→ds=aP.map D.lst
 |[],_,h=>by cases h;rfl
 |d::r,aP,h=>by
  cases d<;>simp only [ot] at h<;>try (cases h;done)
  obtain ⟨x,ex,h⟩:=ay h
  cases h
  rw [Ec ex,List.map_cons]
theorem Di:∀ aP:List (List D),ot (aP.map D.lst)=some aP
 |[]=>rfl
 |d::r=>by rw [List.map_cons,ot,Di r];rfl
noncomputable def vR (i:Nat) (e:Ev):Option (List (List D)):=match e[i]? with
 |some (some (.nb,.lst ds))=>ot ds
 |_=>none
theorem Tx {i:Nat}{e:Ev}{aP:List (List D)} (h:vR i e=some aP):e[i]?=some (some (.nb,.lst (aP.map D.lst))):=by
 unfold vR at h
 split at h
 ·rename_i e
  rw [e,Ec h]
 ·cases h
theorem BP:∀ {a b:List (List D)},a.map D.lst=b.map D.lst→a=b
 |[],[],_=>rfl
 |[],_::_,h=>by cases h
 |_::_,[],h=>by cases h
 |x::a,y::b,h=>by
  rw [List.map_cons,List.map_cons] at h
  obtain ⟨h1,h2⟩:=List.cons.inj h
  rw [D.lst.inj h1,BP h2]
theorem CJ {F:Addr→List D→Prop}:∀ {qs:List Addr}{aP:List (List D)}{j:Nat}{ds:List D},Paired F qs aP→aP[j]?=some ds→∃ q,qs[j]?=some q∧F q ds
 |_,_,_,_,.nil,h=>by simp at h
 |_,_,0,_,.cons a t,h=>by simp at h;subst h;exact ⟨_,rfl,a⟩
 |_,_,j+1,ds,.cons a t,h=>by
  obtain ⟨q,h1,h2⟩:=CJ (j:=j) (ds:=ds) t (by simpa using h)
  exact ⟨q,by simpa using h1,h2⟩
theorem CK {F G:Addr→List D→Prop}{es:List D}:∀ {qs:List Addr}{aP:List (List D)}{j:Nat}{q:Addr},qs.Nodup→Paired F qs aP→qs[j]?=some q→G q es→(∀ a ds,a∈qs→a≠q→F a ds→G a ds)→Paired G qs (aP.set j es)
 |_,_,_,_,_,.nil,h,_,_=>by simp at h
 |a::qs,ds::aP,0,q,hn,.cons x t,h,g,w=>by
  simp at h;subst h
  rw [List.nodup_cons] at hn
  exact .cons g (jw (fun b es hb hf=>w b es (List.mem_cons_of_mem _ hb) (fun z=>hn.1 (z▸hb)) hf) t)
 |a::qs,ds::aP,j+1,q,hn,.cons x t,h,g,w=>by
  rw [List.nodup_cons] at hn
  have h':qs[j]?=some q:=by simpa using h
  have hq:q∈qs:=List.mem_of_getElem? h'
  exact .cons (w a ds List.mem_cons_self (fun z=>hn.1 (z▸hq)) x) (CK hn.2 t h' g fun b es hb=>w b es (List.mem_cons_of_mem _ hb))
theorem Rel.W3 {i:Nat}{aP:List (List D)}{p q:Addr}{qs:List Addr}{j:Nat}{xs ys:List V}{es:List D} (R:Rel K H₀ I O H σ env) (hx:env[i]?=some (some (.nb,.lst (aP.map D.lst)))) (hp:σ[i]?=some (some (.ref p)))
  (h1:O p) (h2:H₀ p=none) (h3:H p=some (.lst (qs.map V.ref))) (h4:qs.Nodup) (h5:∀ q∈qs,O q∧H₀ q=none∧q≠p) (h6:Paired (fun q ds=>∃ xs,H q=some (.lst xs)∧aw K (fun a=>¬ O a∧H₀ a=none) H xs ds) qs aP)
  (hq:qs[j]?=some q) (eq:H q=some (.lst xs)) (r:aw K (fun a=>¬ O a∧H₀ a=none) H ys es) :
  Rel K H₀ I O (upd H q (.lst ys)) σ (env.set i (some (.nb,.lst ((aP.set j es).map D.lst))))∧aM O H O (upd H q (.lst ys)):=by
 have Ja:q∈qs:=List.mem_of_getElem? hq
 obtain ⟨qO,q0,qp⟩:=h5 q Ja
 have kp:∀ {N:Addr→Prop},(∀ a,N a→¬ O a)→Keeps N H (upd H q (.lst ys)):=fun w a u h z=>by
  have eO:a≠q:=by
   rintro rfl
   rcases z with z|z
   ·exact w _ z qO
   ·rw [eq] at h;cases h;exact z
  rw [aH eO];exact h
 have hi:i < env.length:=(List.getElem?_eq_some_iff.mp hx).1
 have G7:∀ {k:Nat}{x:M×D}{p':Addr},env[k]?=some (some x)→own x.1=true→σ[k]?=some (some (.ref p'))→p'≠q:=fun {k x p'} a b c z=>by
  obtain ⟨_,z2⟩:=R.nd.2 i k _ x p p' _ hx hp a b c h3
  exact z2 (List.mem_map.mpr ⟨q,Ja,by rw [z]⟩)
 have Aw:∀ {k:Nat}{d1:D},(env.set i (some (M.nb,D.lst ((aP.set j es).map D.lst))))[k]?=some (some (.nb,d1))→k=i:=fun {k d1} h=>by
  rcases get_set h with ⟨z,_⟩|⟨_,z⟩
  ·exact z
  ·exact R.nd.1 k i d1 _ z hx
 refine ⟨⟨⟨lA ?_ ?_,?_,?_,?_⟩,?_,R.ow,?_,?_,?_⟩,?_⟩
 ·rw [List.length_set];exact Paired.length R.e.sl
 ·intro k y x hy rL m d ey
  subst ey
  rcases get_set hy with ⟨rfl,z⟩|⟨nk,z⟩
  ·cases z
   rw [hp] at rL;cases rL
   refine ⟨rfl,_,rfl,p,qs,aP.set j es,rfl,rfl,h1,h2,by rw [aH (fun z=>qp z.symm)];exact h3,h4,h5,CK h4 h6 hq ⟨ys,bG,r.keep (kp fun a h=>h.1)⟩ fun a ds ha eO ⟨zs,e1,e2⟩=>⟨zs,by rw [aH eO];exact e1,e2.keep (kp fun a h=>h.1)⟩⟩
  ·obtain ⟨v,hv,n,hm⟩:=R.e.at z
   rw [rL] at hv;cases hv
   refine ⟨n,v,rfl,?_⟩
   cases m
   ·exact Rp.keep (kp fun a h=>h) hm
   ·exact Rp.keep (kp fun a h=>h.1) hm
   ·cases n
   ·obtain ⟨p',rfl,h1,h2,c'⟩:=hm
    exact ⟨p',rfl,h1,h2,c'.keep (kp fun a h=>h.1) (aH (G7 z rfl rL))⟩
   ·obtain ⟨p',rfl,h1,c'⟩:=hm
    exact ⟨p',rfl,h1,c'.keep (kp fun a h=>h.1) (aH (G7 z rfl rL))⟩
   ·cases n
   ·exact absurd (R.nd.1 k i d _ z hx) nk
 ·intro a ha
  by_cases z:a=q
  ·subst z;exact ⟨_,bG⟩
  ·rw [aH z];exact R.e.od a ha
 ·intro a u h
  by_cases z:a=q
  ·subst z;exact ⟨_,bG⟩
  ·rw [aH z];exact R.e.hd a u h
 ·intro a u ha e
  by_cases z:a=q
  ·subst z;rw [bG] at e;cases e;exact fun z=>z
  ·rw [aH z] at e;exact R.e.on a u ha e
 ·intro a u n h
  have z:a≠q:=by rintro rfl;rw [q0] at h;cases h
  rw [aH z];exact R.fr a u n h
 ·intro i' e' p' g1 p1
  rcases get_set g1 with ⟨rfl,z⟩|⟨n1,q1⟩
  ·cases z
  ·exact R.ba i' e' p' q1 p1
 ·intro i' k x y a g1 g2 o1 o2 p1 p2
  rcases get_set g1 with ⟨rfl,z⟩|⟨_,q1⟩
  ·cases z;cases o1
  ·rcases get_set g2 with ⟨rfl,z⟩|⟨_,q2⟩
   ·cases z;cases o2
   ·exact R.dj i' k x y a q1 q2 o1 o2 p1 p2
 ·refine ⟨fun i' k d1 d2 g1 g2=>(Aw g1).trans (Aw g2).symm,fun i' k d1 x p' a zs g1 p1 g2 o2 p2 e=>?_⟩
  have z:=Aw g1
  subst z
  rw [hp] at p1;cases p1
  rw [aH (fun z=>qp z.symm)] at e
  rcases get_set g2 with ⟨rfl,z⟩|⟨_,q2⟩
  ·cases z;cases o2
  ·exact R.nd.2 i' k _ x p a zs hx hp q2 o2 p2 e
 ·intro a u h n
  have z:a≠q:=by rintro rfl;exact n qO
  exact ⟨by rw [aH z];exact h,n⟩
noncomputable def qw (i:Nat) (fk f:Ev→Option (M×D)):Ev→Option Fl:=fun e=>(fk e).bind fun y=>(lW y).bind fun k=>(f e).bind fun x=>if cG x.1 x.2=true then (vR i e).bind fun aP=>(cT aP.length k).bind fun j=>(aP[j]?).bind fun ds=>if ds.length < sizeLine then some (.nx (e.set i (some (.nb,.lst ((aP.set j (ds++[x.2])).map D.lst))))) else none else none
theorem Qt {i:Nat}{t tk:TE}{f fk:Ev→Option (M×D)} (hk:JT K tk fk) (h:JT K t f):JS K (nP (vF K "list" uc (oD (vE K) (fQ i) tk) (lJ t kJ))) (qw i fk f):=by
 intro H₀ I O H σ env Ds fl R e q
 obtain ⟨y,ey,e⟩:=ay e
 obtain ⟨k,ek,e⟩:=ay e
 obtain ⟨x,ex,e⟩:=ay e
 split at e
 ·rename_i hs
  obtain ⟨aP,ed,e⟩:=ay e
  obtain ⟨j,ej,e⟩:=ay e
  obtain ⟨ds,Yi,e⟩:=ay e
  split at e
  ·rename_i hl
   cases e
   have hx:=Tx ed
   obtain ⟨v,hv,_,p,qs,Z7,rfl,e2,h1,h2,h3,h4,h5,h6⟩:=R.e.at hx
   cases BP (D.lst.inj e2)
   obtain ⟨a,ha,xs,Ax,rr⟩:=CJ h6 Yi
   refine ⟨.ref p,hv,?_⟩
   refine hk H₀ O H σ env _ y.1 y.2 R.e ey fun w H1 s1 hw=>?_
   rw [xR ek] at hw
   have hlen:qs.length=aP.length:=Paired.length h6
   refine .inl ⟨p,_,k,.ref a,rfl,hw.int,.inl (.inl (s1 _ _ h3)),?_,?_⟩
   ·unfold L2.bt
    rw [List.length_map,hlen,ej]
    show (qs.map V.ref)[j]?=_
    rw [List.getElem?_map,ha];rfl
   refine ⟨.inl ⟨rfl,xs,.inl (.inl (s1 _ _ Ax))⟩,?_⟩
   refine h H₀ O H1 σ env _ x.1 x.2 (R.e.keep s1) ex fun u H2 s2 hu=>?_
   have s:=s1.trans s2
   refine ⟨a,xs,u,rfl,rfl,s _ _ Ax,by rw [rr.len];exact hl,?_⟩
   have R2:=R.keep s
   obtain ⟨R3,st⟩:=R2.W3 (ys:=xs++[u]) (es:=ds++[x.2]) hx hv h1 h2 (s _ _ h3) h4 h5 (jw (fun q ds _ ⟨zs,e1,e2⟩=>⟨zs,s _ _ e1,e2.keep (.same s)⟩) h6) ha (s _ _ Ax) ((rr.keep (.same s)).app (.cons (hu.cG hs) .nil))
   exact q O _ σ R3 ((aM.same s).trans st)
  ·cases e
 ·cases e
end
section
variable {K:PySem.W.Frag}
end
section
variable {K:PySem.W.Frag}{H H' H₀:Hp}{O:Addr→Prop}{σ:L2.St}{env:Ev}
end
end J
namespace J
open PySem PySem.Spec PyProof.Rows L2
section
variable {X:Cx}{pins:List (Addr×Obj)}{σ:L2.St}{H:Hp}{s:Shared}{a d it:Addr}
theorem Fh {o1 o2:HO} (I:L2.Inv X pins σ H s) (e:H a=some o1) (ht:∀ xs,o1≠.tup xs) (hb:∀ ps,o1≠.jT ps) (hx:∀ x,o1≠.own x) (hf:∀ o u,X.H₀ a≠some (.aW o u)) (ok:b9 X.prog X.w (upd H a o2) s.heap a o2):L2.Inv X pins σ (upd H a o2) s:=by
 have ne:∀ b,H b=none→b≠a:=fun b h z=>by rw [z,e] at h;cases h
 have nt:∀ b xs,H b=some (.tup xs)→b≠a:=fun b xs h z=>by rw [z,e] at h;cases h;exact ht _ rfl
 have nx:∀ b x,H b=some (.own x)→b≠a:=fun b x h z=>by rw [z,e] at h;cases h;exact hx _ rfl
 refine ⟨I.ok,I.os,I.bare,⟨I.base.keep,I.base.slot,fun b o h n hx=>?_,I.base.there,fun b xs h=>?_,fun b o u h=>?_,fun b ps h=>?_⟩,I.loc,I.cell,?_,fun x c h=>?_,fun p hp=>?_,fun b u h=>?_,I.len⟩
 ·have z:=I.base.free b o h n hx
  rw [aH (ne b z)];exact z
 ·have z:=I.base.jH b xs h
  rw [aH (nt b xs z)];exact z
 ·have z:=I.base.iu b o u h
  rw [aH (fun (q:b=a)=>hf o u (by rw [←q];exact h))];exact z
 ·obtain ⟨m,z⟩:=I.base.jI b ps h
  refine ⟨m,?_⟩
  rw [aH (fun q=>by rw [q,e] at z;cases z;exact hb _ rfl)];exact z
 ·rw [aH (ne _ I.free)];exact I.free
 ·rw [aH (ne _ (I.gn x c h))];exact I.gn x c h
 ·obtain ⟨h1,h2,h3⟩:=I.pin p hp
  exact ⟨h1,by rw [aH (ne _ h2)];exact h2,h3⟩
 ·by_cases z:b=a
  ·subst z;rw [bG] at h;cases h;exact ok
  ·rw [aH z] at h
   exact (I.aE b u h).kH (fun c v _ q=>q) (fun c q=>by rw [aH (nx _ _ q)];exact q) fun c xs q=>by rw [aH (nt _ _ q)];exact q
noncomputable def W4 (a:Addr) (o:Obj) (u:HO) (Ds:Ends):Ends where
 nx:=fun σ H=>H a=some (.aW o u)∧Ds.nx σ (upd H a u)
 rt:=fun v H=>H a=some (.aW o u)∧Ds.rt v (upd H a u)
 bk:=fun σ H=>H a=some (.aW o u)∧Ds.bk σ (upd H a u)
 ct:=fun σ H=>H a=some (.aW o u)∧Ds.ct σ (upd H a u)
theorem Fj:∀ {ai:List (Key×V)}{vs:List (Key×Value)}{i:Nat}{kv:Key×V},KV ai vs→ai[i]?=some kv→∃ u,vs[i]?=some (kv.1,u)∧RelV kv.2 u
 |_,_,_,_,.nil,e=>by simp at e
 |_,_,0,_,.cons (b:=q) h _,e=>by
  simp only [List.getElem?_cons_zero,Option.some.injEq] at e
  subst e
  exact ⟨q.2,by rw [List.getElem?_cons_zero,h.1],h.2⟩
 |_,_,i+1,kv,.cons _ t,e=>by
  obtain ⟨u,h1,h2⟩:=Fj (i:=i) (kv:=kv) t (by simpa using e)
  exact ⟨u,by simpa using h1,h2⟩
end
noncomputable def zF:Key→D
 |.inl i=>.int i
 |.inr x=>.str x
 |.non=>.non
noncomputable def W5:HO→Bool
 |.aW _ _=>false
 |_=>true
def mM (H H':Hp):Prop:=(∀ b u,W5 u=true→Rd H b u→Rd H' b u)∧∀ b xs,H b=some (.tup xs)→H' b=some (.tup xs)
section
variable {K:PySem.W.Frag}{N:Addr→Prop}{H H' H₀ H₁:Hp}{I:Nat→Option Addr}{O:Addr→Prop}{σ:L2.St}{env:Ev}
mutual
theorem Rp.cH (w:mM H H'):∀ {v:V}{d:D},Rp K N H v d→Rp K N H' v d
 |_,_,.non=>.non
 |_,_,.bl b=>.bl b
 |_,_,.int i=>.int i
 |_,_,.str x=>.str x
 |_,_,.ty n=>.ty n
 |_,_,.tup h r=>.tup (h.elim (fun z=>.inl (w.2 _ _ z)) .inr) (aw.cH w r)
 |_,_,.lst h n r=>.lst (w.1 _ _ rfl h) n (aw.cH w r)
 |_,_,.lstK h r=>.lstK h (aw.cH w r)
 |_,_,.dk h n e r=>.dk (w.1 _ _ rfl h) n e (aw.cH w r)
 |_,_,.dt h n e r=>.dt (w.1 _ _ rfl h) n e (aw.cH w r)
theorem aw.cH (w:mM H H'):∀ {vs:List V}{ds:List D},aw K N H vs ds→aw K N H' vs ds
 |_,_,.nil=>.nil
 |_,_,.cons h r=>.cons (Rp.cH w h) (aw.cH w r)
end
theorem Cell.cH {p:Addr}{d:D} (w:mM H H') (e:H' p=H p) (h:Cell K N H p d):Cell K N H' p d:=by
 cases d<;>simp only [Cell] at h ⊢
 ·obtain ⟨xs,q,r⟩:=h;exact ⟨xs,e.trans q,r.cH w⟩
 ·obtain ⟨xs,q,z,r⟩:=h;exact ⟨xs,e.trans q,z,r.cH w⟩
 ·obtain ⟨xs,q,z,r⟩:=h;exact ⟨xs,e.trans q,z,r.cH w⟩
theorem Val.cH {m:M}{d:D}{v:V} (w:mM H H') (un:m=.un→∀ p d N,Cell K N H p d→H' p=H p) (on:∀ p,O p→H' p=H p) (z:∀ b,H₀ b=none→H₁ b=none) (h:Val K H₀ O HE H m d v):Val K H₁ O HE H' m d v:=by
 cases m<;>simp only [Val] at h ⊢
 ·exact h.cH w
 ·exact (h.cH w).wk fun a n _=>⟨n.1,z a n.2⟩
 ·obtain ⟨p,e,h1,h2,h3,c⟩:=h
  exact ⟨p,e,h1,z _ h2,h3,(c.cH w (un rfl _ _ _ c)).wk fun a n _=>⟨⟨n.1.1,z a n.1.2⟩,n.2⟩⟩
 ·obtain ⟨p,e,h1,h2,c⟩:=h
  exact ⟨p,e,h1,z _ h2,(c.cH w (on _ h1)).wk fun a n _=>⟨n.1,z a n.2⟩⟩
 ·obtain ⟨p,e,h1,c⟩:=h
  exact ⟨p,e,h1,(c.cH w (on _ h1)).wk fun a n _=>⟨n.1,z a n.2⟩⟩
 ·exact (h.cH w).wk fun a n _=>z a n
 ·obtain ⟨p,qs,aP,e1,e2,h1,h2,h3,h4,h5,h6⟩:=h
  exact ⟨p,qs,aP,e1,e2,h1,z _ h2,(on _ h1).trans h3,h4,fun q hq=>⟨(h5 q hq).1,z _ (h5 q hq).2.1,(h5 q hq).2.2⟩,jw (fun q ds hq ⟨xs,a,r⟩=>⟨xs,(on _ (h5 q hq).1).trans a,(r.cH w).wk fun a n _=>⟨n.1,z a n.2⟩⟩) h6⟩
theorem Rel.cH (R:Rel K H₀ I O H σ env) (w:mM H H') (on:∀ p,O p→H' p=H p) (z:∀ b,H₀ b=none↔H₁ b=none) (nn:∀ b o,H b=some o→∃ o',H' b=some o') (fr:∀ b o,(∀ i,I i≠some b)→H₁ b=some o→H' b=some o):Rel K H₁ I O H' σ env:=by
 refine ⟨⟨kz (fun e x h m d q=>?_) R.e.sl,fun a h=>?_,fun a o h=>?_,fun a o h e=>?_⟩,fr,fun a h=>?_,R.ba,R.dj,R.nd.keep fun i d p h1 h2=>?_⟩
 ·obtain ⟨n,v,ev,hv⟩:=h m d q
  exact ⟨n,v,ev,hv.cH w (fun q=>by subst q;cases n) on fun b=>(z b).mp⟩
 ·obtain ⟨o,q⟩:=R.e.od a h
  exact nn a o q
 ·cases q:H₀ a with
  |none=>rw [(z a).mp q] at h;cases h
  |some o0 =>
   obtain ⟨o1,q1⟩:=R.e.hd a o0 q
   exact nn a o1 q1
 ·rw [on a h] at e;exact R.e.on a o h e
 ·exact (R.ow a h).imp id (z a).mp
 ·obtain ⟨qs,aP,_,hO,_⟩:=R.e.nest h1 h2
  exact on p hO
theorem N9 {wi:TI}{g:TG}{tb:TS}{fg:M×D→Ev→Option Ev}{b:Ev→Option Fl}{Ds:Ends}{fl:Fl}{m:M}{ds:List D} (hg:JG K g fg) (hb:JS K tb b) (R:Rel K H₀ I O H σ env) (hm:eJ m=true)
  (hi:∀ R',(∀ J H',aI H H'→jN K H₀ O J H' m ds→R' J H')→wi σ H R') (e:forL fg b m ds env=some fl) (q:lX K H₀ I O H Ds fl):n5 wi g tb Ds σ H:=by
 refine hi _ fun J H1 s1 ok=>?_
 have q1:=q.pre (aM.same s1)
 refine ⟨fun i n σ2 H2=>∃ O2 cR,Rel K H₀ I O2 H2 σ2 cR∧aM O H1 O2 H2∧i≤ds.length∧n=ds.length-i∧forL fg b m (ds.drop i) cR=some fl,⟨_,O,env,R.keep s1,aM.refl,Nat.zero_le _,rfl,e⟩,?_⟩
 rintro i n σ2 H2 ⟨O2,cR,R2,st,hle,rfl,ef⟩
 by_cases aS:i < ds.length
 ·refine .inr ⟨ok.go O2 H2 i st aS,fun σ' H'=>∃ O2 cR,Rel K H₀ I O2 H' σ' cR∧aM O H1 O2 H'∧forL fg b m (ds.drop (i+1)) cR=some fl,?_,?_⟩
  ·rintro σ' H' ⟨O3,zy,R3,bw,Am⟩
   exact ⟨ds.length-(i+1),by omega,O3,zy,R3,bw,aS,rfl,Am⟩
  ·intro x H3 y
   obtain ⟨s3,d,hd,hv⟩:=ok.iF O2 H2 i x H3 st aS y
   have rE:ds.drop i=d::ds.drop (i+1):=by
    rw [List.drop_eq_getElem_cons aS]
    rw [List.getElem?_eq_getElem aS] at hd
    cases hd;rfl
   rw [rE] at ef
   simp only [forL] at ef
   obtain ⟨e1,g1,ef⟩:=ay ef
   obtain ⟨r,br,ef⟩:=ay ef
   refine hg H₀ I O2 H3 σ2 cR (m,d) x e1 _ (R2.keep s3) hm hv g1 fun σ4 R4=>?_
   have j6:=st.trans (aM.same (O:=O2) s3)
   refine hb H₀ I O2 H3 σ4 e1 _ r R4 br ?_
   cases r with
   |nx e2=>exact fun O5 H5 σ5 R5 dQ=>⟨O5,e2,R5,j6.trans dQ,ef⟩
   |ct e2=>exact fun O5 H5 σ5 R5 dQ=>⟨O5,e2,R5,j6.trans dQ,ef⟩
   |bk e2=>cases ef;exact (q1.pre j6)
   |rt e2 m' d'=>cases ef;exact (q1.pre j6)
 ·have hi:i=ds.length:=by omega
  subst hi
  rw [List.drop_length] at ef
  cases ef
  exact .inl ⟨ok.stop O2 H2 st,q1 O2 H2 σ2 R2 st⟩
theorem Ent.at {ai:List (Key×V)}{ks:List (Key×D)}{i:Nat}{kv:Key×V} (h:Ent K N H ai ks) (e:ai[i]?=some kv):∃ d,ks[i]?=some (kv.1,d)∧Rp K N H kv.2 d:=by
 induction ai generalizing ks i with
 |nil=>simp at e
 |cons p ai ih =>
  cases ks with
  |nil=>exact absurd h.len (by simp)
  |cons q ks =>
   obtain ⟨e1,r,t⟩:=h.cons_inv
   cases i with
   |zero=>simp only [List.getElem?_cons_zero,Option.some.injEq] at e;subst e;exact ⟨q.2,by rw [List.getElem?_cons_zero,e1],r⟩
   |succ i=>obtain ⟨d,h1,h2⟩:=ih t (by simpa using e);exact ⟨d,by simpa using h1,h2⟩
end
end J
namespace J
open PySem
end J
namespace J
open PySem PySem.Spec PyProof.Rows L2
theorem tS:∀ (ds:List D),cM ds=ds.map toPy
 |[]=>by simp [cM]
 |d::ds=>by simp [cM,tS ds]
section
variable {X:Cx}{pins:List (Addr×Obj)}{σ:L2.St}{H:Hp}{s:Shared}{N N':Addr→Prop}{A:Around}{a b:Addr}{ai j9:List (Key×V)}{ks ls:List (Key×D)}
end
section
variable {X:Cx}{K:PySem.W.Frag}
end
theorem ints_of:∀ {ns:List Int}{us:List Value},Vals (ns.map V.int) us→IntsAre us ns
 |[],_,.nil=>.nil
 |n::ns,_,.cons ⟨t,e⟩ r=>by subst e;exact .cons n t (ints_of r)
noncomputable def nW:List D→Option (List Int)
 |[]=>some []
 |.int x::r=>(nW r).bind fun xs=>some (x::xs)
 |_=>none
section
variable {K:PySem.W.Frag}{H:Hp}
theorem Dj {N:Addr→Prop}:∀ {ds:List D}{vs:List V}{ys:List Int},aw K N H vs ds→nW ds=some ys→vs=ys.map V.int
 |_,_,_,.nil,e=>by cases e;rfl
 |d::ds,v::vs,ys,.cons h r,e=>by
  cases d<;>simp only [nW] at e<;>try (cases e;done)
  obtain ⟨xs,ex,e⟩:=ay e
  cases e
  rw [Dj r ex,h.int_inv];rfl
end
structure zG (K:PySem.W.Frag) (x:Str) (st:Stmt) (f:Addr) (fd:FuncData):Prop where
 ex:∃ (oc:Value) (od:Option Addr) (dV kV doc pm:Value) (an:Option Addr) (bM ct:Value) (iH:Array (Option Value)),
  fd=PySem.W.fnOf x x (fN st) (eU st) (bZ st) dV kV doc pm an bM ct∧K.lookup f=some ⟨oc,od,.func fd,iH⟩∧PySem.W.codeIn K bM x=true
 kp:PySem.W.keepIn K (.ref f)=true
theorem zG.ok {P:Program}{w:World}{K:PySem.W.Frag}{mg:Str→Option Value}{base:Heap}{x:Str}{st:Stmt}{f:Addr}{fd:FuncData}{N ps:List Str}{k:Nat}{sp:Sp} (F:zG K x st f fd) (S:p5 N ps (bZ st)) (len:∀ vs H Q E,sp vs H Q E→vs.length=ps.length)
  (qq:∀ (bM:Value) (A:Around) (outer:List Env) (s:Shared) (H:Hp) (vs:List V) (Q:VK) (E:XK),dw k (A.deeper (envOfC x (bZ st) s.heap.objs.size f bM))→sp vs H Q E →
   ∃ t,fF (kK j4 P w K mg base N x (bZ st) f bM A outer s H E).mw (eU st) t∧t { nx:=fun _ H'=>Q .non H',rt:=Q } (L2.start N vs) H):jL P w K mg base j4 (k+1) f fd ps sp:=by
 obtain ⟨oc,od,dV,kV,doc,pm,an,bM,ct,iH,rfl,lk,gA⟩:=F.ex
 refine FZ lk gA S len fun A outer s H vs Q E hr jh=>?_
 obtain ⟨t,h,q⟩:=qq bM A outer s H vs Q E hr jh
 exact ⟨t,h.mw,q⟩
structure DfD (K:PySem.W.Frag) (mg:Str→Option Value) (x:Str) (st:Stmt) (ps:List Str) (dv:Value) (f:Addr) (fd:FuncData):Prop where
 mg:mg x=some (.ref f)
 fn:zG K x st f fd
 bd:Binds K fd ps []
 bd1:Binds K fd ps [dv]
end J
namespace J
open PySem PySem.Spec PyProof.Rows L2
open Builtin Builtin.Str
section
variable {K:PySem.W.Frag}{H:Hp}
end
end J
namespace J
open PySem PySem.Spec PyProof.Rows L2
section
variable {prog:Program}{w:World}{A:Around}{E:Value→Shared→Prop}{s:Shared}{d:Addr}
theorem find_none {o:Obj}{es:Array DictEntry}{ep:Nat}{h:Int}{Q:Option Nat→Shared→Prop} (hu:A.units < cLine) (ho:s.heap.get? d=some o) (hd:o.data=.dict es ep)
  (hk:∀ e∈es,∃ ks b,e.key=.ref b∧(tupleKind (cn prog w)).is s.heap ks b) (hq:Q none s):wpAny (model prog w) A (dictFind d .none h) Q E s:=by
 unfold dictFind
 try with_reducible refine wpAny_holding ?_
 refine wpAny_bind (wpAny_dictEntries ho hd ?_)
 dsimp only
 have oC:∀ v∈(placesWithHash es.size (fun i=>es[i]?.map (·.hash)) h).filterMap (fun i=>es[i]?.map (·.key)),∃ ks b,v=.ref b∧(tupleKind (cn prog w)).is s.heap ks b:=by
  intro v hv
  obtain ⟨i,_,hi⟩:=List.mem_filterMap.mp hv
  cases jm:es[i]? with
  |none=>rw [jm] at hi;cases hi
  |some e =>
   rw [jm] at hi
   obtain rfl:e.key=v:=by simpa using hi
   exact hk e (Array.mem_of_getElem? jm)
 cases hs:(placesWithHash es.size (fun i=>es[i]?.map (·.hash)) h).filterMap (fun i=>es[i]?.map (·.key)) with
 |nil =>
  rw [if_pos (by rfl)]
  have hp:placesWithHash es.size (fun i=>es[i]?.map (·.hash)) h=[]:=by
   cases hp:placesWithHash es.size (fun i=>es[i]?.map (·.hash)) h with
   |nil=>rfl
   |cons i r =>
    have hi:i∈placesWithHash es.size (fun i=>es[i]?.map (·.hash)) h:=by rw [hp];exact List.mem_cons_self
    have aS:i < es.size:=by
     unfold placesWithHash at hi
     exact List.mem_range.mp (List.mem_filter.mp hi).1
    rw [hp,List.filterMap_cons] at hs
    simp [aS] at hs
  rw [hp]
  unfold dictWalkPlain
  refine wpAny_bind ?_
  exact wpAny_pure (wpAny_pure hq)
 |cons v r =>
  obtain ⟨ks,b,rfl,hb⟩:=oC v (by rw [hs];exact List.mem_cons_self)
  rw [if_neg (by simp [carriedByValue])]
  rw [if_neg (by simp)]
  refine wpAny_bind ?_
  have W6:∀ x∈(Value.ref b::r),∃ ks b,x=.ref b∧(tupleKind (cn prog w)).is s.heap ks b:=by rw [←hs];exact oC
  have mt:∀ {Q':Bool→Shared→Prop},Q' false s→wpAny (model prog w) A (tableMayTell .none (Value.ref b::r)) Q' E s:=fun {Q'} Yj=>by
   unfold tableMayTell
   rw [if_neg (by simp)]
   refine wpAny_bind (show wpAny _ _ (pure true) _ _ s from wpAny_pure ?_)
   simp only [Bool.not_true,Bool.false_eq_true,if_false]
   refine wpAny_bind ?_
   refine wpAny_forIn_list _ (fun rest r s'=>s'=s∧r=(none,())∧∀ v∈rest,∃ ks b,v=.ref b∧(tupleKind (cn prog w)).is s.heap ks b) _ ?_ ?_ _ _ ⟨rfl,rfl,W6⟩
   ·rintro x rest r s' ⟨rfl,rfl,hr⟩
    obtain ⟨k',b,rfl,hb⟩:=hr x List.mem_cons_self
    refine wpAny_bind ((tupleKind (cn prog w)).quiet hb ?_)
    simp only [Bool.not_true,Bool.false_eq_true,if_false]
    exact wpAny_pure ⟨rfl,rfl,fun v hv=>hr v (List.mem_cons_of_mem _ hv)⟩
   ·rintro r s' ⟨rfl,rfl,_⟩
    exact wpAny_pure Yj
  refine mt ?_
  rw [if_neg (by simp)]
  refine wpAny_bind ?_
  refine wpAny_forIn_list _ (fun rest r s'=>s'=s∧r=(none,none)) _ ?_ ?_ _ _ ⟨rfl,rfl⟩
  ·rintro i rest r s' ⟨rfl,rfl⟩
   cases jm:es[i]? with
   |none=>exact wpAny_pure ⟨rfl,rfl⟩
   |some e =>
    obtain ⟨ks,b,ek,hb⟩:=hk e (Array.mem_of_getElem? jm)
    dsimp only
    by_cases hh:(e.hash==h)=true
    ·rw [if_pos hh,ek]
     obtain ⟨ob,its,n,g1,g2,g3,_⟩:=hb
     refine wpAny_bind (wpAny_dictEpoch ho hd (wpAny_bind (SeqAt.EqAt.tuple_none (items:=its) ⟨ob,g1,g2,n,g3⟩ hu _ _ _ _ (wpAny_bind (wpAny_dictEpoch ho hd ?_)))))
     show wpAny _ _ (if (ep != ep)=true then _ else _) _ E _
     rw [if_neg (by simp)]
     simp only [Bool.false_eq_true,if_false]
     refine wpAny_bind (wpAny_rule ?_)
     simp only [Bool.false_and,Bool.false_eq_true,if_false]
     exact wpAny_pure ⟨rfl,rfl⟩
    ·rw [if_neg hh]
     exact wpAny_pure ⟨rfl,rfl⟩
  ·rintro r s' ⟨rfl,rfl⟩
   exact wpAny_pure hq
theorem get_none {xs:List (List Key×Addr×Value)}{r:Value}{Q:Value→Shared→Prop} (hu:A.units+1 < cLine) (hs:(d==sysModules)=false) (dd:s.heap.DictOfH (tupleKind (cn prog w)) d xs) (hq:Q r { s with toks:=s.toks+1 }):wpAny (model prog w) A (call (.builtin "dict.get") [.ref d,.none,r]) Q E s:=by
 refine call_meetsIn PySem.F.slot_dict_get dd.typeIs PySem.F.entry_dict_get (PySem.F.args_dict_get_3 _ _ _) (S:=fun A R s=>A.in1.units < cLine∧s.heap.DictOfH (tupleKind (cn prog w)) d xs∧R (.ok (.ret r)) { s with toks:=s.toks+1 }) (.of_wp fun A R s ⟨hu,hm,h⟩=>?_) ⟨hu,dd,hq⟩
 obtain ⟨o,es,ep,ho,_,hd,he,Yk,hn⟩:=hm
 show wpAny _ _ (dictGet d .none >>= _) _ _ s
 refine wpAny_bind ?_
 unfold dictGet
 try with_reducible refine wpAny_holding ?_
 refine wpAny_bind (Ct (wpAny_bind (find_none (s:={ s with toks:=s.toks+1 }) hu ho hd (fun e m=>?_) ?_)))
 ·have:e∈xs.map (entryOfKey (tupleKind (cn prog w))):=he▸Array.mem_toList_iff.mpr m
  obtain ⟨x,hx,rfl⟩:=List.mem_map.mp this
  exact ⟨x.1,x.2.1,rfl,Yk x hx⟩
 ·refine wpAny_pure ?_
  show wpAny _ _ (Builtin.Dict.missed d .none >>= _) _ _ _
  exact wpAny_bind (wpAny_missed_other hs (wpAny_pure ⟨r,rfl,h⟩))
end
section
variable {prog:Program}{w:World}{A:Around}{E:Value→Shared→Prop}{s:Shared}
inductive iq {κ:Type} [DecidableEq κ] (A:Around) (s:Shared) (kb:List (κ×Addr×Value)):List (κ×Addr×Value)→Bool→Prop
 |nil:iq A s kb [] true
 |miss {k:κ}{p:Addr×Value}{r:List (κ×Addr×Value)}:atKey kb k=none→iq A s kb ((k,p)::r) false
 |hit {k:κ}{p q:Addr×Value}{r:List (κ×Addr×Value)}{e b:Bool}:atKey kb k=some q→SeqAt.EqAt A s p.2 q.2 e→iq A s kb r b→iq A s kb ((k,p)::r) (e&&b)
theorem iq.inv {κ:Type} [DecidableEq κ] {kb:List (κ×Addr×Value)}{k:κ}{p:Addr×Value}{r:List (κ×Addr×Value)}{b:Bool} (h:iq A s kb ((k,p)::r) b) :
  (atKey kb k=none∧b=false)∨∃ q e b',atKey kb k=some q∧SeqAt.EqAt A s p.2 q.2 e∧iq A s kb r b'∧b=(e&&b'):=by
 cases h with
 |miss hn=>exact .inl ⟨hn,rfl⟩
 |hit hy he hr=>exact .inr ⟨_,_,_,hy,he,hr,rfl⟩
theorem L1 {κ:Type} [DecidableEq κ] {knd:HeapKind prog w κ}{nm:String}{a b:Addr}{ka kb:List (κ×Addr×Value)}{r:Bool}{Q:Bool→Shared→Prop} (hu:knd.room A) (ha:(a==sysModules)=false) (hb:(b==sysModules)=false)
  (da:s.heap.DictOfH knd a ka) (db:s.heap.DictOfH knd b kb) (hits:ka.length=kb.length→iq A s kb ka r) (h:Q (ka.length==kb.length&&r) s) :
  wpAny (model prog w) A (Builtin.Dict.samePairs nm a b) Q E s:=by
 obtain ⟨oa,es,ep,vS,_,vT,Jb,Yl,_⟩:=da
 obtain ⟨ob,kZ,qW,Ay,_,jX,Az,Ym,Jc⟩:=db
 have hR:ka.length=es.size:=(size_of_entries Jb).symm
 have Jd:kb.length=kZ.size:=(size_of_entries Az).symm
 rw [hR,Jd] at h
 unfold Builtin.Dict.samePairs Builtin.Dict.showsAll
 rw [if_neg (show ¬ (a==sysModules)=true by rw [ha];exact Bool.false_ne_true),if_neg (show ¬ (b==sysModules)=true by rw [hb];exact Bool.false_ne_true)]
 refine wpAny_bind (wpAny_pure (wpAny_bind (wpAny_pure ?_)))
 refine wpAny_bind (wpAny_dictEntries vS vT ?_)
 dsimp only
 refine wpAny_bind (wpAny_dictEntries Ay jX ?_)
 by_cases hsz:es.size=kZ.size
 case neg =>
  rw [if_pos (by simpa using hsz)]
  have Yn:(es.size==kZ.size)=false:=by simpa using hsz
  rw [Yn,Bool.false_and] at h
  exact wpAny_bind (wpAny_rule (wpAny_pure h))
 case pos =>
  have h':Q r s:=by simpa [hsz] using h
  have Vk:=hits (by rw [hR,Jd];exact hsz)
  rw [if_neg (by rw [hsz];simp)]
  refine wpAny_bind (wpAny_dictEpoch vS vT ?_)
  refine wpAny_bind ?_
  rw [Std.Legacy.Range.forIn_eq_forIn_range']
  simp only [Std.Legacy.Range.size,Nat.sub_zero,Nat.add_sub_cancel,Nat.div_one]
  refine wpAny_forIn_list _
   (fun rest q s'=>s'=s∧q=(none,())∧∃ i,rest=List.range' i (es.size-i)∧i≤es.size∧iq A s kb (ka.drop i) r)
   _ ?_ ?_ _ _ ⟨rfl,rfl,0,by simp,Nat.zero_le _,Vk⟩
  ·rintro x rest q s' ⟨rfl,rfl,i,hr,hi,iA⟩
   have aS:i < es.size:=by
    rcases Nat.lt_or_ge i es.size with h|h
    ·exact h
    ·rw [Nat.sub_eq_zero_of_le h] at hr;simp at hr
   obtain ⟨rfl,Vl⟩:x=i∧rest=List.range' (i+1) (es.size-(i+1)):=by
    have e:es.size-i=(es.size-(i+1))+1:=by omega
    rw [e,List.range'_succ] at hr
    injection hr with h1 h2
    exact ⟨h1,h2⟩
   refine wpAny_bind (wpAny_dictEntries vS vT ?_)
   have G8:x < ka.length:=by rw [hR];exact aS
   obtain ⟨k,p,bU⟩:∃ k p,ka[x]=(k,p):=⟨_,_,rfl⟩
   have Je:ka[x]?=some (k,p):=by rw [List.getElem?_eq_getElem G8,bU]
   have Vm:ka.drop x=(k,p)::ka.drop (x+1):=by rw [←bU];exact List.drop_eq_getElem_cons G8
   have hex:es[x]?=some ⟨knd.hash k,.ref p.1,p.2⟩:=by rw [entry_at Jb x,Je];rfl
   rw [hex]
   rw [Vm] at iA
   have W7:knd.is s'.heap k p.1:=Yl _ (List.mem_of_getElem? Je)
   show wpAny _ _ (holding [Value.ref p.1,p.2] _ >>= _) _ _ _
   refine wpAny_bind (wpAny_holding (wpAny_bind (wpAny_dictFind_heap hu W7 Ay jX Az Ym Jc (fun z5=>?_) (fun j q hj=>?_))))
   ·have hn:=atKey_none_of_get z5
    rcases iA.inv with ⟨_,er⟩|⟨y,_,_,hy,_⟩
    ·rw [er] at h'
     refine wpAny_pure ?_
     show wpAny _ _ (if (!false)=true then _ else _) _ _ _
     rw [if_pos (by decide)]
     exact wpAny_pure (wpAny_pure h')
    ·rw [hn] at hy;exact nomatch hy
   ·have hv:=atKey_of_get Jc hj
    refine wpAny_bind (wpAny_dictEntries Ay jX ?_)
    rw [entry_at Az j,hj]
    rcases iA.inv with ⟨hn,_⟩|⟨y,e,b',hy,he,Jf,er⟩
    ·rw [hv] at hn;exact nomatch hn
    ·have ey:q=y:=Option.some.inj (hv.symm.trans hy)
     subst ey
     refine wpAny_holding (he prog w _ _ ?_)
     cases e with
     |false =>
      rw [er,Bool.false_and] at h'
      show wpAny _ _ (if (!false)=true then _ else _) _ _ _
      rw [if_pos (by decide)]
      exact wpAny_pure (wpAny_pure h')
     |true =>
      rw [Bool.true_and] at er
      rw [←er] at Jf
      show wpAny _ _ (if (!true)=true then _ else _) _ _ _
      rw [if_neg (by decide)]
      refine wpAny_bind (wpAny_dictEpoch vS vT ?_)
      rw [if_neg (by simp)]
      exact wpAny_pure ⟨rfl,rfl,x+1,Vl,aS,Jf⟩
  ·rintro q s' ⟨rfl,rfl,i,hr,hi,iA⟩
   have Yo:i=es.size:=by
    rcases Nat.lt_or_ge i es.size with h|h
    ·have e:es.size-i=(es.size-(i+1))+1:=by omega
     rw [e,List.range'_succ] at hr;exact nomatch hr
    ·exact Nat.le_antisymm hi h
   refine wpAny_pure ?_
   rw [Yo,←hR,List.drop_length] at iA
   cases iA
   exact h'
theorem Yp {κ:Type} [DecidableEq κ] {knd:HeapKind prog w κ}{a b:Addr}{ka kb:List (κ×Addr×Value)}{r:Bool}{Q:Value→Shared→Prop} (ha:(a==sysModules)=false) (hb:(b==sysModules)=false) (hr:knd.room A.in1)
  (da:s.heap.DictOfH knd a ka) (db:s.heap.DictOfH knd b kb) (hu:A.units < cLine) (hits:ka.length=kb.length→iq A.in1 s kb ka r) (h:Q (.bool (!(ka.length==kb.length&&r))) s) :
  wpAny (model prog w) A (compareOp .NotEq (.ref a) (.ref b)) Q E s:=by
 refine wpAny_richCompare_same_room (op:=.NotEq) da.typeIs db.typeIs PySem.F.slot_dict_ne (wpAny_call_entry PySem.F.slot_dict_ne da.typeIs PySem.F.entry_dict_ne ?_ (PySem.F.args_dict_ne_2 _ _)) hu
 show wpAny _ _ (Builtin.Dict.dictSlotArgs "__ne__" ⟨[.ref a,.ref b],[]⟩ >>= _) _ _ s
 refine wpAny_bind ?_
 unfold Builtin.Dict.dictSlotArgs
 refine wpAny_bind (wpAny_notOrdered_dict da.typeIs ?_)
 show wpAny _ _ (pure (Value.ref a,Value.ref b)) _ _ s
 refine wpAny_pure ?_
 refine wpAny_bind (wpAny_isInstance (T := "dict") db.typeIs PySem.F.sub_dict_dict ?_)
 simp only [Bool.not_true,Bool.false_eq_true,if_false]
 refine wpAny_bind (wpAny_pure (wpAny_bind (wpAny_pure ?_)))
 refine wpAny_bind (L1 hr ha hb da db hits ?_)
 refine wpAny_pure ⟨_,rfl,?_,?_⟩
 ·exact fun x=>nomatch x
 ·simpa using h
theorem Tz {d:Addr}{o:Obj}{es:Array DictEntry}{ep:Nat}{Q:Value→Shared→Prop} (ho:s.heap.get? d=some o) (hc:o.ExactDict) (jM:o.data=.dict es ep) (fZ:es.size≤sizeLine)
  (h:∀ h',(∃ o',h'.get? d=some o'∧o'.ExactDict∧o'.data=.dict #[] (ep+1))→Heap.SameBut d s.heap h'→Q .none { s with heap:=h' }):wpAny (model prog w) A (call (.builtin "dict.clear") [.ref d]) Q E s:=by
 have fY:s.TypeIs (.ref d) "dict" := ⟨o,ho,hc.1⟩
 refine call_meetsIn PySem.F.slot_dict_clear fY PySem.F.entry_dict_clear (PySem.F.args_dict_clear_1 _) (S:=fun _ R s=>s.heap.get? d=some o∧∀ h',(∃ o',h'.get? d=some o'∧o'.ExactDict∧o'.data=.dict #[] (ep+1))→Heap.SameBut d s.heap h'→R (.ok (.ret .none)) { s with heap:=h' }) (.of_wp fun A R s ⟨ho,h⟩=>?_) ⟨ho,h⟩
 have fY:s.TypeIs (.ref d) "dict" := ⟨o,ho,hc.1⟩
 unfold Builtin.«dict.clear»
 refine wpAny_bind ?_
 unfold Builtin.Dict.noArgs
 refine wpAny_bind (wpAny_notOrdered_dict fY ?_)
 show wpAny _ _ (pure d) _ _ s
 refine wpAny_pure ?_
 refine wpAny_bind (wpAny_dictEntries ho jM ?_)
 refine wpAny_bind ?_
 unfold bearsInstanceDictMark
 refine wpAny_bind (wpAny_load ho (wpAny_pure ?_))
 refine wpAny_bind (wpAny_updateDictKeys (hz:=fZ) ho jM ?_)
 have G9:∃ o',(s.heap.update d (Obj.mapDictKeys fun _=>#[])).get? d=some o'∧o'.ExactDict∧o'.data=.dict #[] (ep+1) :=
  ⟨_,Heap.get?_update_self _ ho (Obj.isFreed_of_dict (Obj.data_mapDictKeys jM _)),hc.mapDictKeys _,Obj.data_mapDictKeys jM _⟩
 split
 ·exact wpAny_bind (wpAny_letGo (wpAny_pure ⟨.none,rfl,h _ G9 (Heap.SameBut.update ..)⟩))
 ·exact wpAny_bind (wpAny_pure (wpAny_pure ⟨.none,rfl,h _ G9 (Heap.SameBut.update ..)⟩))
end
def Raw (h:Heap) (d:Addr) (es:Array DictEntry) (ep:Nat):Prop:=∃ o,h.get? d=some o∧o.ExactDict∧o.data=.dict es ep
theorem Raw.ty {s:Shared}{d:Addr}{es:Array DictEntry}{ep:Nat} (h:Raw s.heap d es ep):s.TypeIs (.ref d) "dict" := let ⟨o,a,b,_⟩:=h;⟨o,a,b.1⟩
section
variable {prog:Program}{w:World}{A:Around}{E:Value→Shared→Prop}{s:Shared}{d it:Addr}{es:Array DictEntry}{ep i n:Nat}
theorem MK {Q:Value→Shared→Prop} (lo:(d==sysModules)=false) (r:Raw s.heap d es ep) (hQ:Q (.ref s.heap.objs.size) { s with heap:=s.heap.push { cls:=.type "dict_values",data:=.fields #[.ref d] } }):wpAny (model prog w) A (call (.builtin "dict.values") [.ref d]) Q E s:=by
 refine call_meetsIn PySem.F.slot_dict_values r.ty PySem.F.entry_dict_values (PySem.F.args_dict_values_1 _) (S:=fun _ R s=>Raw s.heap d es ep∧R (.ok (.ret (.ref s.heap.objs.size))) { s with heap:=s.heap.push { cls:=.type "dict_values",data:=.fields #[.ref d] } }) (.of_wp fun A R s ⟨r,h⟩=>?_) ⟨r,hQ⟩
 refine wpAny_bind ?_
 unfold Builtin.Dict.noArgs
 refine wpAny_bind (wpAny_notOrdered_dict r.ty (show wpAny _ _ (pure d) _ _ s from wpAny_pure ?_))
 show wpAny _ _ (Builtin.Dict.showsAll d >>= _) _ _ s
 rw [Builtin.Dict.showsAll,if_neg (by rw [lo];exact Bool.false_ne_true)]
 exact wpAny_bind (wpAny_pure (wpAny_bind (wpAny_newObj_type (wpAny_pure ⟨_,rfl,h⟩))))
theorem Ls {v:Addr}{Q:Value→Shared→Prop} (hv:s.heap.IsValuesView v d) (r:Raw s.heap d es ep)
  (hQ:Q (.ref s.heap.objs.size) { s with heap:=s.heap.push { cls:=.type "dict_valueiterator",data:=.fields #[.ref d,.int 0 0,.int es.size 0,.int ep 0] } }):wpAny (model prog w) A (pyIter (.ref v)) Q E s:=by
 obtain ⟨ov,o1,_,o3⟩:=id hv
 obtain ⟨o,ho,_,hd⟩:=r
 refine wpAny_pyIter_slot hv.typeIs PySem.F.slot_dict_values_iter (wpAny_call_entry PySem.F.slot_dict_values_iter hv.typeIs PySem.F.entry_dict_values_iter ?_ (PySem.F.args_dict_values_iter_1 _))
 unfold Builtin.«dict_values.__iter__»
 refine wpAny_bind (wpAny_pure (wpAny_bind ?_))
 rw [Builtin.Dict_items.dictOf]
 refine wpAny_bind (wpAny_field o1 o3 (x:=.ref d) rfl (wpAny_pure (wpAny_bind ?_)))
 rw [Builtin.Dict_items.newIterator]
 refine wpAny_bind (wpAny_dictEntries ho hd (wpAny_bind (wpAny_dictEpoch ho hd ?_)))
 simp only [show Builtin.Dict_items.ownsTuple "dict_valueiterator" = false by decide,Bool.false_eq_true,if_false]
 exact wpAny_newObj_type (wpAny_pure ⟨_,rfl, "dict_valueiterator",_,⟨_,Heap.get?_push_size _ rfl,rfl⟩,PySem.F.slot_dict_valueiterator_next.lookup,by simpa [rawInt] using hQ⟩)
theorem B9 {Q:Option Value→Shared→Prop} (hit:s.heap.IsValIter it d i es.size ep) (r:Raw s.heap d es ep)
  (Vn:∀ e,es[i]?=some e→∀ h',h'.IsValIter it d (i+1) es.size ep→Heap.SameBut it s.heap h'→Q (some e.val) { s with heap:=h' })
  (none_:es[i]?=none→A.handled=none∧∀ h',Heap.ExtBut it s.heap h'→Q none { s with heap:=h' }):wpAny (model prog w) A (pyNext (.ref it)) Q E s:=by
 obtain ⟨o,ho,hc,hd⟩:=id hit
 obtain ⟨od,k8,_,k9⟩:=r
 unfold pyNext
 refine wpAny_bind (wpAny_attempt (wpAny_callSpecial?_slot (name:=Str.ofString "__next__") hit.typeIs PySem.F.slot_dict_valueiterator_next (wpAny_call_entry PySem.F.slot_dict_valueiterator_next hit.typeIs PySem.F.entry_dict_valueiterator_next ?_ (PySem.F.args_dict_valueiterator_next_1 _))))
 refine wpAny_bind (wpAny_pure (wpAny_bind (wpAny_bind ?_)))
 first|refine wpAny_bind (wpAny_typeNameOfWhole_valiter hit.typeIs (wpAny_pure ?_))|refine wpAny_bind (wpAny_typeNameOf_valiter hit.typeIs (wpAny_pure ?_))
 refine wpAny_bind (wpAny_fieldsOf ho hd ?_)
 simp only [show Builtin.Dict_items.ownsTuple "dict_valueiterator" = false by decide,Bool.false_eq_true,if_false]
 show wpAny _ _ (if (Value.ref d==Value.none)=true then _ else _) _ _ s
 rw [if_neg (show ¬ ((Value.ref d==Value.none)=true) from Bool.false_ne_true)]
 refine wpAny_bind (wpAny_pure (wpAny_bind (wpAny_dictEntries k8 k9 ?_)))
 rw [if_neg (by simp)]
 refine wpAny_bind (wpAny_pure (wpAny_bind (wpAny_dictEpoch k8 k9 ?_)))
 rw [if_neg (by simp)]
 refine wpAny_pure ?_
 simp only [show ¬ ((i:Int) < 0) by omega,if_false,Int.toNat_natCast]
 cases hx:es[i]? with
 |some e =>
  simp only []
  refine wpAny_bind ?_
  first|refine wpAny_bind (wpAny_typeNameOfWhole_valiter hit.typeIs (wpAny_pure ?_))|refine wpAny_bind (wpAny_typeNameOf_valiter hit.typeIs (wpAny_pure ?_))
  refine wpAny_bind (wpAny_isOneOf_valiter hit.typeIs ?_)
  show wpAny _ _ (setField (.ref it) 1 (rawInt ((i:Int)+1)) >>= _) _ _ s
  refine wpAny_bind (wpAny_setField ho hd (by simp) ?_)
  have kM:(s.heap.update it (Obj.mapFields (·.setIfInBounds 1 (rawInt ((i:Int)+1))))).IsValIter it d (i+1) es.size ep :=
   ⟨_,Heap.get?_update_self _ ho (Obj.isFreed_of_fields (Obj.data_mapFields hd _)),(Obj.cls_mapFields ..).trans hc,by rw [Obj.data_mapFields hd];simp [rawInt]⟩
  refine wpAny_bind (wpAny_holding (wpAny_bind (wpAny_isOneOf_valiter (s:={ s with heap:=s.heap.update it (Obj.mapFields (·.setIfInBounds 1 (rawInt ((i:Int)+1)))) }) kM.typeIs (wpAny_bind (wpAny_isOneOf_valiter (s:={ s with heap:=s.heap.update it (Obj.mapFields (·.setIfInBounds 1 (rawInt ((i:Int)+1)))) }) kM.typeIs ?_)))))
  show wpAny _ _ (pure e.val) _ _ _
  exact wpAny_pure (wpAny_pure ⟨_,rfl,wpAny_pure (Vn e hx _ kM (Heap.SameBut.update ..))⟩)
 |none =>
  obtain ⟨hh,hq⟩:=none_ hx
  simp only []
  refine wpAny_bind ?_
  first|refine wpAny_bind (wpAny_typeNameOfWhole_valiter hit.typeIs (wpAny_pure ?_))|refine wpAny_bind (wpAny_typeNameOf_valiter hit.typeIs (wpAny_pure ?_))
  show wpAny _ _ (setField (.ref it) 0 .none >>= _) _ _ s
  refine wpAny_bind (wpAny_setField ho hd (by simp) ?_)
  show wpAny _ _ (newExc (.type "StopIteration") [] >>= _) _ _ _
  refine wpAny_bind ?_
  simp only [newExc,newTuple]
  refine wpAny_bind (wpAny_newObj_type ?_ (by size_fits))
  refine wpAny_bind (m:=firstArgMember _ _) (wpAny_of_eq (a:=Value.none) (by first|rfl | (simp only [firstArgMember];rfl)) ?_)
  refine wpAny_newObj_type ?_ (by size_fits)
  simp only [raiseNew]
  refine wpAny_bind (wpAny_handled ?_)
  rw [show A.in1.handled=none from hh]
  refine wpAny_bind (wpAny_pure (wpAny_throw ?_))
  refine wpAny_bind (wpAny_isInstance (T := "StopIteration") (b:=true) ⟨_,Heap.get?_push_size _ rfl,rfl⟩ isSubtype_stop ?_)
  exact wpAny_pure (hq _ (((Heap.SameBut.update ..).extBut.push _).push _))
end
noncomputable def kY:HO→Bool
 |.dK _=>true
 |.dT _=>true
 |_=>false
noncomputable def gw:HO→List V
 |.dK ai=>ai.map (·.2)
 |.dT ai=>ai.map (·.2)
 |_=>[]
theorem Fm {u:HO} (h:kY u=true):(∀ o v,u≠.aW o v)∧(∀ xs,u≠.tup xs)∧(∀ ps,u≠.jT ps)∧∀ x,u≠.own x:=by
 cases u<;>first | (cases h;done)|exact ⟨(fun _ _ z=>nomatch z),(fun _ z=>nomatch z),(fun _ z=>nomatch z),(fun _ z=>nomatch z)⟩
section
variable {X:Cx}{pins:List (Addr×Obj)}{σ:L2.St}{H:Hp}{s:Shared}{a it:Addr}
theorem yt {P:Program}{w:World}{h:Heap}{u:HO} (hu:kY u=true) (ok:b9 P w H h a u):∃ o es ep,h.get? a=some o∧o.ExactDict∧o.data=.dict es ep∧es.size=(gw u).length∧(∀ (i:Nat) x,(gw u)[i]?=some x→∃ e,es[i]?=some e∧RelV x e.val)∧(a==sysModules)=false:=by
 cases u<;>try (cases hu;done)
 ·rename_i ai
  obtain ⟨z,lo,vs,rv,o,es,ep,ho,ex,hd,hk,hp,hn⟩:=ok
  refine ⟨o,es,ep,ho,ex,hd,?_,fun i x e=>?_,lo⟩
  ·have e1:=hp.length
   have e2:=rv.length
   simp only [Array.length_toList] at e1
   simp [gw,e1,e2]
  ·simp only [gw,List.getElem?_map,Option.map_eq_some_iff] at e
   obtain ⟨kv,bU,rfl⟩:=e
   obtain ⟨v,h1,h2⟩:=Fj rv bU
   have hi:i < es.size:=by
    have:=(List.getElem?_eq_some_iff.mp h1).1
    have e1:=hp.length
    simp only [Array.length_toList] at e1
    omega
   exact ⟨es[i],by simp [hi],by rw [(hp.get? (e:=es[i]) (by simp [hi]) h1).2];exact h2⟩
 ·rename_i ai
  obtain ⟨z,lo,xs,r,o,es,ep,ho,ex,hd,he,hn⟩:=ok
  refine ⟨o,es,ep,ho,ex,hd,?_,fun i x e=>?_,lo⟩
  ·rw [←Array.length_toList,he,List.length_map,←Paired.length r];simp [gw]
  ·simp only [gw,List.getElem?_map,Option.map_eq_some_iff] at e
   obtain ⟨kv,bU,rfl⟩:=e
   have go:∀ {l:List (List Key×V)}{m:List (List Key×Addr×Value)}{i:Nat}{kv:List Key×V},Paired (fun (p:List Key×V) (q:List Key×Addr×Value)=>p.1=q.1∧H q.2.1=some (.tup (p.1.map kV))∧RelV p.2 q.2.2) l m→l[i]?=some kv→∃ y,m[i]?=some y∧RelV kv.2 y.2.2:=by
    intro l m i kv q
    induction q generalizing i with
    |nil=>intro e;simp at e
    |cons h t ih =>
     intro e
     cases i with
     |zero=>simp at e;subst e;exact ⟨_,rfl,h.2.2⟩
     |succ i=>exact ih (by simpa using e)
   obtain ⟨y,h1,h2⟩:=go r bU
   exact ⟨entryOfKey (tupleKind (cn P w)) y,by rw [←Array.getElem?_toList,he,List.getElem?_map,h1];rfl,h2⟩
theorem Gg {P:Program}{w:World}{h:Heap}{H':Hp}{u:HO} (hu:kY u=true) (ok:b9 P w H h a u) (nt:∀ b xs,H b=some (.tup xs)→H' b=some (.tup xs)):b9 P w H' h a u:=by
 cases u<;>try (cases hu;done)
 ·exact ok
 ·obtain ⟨z,lo,xs,r,m⟩:=ok
  exact ⟨z,lo,xs,Paired.uW r fun p q z=>⟨z.1,nt _ _ z.2.1,z.2.2⟩,m⟩
noncomputable def AA (a:Addr) (o:Obj) (u:HO):It :=
 ⟨fun i H=>H a=some (.aW o u)∧i < (gw u).length,fun i H x H'=>H'=H∧(gw u)[i]?=some x,fun i H=>H a=some (.aW o u)∧(gw u).length≤i⟩
theorem Fn {o:Obj}{u:HO}{es:Array DictEntry}{ep:Nat} (hu:kY u=true) (I:L2.Inv X pins σ H s) (e:H a=some (.aW o u)) (hd:o.data=.dict es ep):Raw s.heap a es ep∧es.size=(gw u).length∧∀ (i:Nat) x,(gw u)[i]?=some x→∃ e,es[i]?=some e∧RelV x e.val:=by
 obtain ⟨ho,ok⟩:=(I.aE a _ e:b9 X.prog X.w H s.heap a (.aW o u))
 obtain ⟨o',kZ,qW,fE,ex,vx,h1,h2,_⟩:=yt hu ok
 rw [ho] at fE;cases fE
 rw [hd] at vx;cases vx
 exact ⟨⟨o,ho,ex,hd⟩,h1,h2⟩
theorem Lv {P:Program}{w:World}{K:PySem.W.Frag}{tg:Expr}{o:Obj}{u:HO}{es:Array DictEntry}{ep:Nat} (hu:kY u=true) (hd:o.data=.dict es ep):Turn P w K tg (AA a o u) [it] it (fun i h=>h.IsValIter it a i es.size ep) where
 mem:=by simp
 obj:=fun i h st b hb=>by
  have e:b=it:=by simpa using hb
  subst e
  obtain ⟨o,e,c,d⟩:=st
  exact ⟨o,e,fun v z=>by rw [d] at z;cases z⟩
 keep:=fun i h h' st k=>st.at fun o e=>k it (by simp) o e
 item:=by
  intro X hP hw hK hc i pins s σ H E I hf st hg
  subst hP hw hK
  obtain ⟨r,hz,Yq⟩:=Fn hu I hg.1 hd
  obtain ⟨f0,f1,f2,f3,f4,f5⟩:=hf it (by simp)
  refine B9 st r (fun e he h' fW sb=>?_) (fun z=>?_)
  ·have hx:=List.getElem?_eq_getElem hg.2
   obtain ⟨e',h1,h2⟩:=Yq i _ hx
   rw [he] at h1;cases h1
   obtain ⟨ob,e1,c1,d1⟩:=id fW
   exact ⟨_,rfl,qm (s:={ s with heap:=h' }) e1 c1 d1 (by decide) ⟨_,H,I.turned (t':=s.toks) (fun b o hb e=>(sb.2 b hb).trans e) f0 f1 f3 f4 f5,h2,⟨rfl,hx⟩,fW,fun b hb=>(hf b hb).1⟩⟩
  ·have:=Array.getElem?_eq_none_iff.mp z
   have:=hg.2
   omega
 done:=by
  intro X hP hw hK hc i pins s σ H E I hf st hg
  subst hP hw hK
  obtain ⟨r,hz,_⟩:=Fn hu I hg.1 hd
  obtain ⟨f0,f1,f2,f3,f4,f5⟩:=hf it (by simp)
  refine B9 st r (fun e he=>?_) (fun _=>⟨I.ok.hd hc,fun h' eb=>⟨rfl,I.turned (t':=s.toks) (fun b o hb e=>eb b o hb e) f0 f1 f3 f4 f5⟩⟩)
  have:=(Array.getElem?_eq_some_iff.mp he).1
  have:=hg.2
  omega
 self:=fun _ _ _ _ _ st h=>wpAny_pyIter_valiter st h
noncomputable def yU (td:TE):TI:=fun σ H R=>td σ H fun x H1=>∃ a o u,x=.ref a∧H1 a=some (.aW o u)∧kY u=true∧R (AA a o u) H1
theorem ML {e:Expr}{td:TE}{apos cq:Pos}{tg:Expr} (he:PE X e td) (qt:attributeBase e "values" X.env (eval e X.env)=eval e X.env) (hline:(apos.endLine==cq.line)=true):PI X tg (.Call (.Attribute e "values" apos) [] [] cq) (yU td):=by
 intro pins s σ H R I h
 refine wpAny_Call_method0_late qt hline (aF (he pins s σ H _ I h) fun v s1 ⟨x,H1,I1,r1,a,o,u,ex,hf,hu,q⟩=>?_)
 subst ex
 obtain rfl:v=Value.ref a:=r1
 obtain ⟨ho,ok⟩:=(I1.aE a _ hf:b9 X.prog X.w H1 s1.heap a (.aW o u))
 obtain ⟨o',es,ep,fE,ex,hd,hz,_,lo⟩:=yt hu ok
 rw [ho] at fE;cases fE
 refine ⟨"dict", "dict.values",PySem.F.plainAttrs_dict,PySem.F.slot_dict_values,PySem.F.type_dict_values,⟨o,ho,ex.1⟩,fun a' e2=>by cases e2;exact ⟨o,ho,ex.2.1⟩,Calls.callWith_builtin rfl (PySem.evalArgs_none ?_)⟩
 refine MK lo ⟨o,ho,ex,hd⟩ ?_
 refine Ls ⟨_,Heap.get?_push_size _ rfl,rfl,rfl⟩ ⟨o,Heap.get?_push_of_some _ ho,ex,hd⟩ ?_
 have I2:L2.Inv X pins σ H1 { s1 with heap:=s1.heap.push { cls:=.type "dict_values",data:=.fields #[.ref a] } }:=I1.kept (t':=s1.toks) fun b u q=>Heap.get?_push_of_some _ q
 have I3:=I2.kept (t':=s1.toks) (h':=(s1.heap.push { cls:=.type "dict_values",data:=.fields #[.ref a] }).push { cls:=.type "dict_valueiterator",data:=.fields #[.ref a,.int 0 0,.int es.size 0,.int ep 0] }) fun b u q=>Heap.get?_push_of_some _ q
 refine ⟨_,[_],_,_,H1,rfl,I3,Lv hu hd,⟨_,Heap.get?_push_size _ rfl,rfl,rfl⟩,fun b hb=>?_,q⟩
 have oO:b=(s1.heap.push { cls:=.type "dict_values",data:=.fields #[.ref a] }).objs.size:=by simpa using hb
 subst oO
 exact I2.nZ (Nat.le_refl _) (I2.aE.fresh (Nat.le_refl _))
noncomputable def Gh (i:Nat) (t:TS):TS:=fun Ds σ H=>∃ a u,σ[i]?=some (some (.ref a))∧kY u=true ∧
 ((H a=some u∧∀ o,t (W4 a o u Ds) σ (upd H a (.aW o u)))∨((∃ o,H a=some (.aW o u))∧t Ds σ H))
theorem Qu {st:Stmt}{t:TS}{i:Nat} (h:eY X st t):eY X st (Gh i t):=by
 refine ⟨fun pins s σ H Ds I ht=>?_⟩
 obtain ⟨a,u,hs,hu,⟨e,ht⟩|⟨_,ht⟩⟩:=ht
 ·have ok:=I.aE a _ e
  obtain ⟨n1,n2,n3,n4⟩:=Fm hu
  obtain ⟨o,_,_,ho,_⟩:=yt hu ok
  have hf:∀ o v,X.H₀ a≠some (.aW o v):=fun o v z=>by rw [I.base.iu a o v z] at e;cases e;exact n1 _ _ rfl
  have nt:∀ {H':Hp}{z z':HO},H' a=some z→(∀ xs,z≠.tup xs)→∀ b xs,H' b=some (.tup xs)→upd H' a z' b=some (.tup xs):=fun e' nz b xs q=>by
   rw [aH (uF q e' (fun w=>nz xs w.symm))];exact q
  have I1:L2.Inv X pins σ (upd H a (.aW o u)) s:=Fh I e n2 n3 n4 hf ⟨ho,Gg hu ok (nt e n2)⟩
  have th:∀ {σ':L2.St}{H':Hp}{s':Shared},L2.Inv X pins σ' H' s'→H' a=some (.aW o u)→L2.Inv X pins σ' (upd H' a u) s':=fun I' e' =>
   Fh I' e' (fun _ z=>nomatch z) (fun _ z=>nomatch z) (fun _ z=>nomatch z) hf (Gg hu (I'.aE a _ e').2 (nt e' (fun _ z=>nomatch z)))
  refine aF (h.go pins s σ _ _ I1 (ht o)) fun f s' q=>?_
  cases f with
  |next=>obtain ⟨σ',H',I',e',q⟩:=q;exact ⟨σ',_,th I' e',q⟩
  |brk=>obtain ⟨σ',H',I',e',q⟩:=q;exact ⟨σ',_,th I' e',q⟩
  |cont=>obtain ⟨σ',H',I',e',q⟩:=q;exact ⟨σ',_,th I' e',q⟩
  |ret v=>obtain ⟨v',σ',H',I',Al,e',q⟩:=q;exact ⟨v',σ',_,th I' e',Al,q⟩
 ·exact h.go pins s σ H Ds I ht
end
end J
namespace J
open PySem L2
section
variable {K:PySem.W.Frag}{N:Addr→Prop}{H H' H₀ H₁:Hp}{I:Nat→Option Addr}{O:Addr→Prop}{σ:L2.St}{env:Ev}
noncomputable def AF:D→Option (List D)
 |.dk ks=>some (ks.map (·.2))
 |.dt ks=>some (ks.map (·.2))
 |_=>none
noncomputable def DR (K:PySem.W.Frag) (N:Addr→Prop) (H:Hp):HO→D→Prop
 |.dK ai,.dk ks=>Ent K N H ai ks
 |.dT ai,.dt ks=>Ent K N H ai ks
 |_,_=>False
theorem DR.dc {u:HO}{d:D} (h:DR K N H u d):kY u=true:=by cases u<;>cases d<;>first|rfl|exact h.elim
theorem DR.vs {u:HO}{d:D}{ds:List D} (h:DR K N H u d) (e:AF d=some ds):aw K N H (gw u) ds:=by
 cases u<;>cases d<;>first|exact h.elim|skip
 ·cases e;exact h.2
 ·cases e;exact h.2
theorem DR.mono {N':Addr→Prop}{u:HO}{d:D} (h:DR K N H u d) (w:∀ {vs:List V}{ds:List D},aw K N H vs ds→aw K N' H' vs ds):DR K N' H' u d:=by
 cases u<;>cases d<;>first|exact h.elim|exact ⟨h.1,w h.2⟩
theorem MN {m:M}{a:Addr}{o:Obj}{u:HO}{ds:List D} (hm:eJ m=true) (e:H a=some (.aW o u)) (ha:¬ O a) (r:aw K (NM H₀ O m) H (gw u) ds) (on:∀ a o,O a→H a=some o→¬ gZ o):jN K H₀ O (AA a o u) H m ds where
 go:=fun O2 H2 i st hi=>⟨(st a _ e ha).1,by rw [r.len];exact hi⟩
 iF:=by
  rintro O2 H2 i x H3 st hi ⟨rfl,hx⟩
  obtain ⟨v,hv,rv⟩:=r.get (i:=i) (d:=ds[i]) (by simp [hi])
  rw [hx] at hv;cases hv
  exact ⟨aI.refl _,ds[i],by simp [hi],uh hm on st rv⟩
 stop:=fun O2 H2 st=>⟨(st a _ e ha).1,by rw [r.len];exact Nat.le_refl _⟩
noncomputable def qx (i:Nat) (g:M×D→Ev→Option Ev) (b:Ev→Option Fl):Ev→Option Fl:=fun e=>match e[i]? with
 |some (some (m,d))=>if eJ m=true then (AF d).bind fun ds=>forL g b m ds e else none
 |_=>none
theorem Qv {i:Nat}{g:TG}{tb:TS}{fg:M×D→Ev→Option Ev}{b:Ev→Option Fl} (hg:JG K g fg) (hb:JS K tb b):JS K (Gh i (n5 (yU (fQ i)) g tb)) (qx i fg b):=by
 intro H₀ I O H σ env Ds fl R e q
 unfold qx at e
 split at e
 ·rename_i m d he
  split at e
  ·rename_i hm
   obtain ⟨ds,ed,e⟩:=ay e
   obtain ⟨v,hv,_,hz⟩:=R.e.at he
   have Yr:∃ a u,v=.ref a∧Rd H a u∧¬ O a∧DR K (NM H₀ O m) H u d:=by
    cases d<;>try (cases ed;done)
    ·cases m<;>try (cases hm;done)
     ·cases hz with|dk r n e q=>exact ⟨_,_,rfl,r,n,e,q⟩
     ·cases hz with|dk r n e q=>exact ⟨_,_,rfl,r,n.1,e,q⟩
    ·cases m<;>try (cases hm;done)
     ·cases hz with|dt r n e q=>exact ⟨_,_,rfl,r,n,e,q⟩
     ·cases hz with|dt r n e q=>exact ⟨_,_,rfl,r,n.1,e,q⟩
   obtain ⟨a,u,rfl,rd,na,dr⟩:=Yr
   have hu:=dr.dc
   obtain ⟨n1,n2,_,_⟩:=Fm hu
   have run:∀ {G H1:Hp}{o:Obj}{Es:Ends},Rel K G I O H1 σ env→H1 a=some (.aW o u)→DR K (NM G O m) H1 u d→lX K G I O H1 Es fl→n5 (yU (fQ i)) g tb Es σ H1:=fun R1 e1 AG q1 =>
    N9 hg hb R1 hm (fun R' k=>⟨_,hv,a,_,u,rfl,e1,hu,k _ _ (aI.refl _) (MN hm e1 na (AG.vs ed) R1.e.on)⟩) e q1
   refine ⟨a,u,hv,hu,?_⟩
   rcases rd with e1|⟨o,e1⟩
   ·refine .inl ⟨e1,fun o=>?_⟩
    have w:mM H (upd H a (.aW o u)):=⟨fun b v _ h=>by
     by_cases z:b=a
     ·subst z
      rcases h with h|⟨o',h⟩
      ·rw [e1] at h;cases h;exact .inr ⟨o,bG⟩
      ·rw [e1] at h;cases h;exact absurd rfl (n1 _ _)
     ·unfold Rd at h ⊢;rw [aH z];exact h,fun b xs h=>by rw [aH (uF h e1 (fun z=>n2 _ z.symm))];exact h⟩
    have nO:∀ p,O p→p≠a:=fun p h z=>na (z▸h)
    have zz:∀ b,H₀ b=none↔(fun b=>if b=a then (H₀ a).map (fun _=>HO.aW o u) else H₀ b) b=none:=fun b=>by
     by_cases z:b=a
     ·subst z;simp
     ·simp [z]
    have R1:Rel K (fun b=>if b=a then (H₀ a).map (fun _=>HO.aW o u) else H₀ b) I O (upd H a (.aW o u)) σ env:=by
     refine R.cH w (fun p h=>aH (nO p h)) zz (fun b v h=>?_) fun b v n h=>?_
     ·by_cases z:b=a
      ·subst z;exact ⟨_,bG⟩
      ·exact ⟨v,by rw [aH z];exact h⟩
     ·by_cases z:b=a
      ·subst z
       simp only [if_true] at h
       cases q0:H₀ b with
       |none=>rw [q0] at h;cases h
       |some u0=>rw [q0] at h;cases h;exact bG
      ·simp only [z,if_false] at h
       rw [aH z];exact R.fr b v n h
    have back:∀ {O':Addr→Prop}{H':Hp},aM O (upd H a (.aW o u)) O' H'→H' a=some (.aW o u)∧aM O H O' (upd H' a u) ∧
      (∀ {σ':L2.St}{fh:Ev},Rel K (fun b=>if b=a then (H₀ a).map (fun _=>HO.aW o u) else H₀ b) I O' H' σ' fh→Rel K H₀ I O' (upd H' a u) σ' fh) ∧
      ∀ {m:M}{d:D}{v:V},Val K (fun b=>if b=a then (H₀ a).map (fun _=>HO.aW o u) else H₀ b) O' HE H' m d v→Val K H₀ O' HE (upd H' a u) m d v:=fun {O' H'} st=>by
     obtain ⟨ha,Jg⟩:=st a _ bG na
     have w':mM H' (upd H' a u):=⟨fun b v nf h=>by
      by_cases z:b=a
      ·subst z
       rcases h with h|⟨o',h⟩
       ·rw [ha] at h;cases h;cases nf
       ·rw [ha] at h;cases h;exact .inl bG
      ·unfold Rd at h ⊢;rw [aH z];exact h,fun b xs h=>by rw [aH (uF h ha (fun z=>nomatch z))];exact h⟩
     have Jh:∀ p,O' p→upd H' a u p=H' p:=fun p h=>aH fun z=>Jg (z▸h)
     refine ⟨ha,fun b v h n=>?_,fun R'=>?_,fun f7=>f7.cH w' (fun _ p d N c=>?_) Jh fun b=>(zz b).mpr⟩
     ·by_cases z:b=a
      ·subst z;rw [e1] at h;cases h;exact ⟨bG,Jg⟩
      ·obtain ⟨h1,h2⟩:=st b v (by rw [aH z];exact h) n
       exact ⟨by rw [aH z];exact h1,h2⟩
     ·refine R'.cH w' Jh (fun b=>(zz b).symm) (fun b v h=>?_) fun b v n h=>?_
      ·by_cases z:b=a
       ·subst z;exact ⟨_,bG⟩
       ·exact ⟨v,by rw [aH z];exact h⟩
      ·by_cases z:b=a
       ·subst z
        have h2:=R.fr b v n h
        rw [e1] at h2;cases h2;exact bG
       ·rw [aH z]
        exact R'.fr b v n (by simp only [z,if_false];exact h)
     ·refine aH fun z=>?_
      subst z
      cases d<;>simp only [Cell] at c
      all_goals (obtain ⟨xs,q,_⟩:=c;rw [ha] at q;cases q)
    refine run R1 bG (dr.mono fun r=>(r.cH w).wk fun b n _=>?_) ?_
    ·cases m<;>try (cases hm;done)
     ·exact n
     ·exact ⟨n.1,(zz b).mp n.2⟩
    ·cases fl with
     |nx e'=>exact fun O' H' σ' R' st=>⟨(back st).1,q _ _ _ ((back st).2.2.1 R') (back st).2.1⟩
     |bk e'=>exact fun O' H' σ' R' st=>⟨(back st).1,q _ _ _ ((back st).2.2.1 R') (back st).2.1⟩
     |ct e'=>exact fun O' H' σ' R' st=>⟨(back st).1,q _ _ _ ((back st).2.2.1 R') (back st).2.1⟩
     |rt e' m' d'=>exact fun O' H' σ' v R' st f7=>⟨(back st).1,q _ _ _ v ((back st).2.2.1 R') (back st).2.1 ((back st).2.2.2 f7)⟩
   ·exact .inr ⟨⟨o,e1⟩,run R e1 dr q⟩
  ·cases e
 ·cases e
end
end J
namespace J
open PySem PySem.Spec PyProof.Rows L2
noncomputable def keysOf:List D→Option (List Key)
 |[]=>some []
 |d::ds=>(keyOf d).bind fun k=>(keysOf ds).map fun ks=>k::ks
noncomputable def mj:D→Option (List Key)
 |.tup ds=>if ds.length < 4 then keysOf ds else none
 |_=>none
noncomputable def vj:D→Option (List (List Key×D))
 |.dt ks=>some ks
 |_=>none
theorem Qw {d:D}{ks:List (List Key×D)} (h:vj d=some ks):d=.dt ks:=by cases d<;>simp only [vj] at h<;>cases h;rfl
section
variable {K:PySem.W.Frag}{N:Addr→Prop}{H H' H₀:Hp}{I:Nat→Option Addr}{O:Addr→Prop}{σ:L2.St}{env:Ev}
theorem Ca:∀ {ds:List D}{ks:List Key}{vs:List V},keysOf ds=some ks→aw K N H vs ds→vs=ks.map kV
 |[],_,_,e,.nil=>by cases e;rfl
 |d::ds,_,_,e,.cons h r=>by
  obtain ⟨k,e1,e⟩:=ay e
  cases e2:keysOf ds with
  |none=>rw [e2] at e;cases e
  |some l=>rw [e2] at e;cases e;rw [Ca e2 r,m6 e1 h];rfl
theorem Dk {d:D}{ks:List Key}{v:V} (e:mj d=some ks) (h:Rp K N H v d):∃ b,v=.ref b∧H b=some (.tup (ks.map kV)):=by
 cases d<;>try (cases e;done)
 rename_i ds
 simp only [mj] at e
 split at e
 ·rename_i hl
  cases h with
  |tup q r =>
   have:=r.len
   have z:=q.own (by omega)
   rw [Ca e r] at z
   exact ⟨_,rfl,z⟩
 ·cases e
theorem Val.dt {m:M}{ks:List (List Key×D)}{v:V}{Hb:Hp} (h:Val K H₀ O Hb H m (.dt ks) v):∃ a ai,v=.ref a∧Rd H a (.dT ai)∧Ent K (NM H₀ O (aV m)) H ai ks:=by
 cases m<;>simp only [Val,Cell] at h
 ·cases h with|dt r n e q=>exact ⟨_,_,rfl,r,e,q⟩
 ·cases h with|dt r n e q=>exact ⟨_,_,rfl,r,e,q⟩
 ·obtain ⟨p,rfl,_,_,_,xs,q,e,r⟩:=h;exact ⟨_,_,rfl,.inl q,e,r.wk fun a h _=>h.1⟩
 ·obtain ⟨p,rfl,_,_,xs,q,e,r⟩:=h;exact ⟨_,_,rfl,.inl q,e,r⟩
 ·obtain ⟨p,rfl,_,xs,q,e,r⟩:=h;exact ⟨_,_,rfl,.inl q,e,r⟩
 ·cases h with|dt r n e q=>exact ⟨_,_,rfl,r,e,q⟩
 ·obtain ⟨p,qs,aP,rfl,e2,_⟩:=h;cases e2
noncomputable def nX:Ev→Option (M×D):=fun _=>some (.un,.dt [])
theorem Qx:JT K EY nX:=by
 intro H₀ O H σ env Q m d R h q
 cases h
 intro p hp
 exact q _ _ (cB hp) ⟨p,rfl,hp,kl R.hd hp,hZ R.od hp,[],bG,rfl,.nil⟩
def W8 (H:Hp) (a:Addr) (y:V) (r:Option V):Prop:=gp H a y r∨∃ ai,Rd H a (.dT ai)∧y=.non∧r=none
noncomputable def Fo (td ty tx:TE):TE:=fun σ H Q=>td σ H fun x H1=>∃ a,x=.ref a∧Im H1 a∧ty σ H1 fun y H2=>tx σ H2 fun z H3=>∃ o,W8 H3 a y o∧Q (o.getD z) H3
theorem Oa {X:Cx}{td ty tx:TE}{o e f:Expr}{apos cq:Pos} (hu:X.A.units+1 < cLine) (ho:PE X o td) (he:PE X e ty) (hf:PE X f tx) (m:M2 X o "get" apos e f cq):PE X (.Call (.Attribute o "get" apos) [e,f] [] cq) (Fo td ty tx):=by
 intro pins s σ H Q I h
 refine wpAny_Call_method m.base m.few m.line PySem.F.plainAttrs_dict PySem.F.slot_dict_get PySem.F.type_dict_get (aF (ho pins s σ H _ I h) fun u s1 ⟨x,H1,I1,rx,a,ex,d,q1⟩=>?_)
 subst ex
 obtain rfl:u=Value.ref a:=rx
 obtain ⟨t1,t2,_⟩:=Se I1 d
 refine ⟨t1,t2,?_⟩
 rw [m.trees]
 refine Calls.callWith_builtin rfl (Calls.evalArgs_plain (Calls.spliced_cons (aF (he pins s1 σ H1 _ I1 q1) fun iv s2 ⟨y,H2,I2,ry,q2⟩ =>
  Calls.spliced_cons (aF (hf pins s2 σ H2 _ I2 q2) fun fv s3 ⟨z,H3,I3,rz,ov,g,q3⟩=>Calls.spliced_nil ?_))))
 rcases g with g|⟨ai,rd,ey,er⟩
 ·exact Sf hu I3 g ry rz fun w' s4 I4 iJ=>⟨_,H3,I4,iJ,q3⟩
 ·subst ey er
  cases (show iv=Value.none from ry)
  obtain ⟨_,lo,xs,_,dd⟩:=iV I3.aE rd
  exact get_none hu lo dd ⟨_,H3,I3.tok _,rz,q3⟩
noncomputable def qh (fd fk fx:Ev→Option (M×D)):Ev→Option (M×D):=fun e=>(fd e).bind fun x=>(fk e).bind fun y=>(fx e).bind fun z=>(vj x.2).bind fun ks=>match y.2 with
 |.non=>if z.2.bQ=true then some (.fr,z.2) else none
 |d=>(mj d).bind fun k=>match cS ks k with
  |some d=>some (aV x.1,d)
  |none=>if z.2.bQ=true then some (.fr,z.2) else none
theorem Ob {td ty tx:TE}{fd fk fx:Ev→Option (M×D)} (hd:JT K td fd) (hk:JT K ty fk) (hx:JT K tx fx):JT K (Fo td ty tx) (qh fd fk fx):=by
 intro H₀ O H σ env Q m d R h q
 obtain ⟨x,ex,h⟩:=ay h
 obtain ⟨y,ey,h⟩:=ay h
 obtain ⟨z,ez,h⟩:=ay h
 obtain ⟨ks,mK,h⟩:=ay h
 refine hd H₀ O H σ env _ x.1 x.2 R ex fun v H1 s1 h1=>?_
 rw [Qw mK] at h1
 obtain ⟨a,W9,rfl,Ys,_⟩:=h1.dt
 refine ⟨a,rfl,.inr ⟨W9,Ys⟩,hk H₀ O H1 σ env _ y.1 y.2 (R.keep s1) ey fun w H2 s2 h2=>?_⟩
 refine hx H₀ O H2 σ env _ z.1 z.2 ((R.keep s1).keep s2) ez fun u H3 s3 h3=>?_
 obtain ⟨a',ai,e',rd,en⟩:=((h1.keep s2).keep s3).dt
 cases e'
 have s:=(s1.trans s2).trans s3
 have dflt:(if z.2.bQ=true then some (M.fr,z.2) else none)=some (m,d)→Q u H3:=fun h=>by
  split at h
  ·rename_i hi
   cases h
   exact q u H3 s (show Rp K _ H3 u z.2 from h3.weak.im hi)
  ·cases h
 split at h
 ·rename_i hy
  rw [hy] at h2
  exact ⟨none,.inr ⟨ai,rd,h2.non,rfl⟩,dflt h⟩
 ·obtain ⟨k,ek,h⟩:=ay h
  obtain ⟨b,rfl,hb⟩:=Dk ek h2.weak
  refine ⟨eD ai k,.inl (.inr ⟨ai,k,b,rd,rfl,s3 _ _ hb,rfl⟩),?_⟩
  rcases en.val k with ⟨z1,z2⟩|⟨d2,v2,z1,z2,r⟩
  ·rw [z1] at h
   rw [z2]
   exact dflt h
  ·rw [z1] at h;cases h
   rw [z2]
   exact q v2 H3 s (Val.el r)
noncomputable def iC (i:Nat) (e:Ev):Option (M×List (List Key×D)):=match e[i]? with
 |some (some (m,.dt ds))=>if own m=true then some (m,ds) else none
 |_=>none
theorem Ed {i:Nat}{e:Ev}{m:M}{ds:List (List Key×D)} (h:iC i e=some (m,ds)):e[i]?=some (some (m,.dt ds))∧own m=true:=by
 unfold iC at h
 split at h
 ·rename_i e
  split at h
  ·cases h;exact ⟨e,by assumption⟩
  ·cases h
 ·cases h
theorem Rel.Hc {i:Nat}{m:M}{ds:List (List Key×D)} (R:Rel K H₀ I O H σ env) (h:iC i env=some (m,ds)):∃ p ai,σ[i]?=some (some (.ref p))∧O p∧H p=some (.dT ai)∧Ent K (fun a=>¬ O a∧H₀ a=none) H ai ds:=by
 obtain ⟨e,o⟩:=Ed h
 obtain ⟨v,hv,n,hm⟩:=R.e.at e
 cases m<;>simp only [own] at o<;>try (cases o;done)
 ·obtain ⟨p,rfl,h1,h2,xs,c,z,r⟩:=hm;exact ⟨p,xs,hv,h1,c,z,r⟩
 ·obtain ⟨p,rfl,h1,xs,c,z,r⟩:=hm;exact ⟨p,xs,hv,h1,c,z,r⟩
theorem Rel.Hd {i:Nat}{m:M}{ds:List (List Key×D)}{p:Addr}{xs ys:List (List Key×V)}{es:List (List Key×D)} (R:Rel K H₀ I O H σ env) (h:iC i env=some (m,ds)) (hp:σ[i]?=some (some (.ref p))) (hx:H p=some (.dT xs)) (r:Ent K (fun a=>¬ O a∧H₀ a=none) H ys es) :
  Rel K H₀ I O (L2.upd H p (.dT ys)) σ (env.set i (some (m,.dt es)))∧aM O H O (L2.upd H p (.dT ys)):=by
 obtain ⟨e,o⟩:=Ed h
 have hO:=(R.lH e o hp).1
 exact R.mut e o hp ⟨ys,bG,r.1,r.2.upd hO hx (fun z=>z)⟩
noncomputable def gM (i:Nat) (fk fe:Ev→Option (M×D)):Ev→Option Fl:=fun e=>(fe e).bind fun x=>(fk e).bind fun y=>(mj y.2).bind fun k=>if cG x.1 x.2=true then (iC i e).bind fun z=>if z.2.length < sizeLine then some (.nx (e.set i (some (z.1,.dt (putD z.2 k x.2))))) else none else none
theorem Qy {i:Nat}{t tk:TE}{f fk:Ev→Option (M×D)} (h:JT K t f) (hk:JT K tk fk):JS K (uI (fQ i) tk t) (gM i fk f):=by
 intro H₀ I O H σ env Ds fl R e q
 obtain ⟨x,ex,e⟩:=ay e
 obtain ⟨y,ey,e⟩:=ay e
 obtain ⟨k,ek,e⟩:=ay e
 split at e
 ·rename_i hs
  obtain ⟨⟨m,ds⟩,ez,e⟩:=ay e
  split at e
  ·rename_i hl
   cases e
   obtain ⟨p,ai,hp,hO,hx,r⟩:=R.Hc ez
   refine h H₀ O H σ env _ x.1 x.2 R.e ex fun v H1 s1 h1=>?_
   refine ⟨.ref p,hp,?_⟩
   refine hk H₀ O H1 σ env _ y.1 y.2 (R.keep s1).e ey fun w H2 s2 h2=>?_
   obtain ⟨b,rfl,hb⟩:=Dk ek h2.weak
   have s:=s1.trans s2
   refine ⟨p,_,rfl,.inr ⟨ai,k,b,s _ _ hx,rfl,hb,by rw [r.len];exact hl,rfl⟩,?_⟩
   obtain ⟨R2,st⟩:=(R.keep s).Hd (ys:=putK ai k v) (es:=putD ds k x.2) ez hp (s _ _ hx) (Ent.put ⟨r.1,r.2.keep (.same s)⟩ ((h1.keep s2).cG hs))
   exact q O _ σ R2 ((aM.same s).trans st)
  ·cases e
 ·cases e
end
section
variable {K:PySem.W.Frag}{N:Addr→Prop}{H H' H₀:Hp}{I:Nat→Option Addr}{O:Addr→Prop}{σ:L2.St}{env:Ev}
noncomputable def zH (k:List Key):D:=.tup (k.map zF)
theorem TB {N:Addr→Prop} (k:Key):Rp K N H (kV k) (zF k):=by
 cases k with
 |inl i=>exact .int i
 |inr x=>exact .str x
 |non=>exact .non
theorem Dl {N:Addr→Prop}:∀ ks:List Key,aw K N H (ks.map kV) (ks.map zF)
 |[]=>.nil
 |k::ks=>.cons (TB k) (Dl ks)
noncomputable def qi:List (M×D)→Option (M×D)
 |[(m,.dt ks)]=>if own m=true∨m=.un then some (.un,.lst (ks.map fun kv=>zH kv.1)) else none
 |_=>none
theorem L3 {X:Cx} (h:X.K=K) (hc:X.calm=true):gJ X (.type "list") (fun xs H Q=>∃ d ai,xs=[.ref d]∧H d=some (.dT ai)∧∀ l bs,H l=none→qe H (ai.map (·.1)) bs→Q (.ref l) (upd H l (.lst (bs.map V.ref)))):=Lb hc
theorem Cb {N:Addr→Prop}{p:Addr}{o:HO} (hp:H p=none):∀ {ks:List (List Key)}{bs:List Addr},qe H ks bs→aw K N (upd H p o) (bs.map V.ref) (ks.map zH)
 |_,_,.nil=>.nil
 |_,_,.cons h t=>.cons (.tup (.inl (by rw [aH (dY h hp)];exact h)) (Dl _)) (Cb hp t)
theorem MP:j5 K (fun xs H Q=>∃ d ai,xs=[.ref d]∧H d=some (.dT ai)∧∀ l bs,H l=none→qe H (ai.map (·.1)) bs→Q (.ref l) (upd H l (.lst (bs.map V.ref)))) qi:=by
 intro H₀ O H vs aA Q m d od hd hv h q
 unfold qi at h
 split at h
 ·rename_i m0 ks
  split at h
  ·rename_i hm
   cases h
   obtain ⟨v,rfl,hw⟩:=hv.one
   have:∃ p ai,v=.ref p∧H p=some (.dT ai)∧ai.map (·.1)=ks.map (·.1):=by
    cases m0<;>simp only [own,Bool.false_eq_true,false_or,reduceCtorEq,or_false,or_self] at hm<;>simp only [Val,Cell] at hw
    ·obtain ⟨p,rfl,_,_,_,xs,c,z,_⟩:=hw;exact ⟨p,xs,rfl,c,z⟩
    ·obtain ⟨p,rfl,_,_,xs,c,z,_⟩:=hw;exact ⟨p,xs,rfl,c,z⟩
    ·obtain ⟨p,rfl,_,xs,c,z,_⟩:=hw;exact ⟨p,xs,rfl,c,z⟩
   obtain ⟨p,ai,rfl,e,ek⟩:=this
   refine ⟨p,ai,rfl,e,fun l bs hl ka=>q _ _ (cB hl) ⟨l,rfl,hl,kl hd hl,hZ od hl,_,bG,?_⟩⟩
   rw [ek] at ka
   have:=Cb (K:=K) (N:=fun a=>(¬ O a∧H₀ a=none)∧a≠l) (o:=.lst (bs.map V.ref)) hl ka
   rw [List.map_map] at this
   exact this
  ·cases h
 ·cases h
noncomputable def lO (ls:List (List Key×D)):List (List Key×D)→Bool
  |[]=>true
  | (k,d)::r=>match cS ls k,d with
    |some (.int j),.int i=>(i==j)&&lO ls r
    |_,_=>false
noncomputable def i6 (ks:List (List Key×D)):Bool:=ks.all fun kv=>match kv.2 with
 |.int _=>true
 |_=>false
noncomputable def ou:M×D→M×D→Option (M×D)
 | (_,.dt ks),(_,.dt ls)=>if i6 ks=true∧i6 ls=true then some (.fr,.bl (!(ks.length==ls.length&&lO ls ks))) else none
 |_,_=>none
theorem Qz {ls:List (List Key×D)}{k:List Key}{d:D} (h:i6 ls=true) (e:cS ls k=some d):∃ j,d=.int j:=by
 unfold cS at e
 cases f:ls.find? fun kv=>decide (kv.1=k) with
 |none=>rw [f] at e;cases e
 |some kv =>
  rw [f] at e;cases e
  have:=List.all_eq_true.mp h kv (List.mem_of_find?_eq_some f)
  show ∃ j,kv.2=.int j
  cases q:kv.2<;>rw [q] at this<;>first|exact ⟨_,rfl⟩|cases this
theorem Fp {A:Around}{s:Shared}{N N':Addr→Prop}{j9:List (List Key×V)}{ls:List (List Key×D)}{ys:List (List Key×Addr×Value)} (Ji:KT H j9 ys) (Jj:Ent K N' H j9 ls) (il:i6 ls=true):∀ {ai:List (List Key×V)}{ks:List (List Key×D)}{xs:List (List Key×Addr×Value)},KT H ai xs→Ent K N H ai ks→i6 ks=true→iq A s ys xs (lO ls ks)
  |[],ks,_,.nil,en,_=>by
    cases ks with
    |nil=>exact .nil
    |cons _ _=>exact absurd en.len (by simp)
  |p::ai,ks,q::xs,.cons h t,en,ik=>by
    cases ks with
    |nil=>exact absurd en.len (by simp)
    |cons z ks =>
      obtain ⟨e,r,AG⟩:=en.cons_inv
      have AH:(match z.2 with|.int _=>true|_=>false)=true∧i6 ks=true:=by simpa [i6] using ik
      have ih:=Fp (A:=A) (s:=s) Ji Jj il t AG AH.2
      obtain ⟨k,d⟩:=z
      obtain ⟨k2,b,u⟩:=q
      obtain ⟨k3,x⟩:=p
      obtain ⟨h1,_,h2⟩:=h
      simp only at e h1 h2 r AH
      subst e h1
      cases d<;>try (exact absurd AH.1 Bool.false_ne_true)
      rename_i i
      obtain rfl:=r.int_inv
      obtain ⟨tk,rfl⟩:=(show ∃ t,u=Value.int i t from h2)
      have rel:=Ji.val k3
      simp only [lO]
      rcases Jj.val k3 with ⟨z1,z2⟩|⟨d',v',z1,z2,r'⟩
      · rw [z2] at rel
        rw [z1]
        refine .miss ?_
        cases w:atKey ys k3 with
        |none=>rfl
        |some y=>rw [w] at rel;exact rel.elim
      · rw [z2] at rel
        rw [z1]
        obtain ⟨j,rfl⟩:=Qz il z1
        obtain rfl:=r'.int_inv
        cases w:atKey ys k3 with
        |none=>rw [w] at rel;exact rel.elim
        |some y =>
          rw [w] at rel
          obtain ⟨Yt,e'⟩:=(show ∃ t,y.2=Value.int j t from rel)
          refine .hit w ?_ ih
          rw [e']
          exact SeqAt.EqAt.int_int i tk j Yt
noncomputable def He (K:PySem.W.Frag):R2:=fun x y H Q=>∃ a b ai j9 ks ls,x=.ref a∧y=.ref b∧Rd H a (.dT ai)∧Rd H b (.dT j9)∧Ent K (fun _=>True) H ai ks∧Ent K (fun _=>True) H j9 ls∧i6 ks=true∧i6 ls=true∧Q (.bl (!(ks.length==ls.length&&lO ls ks))) H
theorem TC {X:Cx} (h:X.K=K) (hu:X.A.units+64 < cLine):bx X (compareOp .NotEq) (He K):=by
 subst h
 intro pins s σ H x y v u Q I rx ry h
 obtain ⟨a,b,ai,j9,ks,ls,rfl,rfl,ra,rb,ea,eb,ia,ib,q⟩:=h
 cases rx
 cases ry
 obtain ⟨_,la,xs,ka,da⟩:=iV I.aE ra
 obtain ⟨_,lb,ys,kb,db⟩:=iV I.aE rb
 have e1:xs.length=ks.length:=by rw [←Paired.length ka,ea.len]
 have e2:ys.length=ls.length:=by rw [←Paired.length kb,eb.len]
 refine Yp la lb (tupleKind_room_in1 (show X.A.units+1 < cLine by omega)) da db (by omega) (fun _=>Fp kb eb ib ka ea ia) ?_
 rw [e1,e2]
 exact ⟨.bl _,H,I,rfl,q⟩
theorem TF:JR K (He K) ou:=by
 intro H₀ O H x y a b Q m d _ _ h1 h2 h q
 unfold ou at h
 split at h
 ·split at h
  ·rename_i hi
   cases h
   obtain ⟨p,ai,rfl,ra,ea⟩:=h1.dt
   obtain ⟨p',j9,rfl,rb,eb⟩:=h2.dt
   exact ⟨p,p',ai,j9,_,_,rfl,rfl,ra,rb,⟨ea.1,ea.2.wk fun _ _ _=>trivial⟩,⟨eb.1,eb.2.wk fun _ _ _=>trivial⟩,hi.1,hi.2,q _ H (aI.refl H) eZ⟩
  ·cases h
 ·cases h
def Ee:V→List V→Hp→VK→Prop:=fun x xs H Q=>∃ a ai,x=.ref a∧xs=[]∧H a=some (.dT ai)∧Q .non (upd H a (.dT []))
theorem MQ {X:Cx}:vD X "dict.clear" Ee:=by
 intro pins s σ H x xs v us Q I rx r h
 obtain ⟨a,ai,rfl,rfl,e,q⟩:=h
 cases rx
 cases r
 obtain ⟨z,lo,ys,rel,o,es,ep,ho,ex,hd,he,hn⟩:=(I.aE a _ e:b9 X.prog X.w H s.heap a (.dT ai))
 have fZ:es.size≤sizeLine:=by rw [←Array.length_toList,he,List.length_map,←Paired.length rel];exact z
 refine Tz ho ex hd fZ fun h' ⟨o',g1,g2,g3⟩ sb=>⟨.non,_,ud (ob:=.dT []) (t':=s.toks) I (by rw [e];exact True.intro) sb ⟨o',g1⟩ ⟨Nat.zero_le _,lo,[],.nil,o',#[],ep+1,g1,g2,g3,rfl,List.nodup_nil⟩,rfl,q⟩
noncomputable def xV (i:Nat):Ev→Option Fl:=fun e=>(iC i e).bind fun y=>some (.nx (e.set i (some (y.1,.dt []))))
theorem MR {i:Nat}:JS K (nP (qD K "dict" Ee (fQ i))) (xV i):=by
 intro H₀ I O H σ env Ds fl R e q
 obtain ⟨⟨m,ds⟩,ey,e⟩:=ay e
 cases e
 obtain ⟨p,ai,hp,hO,hx,r⟩:=R.Hc ey
 refine ⟨.ref p,hp,.inr (.inr (.inl ⟨rfl,.inr ⟨ai,hx⟩⟩)),p,ai,rfl,rfl,hx,?_⟩
 obtain ⟨R2,st⟩:=R.Hd (ys:=[]) (es:=[]) ey hp hx ⟨rfl,.nil⟩
 exact q O _ σ R2 st
theorem MS {X:Cx} (h:X.K=K) (hc:X.calm=true):gJ X (.builtin "sum") (fun xs H Q=>∃ (p:Addr) (ns:List Int),xs=[.ref p]∧bL K H p (ns.map V.int)∧Q (.int ns.sum) H):=by
 subst h
 intro pins s σ H xs us Q I r h
 obtain ⟨p,ns,rfl,hq,q⟩:=h
 obtain ⟨u,rfl,ru⟩:=vals1 r
 cases ru
 obtain ⟨its,rv,pl,hz⟩:=I.list hq
 have hi:=ints_of rv
 obtain ⟨ys,ey⟩:=hi.allInts.items
 refine sum_intListG (I.ok.hd hc) (by rw [←ey];exact pl.isList) fun h' tk t' hk=>⟨.int ns.sum,H,I.kept (t':=tk) hk,⟨t',?_⟩,q⟩
 rw [preSum_eq,List.take_of_length_le (by simp),←nums_intItems,←ey]
 rw [show its.toArray.toList=its from rfl,hi.numsOf]
noncomputable def qM:List (M×D)→Option (M×D)
 |[(_,.lst ds)]=>(nW ds).bind fun ns=>some (.fr,.int ns.sum)
 |_=>none
theorem QB:j5 K (fun xs H Q=>∃ (p:Addr) (ns:List Int),xs=[.ref p]∧bL K H p (ns.map V.int)∧Q (.int ns.sum) H) qM:=by
 intro H₀ O H vs aA Q m d _ _ hv h q
 unfold qM at h
 split at h
 ·obtain ⟨ns,en,h⟩:=ay h
  cases h
  obtain ⟨v,rfl,hw⟩:=hv.one
  obtain ⟨p,xs,rfl,hs,r⟩:=hw.lst
  rw [Dj r en] at hs
  exact ⟨p,ns,rfl,hs,q _ H (aI.refl H) ip⟩
 ·cases h
end
section
variable {K:PySem.W.Frag}{N:Addr→Prop}{H H' H₀:Hp}{I:Nat→Option Addr}{O:Addr→Prop}{σ:L2.St}{env:Ev}
noncomputable def Gi (K:PySem.W.Frag) (te:TE) (ts:TO):TE:=fun σ H Q=>te σ H fun x H1=>ts σ H1 fun k H2=>k=some (-1)∧∃ a xs,x=.ref a∧bL K H2 a xs∧∀ p,H2 p=none→Q (.ref p) (upd H2 p (.lst xs.reverse))
theorem QC {X:Cx}{e st:Expr}{te:TE}{ts:TO}{p2 pos:Pos} (hk:X.K=K) (he:PE X e te) (hs:PO X (some st) ts):PE X (.Subscript e (.Slice none none (some st) p2) pos) (Gi K te ts):=by
 subst hk
 intro pins s σ H Q I h
 refine Subscript_ (aF (he pins s σ H _ I h) fun v s1 ⟨x,H1,I1,r1,q1⟩=>?_)
 refine wpAny_Slice ?_
 rw [evalPart_none]
 refine wpAny_pure (wpAny_pure (aF (hs pins s1 σ H1 _ I1 q1) fun vk s2 ⟨k,H2,I2,pk,ek,a,xs,ex,hx,q⟩=>?_))
 subst ek ex
 cases r1
 have I4:L2.Inv X pins σ H2 { s2 with heap:=s2.heap.push { cls:=.type "slice",data:=.fields #[.none,.none,vk] } }:=I2.kept (t':=s2.toks) fun b ob q=>Heap.get?_push_of_some _ q
 obtain ⟨its,r,ht,hz⟩:=I4.list hx
 have hlen:=r.length
 show wpAny (model X.prog X.w) X.A (subscriptTail e (.Slice none none (some st) p2) (.ref a) (.ref s2.heap.objs.size)) (EP X pins σ Q) X.xe { s2 with heap:=s2.heap.push { cls:=.type "slice",data:=.fields #[.none,.none,vk] } }
 refine tail_any (ops:=[.ref a,.ref s2.heap.objs.size]) ht.isList.typeIs slot_list_getitem.lookup (wpAny_getItem_list_slice ht.isList (Heap.IsSliceOf.new ..) .none .none pk (by decide) ?_ (by rw [List.size_toArray]<;>omega)) (by with_unfolding_all rfl)
 rw [PySem.W.krv_pick]
 refine ⟨.ref _,_,I4.laid (t':=s2.toks) (o:=.lst xs.reverse) (fun b ob q=>Heap.get?_push_of_some _ q) (Nat.le_refl _) ?_,rfl,q _ (I4.aE.fresh (Nat.le_refl _))⟩
 exact ⟨by rw [List.length_reverse];exact hz,_,0,r.reverse,Heap.get?_push_size _ rfl⟩
noncomputable def Gj:M×D→Option (M×D)
 | (m,.lst ds)=>eR m ds.reverse
 |_=>none
noncomputable def uQ (f:Ev→Option (M×D)) (l:Ev→Option (Option Int)):Ev→Option (M×D):=fun e=>(f e).bind fun x=>(l e).bind fun k=>if k=some (-1) then Gj x else none
theorem QD {te:TE}{ts:TO}{f:Ev→Option (M×D)}{l:Ev→Option (Option Int)} (he:JT K te f) (hs:oM K ts l):JT K (Gi K te ts) (uQ f l):=by
 intro H₀ O H σ env Q m d R h q
 obtain ⟨x,ex,h⟩:=ay h
 obtain ⟨k,ek,h⟩:=ay h
 split at h
 ·rename_i hk
  refine he H₀ O H σ env _ x.1 x.2 R ex fun v H1 s1 h1=>?_
  refine hs H₀ O H1 σ env _ k (R.keep s1) ek fun H2 s2=>⟨hk,?_⟩
  have R2:=(R.keep s1).keep s2
  have h2:=(h1.keep s2).h0
  obtain ⟨mx,dx⟩:=x
  cases dx<;>try (cases h;done)
  obtain ⟨p,xs,rfl,r,s⟩:=h2.lst
  exact ⟨p,xs,rfl,r,fun l hl=>q _ _ ((s1.trans s2).trans (cB hl)) ((p7 R2.od R2.hd hl s.rev h).hb fun a z=>(s1.trans s2).free z)⟩
 ·cases h
noncomputable def qy (n:Nat):List V:=(List.range n).map fun (k:Nat)=>.int (0+(k:Int))
noncomputable def Jk (ta:TA):TE:=fun σ H Q=>ta σ H fun vs H1=>∃ j:Int,vs=[.int j]∧-(2 ^ 62)≤j∧j≤16777216∧∀ l,H1 l=none→Q (.ref l) (upd H1 l (.lst (qy j.toNat)))
theorem pS:∀ {n:Nat}{acc:List Value}{c:Int},acc.length=n→(∀ (j:Nat) v,acc[j]?=some v→∃ t,v=.int (c+(j:Int)) t)→Vals ((List.range n).map fun (k:Nat)=>V.int (c+(k:Int))) acc
 |_,[],_,e,_=>by subst e;exact .nil
 |_,v::acc,c,e,h=>by
  subst e
  rw [List.length_cons,List.range_succ_eq_map,List.map_cons,List.map_map]
  refine .cons (h 0 v rfl) ?_
  have:=pS (c:=c+1) (acc:=acc) rfl fun j w hw=>by
   obtain ⟨t,e⟩:=h (j+1) w (by simpa using hw)
   exact ⟨t,by rw [e];congr 1;omega⟩
  have e2:((fun (k:Nat)=>V.int (c+(k:Int)))∘Nat.succ)=fun (k:Nat)=>V.int (c+1+(k:Int)):=funext fun k=>by
   show V.int (c+((k+1:Nat):Int))=_
   congr 1;omega
  rw [e2]
  exact this
theorem Vo {X:Cx}{a:Expr}{ta:TA}{p pos p' pos':Pos} (hc:X.calm=true) (Yu:Gl X "list") (oQ:X.mg "list" = none) (hg:Gl X "range") (hm:X.mg "range" = none) (ha:PA X [a] ta) (hs:starEach [a] X.env=[(false,eval a X.env)]:=by rfl):PE X (.Call (.Name "list" p') [.Call (.Name "range" p) [a] [] pos] [] pos') (Jk ta):=by
 intro pins s σ H Q I h
 refine Call_ (ko I Yu oQ PyProof.Rows.Boot.«list» (PyProof.Rows.callWith_type1 ?_ rfl rfl))
 show wpAny _ _ (spliced ((false,eval (.Call (.Name "range" p) [a] [] pos) X.env)::backTo pos' (starEach [] X.env))) _ _ s
 refine Calls.spliced_cons ?_
 refine Call_ (ko I hg hm boot_range (PyProof.Rows.callWith_type1 (aF (ha pos pins s σ H _ I h) fun us s1 ⟨vs,H1,I1,r1,q1⟩=>?_) hs rfl))
 obtain ⟨j,e,q1,q2,q⟩:=q1
 subst e
 cases r1 with
 |cons r rr =>
  cases rr
  obtain ⟨t,rfl⟩:=r
  refine call_range_1 (args_nil ?_)
  have h62:(2:Int) ^ 62=4611686018427387904:=by decide
  have en:Builtin.Range.rangeSize 0 j 1=(j.toNat:Int):=by rw [rangeSize_one];split<;>omega
  refine call_list_range (I1.ok.hd hc) (IsRange.new ..) (small_one (by omega) (by omega) q1 (by omega)) en (by rw [show (2:Nat) ^ 24=16777216 by decide];omega) fun h' tk acc c hk hS hI=>?_
  have I2:L2.Inv X pins σ H1 { s1 with heap:=s1.heap.push { cls:=.type "range",data:=.fields #[.int 0 s1.toks,.int j t,.int 1 (s1.toks+1)] },toks:=s1.toks+1+1 }:=I1.kept (t':=s1.toks+1+1) fun b o e=>Heap.get?_push_of_some _ e
  refine ⟨.ref _,_,I2.laid (t':=tk) (o:=.lst (qy j.toNat)) hk (Nat.le_refl _) ?_,rfl,q _ (I2.aE.fresh (Nat.le_refl _))⟩
  refine ⟨?_,acc.toList,c,pS (by rw [Array.length_toList];exact hI.1) (fun i v hv=>?_),by rw [Array.toArray_toList];exact hS⟩
  ·have:sizeLine=16777216:=by decide
   rw [this,qy,List.length_map,List.length_range];omega
  ·obtain ⟨t',e⟩:=hI.2 i v (by rw [←Array.getElem?_toList];exact hv)
   exact ⟨t',by rw [e,Int.mul_one]⟩
noncomputable def vU (fs:Ev→Option (List (M×D))):Ev→Option (M×D):=fun e=>(fs e).bind fun l=>match l with
 |[(_,.int j)]=>if -4611686018427387904≤j∧j≤16777216 then some (.un,.lst (bT 0 j.toNat)) else none
 |_=>none
theorem QF:∀ n,aw K N H (qy n) (bT 0 n):=fun n=>by
 unfold qy bT
 induction (List.range n) with
 |nil=>exact .nil
 |cons a l ih=>exact .cons (.int _) ih
theorem Vp {t:TA}{fs:Ev→Option (List (M×D))} (h:hJ K t fs):JT K (Jk t) (vU fs):=by
 intro H₀ O H σ env Q m d R e q
 obtain ⟨l,el,e⟩:=ay e
 split at e
 ·split at e
  ·rename_i hj
   cases e
   refine h H₀ O H σ env _ _ R el fun vs H1 s1 h1=>?_
   obtain ⟨v,rfl,hv⟩:=h1.one
   obtain rfl:=hv.int
   have R1:=R.keep s1
   exact ⟨_,rfl,by rw [vO];exact hj.1,hj.2,fun l hl=>q _ _ (s1.trans (cB hl)) ((pY R1.od R1.hd hl (QF _)).hb fun a z=>s1.free z)⟩
  ·cases e
 ·cases e
end
end J
namespace J
open PySem L2
noncomputable def vm (K:PySem.W.Frag) (n:Nat) (F:List D→Option D):Sp:=fun vs H Q _=>vs.length=n∧∃ ds d,uw K H [0] vs ds∧F ds=some d ∧
 ∀ p H',(iL [0] vs p∨H p=none)→(∀ a o,¬ iL [0] vs a→H a=some o→H' a=some o)→(∀ a o,H a=some o→∃ o',H' a=some o')→Cell K (fun _=>False) H' p d→Q (.ref p) H'
noncomputable def kC:Fl→Option D
 |.rt _ m d=>if own m=true∧gD d=true then some d else none
 |_=>none
noncomputable def i7 (L:Nat) (g:Ev→Option Fl):List D→Option D:=fun ds=>(g (iR [0] ds++List.replicate (L-ds.length) none)).bind kC
section
variable {K:PySem.W.Frag}{H H' H₀:Hp}{I:Nat→Option Addr}{O O':Addr→Prop}{σ:L2.St}{env:Ev}
theorem MT {ts:TS}{g:Ev→Option Fl}{n:Nat}{N:List Str}{vs:List V}{Q:VK}{E:XK} (h:JS K ts g) (hs:vm K n (i7 N.length g) vs H Q E):ts { nx:=fun _ H'=>Q .non H',rt:=Q } (L2.start N vs) H:=by
 obtain ⟨hl,ds,d,A,e,q⟩:=hs
 obtain ⟨fl,ef,eo⟩:=ay e
 obtain ⟨I0,oP,R⟩:=Lp (N:=N) A
 refine h H I0 (iL [0] vs) H _ _ _ fl R ef ?_
 cases fl with
 |nx e'=>cases eo
 |bk e'=>cases eo
 |ct e'=>cases eo
 |rt e' m' d' =>
  intro O' H' σ' v R' st hv
  unfold kC at eo
  simp only at eo
  split at eo
  ·rename_i hm
   cases eo
   have hc:∃ p,v=.ref p∧O' p∧Cell K (fun _=>False) H' p d:=by
    cases m'<;>try (cases hm.1;done)
    ·obtain ⟨p,rfl,o,_,c⟩:=hv;exact ⟨p,rfl,o,c.im hm.2⟩
    ·obtain ⟨p,rfl,o,c⟩:=hv;exact ⟨p,rfl,o,c.im hm.2⟩
   obtain ⟨p,rfl,o,c⟩:=hc
   refine q p H' ?_ (fun a o n e=>R'.fr a o (fun i z=>n ⟨i,(oP z).1,(oP z).2⟩) e) R'.e.hd c
   rcases R'.ow p o with ⟨i,z⟩|z
   ·exact .inl ⟨i,(oP z).1,(oP z).2⟩
   ·exact .inr z
  ·cases eo
noncomputable def jD (sl:List Nat) (pos:List (Nat×Nat)) (F:List D→Option D) (fs:Ev→Option (List (M×D))):Ev→Option Fl:=fun e=>(fs e).bind fun aA=>if j7 [0] sl pos aA=true then (F (aA.map (·.2))).bind fun d=>match aA with
 | (m,_)::_=>some (.rt (e.map fun _=>none) m d)
 |[]=>none else none
theorem pZ {i:Nat}{x:M×D} (h:(env.map fun _=>(none:Option (M×D)))[i]?=some (some x)):False:=by
 rw [List.getElem?_map] at h
 cases q:env[i]? with
 |none=>rw [q] at h;cases h
 |some y=>rw [q] at h;cases h
theorem Oc {n:Nat}{sl:List Nat}{pos:List (Nat×Nat)}{F:List D→Option D}{fs:Ev→Option (List (M×D))}{ta:TA}{E:XK} (ha:lj K ta fs pos) (hl:∀ e aA,fs e=some aA→aA.length=n):JS K (uY (qo (vm K n F) [] E ta)) (jD sl pos F fs):=by
 intro H₀ I O H σ env Ds fl R e q
 obtain ⟨aA,em,e⟩:=ay e
 split at e
 ·rename_i hb
  have ok:=Te hb
  obtain ⟨d,eF,e⟩:=ay e
  cases aA with
  |nil=>cases e
  |cons x0 rest =>
   obtain ⟨m0,d0⟩:=x0
   cases e
   refine ha H₀ O H σ env _ _ R.e em fun vs H1 s1 hv hp=>?_
   have R1:=R.keep s1
   obtain ⟨qL,lZ,sub,A⟩:=Qi R R1 ok hv hp
   rw [List.append_nil]
   refine ⟨by rw [←Paired.length hv];exact hl _ _ em,_,d,A,eF,fun p H2 AI kp Yv c=>?_⟩
   obtain ⟨om,cm⟩:=ok.c4 0 _ (List.mem_singleton.mpr rfl) rfl
   have Yw:¬ O p→H1 p=none:=fun z=>AI.elim (fun w=>absurd (sub p w) z) id
   have Yx:O p∨H₀ p=none:=by
    rcases AI with w|w
    ·exact .inl (sub p w)
    ·right
     cases z:H₀ p with
     |none=>rfl
     |some o=>obtain ⟨o',z⟩:=R1.e.hd p o z;rw [w] at z;cases z
   have Yy:m0=.bo→H₀ p=none:=fun hm=>by
    rcases AI with ⟨i,hi,j8⟩|w
    ·obtain ⟨k,j,x,hk,hj,hx,hs,he,_⟩:=lZ hi j8
     have Yz:i=0:=List.mem_singleton.mp hi
     subst Yz
     simp at hx
     subst hx
     obtain ⟨v,f7,_,hz⟩:=R1.e.at he
     rw [hs] at f7;cases f7
     rw [hm] at hz
     obtain ⟨p',e',_,z,_⟩:=hz
     cases e';exact z
    ·cases z:H₀ p with
     |none=>rfl
     |some o=>obtain ⟨o',z⟩:=R1.e.hd p o z;rw [w] at z;cases z
   have R2:Rel K H₀ I (fun a=>a=p∨(O a∧¬ iL [0] vs a)) H2 σ (env.map fun _=>none):=by
    refine ⟨⟨lA (by rw [List.length_map];exact Paired.length R.e.sl) (fun j a b h1 _ m d ea=>by subst ea;exact (pZ h1).elim),?_,?_,?_⟩,?_,?_,fun i d p h1=>(pZ h1).elim,fun i j x y p h1=>(pZ h1).elim,⟨fun i j d d' h1=>(pZ h1).elim,fun i j d x p q xs h1=>(pZ h1).elim⟩⟩
    ·rintro a (rfl|⟨ho,ni⟩)
     ·obtain ⟨o,eo,_⟩:=c.some;exact ⟨o,eo⟩
     ·obtain ⟨o,eo⟩:=R1.e.od a ho;exact ⟨o,kp a o ni eo⟩
    ·intro a o h0
     obtain ⟨o',h1⟩:=R1.e.hd a o h0
     exact Yv a o' h1
    ·rintro a o (rfl|⟨ho,ni⟩) ea
     ·obtain ⟨o',eo,nt⟩:=c.some;rw [eo] at ea;cases ea;exact nt
     ·obtain ⟨o',eo⟩:=R1.e.od a ho
      have:=kp a o' ni eo
      rw [this] at ea;cases ea
      exact R1.e.on a _ ho eo
    ·intro a o ni h0
     refine kp a o (fun w=>?_) (R1.fr a o ni h0)
     rcases R1.ow a (sub a w) with ⟨i,z⟩|z
     ·exact ni i z
     ·rw [z] at h0;cases h0
    ·rintro a (rfl|⟨ho,_⟩)
     ·rcases Yx with z|z
      ·exact R1.ow a z
      ·exact .inr z
     ·exact R1.ow a ho
   refine q (fun a=>a=p∨(O a∧¬ iL [0] vs a)) H2 σ (.ref p) R2 (fun a o ha no=>⟨kp a o (fun w=>no (sub a w)) (s1 _ _ ha),?_⟩) ?_
   ·rintro (rfl|⟨ho,_⟩)
    ·have:=Yw no
     rw [s1 _ _ ha] at this;cases this
    ·exact no ho
   ·cases m0<;>try (cases om;done)
    ·exact ⟨p,rfl,.inl rfl,Yy rfl,c.wk fun _ z _=>z.elim⟩
    ·exact ⟨p,rfl,.inl rfl,c.wk fun _ z _=>z.elim⟩
 ·cases e
end
end J
set_option genInjectivity false
set_option genSizeOf false
namespace C
open PySem PySem.Spec L2 J
inductive Bo where|add|sub|mul|div|mod|pow|shl|band|bor
inductive Co where|lt|le|gt|eq|ne|rM|ll|vV|oR|mN|vW|neT
inductive Uo where|neg|inv
inductive Fb where|int|list|len|oS|max|uR|sum
noncomputable def Bo.op:Bo→Operator
 |.add=>.Add
 |.sub=>.Sub
 |.mul=>.Mult
 |.div=>.FloorDiv
 |.mod=>.Mod
 |.pow=>.Pow
 |.shl=>.LShift
 |.band=>.BitAnd
 |.bor=>.BitOr
noncomputable def Bo.g:Bo→M×D→M×D→Option (M×D)
 |.add=>bB
 |.sub=>gR
 |.mul=>eE
 |.div=>bW
 |.mod=>aT
 |.pow=>gq
 |.shl=>lV
 |.band=>iW
 |.bor=>kW
theorem Bo.ok {K:PySem.W.Frag}:∀ o:Bo,∃ r,(∀ Z:Cx,Z.K=K→bx Z (binaryOp o.op) r)∧JR K r o.g
 |.add=>⟨_,fun _ h=>P9 h,Qa⟩
 |.sub=>⟨_,fun _ _=>RC,Ss⟩
 |.mul=>⟨_,fun _ _=>RD,Sv⟩
 |.div=>⟨_,fun _ _=>NS,PV⟩
 |.mod=>⟨_,fun _ _=>RH,Sw⟩
 |.pow=>⟨_,fun _ _=>RJ,Sx⟩
 |.shl=>⟨_,fun _ _=>RK,Sy⟩
 |.band=>⟨_,fun _ _=>RL,PR⟩
 |.bor=>⟨_,fun _ _=>UL,S6⟩
noncomputable def Co.op:Co→CmpOp
 |.lt=>.Lt
 |.le=>.LtE
 |.gt=>.Gt
 |.eq=>.Eq
 |.ne=>.NotEq
 |.rM=>.IsNot
 |.ll=>.In
 |.vV=>.NotIn
 |.oR=>.Eq
 |.mN=>.NotEq
 |.vW=>.NotIn
 |.neT=>.NotEq
noncomputable def Co.g:Co→M×D→M×D→Option (M×D)
 |.lt=>fq
 |.le=>oK
 |.gt=>gC
 |.eq=>aN
 |.ne=>ft
 |.rM=>qu
 |.ll=>dN false
 |.vV=>dN true
 |.oR=>gu
 |.mN=>fS
 |.vW=>mh true
 |.neT=>ou
theorem Co.ok {K:PySem.W.Frag}:∀ o:Co,∃ r,(∀ Z:Cx,Z.K=K→Z.A.units+64 < cLine→bx Z (compareOp o.op) r)∧JR K r o.g
 |.lt=>⟨_,fun _ _ _=>UO,U1⟩
 |.le=>⟨_,fun _ _ _=>UQ,U2⟩
 |.gt=>⟨_,fun _ _ _=>UR,U3⟩
 |.eq=>⟨_,fun _ _ _=>UM,U4⟩
 |.ne=>⟨_,fun _ _ _=>UN,U5⟩
 |.rM=>⟨_,fun _ _ _=>OY,Pp⟩
 |.ll=>⟨_,fun _ h _=>LX h,Gd⟩
 |.vV=>⟨_,fun _ h _=>K5 h,Gd⟩
 |.oR=>⟨_,fun _ h u=>Tj h u,Tf⟩
 |.mN=>⟨_,fun _ h u=>Tn h u,Ti⟩
 |.vW=>⟨_,fun _ h u=>L0 h u,Tp⟩
 |.neT=>⟨_,fun _ h u=>TC h u,TF⟩
noncomputable def Uo.op:Uo→UnaryOp
 |.neg=>.USub
 |.inv=>.Invert
noncomputable def Uo.g:Uo→M×D→Option (M×D)
 |.neg=>df
 |.inv=>kU
theorem Uo.ok {K:PySem.W.Frag}:∀ o:Uo,∃ r,(∀ Z:Cx,qZ Z (unaryOp o.op) r)∧JU K r o.g
 |.neg=>⟨_,fun _=>RM,S4⟩
 |.inv=>⟨_,fun _=>RN,S5⟩
noncomputable def Fb.nm:Fb→String
 |.int => "int"
 |.list => "list"
 |.len => "len"
 |.oS => "isinstance"
 |.max => "max"
 |.uR => "list"
 |.sum => "sum"
noncomputable def Fb.g:Fb→List (M×D)→Option (M×D)
 |.int=>kQ
 |.list=>lM
 |.len=>bz
 |.oS=>jO
 |.max=>qH
 |.uR=>qi
 |.sum=>qM
inductive Gv where|s (x:Str)|t (l:List Str)
noncomputable def Gv.d:Gv→D
 |.s x=>.str x
 |.t l=>.tup (l.map .str)
mutual
inductive X where|v (i:Nat)|ki (i:Int)|ks (s:Str)|kb (b:Bool)|kn|ty (n:String)|bo (o:Bo) (a b:X)|co (o:Co) (a b:X)|uo (o:Uo) (a:X)|an (a b:X)|or (a b:X)|nt (a:X)|ie (t:T) (a b:X)|tu (l:A)|li (l:A)|dK|d1 (a b:X)|ix (a b:X)|dg (a b:X)|sl (a:X) (lo hi:P)|dT|vX (d k x:X)|rs (a:X) (p:P)|lr (l:A)|fb (f:Fb) (l:A)|ca (f:Nat) (l:A)|cp (i:I) (ix:List Nat) (t:T) (e:X)
inductive A where|n|c (a:X) (l:A)
inductive T where|b (x:X)|c (o:Co) (a b:X)|d (n:Bool) (a b:X)|h (o p:Co) (a b c:X)|an (a b:T)|or (a b:T)|nt (a:T)|y
inductive P where|n|s (x:X)
inductive I where|r1 (l:A)|r2 (l:A)|en (l:A)|s (x:X)|t (x:X)|l (x:X)
end
mutual
inductive G where|n (i:Nat)|t (k:Nat) (l:Gs)|l (k:Nat) (l:Gs)
inductive Gs where|n|c (g:G) (l:Gs)
end
inductive L where|rt (x:X)|ct|st (i:Nat) (x:X)|sc (j:Nat) (i:I) (ix:List Nat) (q:T) (e:X)|as (g:G) (x:X)|si (k:Nat) (i x:X)|dp (k:Nat) (i x:X)|ap (k:Nat) (x:X)|na (k:Nat) (i x:X)|po (i k:Nat)|cl (k:Nat)|ne (i:Nat) (it:I)|tp (k:Nat) (i x:X)|tc (k:Nat)|rO (f:Nat) (sl:List Nat) (l:A)
mutual
inductive S where|l (x:L)|ie (t:T) (a b:B)|fo (i:I) (g:G) (b:B)|fv (k:Nat) (g:G) (b:B)|wh (t:T) (b:B)|fz (k:Nat) (s:S)
inductive B where|n|o (s:S)|c (s:S) (b:B)
end
inductive FT where
 |p (F:List D→Option (M×D))|oo (F:List D→Option D)
noncomputable def FT.f:Option FT→List D→Option (M×D)
 |some (.p F)=>F
 |_=>fun _=>none
noncomputable def FT.q:Option FT→List D→Option D
 |some (.oo F)=>F
 |_=>fun _=>none
mutual
noncomputable def eX (t:List FT):X→Ev→Option (M×D)
 |.v i=>jV i
 |.ki i=>jC (.int i)
 |.ks s=>jC (.str s)
 |.kb b=>jC (.bl b)
 |.kn=>jC .non
 |.ty n=>jC (.ty n)
 |.bo o a b=>ae o.g (eX t a) (eX t b)
 |.co o a b=>ae o.g (eX t a) (eX t b)
 |.uo o a=>bN o.g (eX t a)
 |.an a b=>kO (eX t a) (eX t b)
 |.or a b=>rB (eX t a) (eX t b)
 |.nt a=>zt (eX t a)
 |.ie c a b=>oh (eT t c) (eX t a) (eX t b)
 |.tu l=>aQ (eA t l)
 |.li l=>bE (eA t l)
 |.dK=>nH
 |.d1 a b=>yT (eX t a) (eX t b)
 |.ix a b=>ae ak (eX t a) (eX t b)
 |.dg a b=>qv (eX t a) (eX t b)
 |.sl a lo hi=>fu f9 (eX t a) (eP t lo) (eP t hi)
 |.dT=>nX
 |.vX d k x=>qh (eX t d) (eX t k) (eX t x)
 |.rs a p=>uQ (eX t a) (eP t p)
 |.lr l=>vU (eA t l)
 |.fb f l=>aJ f.g (eA t l)
 |.ca f l=>ax (FT.f t[f]?) (eA t l)
 |.cp i ix c e=>cf (eI t i) ix (eT t c) (eX t e)
noncomputable def eA (t:List FT):A→Ev→Option (List (M×D))
 |.n=>ah
 |.c a l=>ag (eX t a) (eA t l)
noncomputable def eT (t:List FT):T→Ev→Option Bool
 |.b x=>jB (eX t x)
 |.c o a b=>jB (ae o.g (eX t a) (eX t b))
 |.d n a b=>jB (dO n (eX t a) (eX t b))
 |.h o p a b c=>jB (nD o.g p.g (eX t a) (eX t b) (eX t c))
 |.an a b=>cX (eT t a) (eT t b)
 |.or a b=>cY (eT t a) (eT t b)
 |.nt a=>fC (eT t a)
 |.y=>dA
noncomputable def eP (t:List FT):P→Ev→Option (Option Int)
 |.n=>gS
 |.s x=>dM (eX t x)
noncomputable def eI (t:List FT):I→Ev→Option (M×List D)
 |.r1 l=>bP (eA t l)
 |.r2 l=>qI (eA t l)
 |.en l=>gb (eA t l)
 |.s x=>As (eX t x)
 |.t x=>II (eX t x)
 |.l x=>bO (eX t x)
end
mutual
noncomputable def eG:G→M×D→Ev→Option Ev
 |.n i=>gN i
 |.t k l=>gT k (vY l)
 |.l k l=>gL k (vY l)
noncomputable def vY:Gs→M→List D→Ev→Option Ev
 |.n=>du
 |.c g l=>bJ (eG g) (vY l)
end
noncomputable def qN:A→List (Nat×Nat)
 |.n=>[]
 |.c (.v i) l=>(0,i)::vQ (qN l)
 |.c _ l=>vQ (qN l)
noncomputable def eL (t:List FT):L→Ev→Option Fl
 |.rt x=>aG (eX t x)
 |.ct=>yQ
 |.st i x=>ao i (eX t x)
 |.sc j i ix q e=>ao j (eX t (.cp i ix q e))
 |.as g x=>lY (eG g) (eX t x)
 |.si k i x=>c9 k (eX t i) (eX t x)
 |.dp k i x=>iY k (eX t i) (eX t x)
 |.ap k x=>cE k (eX t x)
 |.na k i x=>qw k (eX t i) (eX t x)
 |.po i k=>kR i k
 |.cl k=>yl k
 |.ne i it=>uP i (eI t it)
 |.tp k i x=>gM k (eX t i) (eX t x)
 |.tc k=>xV k
 |.rO f sl l=>jD sl (qN l) (FT.q t[f]?) (eA t l)
mutual
noncomputable def eS (t:List FT):S→Ev→Option Fl
 |.l x=>eL t x
 |.ie c a b=>aK (eT t c) (eB t a) (eB t b)
 |.fo i g b=>aY (eI t i) (eG g) (eB t b)
 |.fv k g b=>qx k (eG g) (eB t b)
 |.wh c b=>gk (eT t c) (eB t b)
 |.fz k s=>cN k (eS t s)
noncomputable def eB (t:List FT):B→Ev→Option Fl
 |.n=>aR
 |.o s=>eS t s
 |.c s b=>aj (eS t s) (eB t b)
end
end C
set_option genInjectivity true
set_option genSizeOf true
namespace C
open PySem PySem.Spec L2 J
noncomputable def dD:Expr→Bool
 |.Starred ..=>false
 |_=>true
noncomputable def mO:Expr→Bool
 |.Slice ..=>false
 |_=>true
noncomputable def rN:Expr→Bool
 |.Name ..=>true
 |.Call ..=>true
 |.Subscript ..=>true
 |_=>false
noncomputable def rP:Expr→Bool
 |.Name ..=>true
 |.Constant ..=>true
 |.Subscript ..=>true
 |.Call _ (_::_) _ _=>true
 |_=>false
noncomputable def jS:Expr→Bool
 |.Set ..=>false
 |_=>true
noncomputable def lP:Expr→Bool
 |.ListComp ..=>false
 |.SetComp ..=>false
 |.DictComp ..=>false
 |_=>true
noncomputable def yV:Expr→Bool
 |.Tuple ..=>true
 |_=>false
theorem cC {e:Expr} (h:dD e=true) {es:List Expr}{env:Env}:starEach (e::es) env=(false,eval e env)::starEach es env:=by
 cases e<;>first|rfl|cases h
theorem Gk {i:Expr} (h:mO i=true):DV i:=by
 intro o v;cases i<;>first|rfl|cases h
theorem QG {i:Expr} (h:mO i=true):zi i:=by
 intro o v;cases i<;>first|rfl|cases h
theorem TH {i o:Expr}{pos:Pos}{env:Env} (h:mO i=true) (v:Value):assign (Expr.Subscript o i pos) env v=(do
  let ov ←holding [v] (eval o env)
  let iv ←holding [v,ov] (eval i env)
  standAt pos
  holding [v,ov,iv] (setItem ov iv v)
  PySem.release [v,ov,iv] []):=by
 cases i<;>first|rfl|cases h
theorem TJ {a:Expr}{env:Env} (h:rN a=true) (whole:Sem Value):PySem.isTrue a env whole=(do
  let v ←whole
  standAt (Expr.pos a)
  holding [v] (truthy v)):=by
 cases a<;>first|rfl|cases h
theorem qj {o:Expr}{m:Str}{env:Env}{w:Sem Value} (h:rP o=true):attributeBase o m env w=w:=by
 cases o<;>first|rfl | (cases h;done)|skip
 rename_i f l kw p
 cases l with
 |nil=>cases h
 |cons a l=>cases f<;>rfl
theorem uk {op:CmpOp}{e:Expr} (h:jS e=true):behindInMarks op e=false:=by
 cases e<;>first|rfl|cases h
theorem km {e:Expr}{env:Env} (h:jS e=true) (x:Value):foldedSetIterable e env x=pure x:=by
 cases e<;>first|rfl|cases h
noncomputable def AJ (sc:Scope) (x:Str):Bool:=match sc.names.lookup x with
 |some .local=>true
 |some .cell=>true
 |some .free=>true
 |_=>false
theorem Fq {sc:Scope}{x:Str} (h:AJ sc x=true):vv sc x:=by
 unfold AJ at h;unfold vv
 split at h<;>first|exact absurd h Bool.false_ne_true|simp_all
noncomputable def gl (sc:Scope) (x:Str):Bool:=match sc.names.lookup x with
 |some .globalImplicit=>true
 |_=>false
theorem Vq {sc:Scope}{x:Str} (h:gl sc x=true):sc.names.lookup x=some .globalImplicit:=by
 unfold gl at h
 split at h<;>first|exact absurd h Bool.false_ne_true|assumption
noncomputable def rl (sc aB:Scope):Scope :=
  { kind:=aB.kind,names:=aB.names.map (fun (n,k)=>if (k==NameKind.free&&sc.kind==ScopeKind.function&&sc.names.lookup n==some NameKind.cell)=true then (n,NameKind.cell) else (n,k)),
    isGenerator:=aB.isGenerator,isCoroutine:=aB.isCoroutine,more:=aB.more }
noncomputable def AK (N N':List Str) (sc aB:Scope) (x:Str) (ix:List Nat):Bool :=
 decide (aB.kind=.function∧(∀ y∈aB.names,y.2≠.cell)∧(∀ y∈aB.names,y.2=.local→aB.names.lookup y.1=some .local)∧aB.names.lookup x=some .local ∧
  (∀ y∈aB.names,y.2=.free→sc.names.lookup y.1=some .cell)∧N'.Nodup∧N'[0]?=some x∧N'.length=ix.length+1 ∧
  (∀ p∈ix.zip N'.tail,N[p.1]?=some p.2∧sc.names.lookup p.2=some .cell∧aB.names.lookup p.2=some .free))
theorem yu {N N':List Str}{sc aB:Scope}{x:Str}{ix:List Nat} (h:AK N N' sc aB x ix=true):lG N N' sc aB x ix:=by
 obtain ⟨h1,h2,h3,h4,h5,h6,h7,h8,h9⟩:=of_decide_eq_true h
 exact ⟨h1,h2,h3,h4,h5,h6,h7,h8,h9⟩
structure Fi where
 nm:Str
 ar:Nat
 lv:Nat
 io:Option (List Nat):=none
noncomputable def Gv.is:Gv→Gv→Bool
 |.s x,.s y=>decide (x=y)
 |.t x,.t y=>decide (x=y)
 |_,_=>false
structure Cf where
 bs:List String
 gs:List (Str×Gv)
 fs:List Fi
noncomputable def ns (N:List Str) (x:Str) (ix:List Nat):List Str:=x::ix.map fun i=>(N[i]?).getD ""
noncomputable def tys:List String:=["bool", "int", "str", "tuple", "list", "dict"]
noncomputable def nin (n:Bool):CmpOp:=if n then .NotIn else .In
noncomputable def on {α:Type} (o:Option α) (f:α→Bool):Bool:=match o with
 |some a=>f a
 |none=>false
theorem aD {α:Type}{o:Option α}{f:α→Bool} (h:on o f=true):∃ a,o=some a∧f a=true:=by
 cases o with
 |none=>cases h
 |some a=>exact ⟨a,rfl,h⟩
noncomputable def oT:Expr→Option Str
 |.Name x _=>some x
 |_=>none
noncomputable def eK:Expr→Option Const
 |.Constant c _ _=>some c
 |_=>none
noncomputable def Jl:Const→Option Int
 |.int i=>some i
 |_=>none
noncomputable def Jm:Const→Option Str
 |.str i=>some i
 |_=>none
noncomputable def Jn:Const→Option Bool
 |.bool i=>some i
 |_=>none
noncomputable def Jo:Const→Bool
 |.none=>true
 |_=>false
noncomputable def Jp:Expr→Option (Expr×Operator×Expr)
 |.BinOp l op r _=>some (l,op,r)
 |_=>none
noncomputable def vZ:Expr→Option (UnaryOp×Expr)
 |.UnaryOp op e _=>some (op,e)
 |_=>none
noncomputable def AO:Expr→Option (Expr×List CmpOp×List Expr)
 |.Compare l ops rs _=>some (l,ops,rs)
 |_=>none
noncomputable def l1 {α:Type}:List α→Option α
 |[a]=>some a
 |_=>none
noncomputable def l2 {α:Type}:List α→Option (α×α)
 |[a,b]=>some (a,b)
 |_=>none
noncomputable def oU {α:Type}:List α→Option (α×List α)
 |a::l=>some (a,l)
 |_=>none
noncomputable def v3 (e:Expr):Option (Expr×CmpOp×Expr):=(AO e).bind fun q=>(l1 q.2.1).bind fun op=>(l1 q.2.2).map fun r=>(q.1,op,r)
noncomputable def Jq (e:Expr):Option (Expr×CmpOp×CmpOp×Expr×Expr):=(AO e).bind fun q=>(l2 q.2.1).bind fun op=>(l2 q.2.2).map fun r=>(q.1,op.1,op.2,r.1,r.2)
noncomputable def Jr:Expr→Option (BoolOp×List Expr×Pos)
 |.BoolOp op vs pos=>some (op,vs,pos)
 |_=>none
noncomputable def qP (o:BoolOp) (e:Expr):Option (Expr×Expr):=(Jr e).bind fun q=>if q.1=o then (oU q.2.1).bind fun a=>(oU a.2).map fun b=>(a.1,match b.2 with
 |[]=>b.1
 |_=>.BoolOp o (b.1::b.2) q.2.2) else none
noncomputable def Js:Expr→Option (Expr×Expr×Expr)
 |.IfExp e l r _=>some (e,l,r)
 |_=>none
noncomputable def v5:Expr→Option (List Expr)
 |.Tuple es _ _=>some es
 |_=>none
noncomputable def Jt:Expr→Option (List Expr)
 |.List es _=>some es
 |_=>none
noncomputable def v7:Expr→Option (List (Option Expr)×List Expr)
 |.Dict ks vs _=>some (ks,vs)
 |_=>none
noncomputable def kc:Expr→Option (Expr×Expr)
 |.Subscript l r _=>some (l,r)
 |_=>none
noncomputable def Ju:Expr→Option (Option Expr×Option Expr)
 |.Slice lo hi none _=>some (lo,hi)
 |_=>none
noncomputable def AQ:Expr→Option Expr
 |.Slice none none (some s) _=>some s
 |_=>none
noncomputable def AU:Expr→Option (Expr×List Expr×List Keyword×Pos)
 |.Call f as kw cp=>some (f,as,kw,cp)
 |_=>none
noncomputable def Jv:Expr→Option (Expr×Str×Pos)
 |.Attribute o m ap=>some (o,m,ap)
 |_=>none
noncomputable def eM (nm:String) (e:Expr):Option (Expr×List Expr):=(AU e).bind fun q=>(Jv q.1).bind fun a=>if a.2.1=Str.ofString nm∧q.2.2.1.isEmpty=true∧rP a.1=true∧(a.2.2.endLine==q.2.2.2.line)=true∧q.2.1.all dD=true then some (a.1,q.2.1) else none
noncomputable def eN (e:Expr):Option (Str×List Expr):=(AU e).bind fun q=>(oT q.1).bind fun x=>if q.2.2.1.isEmpty=true∧q.2.1.all dD=true then some (x,q.2.1) else none
noncomputable def vn:Expr→Option (Expr×Str×Pos×Expr×List Expr×Scope×Pos)
 |.ListComp el [⟨.Name z pz,it,ifs,0⟩] aB ep=>some (el,z,pz,it,ifs,aB,ep)
 |_=>none
theorem ic {α β:Type}{o:Option α}{f:α→Option β}{b:β} (h:o.bind f=some b):∃ a,o=some a∧f a=some b:=by
 cases o with
 |none=>cases h
 |some a=>exact ⟨a,rfl,h⟩
theorem uz {α β:Type}{o:Option α}{f:α→β}{b:β} (h:o.map f=some b):∃ a,o=some a∧f a=b:=by
 cases o with
 |none=>cases h
 |some a=>exact ⟨a,rfl,by simpa using h⟩
theorem nI {e:Expr}{x:Str} (h:oT e=some x):∃ p,e=.Name x p:=by
 cases e<;>cases h;exact ⟨_,rfl⟩
theorem uS {e:Expr}{k:Const} (h:eK e=some k):∃ j p,e=.Constant k j p:=by
 cases e<;>cases h;exact ⟨_,_,rfl⟩
theorem Vr {k:Const}{i:Int} (h:Jl k=some i):k=.int i:=by
 cases k<;>cases h;rfl
theorem Vs {k:Const}{i:Str} (h:Jm k=some i):k=.str i:=by
 cases k<;>cases h;rfl
theorem Vt {k:Const}{i:Bool} (h:Jn k=some i):k=.bool i:=by
 cases k<;>cases h;rfl
theorem Vu {k:Const} (h:Jo k=true):k=.none:=by
 cases k<;>first|rfl|exact absurd h Bool.false_ne_true
theorem TK {e l r:Expr}{op:Operator} (h:Jp e=some (l,op,r)):∃ p,e=.BinOp l op r p:=by
 cases e<;>cases h;exact ⟨_,rfl⟩
theorem yv {e a:Expr}{op:UnaryOp} (h:vZ e=some (op,a)):∃ p,e=.UnaryOp op a p:=by
 cases e<;>cases h;exact ⟨_,rfl⟩
theorem iZ {α:Type}{l:List α}{a:α} (h:l1 l=some a):l=[a]:=by
 cases l with
 |nil=>cases h
 |cons b l=>cases l<;>cases h;rfl
theorem yW {α:Type}{l:List α}{a:α×α} (h:l2 l=some a):l=[a.1,a.2]:=by
 cases l with
 |nil=>cases h
 |cons b l =>
  cases l with
  |nil=>cases h
  |cons d l=>cases l<;>cases h;rfl
theorem lI {α:Type}{l:List α}{a:α×List α} (h:oU l=some a):l=a.1::a.2:=by
 cases l<;>cases h;rfl
theorem Fs {e:Expr}{q:Expr×List CmpOp×List Expr} (h:AO e=some q):∃ p,e=.Compare q.1 q.2.1 q.2.2 p:=by
 cases e<;>cases h;exact ⟨_,rfl⟩
theorem yw {e l r:Expr}{op:CmpOp} (h:v3 e=some (l,op,r)):∃ p,e=.Compare l [op] [r] p:=by
 obtain ⟨q,h1,h⟩:=ic h
 obtain ⟨a,h2,h⟩:=ic h
 obtain ⟨b,h3,h⟩:=uz h
 cases h
 obtain ⟨p,rfl⟩:=Fs h1
 exact ⟨p,by rw [iZ h2,iZ h3]⟩
theorem TL {e l m r:Expr}{op op':CmpOp} (h:Jq e=some (l,op,op',m,r)):∃ p,e=.Compare l [op,op'] [m,r] p:=by
 obtain ⟨q,h1,h⟩:=ic h
 obtain ⟨a,h2,h⟩:=ic h
 obtain ⟨b,h3,h⟩:=uz h
 cases h
 obtain ⟨p,rfl⟩:=Fs h1
 exact ⟨p,by rw [yW h2,yW h3]⟩
theorem TN {e:Expr}{q:BoolOp×List Expr×Pos} (h:Jr e=some q):e=.BoolOp q.1 q.2.1 q.2.2:=by
 cases e<;>cases h;rfl
theorem uq {o:BoolOp}{e a b:Expr} (h:qP o e=some (a,b)):∃ m rest pos,e=.BoolOp o (a::m::rest) pos∧((rest=[]∧b=m)∨b=.BoolOp o (m::rest) pos):=by
 obtain ⟨q,h1,g⟩:=ic h
 have e0:=TN h1
 by_cases e:q.1=o
 ·rw [if_pos e] at g
  obtain ⟨x,h2,g⟩:=ic g
  obtain ⟨y,h3,g⟩:=uz g
  have e2:q.2.1=x.1::y.1::y.2:=by rw [lI h2,lI h3]
  have ea:x.1=a:=congrArg Prod.fst g
  have eb:=congrArg Prod.snd g
  refine ⟨y.1,y.2,q.2.2,by rw [e0,e2,e,ea],?_⟩
  cases hy:y.2 with
  |nil=>rw [hy] at eb;exact .inl ⟨rfl,eb.symm⟩
  |cons z zs=>rw [hy] at eb;exact .inr eb.symm
 ·rw [if_neg e] at g;cases g
theorem TQ {e a b d:Expr} (h:Js e=some (a,b,d)):∃ p,e=.IfExp a b d p:=by
 cases e<;>cases h;exact ⟨_,rfl⟩
theorem yx {e:Expr}{es:List Expr} (h:v5 e=some es):∃ k p,e=.Tuple es k p:=by
 cases e<;>cases h;exact ⟨_,_,rfl⟩
theorem TR {e:Expr}{es:List Expr} (h:Jt e=some es):∃ p,e=.List es p:=by
 cases e<;>cases h;exact ⟨_,rfl⟩
theorem yy {e:Expr}{q:List (Option Expr)×List Expr} (h:v7 e=some q):∃ p,e=.Dict q.1 q.2 p:=by
 cases e<;>cases h;exact ⟨_,rfl⟩
theorem kx {e l r:Expr} (h:kc e=some (l,r)):∃ p,e=.Subscript l r p:=by
 cases e<;>cases h;exact ⟨_,rfl⟩
theorem TV {e:Expr}{lo hi:Option Expr} (h:Ju e=some (lo,hi)):∃ p,e=.Slice lo hi none p:=by
 cases e with
 |Slice a b st p=>cases st<;>cases h;exact ⟨_,rfl⟩
 |_=>cases h
theorem TX {e s:Expr} (h:AQ e=some s):∃ p,e=.Slice none none (some s) p:=by
 unfold AQ at h
 split at h
 ·cases h;exact ⟨_,rfl⟩
 ·cases h
theorem Ft {e:Expr}{q:Expr×List Expr×List Keyword×Pos} (h:AU e=some q):e=.Call q.1 q.2.1 q.2.2.1 q.2.2.2:=by
 cases e<;>cases h;rfl
theorem TY {e:Expr}{q:Expr×Str×Pos} (h:Jv e=some q):e=.Attribute q.1 q.2.1 q.2.2:=by
 cases e<;>cases h;rfl
theorem lQ {nm:String}{e o:Expr}{as:List Expr} (h:eM nm e=some (o,as)):∃ ap cp,e=.Call (.Attribute o (Str.ofString nm) ap) as [] cp∧rP o=true∧(ap.endLine==cp.line)=true∧as.all dD=true:=by
 obtain ⟨q,h1,h⟩:=ic h
 obtain ⟨a,h2,h⟩:=ic h
 split at h
 ·rename_i g
  cases h
  refine ⟨a.2.2,q.2.2.2,?_,g.2.2.1,g.2.2.2.1,g.2.2.2.2⟩
  rw [Ft h1,TY h2,g.1,List.isEmpty_iff.mp g.2.1]
 ·cases h
theorem kE {e:Expr}{x:Str}{as:List Expr} (h:eN e=some (x,as)):∃ p cp,e=.Call (.Name x p) as [] cp∧as.all dD=true:=by
 obtain ⟨q,h1,h⟩:=ic h
 obtain ⟨y,h2,h⟩:=ic h
 split at h
 ·rename_i g
  cases h
  obtain ⟨p,e2⟩:=nI h2
  exact ⟨p,q.2.2.2,by rw [Ft h1,e2,List.isEmpty_iff.mp g.1],g.2⟩
 ·cases h
theorem xW {e el it:Expr}{z:Str}{pz ep:Pos}{ifs:List Expr}{aB:Scope} (h:vn e=some (el,z,pz,it,ifs,aB,ep)):e=.ListComp el [⟨.Name z pz,it,ifs,0⟩] aB ep:=by
 unfold vn at h
 split at h
 ·cases h;rfl
 ·cases h
noncomputable def AV:T→Bool
 |.y=>true
 |_=>false
mutual
noncomputable def kX (c:Cf) (lv:Nat):X→Scope→List Str→Expr→Bool
 |.v i,sc,N,e=>on (oT e) fun x=>decide (N[i]?=some x)&&AJ sc x&&!(x == "__debug__")&&!(x == "__classdict__")
 |.ki i,_,_,e=>on (eK e) fun k=>on (Jl k) fun j=>decide (i=j)
 |.ks i,_,_,e=>on (eK e) fun k=>on (Jm k) fun j=>decide (i=j)
 |.kb i,_,_,e=>on (eK e) fun k=>on (Jn k) fun j=>decide (i=j)
 |.kn,_,_,e=>on (eK e) Jo
 |.ty n,sc,_,e=>on (oT e) fun x=>decide (x=Str.ofString n)&&gl sc x&&c.bs.contains n&&tys.contains n
 |.bo o a b,sc,N,e=>on (Jp e) fun q=>decide (q.2.1=o.op)&&kX c lv a sc N q.1&&kX c lv b sc N q.2.2
 |.co o a b,sc,N,e=>on (v3 e) fun q=>decide (q.2.1=o.op)&&jS q.2.2&&kX c lv a sc N q.1&&kX c lv b sc N q.2.2
 |.uo o a,sc,N,e=>on (vZ e) fun q=>decide (q.1=o.op)&&kX c lv a sc N q.2
 |.an a b,sc,N,e=>on (qP .And e) fun q=>kX c lv a sc N q.1&&kX c lv b sc N q.2
 |.or a b,sc,N,e=>on (qP .Or e) fun q=>kX c lv a sc N q.1&&kX c lv b sc N q.2
 |.nt a,sc,N,e=>on (vZ e) fun q=>decide (q.1=.Not)&&kX c lv a sc N q.2
 |.ie t a b,sc,N,e=>on (Js e) fun q=>kT c lv t sc N q.1&&kX c lv a sc N q.2.1&&kX c lv b sc N q.2.2
 |.tu l,sc,N,e=>on (v5 e) fun es=>kA c lv l sc N es
 |.li l,sc,N,e=>on (Jt e) fun es=>kA c lv l sc N es
 |.dK,_,_,e=>on (v7 e) fun q=>q.1.isEmpty&&q.2.isEmpty
 |.d1 a b,sc,N,e=>on (v7 e) fun q=>on (l1 q.1) fun k=>on k fun k=>on (l1 q.2) fun v=>kX c lv a sc N k&&kX c lv b sc N v
 |.ix a b,sc,N,e=>on (kc e) fun q=>mO q.2&&kX c lv a sc N q.1&&kX c lv b sc N q.2
 |.dg a b,sc,N,e=>on (kc e) fun q=>mO q.2&&kX c lv a sc N q.1&&kX c lv b sc N q.2
 |.sl a lo hi,sc,N,e=>on (kc e) fun q=>on (Ju q.2) fun s=>kX c lv a sc N q.1&&kP c lv lo sc N s.1&&kP c lv hi sc N s.2
 |.dT,_,_,e=>on (v7 e) fun q=>q.1.isEmpty&&q.2.isEmpty
 |.vX d k x,sc,N,e=>on (eM "get" e) fun q=>on (l2 q.2) fun a=>kX c lv d sc N q.1&&kX c lv k sc N a.1&&kX c lv x sc N a.2
 |.rs a p,sc,N,e=>on (kc e) fun q=>on (AQ q.2) fun s=>kX c lv a sc N q.1&&kP c lv p sc N (some s)
 |.lr l,sc,N,e=>on (eN e) fun q=>on (l1 q.2) fun r=>on (eN r) fun u=>decide (q.1 = "list")&&gl sc q.1&&c.bs.contains "list" && decide (u.1 = "range")&&gl sc u.1&&(c.bs.contains "range" && decide (u.2.length=1)&&kA c lv l sc N u.2)
 |.fb f l,sc,N,e=>on (eN e) fun q=>decide (q.1=Str.ofString f.nm)&&gl sc q.1&&c.bs.contains f.nm&&!q.2.isEmpty&&kA c lv l sc N q.2
 |.ca f l,sc,N,e=>on (eN e) fun q=>on c.fs[f]? fun i=>decide (q.1=i.nm)&&gl sc q.1&&!(q.1 == "__debug__")&&decide (i.lv≤lv)&&decide (q.2.length=i.ar)&&decide (i.io=none)&&!q.2.isEmpty&&kA c lv l sc N q.2
 |.cp i ix t e,sc,N,x=>on (vn x) fun q=>AK N (ns N q.2.1 ix) sc q.2.2.2.2.2.1 q.2.1 ix&&jS q.2.2.2.1&&kI c lv i false sc N q.2.2.2.1&&((q.2.2.2.2.1.isEmpty&&AV t)||on (l1 q.2.2.2.2.1) fun y=>kT c lv t (rl sc q.2.2.2.2.2.1) (ns N q.2.1 ix) y)&&kX c lv e (rl sc q.2.2.2.2.2.1) (ns N q.2.1 ix) q.1
noncomputable def kA (c:Cf) (lv:Nat):A→Scope→List Str→List Expr→Bool
 |.n,_,_,es=>es.isEmpty
 |.c a l,sc,N,es=>on (oU es) fun q=>dD q.1&&kX c lv a sc N q.1&&kA c lv l sc N q.2
noncomputable def kT (c:Cf) (lv:Nat):T→Scope→List Str→Expr→Bool
 |.b x,sc,N,e=>rN e&&kX c lv x sc N e
 |.c o a b,sc,N,e=>on (v3 e) fun q=>decide (q.2.1=o.op)&&jS q.2.2&&kX c lv a sc N q.1&&kX c lv b sc N q.2.2
 |.d n a b,sc,N,e=>on (v3 e) fun q=>decide (q.2.1=nin n)&&jS q.2.2&&kX c lv a sc N q.1&&kX c lv b sc N q.2.2
 |.h o p a b d,sc,N,e=>on (Jq e) fun q=>decide (q.2.1=o.op)&&decide (q.2.2.1=p.op)&&!lastMarks [q.2.1,q.2.2.1] [q.2.2.2.1,q.2.2.2.2]&&kX c lv a sc N q.1&&kX c lv b sc N q.2.2.2.1&&kX c lv d sc N q.2.2.2.2
 |.an a b,sc,N,e=>on (qP .And e) fun q=>kT c lv a sc N q.1&&kT c lv b sc N q.2
 |.or a b,sc,N,e=>on (qP .Or e) fun q=>kT c lv a sc N q.1&&kT c lv b sc N q.2
 |.nt a,sc,N,e=>on (vZ e) fun q=>decide (q.1=.Not)&&kT c lv a sc N q.2
 |.y,_,_,_=>false
noncomputable def kP (c:Cf) (lv:Nat):P→Scope→List Str→Option Expr→Bool
 |.n,_,_,o=>o.isNone
 |.s x,sc,N,o=>on o fun e=>kX c lv x sc N e
noncomputable def kI (c:Cf) (lv:Nat):I→Bool→Scope→List Str→Expr→Bool
 |.r1 l,_,sc,N,e=>on (eN e) fun q=>decide (q.1 = "range")&&gl sc q.1&&c.bs.contains "range" && decide (q.2.length=1)&&kA c lv l sc N q.2
 |.r2 l,_,sc,N,e=>on (eN e) fun q=>decide (q.1 = "range")&&gl sc q.1&&c.bs.contains "range" && decide (q.2.length=2)&&kA c lv l sc N q.2
 |.en l,tg,sc,N,e=>on (eN e) fun q=>tg&&decide (q.1 = "enumerate")&&gl sc q.1&&c.bs.contains "enumerate" && decide (q.2.length=1)&&kA c lv l sc N q.2
 |.s x,_,sc,N,e=>kX c lv x sc N e
 |.t x,_,sc,N,e=>kX c lv x sc N e
 |.l x,_,sc,N,e=>kX c lv x sc N e
end
def Jw (P:Program) (w:World) (K:PySem.W.Frag) (mg:Str→Option Value) (base:Heap) (i:Fi) (sp:Sp):Prop :=
 ∃ f fd ps,jL P w K mg base j4 i.lv f fd ps sp∧mg i.nm=some (.ref f)∧PySem.W.keepIn K (.ref f)=true∧Binds K fd ps []
noncomputable def mP (P:Program) (w:World) (K:PySem.W.Frag) (mg:Str→Option Value) (base:Heap) (i:Fi):FT→Prop
 |.p F=>i.io=none∧Jw P w K mg base i (mG K i.ar F)
 |.oo F=>i.io=some []∧Jw P w K mg base i (vm K i.ar F)
def GV (K:PySem.W.Frag) (mg:Str→Option Value) (va:List V) (gs:List (Str×Gv)):Prop:=∀ (i:Nat) g,gs[i]?=some g→∃ x u,va[i]?=some x∧mg g.1=some u∧RelV x u∧JT K (tC x) (jC g.2.d)
structure CE (c:Cf) (lv:Nat) (K:PySem.W.Frag) (t:List FT) (va:List V) (sc:Scope) (N:List Str) (Z:Cx):Prop where
 k:Z.K=K
 sc:Z.env.scope=sc
 n:Z.N=N
 calm:Z.calm=true
 rm:dw lv Z.A
 bl:∀ b,b∈c.bs→Z.mg (Str.ofString b)=none
 gv:GV K Z.mg va c.gs
 fs:∀ (i:Nat) fi,c.fs[i]?=some fi→∃ F,t[i]?=some F∧mP Z.prog Z.w Z.K Z.mg Z.base fi F
section
variable {c:Cf}{lv:Nat}{K:PySem.W.Frag}{t:List FT}{va:List V}{sc:Scope}{N:List Str}{Z:Cx}
theorem CE.cv (E:CE c lv K t va sc N Z) {N':List Str}{aB:Scope}{C:Addr}{s₂:Shared}{H₂:Hp}{fp:List Addr}{pn:List (Addr×Obj)}:CE c lv K t va (rl sc aB) N' (Z.cv N' aB C s₂ H₂ fp pn) :=
 ⟨E.k,by rw [←E.sc];rfl,rfl,E.calm,E.rm,E.bl,E.gv,E.fs⟩
theorem CE.gl (E:CE c lv K t va sc N Z) {x:Str} (h:gl sc x=true):Gl Z x:=by
 have:=Vq h
 rw [←E.sc] at this
 exact this
theorem CE.mg (E:CE c lv K t va sc N Z) {b:String} (h:c.bs.contains b=true):Z.mg (Str.ofString b)=none:=E.bl b (by simpa using h)
theorem iP:∀ {es:List Expr}{env:Env},es.all dD=true→∀ pos:Pos,((backTo pos (starEach es env)).any fun x=>x.1)=false
 |[],_,_,_=>rfl
 |e::es,env,h,pos=>by
  rw [List.all_cons,Bool.and_eq_true] at h
  rw [cC h.1]
  show (false||(backTo pos (starEach es env)).any fun x=>x.1)=false
  rw [iP h.2,Bool.or_false]
theorem T4 {n:String} (h:tys.contains n=true):bootBuiltins (Str.ofString n)=some (.type n)∧Str.ofString n ≠ "__name__" ∧ (Str.ofString n==("__debug__" : Str))=false:=by
 have h:n∈tys:=by simpa using h
 simp only [tys,List.mem_cons,List.not_mem_nil,or_false] at h
 rcases h with rfl|rfl|rfl|rfl|rfl|rfl
 ·exact ⟨PyProof.Rows.Boot.«bool»,by decide,by decide⟩
 ·exact ⟨PyProof.Rows.Boot.«int»,by decide,by decide⟩
 ·exact ⟨PyProof.Rows.Boot.«str»,by decide,by decide⟩
 ·exact ⟨PyProof.Rows.Boot.«tuple»,by decide,by decide⟩
 ·exact ⟨PyProof.Rows.Boot.«list»,by decide,by decide⟩
 ·exact ⟨PyProof.Rows.Boot.«dict»,by decide,by decide⟩
theorem Fb.ok:∀ f:Fb,∃ r,(∀ {sc:Scope}{N:List Str} (Z:Cx),CE c lv K t va sc N Z→∀ {p pos:Pos}{e:Expr}{es:List Expr}{ta:TA},C.gl sc (Str.ofString f.nm)=true→c.bs.contains f.nm=true→dD e=true→es.all dD=true→PA Z (e::es) ta→PE Z (.Call (.Name (Str.ofString f.nm) p) (e::es) [] pos) (vB r ta))∧j5 K r f.g
 |.int=>⟨_,fun _ E _ _ _ _ _ hg hb h1 h2 ha=>@xt _ _ _ _ _ _ _ _ _ Mj (E.gl hg) (E.mg hb) PyProof.Rows.Boot.«int» ha (by decide) (by decide) (cC h1) (iP h2 _),Pw⟩
 |.list=>⟨_,fun _ E _ _ _ _ _ hg hb h1 h2 ha=>@xt _ _ _ _ _ _ _ _ _ (K6 E.k) (E.gl hg) (E.mg hb) PyProof.Rows.Boot.«list» ha (by decide) (by decide) (cC h1) (iP h2 _),Ny⟩
 |.len=>⟨_,fun _ E _ _ _ _ _ hg hb h1 h2 ha=>@tV _ _ _ _ _ _ _ _ _ (Mx E.k) (E.gl hg) (E.mg hb) PyProof.Rows.Boot.«len» ha (by decide) (by decide) (cC h1) (iP h2 _),Pu⟩
 |.oS=>⟨_,fun _ E _ _ _ _ _ hg hb h1 h2 ha=>@tV _ _ _ _ _ _ _ _ _ (MF E.k) (E.gl hg) (E.mg hb) PyProof.Rows.Boot.«isinstance» ha (by decide) (by decide) (cC h1) (iP h2 _),Qb⟩
 |.max=>⟨_,fun _ E _ _ _ _ _ hg hb h1 h2 ha=>@tV _ _ _ _ _ _ _ _ _ (Mi E.calm) (E.gl hg) (E.mg hb) PyProof.Rows.Boot.«max» ha (by decide) (by decide) (cC h1) (iP h2 _),Px⟩
 |.uR=>⟨_,fun _ E _ _ _ _ _ hg hb h1 h2 ha=>@xt _ _ _ _ _ _ _ _ _ (L3 E.k E.calm) (E.gl hg) (E.mg hb) PyProof.Rows.Boot.«list» ha (by decide) (by decide) (cC h1) (iP h2 _),MP⟩
 |.sum=>⟨_,fun _ E _ _ _ _ _ hg hb h1 h2 ha=>@tV _ _ _ _ _ _ _ _ _ (MS E.k E.calm) (E.gl hg) (E.mg hb) PyProof.Rows.Boot.«sum» ha (by decide) (by decide) (cC h1) (iP h2 _),QB⟩
theorem T5 {a:Expr}{env:Env}{cq:Pos} (h:dD a=true):(((List.all (backTo cq (starEach [a] env)) fun x=>!x.1)&&List.all (backToKw cq (keywordEach [] env)) fun x=>Option.isSome x.1)&&decide ((List.length [a]+List.length ([]:List Keyword)+if List.isEmpty ([]:List Keyword)=true then 0 else 1) < 30))=true:=by
 rw [cC h];rfl
theorem T6 {env:Env}{cp:Pos}:((backTo cp (starEach [] env)).any fun x=>x.1)=false:=rfl
theorem zI:∀ {l:A}{sc:Scope}{N:List Str}{es:List Expr},kA c lv l sc N es=true→∀ (e:Ev) (aA:List (M×D)),eA t l e=some aA→aA.length=es.length
 |.n,_,_,es,h=>by cases List.isEmpty_iff.mp h;exact PY
 |.c a l,sc,N,es,h=>by
  have hh:=aD h;clear h;obtain ⟨⟨e,r⟩,q,h⟩:=hh
  cases lI q
  have h:(dD e&&kX c lv a sc N e&&kA c lv l sc N r)=true:=h
  rw [Bool.and_eq_true] at h
  exact NZ (zI h.2)
end
section
variable {c:Cf}{lv:Nat}{K:PySem.W.Frag}{t:List FT}{va:List V}
theorem cI {a b:Bool} (h:(a&&b)=true):a=true∧b=true:=by simpa using h
theorem gd {a b d:Bool} (h:(a&&b&&d)=true):a=true∧b=true∧d=true:=by simpa [and_assoc] using h
theorem fI {a b d e:Bool} (h:(a&&b&&d&&e)=true):a=true∧b=true∧d=true∧e=true:=by simpa [and_assoc] using h
theorem oV {a b d e f:Bool} (h:(a&&b&&d&&e&&f)=true):a=true∧b=true∧d=true∧e=true∧f=true:=by simpa [and_assoc] using h
theorem v8 {a b d e f g:Bool} (h:(a&&b&&d&&e&&f&&g)=true):a=true∧b=true∧d=true∧e=true∧f=true∧g=true:=by simpa [and_assoc] using h
theorem Jx {a b d e f g i j:Bool} (h:(a&&b&&d&&e&&f&&g&&i&&j)=true):a=true∧b=true∧d=true∧e=true∧f=true∧g=true∧i=true∧j=true:=by simpa [and_assoc] using h
theorem nb {a:Bool} (h:(!a)=true):a=false:=by simpa using h
theorem Gm {Z:Cx}{op:BoolOp}{vs:List Expr}{pos:Pos}{tt:TT} (h:PT Z (.BoolOp op vs pos) tt):PW Z (.BoolOp op vs pos) tt:=fun _=>h
theorem all1 {a:Expr}{l:List Expr} (h:(a::l).all dD=true):dD a=true∧l.all dD=true:=by
 rw [List.all_cons,Bool.and_eq_true] at h;exact h
theorem xX {α:Type}{l:List α} (h:(!l.isEmpty)=true):∃ a r,l=a::r:=by
 cases l with
 |nil=>cases h
 |cons a r=>exact ⟨a,r,rfl⟩
theorem zJ {α:Type}{l:List α} (h:l.length=1):∃ a,l=[a]:=List.length_eq_one_iff.mp h
theorem Xa {α:Type}{l:List α} (h:l.length=2):∃ a b,l=[a,b]:=by
 match l,h with
 |[a,b],_=>exact ⟨a,b,rfl⟩
mutual
theorem sX:∀ (x:X) {sc:Scope}{N:List Str}{e:Expr},kX c lv x sc N e=true→∃ te,(∀ Z,CE c lv K t va sc N Z→PE Z e te)∧JT K te (eX t x)
 |.v i,sc,N,e,h=>by
  have hh:=aD h;clear h;obtain ⟨x,q,h⟩:=hh
  obtain ⟨p,rfl⟩:=nI q
  obtain ⟨h1,h2,h3,h4⟩:=fI h
  have h1:=of_decide_eq_true h1
  have h2:=Fq h2
  exact ⟨_,fun Z E=>@EF _ _ _ _ (E.n▸h1) (E.sc▸h2) (nb h3) (nb h4),Sq⟩
 |.ki i,sc,N,e,h=>by
  have hh:=aD h;clear h;obtain ⟨k,q,h⟩:=hh
  obtain ⟨j,p,rfl⟩:=uS q
  have hh:=aD h;clear h;obtain ⟨y,q,h⟩:=hh
  cases Vr q
  cases of_decide_eq_true h
  exact ⟨_,fun Z E=>Ri,og rfl⟩
 |.ks i,sc,N,e,h=>by
  have hh:=aD h;clear h;obtain ⟨k,q,h⟩:=hh
  obtain ⟨j,p,rfl⟩:=uS q
  have hh:=aD h;clear h;obtain ⟨y,q,h⟩:=hh
  cases Vs q
  cases of_decide_eq_true h
  exact ⟨_,fun Z E=>Rk,og rfl⟩
 |.kb i,sc,N,e,h=>by
  have hh:=aD h;clear h;obtain ⟨k,q,h⟩:=hh
  obtain ⟨j,p,rfl⟩:=uS q
  have hh:=aD h;clear h;obtain ⟨y,q,h⟩:=hh
  cases Vt q
  cases of_decide_eq_true h
  exact ⟨_,fun Z E=>UE,og rfl⟩
 |.kn,sc,N,e,h=>by
  have hh:=aD h;clear h;obtain ⟨k,q,h⟩:=hh
  obtain ⟨j,p,rfl⟩:=uS q
  cases Vu h
  exact ⟨_,fun Z E=>Rj,og rfl⟩
 |.ty n,sc,N,e,h=>by
  have hh:=aD h;clear h;obtain ⟨x,q,h⟩:=hh
  obtain ⟨p,rfl⟩:=nI q
  obtain ⟨h1,h2,h3,h4⟩:=fI h
  cases of_decide_eq_true h1
  obtain ⟨q1,q2,q3⟩:=T4 h4
  exact ⟨_,fun Z E=>@OO _ _ (.ty n) _ _ (E.gl h2) (E.mg h3) q1 rfl q2 q3,og rfl⟩
 |.bo o a b,sc,N,e,h=>by
  have hh:=aD h;clear h;obtain ⟨⟨l,op,r⟩,q,h⟩:=hh
  obtain ⟨p,rfl⟩:=TK q
  obtain ⟨h1,h2,h3⟩:=gd h
  cases of_decide_eq_true h1
  obtain ⟨ta,pa,ja⟩:=sX a h2
  obtain ⟨tb,pb,jb⟩:=sX b h3
  obtain ⟨r,o1,o2⟩:=o.ok (K:=K)
  exact ⟨_,fun Z E=>UJ (o1 Z E.k) (pa Z E) (pb Z E),uJ o2 ja jb⟩
 |.co o a b,sc,N,e,h=>by
  have hh:=aD h;clear h;obtain ⟨⟨l,op,r⟩,q,h⟩:=hh
  obtain ⟨p,rfl⟩:=yw q
  obtain ⟨h1,h0,h2,h3⟩:=fI h
  cases of_decide_eq_true h1
  obtain ⟨ta,pa,ja⟩:=sX a h2
  obtain ⟨tb,pb,jb⟩:=sX b h3
  obtain ⟨r,o1,o2⟩:=o.ok (K:=K)
  exact ⟨_,fun Z E=>OZ (o1 Z E.k E.rm.units) (pa Z E) (pb Z E) (uk h0),uJ o2 ja jb⟩
 |.uo o a,sc,N,e,h=>by
  have hh:=aD h;clear h;obtain ⟨⟨op,r⟩,q,h⟩:=hh
  obtain ⟨p,rfl⟩:=yv q
  obtain ⟨h1,h2⟩:=cI h
  cases of_decide_eq_true h1
  obtain ⟨ta,pa,ja⟩:=sX a h2
  obtain ⟨r,o1,o2⟩:=o.ok (K:=K)
  exact ⟨_,fun Z E=>UK (o1 Z) (pa Z E),U0 o2 ja⟩
 |.an a b,sc,N,e,h=>by
  have hh:=aD h;clear h;obtain ⟨⟨x,y⟩,q,h⟩:=hh
  obtain ⟨m,rest,pos,rfl,w⟩:=uq q
  obtain ⟨h1,h2⟩:=cI h
  obtain ⟨ta,pa,ja⟩:=sX a h1
  obtain ⟨tb,pb,jb⟩:=sX b h2
  refine ⟨_,fun Z E=>@Ro _ _ _ _ tb _ _ (pa Z E) ?_,SD ja jb⟩
  rcases w with ⟨rfl,rfl⟩|rfl
  ·exact @EH _ _ _ _ _ (pb Z E)
  ·exact pb Z E
 |.or a b,sc,N,e,h=>by
  have hh:=aD h;clear h;obtain ⟨⟨x,y⟩,q,h⟩:=hh
  obtain ⟨m,rest,pos,rfl,w⟩:=uq q
  obtain ⟨h1,h2⟩:=cI h
  obtain ⟨ta,pa,ja⟩:=sX a h1
  obtain ⟨tb,pb,jb⟩:=sX b h2
  refine ⟨_,fun Z E=>@UH _ _ _ _ tb _ _ (pa Z E) ?_,U7 ja jb⟩
  rcases w with ⟨rfl,rfl⟩|rfl
  ·exact @EH _ _ _ _ _ (pb Z E)
  ·exact pb Z E
 |.nt a,sc,N,e,h=>by
  have hh:=aD h;clear h;obtain ⟨⟨op,r⟩,q,h⟩:=hh
  obtain ⟨p,rfl⟩:=yv q
  obtain ⟨h1,h2⟩:=cI h
  cases of_decide_eq_true h1
  obtain ⟨ta,pa,ja⟩:=sX a h2
  exact ⟨_,fun Z E=>Rq (pa Z E),SF ja⟩
 |.ie t' a b,sc,N,e,h=>by
  have hh:=aD h;clear h;obtain ⟨⟨x,l,r⟩,q,h⟩:=hh
  obtain ⟨p,rfl⟩:=TQ q
  obtain ⟨h1,h2,h3⟩:=gd h
  obtain ⟨tq,pq,jq⟩:=sT t' h1
  obtain ⟨ta,pa,ja⟩:=sX a h2
  obtain ⟨tb,pb,jb⟩:=sX b h3
  exact ⟨_,fun Z E=>M8 (pq Z E) (pa Z E) (pb Z E),SJ jq ja jb⟩
 |.tu l,sc,N,e,h=>by
  have hh:=aD h;clear h;obtain ⟨es,q,h⟩:=hh
  obtain ⟨k,p,rfl⟩:=yx q
  obtain ⟨ta,pa,ja⟩:=sA l h
  exact ⟨_,fun Z E=>RQ (pa Z E),SM ja⟩
 |.li l,sc,N,e,h=>by
  have hh:=aD h;clear h;obtain ⟨es,q,h⟩:=hh
  obtain ⟨p,rfl⟩:=TR q
  obtain ⟨ta,pa,ja⟩:=sA l h
  exact ⟨_,fun Z E=>yi (pa Z E),SK ja⟩
 |.dK,sc,N,e,h=>by
  have hh:=aD h;clear h;obtain ⟨⟨ks,vs⟩,q,h⟩:=hh
  obtain ⟨p,rfl⟩:=yy q
  obtain ⟨h1,h2⟩:=cI h
  cases List.isEmpty_iff.mp h1
  cases List.isEmpty_iff.mp h2
  exact ⟨_,fun _ _=>Nn,N5⟩
 |.d1 a b,sc,N,e,h=>by
  have hh:=aD h;clear h;obtain ⟨⟨ks,vs⟩,q,h⟩:=hh
  obtain ⟨p,rfl⟩:=yy q
  have hh:=aD h;clear h;obtain ⟨k,q1,h⟩:=hh
  cases iZ q1
  have hh:=aD h;clear h;obtain ⟨k',rfl,h⟩:=hh
  have hh:=aD h;clear h;obtain ⟨v,q2,h⟩:=hh
  cases iZ q2
  obtain ⟨h1,h2⟩:=cI h
  obtain ⟨ta,pa,ja⟩:=sX a h1
  obtain ⟨tb,pb,jb⟩:=sX b h2
  exact ⟨_,fun Z E=>Pm (Nq (pa Z E) (pb Z E) Pl) rfl rfl (List.cons_ne_nil _ _) (by show 1≤15;decide),Qq ja jb⟩
 |.ix a b,sc,N,e,h=>by
  have hh:=aD h;clear h;obtain ⟨⟨l,r⟩,q,h⟩:=hh
  obtain ⟨p,rfl⟩:=kx q
  obtain ⟨h1,h2,h3⟩:=gd h
  obtain ⟨ta,pa,ja⟩:=sX a h2
  obtain ⟨tb,pb,jb⟩:=sX b h3
  exact ⟨_,fun Z E=>F1 (D1 E.k) (pa Z E) (pb Z E) (Gk h1),uJ U6 ja jb⟩
 |.dg a b,sc,N,e,h=>by
  have hh:=aD h;clear h;obtain ⟨⟨l,r⟩,q,h⟩:=hh
  obtain ⟨p,rfl⟩:=kx q
  obtain ⟨h1,h2,h3⟩:=gd h
  obtain ⟨ta,pa,ja⟩:=sX a h2
  obtain ⟨tb,pb,jb⟩:=sX b h3
  exact ⟨_,fun Z E=>Pj (nQ E.rm) (pa Z E) (pb Z E) (QG h1),Qo ja jb⟩
 |.sl a lo hi,sc,N,e,h=>by
  have hh:=aD h;clear h;obtain ⟨⟨l,r⟩,q,h⟩:=hh
  obtain ⟨p,rfl⟩:=kx q
  have hh:=aD h;clear h;obtain ⟨⟨lo',rQ⟩,q,h⟩:=hh
  obtain ⟨p',rfl⟩:=TV q
  obtain ⟨h1,h2,h3⟩:=gd h
  obtain ⟨ta,pa,ja⟩:=sX a h1
  obtain ⟨tl,pl,jl⟩:=sP lo h2
  obtain ⟨tu,pu,ju⟩:=sP hi h3
  exact ⟨_,fun Z E=>Nj (WY E.k) (pa Z E) (pl Z E) (pu Z E),U9 Vb ja jl ju⟩
 |.dT,sc,N,e,h=>by
  have hh:=aD h;clear h;obtain ⟨⟨ks,vs⟩,q,h⟩:=hh
  obtain ⟨p,rfl⟩:=yy q
  obtain ⟨h1,h2⟩:=cI h
  cases List.isEmpty_iff.mp h1
  cases List.isEmpty_iff.mp h2
  exact ⟨_,fun _ _=>Np,Qx⟩
 |.vX d k x,sc,N,e,h=>by
  have hh:=aD h;clear h;obtain ⟨⟨o,as⟩,q,h⟩:=hh
  obtain ⟨ap,cp,rfl,h2,h3,h4⟩:=lQ q
  have hh:=aD h;clear h;obtain ⟨a,q1,h⟩:=hh
  cases yW q1
  obtain ⟨h4,ke⟩:=all1 h4
  have ke:=(all1 ke).1
  obtain ⟨h5,h6,h7⟩:=gd h
  obtain ⟨td,pd,jd⟩:=sX d h5
  obtain ⟨tk,pk,jk⟩:=sX k h6
  obtain ⟨tx,px,jx⟩:=sX x h7
  exact ⟨_,fun Z E=>Oa (nQ E.rm) (pd Z E) (pk Z E) (px Z E) ⟨qj h2,by rw [cC h4,cC ke];rfl,h3,by rw [cC h4,cC ke];rfl⟩,Ob jd jk jx⟩
 |.rs a p,sc,N,e,h=>by
  have hh:=aD h;clear h;obtain ⟨⟨l,r⟩,q,h⟩:=hh
  obtain ⟨pp,rfl⟩:=kx q
  have hh:=aD h;clear h;obtain ⟨s,q,h⟩:=hh
  obtain ⟨p',rfl⟩:=TX q
  obtain ⟨h1,h2⟩:=cI h
  obtain ⟨ta,pa,ja⟩:=sX a h1
  obtain ⟨tl,pl,jl⟩:=sP p h2
  exact ⟨_,fun Z E=>QC E.k (pa Z E) (pl Z E),QD ja jl⟩
 |.lr l,sc,N,e,h=>by
  have hh:=aD h;clear h;obtain ⟨⟨x,as⟩,q,h⟩:=hh
  obtain ⟨p,cp,rfl,h4⟩:=kE q
  have hh:=aD h;clear h;obtain ⟨r,q1,h⟩:=hh
  cases iZ q1
  have hh:=aD h;clear h;obtain ⟨⟨y,bs⟩,q,h⟩:=hh
  obtain ⟨p',cp',rfl,h5⟩:=kE q
  obtain ⟨g1,g2,g3,g4,g5,g6⟩:=v8 h
  obtain ⟨g7,g8,g9⟩:=gd g6
  cases of_decide_eq_true g1
  cases of_decide_eq_true g4
  obtain ⟨a,rfl⟩:=zJ (of_decide_eq_true g8)
  obtain ⟨ta,pa,ja⟩:=sA l g9
  exact ⟨_,fun Z E=>@Vo _ _ _ _ _ _ _ E.calm (E.gl g2) (E.mg g3) (E.gl g5) (E.mg g7) (pa Z E) (cC (all1 h5).1),Vp ja⟩
 |.fb f l,sc,N,e,h=>by
  have hh:=aD h;clear h;obtain ⟨⟨x,as⟩,q,h⟩:=hh
  obtain ⟨p,cp,rfl,h4⟩:=kE q
  obtain ⟨h1,h2,h3,h0,h6⟩:=oV h
  cases of_decide_eq_true h1
  obtain ⟨a,r,rfl⟩:=xX h0
  obtain ⟨h4,h5⟩:=all1 h4
  obtain ⟨ta,pa,ja⟩:=sA l h6
  obtain ⟨r,q1,q2⟩:=Fb.ok (c:=c) (lv:=lv) (t:=t) (va:=va) (K:=K) f
  exact ⟨_,fun Z E=>q1 Z E h2 h3 h4 h5 (pa Z E),U8 q2 ja⟩
 |.ca f l,sc,N,e,h=>by
  have hh:=aD h;clear h;obtain ⟨⟨x,as⟩,q,h⟩:=hh
  obtain ⟨p,cp,rfl,AW⟩:=kE q
  have hh:=aD h;clear h;obtain ⟨i,hf,h⟩:=hh
  obtain ⟨h1,h2,h3,h4,h5,AX,h0,h8⟩:=Jx h
  obtain ⟨a,r,rfl⟩:=xX h0
  obtain ⟨h6,h7⟩:=all1 AW
  have h1:=of_decide_eq_true h1
  obtain ⟨ta,pa,ja⟩:=sA l h8
  have hl:=zI (t:=t) h8
  rw [show (a::r).length=i.ar from of_decide_eq_true h5] at hl
  refine ⟨qo (mG K i.ar (FT.f t[f]?)) [] E0 ta,fun Z E=>?_,PQ ja hl⟩
  obtain ⟨F,hF,q⟩:=E.fs f i hf
  cases F with
  |oo F=>rw [mP,of_decide_eq_true AX] at q;cases q.1
  |p F =>
   obtain ⟨_,a,fd,ps,k1,k2,k3,k4⟩:=q
   rw [←h1] at k2
   rw [hF,←E.k]
   exact @DQ _ _ _ _ _ _ _ _ _ _ _ _ _ _ _ _ k1 (E.rm.mono (of_decide_eq_true h4)) (E.gl h2) k2 k3 k4 .nil F7 (pa Z E) (nb h3) (cC h6) (iP h7 _)
 |.cp i ix t' d,sc,N,e,h=>by
  have hh:=aD h;clear h;obtain ⟨⟨el,x,px,it,ifs,aB,ep⟩,q,h⟩:=hh
  cases xW q
  obtain ⟨h1,h2,h3,h4,h5⟩:=oV h
  have h1:=yu h1
  obtain ⟨ti,pi,ji⟩:=sI i h3
  obtain ⟨te,pe,je⟩:=sX d h5
  have h4:(ifs.isEmpty=true∧AV t'=true)∨(on (l1 ifs) fun y=>kT c lv t' (rl sc aB) (ns N x ix) y)=true:=by simpa using h4
  rcases h4 with ⟨w1,w2⟩|h4
  ·cases List.isEmpty_iff.mp w1
   cases t'<;>first|exact absurd w2 Bool.false_ne_true|skip
   exact ⟨_,fun Z E=>@ug _ (ns N x ix) _ _ ix _ _ _ _ _ _ _ _ (by rw [E.n,E.sc];exact h1) E.calm (pi Z (.Name x px) E (fun z=>absurd z Bool.false_ne_true)) (fun C s₂ H₂ fp pn=>uf) (fun C s₂ H₂ fp pn=>pe _ E.cv) (km h2),ui ji D7 je⟩
  ·have hh:=aD h4;clear h4;obtain ⟨y,q,h4⟩:=hh
   cases iZ q
   obtain ⟨tq,pq,jq⟩:=sT t' h4
   exact ⟨_,fun Z E=>@ug _ (ns N x ix) _ _ ix _ _ _ _ _ _ _ _ (by rw [E.n,E.sc];exact h1) E.calm (pi Z (.Name x px) E (fun z=>absurd z Bool.false_ne_true)) (fun C s₂ H₂ fp pn=>DY (pq _ E.cv)) (fun C s₂ H₂ fp pn=>pe _ E.cv) (km h2),ui ji jq je⟩
theorem sA:∀ (l:A) {sc:Scope}{N:List Str}{es:List Expr},kA c lv l sc N es=true→∃ ta,(∀ Z,CE c lv K t va sc N Z→PA Z es ta)∧hJ K ta (eA t l)
 |.n,_,_,es,h=>by
  cases List.isEmpty_iff.mp h
  exact ⟨_,fun _ _=>qd,Pt⟩
 |.c a l,sc,N,es,h=>by
  have hh:=aD h;clear h;obtain ⟨⟨e,r⟩,q,h⟩:=hh
  cases lI q
  obtain ⟨h0,h1,h2⟩:=gd h
  obtain ⟨ta,pa,ja⟩:=sX a h1
  obtain ⟨tl,pl,jl⟩:=sA l h2
  exact ⟨_,fun Z E=>@ub _ _ _ _ _ (pa Z E) (pl Z E) (cC h0),Nx ja jl⟩
theorem sT:∀ (q:T) {sc:Scope}{N:List Str}{e:Expr},kT c lv q sc N e=true→∃ tt,(∀ Z,CE c lv K t va sc N Z→PT Z e tt)∧eQ K tt (eT t q)
 |.b x,sc,N,e,h=>by
  obtain ⟨h1,h2⟩:=cI h
  obtain ⟨ta,pa,ja⟩:=sX x h2
  exact ⟨_,fun Z E=>@Mz _ K _ _ E.k (pa Z E) (TJ h1),MA ja⟩
 |.c o a b,sc,N,e,h=>by
  have hh:=aD h;clear h;obtain ⟨⟨l,op,r⟩,q,h⟩:=hh
  obtain ⟨p,rfl⟩:=yw q
  obtain ⟨h1,h0,h2,h3⟩:=fI h
  cases of_decide_eq_true h1
  obtain ⟨ta,pa,ja⟩:=sX a h2
  obtain ⟨tb,pb,jb⟩:=sX b h3
  obtain ⟨r,o1,o2⟩:=o.ok (K:=K)
  exact ⟨_,fun Z E=>O4 (o1 Z E.k E.rm.units) (pa Z E) (pb Z E) (uk h0),C8 (uJ o2 ja jb)⟩
 |.d n a b,sc,N,e,h=>by
  have hh:=aD h;clear h;obtain ⟨⟨l,op,r⟩,q,h⟩:=hh
  obtain ⟨p,rfl⟩:=yw q
  obtain ⟨h1,h0,h2,h3⟩:=fI h
  cases of_decide_eq_true h1
  obtain ⟨ta,pa,ja⟩:=sX a h2
  obtain ⟨tb,pb,jb⟩:=sX b h3
  cases n with
  |false=>exact ⟨_,fun Z E=>@EG _ _ _ _ _ _ (Sd (nQ E.rm) (pa Z E) (pb Z E)) (uk h0),yP (Tv ja jb)⟩
  |true=>exact ⟨_,fun Z E=>@EG _ _ _ _ _ _ (Mr (nQ E.rm) (pa Z E) (pb Z E)) (uk h0),yP (MJ ja jb)⟩
 |.h o p a b d,sc,N,e,h=>by
  have hh:=aD h;clear h;obtain ⟨⟨l,op,op',m,r⟩,q,h⟩:=hh
  obtain ⟨p',rfl⟩:=TL q
  obtain ⟨h1,h2,h3,h4,h5,h6⟩:=v8 h
  cases of_decide_eq_true h1
  cases of_decide_eq_true h2
  obtain ⟨ta,pa,ja⟩:=sX a h4
  obtain ⟨tb,pb,jb⟩:=sX b h5
  obtain ⟨td,pd,jd⟩:=sX d h6
  obtain ⟨r,o1,o2⟩:=o.ok (K:=K)
  obtain ⟨r',YB,YC⟩:=p.ok (K:=K)
  exact ⟨_,fun Z E=>@Nf _ _ _ _ _ _ _ _ _ _ _ _ (o1 Z E.k E.rm.units) (YB Z E.k E.rm.units) (pa Z E) (pb Z E) (pd Z E) (nb h3),C8 (NV o2 YC ja jb jd)⟩
 |.an a b,sc,N,e,h=>by
  have hh:=aD h;clear h;obtain ⟨⟨x,y⟩,q,h⟩:=hh
  obtain ⟨m,rest,pos,rfl,w⟩:=uq q
  obtain ⟨h1,h2⟩:=cI h
  obtain ⟨ta,pa,ja⟩:=sT a h1
  obtain ⟨tb,pb,jb⟩:=sT b h2
  refine ⟨_,fun Z E=>@PW.pt _ _ _ (@Rm _ _ _ _ _ tb _ (pa Z E) ?_),Pq ja jb⟩
  rcases w with ⟨rfl,rfl⟩|rfl
  ·exact @OQ _ _ _ _ (pb Z E)
  ·exact Gm (pb Z E)
 |.or a b,sc,N,e,h=>by
  have hh:=aD h;clear h;obtain ⟨⟨x,y⟩,q,h⟩:=hh
  obtain ⟨m,rest,pos,rfl,w⟩:=uq q
  obtain ⟨h1,h2⟩:=cI h
  obtain ⟨ta,pa,ja⟩:=sT a h1
  obtain ⟨tb,pb,jb⟩:=sT b h2
  refine ⟨_,fun Z E=>@PW.pt _ _ _ (@UG _ _ _ _ _ tb _ (pa Z E) ?_),SG ja jb⟩
  rcases w with ⟨rfl,rfl⟩|rfl
  ·exact @Rl _ _ _ _ (pb Z E)
  ·exact Gm (pb Z E)
 |.nt a,sc,N,e,h=>by
  have hh:=aD h;clear h;obtain ⟨⟨op,r⟩,q,h⟩:=hh
  obtain ⟨p,rfl⟩:=yv q
  obtain ⟨h1,h2⟩:=cI h
  cases of_decide_eq_true h1
  obtain ⟨ta,pa,ja⟩:=sT a h2
  exact ⟨_,fun Z E=>Rn (pa Z E),Pr ja⟩
 |.y,sc,N,e,h=>absurd h Bool.false_ne_true
theorem sP:∀ (l:P) {sc:Scope}{N:List Str}{e:Option Expr},kP c lv l sc N e=true→∃ ta,(∀ Z,CE c lv K t va sc N Z→PO Z e ta)∧oM K ta (eP t l)
 |.n,_,_,o,h=>by
  cases o with
  |some _=>cases h
  |none=>exact ⟨_,fun _ _=>O7,Nz⟩
 |.s x,sc,N,o,h=>by
  have hh:=aD h;clear h;obtain ⟨e,rfl,h⟩:=hh
  obtain ⟨ta,pa,ja⟩:=sX x h
  exact ⟨_,fun Z E=>O8 (pa Z E),NB ja⟩
theorem sI:∀ (i:I) {tg:Bool}{sc:Scope}{N:List Str}{e:Expr},kI c lv i tg sc N e=true→∃ ti,(∀ Z g,CE c lv K t va sc N Z→(tg=true→yV g=true)→PI Z g e ti)∧JI K ti (eI t i)
 |.r1 l,tg,sc,N,e,h=>by
  have hh:=aD h;clear h;obtain ⟨⟨x,as⟩,q,h⟩:=hh
  obtain ⟨p,cp,rfl,h4⟩:=kE q
  obtain ⟨h1,h2,h3,h0,h5⟩:=oV h
  cases of_decide_eq_true h1
  obtain ⟨a,rfl⟩:=zJ (of_decide_eq_true h0)
  obtain ⟨ta,pa,ja⟩:=sA l h5
  exact ⟨_,fun Z g E _=>@Mf _ _ _ _ _ _ (E.gl h2) (E.mg h3) (pa Z E) (cC (all1 h4).1),PH ja⟩
 |.r2 l,tg,sc,N,e,h=>by
  have hh:=aD h;clear h;obtain ⟨⟨x,as⟩,q,h⟩:=hh
  obtain ⟨p,cp,rfl,h4⟩:=kE q
  obtain ⟨h1,h2,h3,h0,h5⟩:=oV h
  cases of_decide_eq_true h1
  obtain ⟨a,b,rfl⟩:=Xa (of_decide_eq_true h0)
  obtain ⟨h4,ke⟩:=all1 h4
  have ke:=(all1 ke).1
  obtain ⟨ta,pa,ja⟩:=sA l h5
  exact ⟨_,fun Z g E _=>@Mg _ _ _ _ _ _ _ (E.gl h2) (E.mg h3) (pa Z E) (by rw [cC h4,cC ke];rfl) (cC ke),PJ ja⟩
 |.en l,tg,sc,N,e,h=>by
  have hh:=aD h;clear h;obtain ⟨⟨x,as⟩,q,h⟩:=hh
  obtain ⟨p,cp,rfl,h4⟩:=kE q
  obtain ⟨h0,h1,h2,h3,h6,h5⟩:=v8 h
  cases of_decide_eq_true h1
  obtain ⟨a,rfl⟩:=zJ (of_decide_eq_true h6)
  obtain ⟨ta,pa,ja⟩:=sA l h5
  refine ⟨_,fun Z g E hg=>?_,Qf ja⟩
  have hg:=hg h0
  cases g<;>first|exact absurd hg Bool.false_ne_true|skip
  exact @N1 _ K _ _ _ _ _ _ _ E.k (E.gl h2) (E.mg h3) (pa Z E) (cC (all1 h4).1)
 |.s x,tg,sc,N,e,h=>by
  obtain ⟨ta,pa,ja⟩:=sX x (e:=e) h
  exact ⟨_,fun Z g E _=>Sj (pa Z E),Ts ja⟩
 |.t x,tg,sc,N,e,h=>by
  obtain ⟨ta,pa,ja⟩:=sX x (e:=e) h
  exact ⟨_,fun Z g E _=>Qj E.k (pa Z E),S0 ja⟩
 |.l x,tg,sc,N,e,h=>by
  obtain ⟨ta,pa,ja⟩:=sX x (e:=e) h
  exact ⟨_,fun Z g E _=>Nu E.k (pa Z E),PF ja⟩
end
end
noncomputable def loc (sc:Scope) (x:Str):Bool:=match sc.names.lookup x with
 |some .local=>true
 |some .cell=>true
 |_=>false
theorem Fu {sc:Scope}{x:Str} (h:loc sc x=true):L2.Loc sc x:=by
 unfold loc at h;unfold L2.Loc
 split at h<;>first|exact absurd h Bool.false_ne_true|simp_all
mutual
noncomputable def kG:G→Scope→List Str→Expr→Bool
 |.n i,sc,N,e=>on (oT e) fun x=>decide (N[i]?=some x)&&loc sc x
 |.t k l,sc,N,e=>on (v5 e) fun es=>decide (es.length=k)&&es.all dD&&v9 l sc N es
 |.l k l,sc,N,e=>on (v5 e) fun es=>decide (es.length=k)&&es.all dD&&v9 l sc N es
noncomputable def v9:Gs→Scope→List Str→List Expr→Bool
 |.n,_,_,es=>es.isEmpty
 |.c g l,sc,N,es=>on (oU es) fun q=>dD q.1&&kG g sc N q.1&&v9 l sc N q.2
end
noncomputable def zK:Expr→Bool
 |.List [] _=>true
 |_=>false
theorem QH {e:Expr} (h:zK e=true):∃ p,e=.List [] p:=by
 unfold zK at h
 split at h
 ·exact ⟨_,rfl⟩
 ·cases h
noncomputable def mQ:Stmt→Option (Expr×Expr×Pos)
 |.Assign [tg] e pos=>some (tg,e,pos)
 |_=>none
noncomputable def rR (st:Stmt):Option (Str×Expr):=(mQ st).bind fun q=>(oT q.1).map fun x=>(x,q.2.1)
noncomputable def rS:Stmt→Option Expr
 |.Expr e _=>some e
 |_=>none
noncomputable def AY:Stmt→Option (Option Expr)
 |.Return e _=>some e
 |_=>none
noncomputable def Jy:Stmt→Option (Expr×List Stmt×List Stmt)
 |.If e a b _=>some (e,a,b)
 |_=>none
noncomputable def wa:Stmt→Option (Expr×Expr×List Stmt)
 |.For tg it b [] _=>some (tg,it,b)
 |_=>none
noncomputable def AZ:Stmt→Option (Expr×List Stmt)
 |.While e b [] _=>some (e,b)
 |_=>none
noncomputable def rT:Stmt→Nat
 |.Raise ..=>1
 |.Pass _=>2
 |.Break _=>3
 |.Continue _=>4
 |_=>0
theorem qk {st:Stmt}{q:Expr×Expr×Pos} (h:mQ st=some q):st=.Assign [q.1] q.2.1 q.2.2:=by
 unfold mQ at h
 split at h
 ·cases h;rfl
 ·cases h
theorem uA {st:Stmt}{y:Str}{e:Expr} (h:rR st=some (y,e)):∃ p pos,st=.Assign [.Name y p] e pos:=by
 obtain ⟨q,h1,h⟩:=ic h
 obtain ⟨x,h2,h⟩:=uz h
 cases h
 obtain ⟨p,e⟩:=nI h2
 exact ⟨p,q.2.2,by rw [qk h1,e]⟩
theorem uB {st:Stmt}{e:Expr} (h:rS st=some e):∃ p,st=.Expr e p:=by
 cases st<;>cases h;exact ⟨_,rfl⟩
theorem Fv {st:Stmt}{e:Option Expr} (h:AY st=some e):∃ p,st=.Return e p:=by
 cases st<;>cases h;exact ⟨_,rfl⟩
theorem T7 {st:Stmt}{e:Expr}{a b:List Stmt} (h:Jy st=some (e,a,b)):∃ p,st=.If e a b p:=by
 cases st<;>cases h;exact ⟨_,rfl⟩
theorem Fw {st:Stmt}{a b:Expr}{l:List Stmt} (h:wa st=some (a,b,l)):∃ p,st=.For a b l [] p:=by
 unfold wa at h
 split at h
 ·cases h;exact ⟨_,rfl⟩
 ·cases h
theorem T8 {st:Stmt}{e:Expr}{l:List Stmt} (h:AZ st=some (e,l)):∃ p,st=.While e l [] p:=by
 unfold AZ at h
 split at h
 ·cases h;exact ⟨_,rfl⟩
 ·cases h
theorem T9 {st:Stmt}:(rT st=2→∃ p,st=.Pass p)∧(rT st=3→∃ p,st=.Break p)∧(rT st=4→∃ p,st=.Continue p):=by
 unfold rT
 split
 ·exact ⟨nofun,nofun,nofun⟩
 ·exact ⟨fun _=>⟨_,rfl⟩,nofun,nofun⟩
 ·exact ⟨nofun,fun _=>⟨_,rfl⟩,nofun⟩
 ·exact ⟨nofun,nofun,fun _=>⟨_,rfl⟩⟩
 ·exact ⟨nofun,nofun,nofun⟩
noncomputable def Jz (c:Cf) (lv:Nat) (f:Nat) (l:A) (sc:Scope) (N:List Str) (e:Expr):Bool :=
 on (eN e) fun q=>on c.fs[f]? fun i=>decide (q.1=i.nm)&&gl sc q.1&&!(q.1 == "__debug__")&&decide (i.lv≤lv)&&decide (q.2.length=i.ar)&&decide (i.io=some [])&&!q.2.isEmpty&&kA c lv l sc N q.2
noncomputable def kL (c:Cf) (lv:Nat):L→Scope→List Str→Stmt→Bool
 |.rt x,sc,N,st=>on (AY st) fun o=>on o fun e=>kX c lv x sc N e
 |.ct,_,_,st=>decide (rT st=4)
 |.st i x,sc,N,st=>on (rR st) fun s=>decide (N[i]?=some s.1)&&loc sc s.1&&lP s.2&&kX c lv x sc N s.2
 |.sc j i ix q e,sc,N,st=>on (rR st) fun s=>decide (N[j]?=some s.1)&&loc sc s.1&&kX c lv (.cp i ix q e) sc N s.2
 |.as g x,sc,N,st=>on (mQ st) fun s=>yV s.1&&rN s.2.1&&kG g sc N s.1&&kX c lv x sc N s.2.1
 |.si k i x,sc,N,st=>on (mQ st) fun s=>on (kc s.1) fun u=>mO u.2&&lP s.2.1&&kX c lv (.v k) sc N u.1&&kX c lv i sc N u.2&&kX c lv x sc N s.2.1
 |.dp k i x,sc,N,st=>on (mQ st) fun s=>on (kc s.1) fun u=>lP s.2.1&&kX c lv (.v k) sc N u.1&&kX c lv i sc N u.2&&kX c lv x sc N s.2.1
 |.ap k x,sc,N,st=>on (rS st) fun e=>on (eM "append" e) fun q=>on (l1 q.2) fun a=>kX c lv (.v k) sc N q.1&&kX c lv x sc N a
 |.na k i x,sc,N,st=>on (rS st) fun e=>on (eM "append" e) fun q=>on (l1 q.2) fun a=>on (kc q.1) fun u=>mO u.2&&kX c lv (.v k) sc N u.1&&kX c lv i sc N u.2&&kX c lv x sc N a
 |.po i k,sc,N,st=>on (rR st) fun s=>on (eM "pop" s.2) fun q=>decide (N[i]?=some s.1)&&loc sc s.1&&q.2.isEmpty&&kX c lv (.v k) sc N q.1
 |.cl k,sc,N,st=>on (rS st) fun e=>on (eM "clear" e) fun q=>q.2.isEmpty&&kX c lv (.v k) sc N q.1
 |.ne i it,sc,N,st=>on (rR st) fun s=>on (vn s.2) fun q=>decide (N[i]?=some s.1)&&loc sc s.1&&q.2.2.2.2.1.isEmpty&&zK q.1&&AK N (ns N q.2.1 []) sc q.2.2.2.2.2.1 q.2.1 []&&(jS q.2.2.2.1&&kI c lv it false sc N q.2.2.2.1)
 |.tp k i x,sc,N,st=>on (mQ st) fun s=>on (kc s.1) fun u=>lP s.2.1&&kX c lv (.v k) sc N u.1&&kX c lv i sc N u.2&&kX c lv x sc N s.2.1
 |.tc k,sc,N,st=>on (rS st) fun e=>on (eM "clear" e) fun q=>q.2.isEmpty&&kX c lv (.v k) sc N q.1
 |.rO f _ l,sc,N,st=>on (AY st) fun o=>on o fun e=>Jz c lv f l sc N e
mutual
noncomputable def kS (c:Cf) (lv:Nat):S→Scope→List Str→Stmt→Bool
 |.l x,sc,N,st=>kL c lv x sc N st
 |.ie t a b,sc,N,st=>on (Jy st) fun q=>kT c lv t sc N q.1&&kB c lv a sc N q.2.1&&kB c lv b sc N q.2.2
 |.fo i g b,sc,N,st=>on (wa st) fun q=>kI c lv i (yV q.1) sc N q.2.1&&jS q.2.1&&kG g sc N q.1&&kB c lv b sc N q.2.2
 |.fv k g b,sc,N,st=>on (wa st) fun q=>on (eM "values" q.2.1) fun u=>u.2.isEmpty&&kX c lv (.v k) sc N u.1&&kG g sc N q.1&&kB c lv b sc N q.2.2
 |.wh t b,sc,N,st=>on (AZ st) fun q=>kT c lv t sc N q.1&&kB c lv b sc N q.2
 |.fz _ s,sc,N,st=>kS c lv s sc N st
noncomputable def kB (c:Cf) (lv:Nat):B→Scope→List Str→List Stmt→Bool
 |.n,_,_,ss=>ss.isEmpty
 |.o s,sc,N,ss=>on (l1 ss) fun st=>kS c lv s sc N st
 |.c s b,sc,N,ss=>on (oU ss) fun q=>kS c lv s sc N q.1&&kB c lv b sc N q.2
end
structure CS (c:Cf) (lv:Nat) (K:PySem.W.Frag) (t:List FT) (va:List V) (sc:Scope) (N:List Str) (Z:Cx):Prop where
 e:CE c lv K t va sc N Z
 nd:N.Nodup
 fn:∀ x,Z.fn x=true
 po:PassesOwn (model Z.prog Z.w) Z.A Z.env Z.xe
 kd:sc.kind=.function
section
variable {c:Cf}{lv:Nat}{K:PySem.W.Frag}{t:List FT}{va:List V}
theorem sV {k:Nat}{sc:Scope}{N:List Str}{e:Expr} (h:kX c lv (.v k) sc N e=true) (Z:Cx) (E:CE c lv K t va sc N Z):PE Z e (fQ k):=by
 have hh:=aD h;clear h;obtain ⟨x,q,h⟩:=hh
 obtain ⟨p,rfl⟩:=nI q
 obtain ⟨h1,h2,h3,h4⟩:=fI h
 have h1:=of_decide_eq_true h1
 have h2:=Fq h2
 exact @EF _ _ _ _ (E.n▸h1) (E.sc▸h2) (nb h3) (nb h4)
theorem CL {e:Expr} (h:dD e=true) {es:List Expr}{env:Env}:assignEach (e::es) env=(false,assign e env)::assignEach es env:=by
 cases e<;>first|rfl|cases h
theorem pM {env:Env}:∀ {es:List Expr},es.all dD=true→(assignEach es env).length=es.length∧(assignEach es env).findIdx? (fun x=>x.1)=none
 |[],_=>⟨rfl,rfl⟩
 |e::es,h=>by
  rw [List.all_cons,Bool.and_eq_true] at h
  obtain ⟨h1,h2⟩:=pM (env:=env) h.2
  rw [CL h.1]
  refine ⟨by simp [h1],?_⟩
  rw [List.findIdx?_cons,h2]
  rfl
mutual
theorem sG:∀ (g:G) {sc:Scope}{N:List Str}{e:Expr},kG g sc N e=true→∃ tg,(∀ Z,CS c lv K t va sc N Z→PG Z e tg)∧JG K tg (eG g)
 |.n i,sc,N,e,h=>by
  have hh:=aD h;clear h;obtain ⟨x,q,h⟩:=hh
  obtain ⟨p,rfl⟩:=nI q
  obtain ⟨h1,h2⟩:=cI h
  have h1:=of_decide_eq_true h1
  exact ⟨_,fun Z E=>@DL _ _ i _ (E.e.n▸E.nd) (E.e.n▸h1) (E.e.sc▸Fu h2) (.inl (E.fn _)),PK⟩
 |.t k l,sc,N,e,h=>by
  have hh:=aD h;clear h;obtain ⟨es,q,h⟩:=hh
  obtain ⟨k',p,rfl⟩:=yx q
  obtain ⟨h1,h2,h3⟩:=gd h
  cases of_decide_eq_true h1
  obtain ⟨tg,pg,jg⟩:=A4 l h3
  exact ⟨_,fun Z E=>E.e.k▸@Ru _ _ _ _ _ _ E.e.calm (pg Z E) (pM h2).1 (pM h2).2,S1 jg⟩
 |.l k l,sc,N,e,h=>by
  have hh:=aD h;clear h;obtain ⟨es,q,h⟩:=hh
  obtain ⟨k',p,rfl⟩:=yx q
  obtain ⟨h1,h2,h3⟩:=gd h
  cases of_decide_eq_true h1
  obtain ⟨tg,pg,jg⟩:=A4 l h3
  exact ⟨_,fun Z E=>E.e.k▸@Sg _ _ _ _ _ _ E.e.calm (pg Z E) (pM h2).1 (pM h2).2,Tq jg⟩
theorem A4:∀ (l:Gs) {sc:Scope}{N:List Str}{es:List Expr},v9 l sc N es=true→∃ tg,(∀ Z,CS c lv K t va sc N Z→oB Z es tg)∧oN K tg (vY l)
 |.n,_,_,es,h=>by
  cases List.isEmpty_iff.mp h
  exact ⟨_,fun _ _=>OW,PL⟩
 |.c g l,sc,N,es,h=>by
  have hh:=aD h;clear h;obtain ⟨⟨e,r⟩,q,h⟩:=hh
  cases lI q
  obtain ⟨h0,h1,h2⟩:=gd h
  obtain ⟨ta,pa,ja⟩:=sG g h1
  obtain ⟨tl,pl,jl⟩:=A4 l h2
  exact ⟨_,fun Z E=>@Nb _ _ _ _ _ (pa Z E) (pl Z E) (by rw [CL h0];rfl),NQ ja jl⟩
end
theorem JA:∀ (l:A) {sc:Scope}{N:List Str}{es:List Expr},kA c lv l sc N es=true→∃ ta,(∀ Z,CE c lv K t va sc N Z→PA Z es ta)∧lj K ta (eA t l) (qN l)
 |.n,_,_,es,h=>by
  cases List.isEmpty_iff.mp h
  exact ⟨_,fun _ _=>qd,Qg⟩
 |.c a l,sc,N,es,h=>by
  have hh:=aD h;clear h;obtain ⟨⟨e,r⟩,q,h⟩:=hh
  cases lI q
  obtain ⟨h0,h1,h2⟩:=gd h
  obtain ⟨tl,pl,jl⟩:=JA l h2
  cases a with
  |v i=>exact ⟨_,fun Z E=>@ub _ _ _ _ _ (sV h1 Z E) (pl Z E) (cC h0),Qh jl⟩
  |_ =>
   obtain ⟨ta,pa,ja⟩:=sX _ h1
   exact ⟨_,fun Z E=>@ub _ _ _ _ _ (pa Z E) (pl Z E) (cC h0),N2 ja jl⟩
theorem qz {e:Expr}{o:Option Expr}{n:Nat}{env:Env} (h:lP e=true):swapsWith e o n env=pure false:=by
 cases e<;>first|rfl|cases h
end
end C
set_option maxHeartbeats 4000000
namespace C
open PySem PySem.Spec L2 J
section
variable {c:Cf}{lv:Nat}{K:PySem.W.Frag}{t:List FT}{va:List V}
theorem Ef {el:Expr}{gs:List Comprehension}{aB:Scope}{ep py:Pos}{y:Str}{n:Nat}{env:Env} :
  swapsWith (.ListComp el gs aB ep) (some (.Name y py)) n env=pure true∧env.scope.names.lookup y=some .local∨swapsWith (.ListComp el gs aB ep) (some (.Name y py)) n env=pure false:=by
 have e:swapsWith (.ListComp el gs aB ep) (some (.Name y py)) n env=pure (env.blockKind==.function&&env.kindOf y==some .local&&py.line==ep.line&&!(aB.names.any fun x=>match x with | (n,k)=>n==y&&(k==NameKind.local||k==NameKind.cell))):=rfl
 rw [e]
 generalize hb:(env.blockKind==.function&&env.kindOf y==some .local&&py.line==ep.line&&!(aB.names.any fun x=>match x with | (n,k)=>n==y&&(k==NameKind.local||k==NameKind.cell)))=b
 cases b with
 |false=>exact .inr rfl
 |true =>
  obtain ⟨_,h,_,_⟩:=fI hb
  exact .inl ⟨rfl,by simpa [Env.kindOf] using h⟩
theorem YD {i:I}{ix:List Nat}{t':T}{d:X}{sc:Scope}{N:List Str}{e:Expr} (h:kX c lv (.cp i ix t' d) sc N e=true) :
  ∃ el x px it ifs aB ep wi tc te,e=.ListComp el [⟨.Name x px,it,ifs,0⟩] aB ep∧(∀ Z,CE c lv K t va sc N Z→lG Z.N (ns N x ix) Z.env.scope aB x ix∧PI Z (.Name x px) it wi∧(∀ C s₂ H₂ fp pn,mD (Z.cv (ns N x ix) aB C s₂ H₂ fp pn) ifs tc)∧(∀ C s₂ H₂ fp pn,PE (Z.cv (ns N x ix) aB C s₂ H₂ fp pn) el te))∧jS it=true∧JT K (nR wi ix tc te) (eX t (.cp i ix t' d)):=by
 have hh:=aD h;clear h;obtain ⟨⟨el,x,px,it,ifs,aB,ep⟩,q,h⟩:=hh
 cases xW q
 obtain ⟨h1,h2,h3,h4,h5⟩:=oV h
 have h1:=yu h1
 obtain ⟨ti,pi,ji⟩:=sI i h3
 obtain ⟨te,pe,je⟩:=sX d h5
 have h4:(ifs.isEmpty=true∧AV t'=true)∨(on (l1 ifs) fun y=>kT c lv t' (rl sc aB) (ns N x ix) y)=true:=by simpa using h4
 rcases h4 with ⟨w1,w2⟩|h4
 ·cases List.isEmpty_iff.mp w1
  cases t'<;>first|exact absurd w2 Bool.false_ne_true|skip
  exact ⟨el,x,px,it,[],aB,ep,_,_,_,rfl,fun Z E=>⟨by rw [E.n,E.sc];exact h1,pi Z (.Name x px) E (fun z=>absurd z Bool.false_ne_true),(fun C s₂ H₂ fp pn=>uf),(fun C s₂ H₂ fp pn=>pe _ E.cv)⟩,h2,ui ji D7 je⟩
 ·have hh:=aD h4;clear h4;obtain ⟨y,q,h4⟩:=hh
  cases iZ q
  obtain ⟨tq,pq,jq⟩:=sT t' h4
  exact ⟨el,x,px,it,[y],aB,ep,_,_,_,rfl,fun Z E=>⟨by rw [E.n,E.sc];exact h1,pi Z (.Name x px) E (fun z=>absurd z Bool.false_ne_true),(fun C s₂ H₂ fp pn=>DY (pq _ E.cv)),(fun C s₂ H₂ fp pn=>pe _ E.cv)⟩,h2,ui ji jq je⟩
theorem YF {f:Nat}{l:A}{sc:Scope}{N:List Str}{e:Expr} (h:Jz c lv f l sc N e=true):∃ n ta,(∀ Z,CE c lv K t va sc N Z→PE Z e (qo (vm K n (FT.q t[f]?)) [] E0 ta))∧lj K ta (eA t l) (qN l)∧lP e=true∧∀ (e:Ev) (aA:List (M×D)),eA t l e=some aA→aA.length=n:=by
 have hh:=aD h;clear h;obtain ⟨⟨x,as⟩,q,h⟩:=hh
 obtain ⟨p,cp,rfl,AW⟩:=kE q
 have hh:=aD h;clear h;obtain ⟨i,hf,h⟩:=hh
 obtain ⟨h1,h2,h3,h4,h5,AX,h0,h8⟩:=Jx h
 obtain ⟨a,r,rfl⟩:=xX h0
 obtain ⟨h6,h7⟩:=all1 AW
 have h1:=of_decide_eq_true h1
 obtain ⟨ta,pa,ja⟩:=JA l h8
 have hl:=zI (t:=t) h8
 rw [show (a::r).length=i.ar from of_decide_eq_true h5] at hl
 refine ⟨i.ar,ta,fun Z E=>?_,ja,rfl,hl⟩
 obtain ⟨F,hF,q⟩:=E.fs f i hf
 cases F with
 |p F=>rw [mP,of_decide_eq_true AX] at q;cases q.1
 |oo F =>
  obtain ⟨_,a,fd,ps,k1,k2,k3,k4⟩:=q
  rw [←h1] at k2
  rw [hF,←E.k]
  exact @DQ _ _ _ _ _ _ _ _ _ _ _ _ _ _ _ _ k1 (E.rm.mono (of_decide_eq_true h4)) (E.gl h2) k2 k3 k4 .nil F7 (pa Z E) (nb h3) (cC h6) (iP h7 _)
theorem Ua {e:Expr} (h:rN e=true):lP e=true:=by
 cases e<;>first|rfl|cases h
theorem Ub {e:Expr}{es:List Expr}{k:Nat}{p:Pos}{env:Env} (h:rN e=true):swappedStores [.Tuple es k p] e env=pure none:=by
 cases e<;>first|rfl|cases h
theorem JB {o:Expr}{nm:Str}{ap cp:Pos}{to:TE}{id:String}{r:V→List V→Hp→VK→Prop}{Z:Cx} (k:Z.K=K) (h1:Slot "list" nm id) (h2:typeOf (.builtin id)=pure (.type "method_descriptor")) (h3:vD Z id r) (ho:PE Z o to) (h4:rP o=true) (h5:(ap.endLine==cp.line)=true):PE Z (.Call (.Attribute o nm ap) [] [] cp) (qD K "list" r to) :=
 k▸@ER _ _ _ _ _ _ _ _ _ PySem.F.plainAttrs_list h1 h2 h3 ho (qj h4) h5
theorem vK {o a:Expr}{ap cp:Pos}{to ta:TE}{Z:Cx} (k:Z.K=K) (ho:PE Z o to) (ha:PE Z a ta) (h4:rP o=true) (h5:(ap.endLine==cp.line)=true) (h6:dD a=true):PE Z (.Call (.Attribute o "append" ap) [a] [] cp) (vF K "list" uc to (lJ ta kJ)) :=
 k▸@UW _ _ _ _ _ _ _ _ _ _ _ _ PySem.F.plainAttrs_list PySem.F.slot_list_append PySem.F.type_list_append CB ho (@ub _ _ _ _ _ ha qd (cC h6)) (qj h4) (T5 h6) h5 (cC h6) T6
theorem vo {Z:Cx}{sc:Scope}{N:List Str}{e:Expr}{te:TE}{pos py:Pos}{y:Str}{i:Nat} (E:CS c lv K t va sc N Z) (h1:N[i]?=some y) (h2:loc sc y=true) (h:PE Z e te) (hs:swapsWith e (some (Expr.Name y py)) pos.line Z.env=pure false):eY Z (.Assign [.Name y py] e pos) (gQ te (iT i)) :=
 @Tt _ _ _ _ _ _ i (E.e.n▸E.nd) (E.e.n▸h1) (E.e.sc▸Fu h2) h hs (.inl (E.fn _))
theorem sL:∀ (s:L) {sc:Scope}{N:List Str}{st:Stmt},kL c lv s sc N st=true→∃ ts,(∀ Z,CS c lv K t va sc N Z→eY Z st ts)∧JS K ts (eL t s)
 |.rt x,sc,N,st,h=>by
  have hh:=aD h;clear h;obtain ⟨o,q,h⟩:=hh
  obtain ⟨p,rfl⟩:=Fv q
  have hh:=aD h;clear h;obtain ⟨e,rfl,h⟩:=hh
  obtain ⟨te,pe,je⟩:=sX x h
  exact ⟨_,fun Z E=>Fe (pe Z E.e),SR je⟩
 |.ct,sc,N,st,h=>by
  obtain ⟨p,rfl⟩:=T9.2.2 (of_decide_eq_true h)
  exact ⟨_,fun Z E=>Lr,PD⟩
 |.st i x,sc,N,st,h=>by
  have hh:=aD h;clear h;obtain ⟨⟨y,e⟩,q,h⟩:=hh
  obtain ⟨py,pos,rfl⟩:=uA q
  obtain ⟨h1,h2,h3,h4⟩:=fI h
  obtain ⟨te,pe,je⟩:=sX x h4
  exact ⟨_,fun Z E=>vo E (of_decide_eq_true h1) h2 (pe Z E.e) (qz h3),E5 je⟩
 |.sc j i ix t' d,sc,N,st,h=>by
  have hh:=aD h;clear h;obtain ⟨⟨y,e⟩,q,h⟩:=hh
  obtain ⟨py,pos,rfl⟩:=uA q
  obtain ⟨h1,h2,h3⟩:=gd h
  have h1:=of_decide_eq_true h1
  obtain ⟨el,z,pz,it,ifs,aB,ep,wi,tc,te,e,pe,ns,je⟩:=YD h3
  have e:_=Expr.ListComp el [⟨.Name z pz,it,ifs,0⟩] aB ep:=e
  subst e
  refine ⟨_,fun Z E=>?_,E5 je⟩
  obtain ⟨p1,p2,p3,p4⟩:=pe Z E.e
  rcases Ef (el:=el) (gs:=[⟨.Name z pz,it,ifs,0⟩]) (aB:=aB) (ep:=ep) (py:=py) (y:=y) (n:=pos.line) (env:=Z.env) with ⟨w,l⟩|w
  ·exact @B8 _ _ _ _ _ _ _ _ _ _ _ _ _ j _ _ _ (E.e.n▸E.nd) (E.e.n▸h1) l p1 E.e.calm p2 p3 p4 w (km ns)
  ·exact vo E h1 h2 (@ug _ _ _ _ _ _ _ _ _ _ _ _ _ p1 E.e.calm p2 p3 p4 (km ns)) w
 |.as g x,sc,N,st,h=>by
  have hh:=aD h;clear h;obtain ⟨⟨tg,e,pos⟩,q,h⟩:=hh
  cases qk q
  obtain ⟨h1,h2,h3,h4⟩:=fI h
  obtain ⟨te,pe,je⟩:=sX x h4
  obtain ⟨JC,pg,jg⟩:=sG g h3
  refine ⟨_,fun Z E=>@Ff _ _ _ _ _ _ (pe Z E.e) (pg Z E) ?_ ?_ ?_,S2 je jg⟩
  ·exact (show swapsWith e (some tg) pos.line Z.env=pure false from qz (Ua h2))
  ·cases tg<;>first|exact absurd h1 Bool.false_ne_true|skip
   exact Ub h2
  ·cases tg<;>first|rfl|exact absurd h1 Bool.false_ne_true
 |.si k i x,sc,N,st,h=>by
  have hh:=aD h;clear h;obtain ⟨⟨tg,e,pos⟩,q,h⟩:=hh
  cases qk q
  have hh:=aD h;clear h;obtain ⟨⟨o,ie⟩,q,h⟩:=hh
  obtain ⟨p,r⟩:=kx q
  have r:tg=_:=r
  subst r
  obtain ⟨h1,h2,h3,h4,h5⟩:=oV h
  obtain ⟨ti,pi,ji⟩:=sX i h4
  obtain ⟨te,pe,je⟩:=sX x h5
  refine ⟨_,fun Z E=>@Ff _ _ _ _ _ _ (pe Z E.e) (@Rv _ _ _ _ _ _ _ (sV h3 Z E.e) (pi Z E.e) set_list (TH h1)) ?_ ?_ rfl,NF je ji⟩
  ·exact (show swapsWith e (some (Expr.Subscript o ie p)) pos.line Z.env=pure false from qz h2)
  ·cases e<;>rfl
 |.dp k i x,sc,N,st,h=>by
  have hh:=aD h;clear h;obtain ⟨⟨tg,e,pos⟩,q,h⟩:=hh
  cases qk q
  have hh:=aD h;clear h;obtain ⟨⟨o,ie⟩,q,h⟩:=hh
  obtain ⟨p,r⟩:=kx q
  have r:tg=_:=r
  subst r
  obtain ⟨h2,h3,h4,h5⟩:=fI h
  obtain ⟨ti,pi,ji⟩:=sX i h4
  obtain ⟨te,pe,je⟩:=sX x h5
  exact ⟨_,fun Z E=>Ea (nQ E.e.rm) (sV h3 Z E.e) (pi Z E.e) (pe Z E.e) (qz h2),Qp je ji⟩
 |.ap k x,sc,N,st,h=>by
  have hh:=aD h;clear h;obtain ⟨e,q,h⟩:=hh
  obtain ⟨pos,rfl⟩:=uB q
  have hh:=aD h;clear h;obtain ⟨⟨o,as⟩,q,h⟩:=hh
  obtain ⟨ap,cp,rfl,h2,h3,h4⟩:=lQ q
  have hh:=aD h;clear h;obtain ⟨a,q1,h⟩:=hh
  cases iZ q1
  obtain ⟨h5,h6⟩:=cI h
  obtain ⟨te,pe,je⟩:=sX x h6
  exact ⟨_,fun Z E=>@uj _ _ _ _ (vK E.e.k (sV h5 Z E.e) (pe Z E.e) h2 h3 (all1 h4).1) rfl,SW je⟩
 |.na k i x,sc,N,st,h=>by
  have hh:=aD h;clear h;obtain ⟨e,q,h⟩:=hh
  obtain ⟨pos,rfl⟩:=uB q
  have hh:=aD h;clear h;obtain ⟨⟨o,as⟩,q,h⟩:=hh
  obtain ⟨ap,cp,rfl,h2,h3,h4⟩:=lQ q
  have hh:=aD h;clear h;obtain ⟨a,q1,h⟩:=hh
  cases iZ q1
  have hh:=aD h;clear h;obtain ⟨⟨o',ie⟩,q,h⟩:=hh
  obtain ⟨p,r⟩:=kx q
  have r:o=_:=r
  subst r
  obtain ⟨h0,h5,h6,h7⟩:=fI h
  obtain ⟨ti,pi,ji⟩:=sX i h6
  obtain ⟨te,pe,je⟩:=sX x h7
  exact ⟨_,fun Z E=>@uj _ _ _ _ (vK E.e.k (@F1 _ _ _ _ _ _ _ (D1 E.e.k) (sV h5 Z E.e) (pi Z E.e) (Gk h0)) (pe Z E.e) h2 h3 (all1 h4).1) rfl,Qt ji je⟩
 |.po i k,sc,N,st,h=>by
  have hh:=aD h;clear h;obtain ⟨⟨y,e⟩,q,h⟩:=hh
  obtain ⟨py,pos,rfl⟩:=uA q
  have hh:=aD h;clear h;obtain ⟨⟨o,as⟩,q,h⟩:=hh
  obtain ⟨ap,cp,r,h2,h3,h4⟩:=lQ q
  have r:e=_:=r
  subst r
  obtain ⟨h1,h5,h0,h6⟩:=fI h
  cases List.isEmpty_iff.mp h0
  exact ⟨_,fun Z E=>vo E (of_decide_eq_true h1) h5 (JB E.e.k PySem.F.slot_list_pop PySem.F.type_list_pop Sb (sV h6 Z E.e) h2 h3) rfl,SX⟩
 |.cl k,sc,N,st,h=>by
  have hh:=aD h;clear h;obtain ⟨e,q,h⟩:=hh
  obtain ⟨pos,rfl⟩:=uB q
  have hh:=aD h;clear h;obtain ⟨⟨o,as⟩,q,h⟩:=hh
  obtain ⟨ap,cp,rfl,h2,h3,h4⟩:=lQ q
  obtain ⟨h0,h6⟩:=cI h
  cases List.isEmpty_iff.mp h0
  exact ⟨_,fun Z E=>@uj _ _ _ _ (JB E.e.k PySem.F.slot_list_clear PySem.F.type_list_clear Nk (sV h6 Z E.e) h2 h3) rfl,NK⟩
 |.ne i it,sc,N,st,h=>by
  have hh:=aD h;clear h;obtain ⟨⟨y,e⟩,q,h⟩:=hh
  obtain ⟨py,pos,rfl⟩:=uA q
  have hh:=aD h;clear h;obtain ⟨⟨el,z,pz,ie,ifs,aB,ep⟩,q,h⟩:=hh
  have r:e=_:=xW q
  subst r
  obtain ⟨h1,h2,q1,q2,h6,h7⟩:=v8 h
  obtain ⟨h4,h5⟩:=cI h7
  have h1:=of_decide_eq_true h1
  obtain ⟨lp,r⟩:=QH q2
  have r:el=_:=r
  subst r
  cases List.isEmpty_iff.mp q1
  have h6:=yu h6
  obtain ⟨ti,pi,ji⟩:=sI it h5
  refine ⟨_,fun Z E=>?_,Qs (ix:=[]) ji⟩
  have p1:lG Z.N (ns N z []) Z.env.scope aB z []:=by rw [E.e.n,E.e.sc];exact h6
  have p2:=pi Z (.Name z pz) E.e (fun z=>absurd z Bool.false_ne_true)
  rcases Ef (el:=.List [] lp) (gs:=[⟨.Name z pz,ie,[],0⟩]) (aB:=aB) (ep:=ep) (py:=py) (y:=y) (n:=pos.line) (env:=Z.env) with ⟨w,l⟩|w
  ·exact @B8 _ _ _ _ _ _ _ _ _ _ _ _ _ i _ _ _ (E.e.n▸E.nd) (E.e.n▸h1) l p1 E.e.calm p2 (fun C s₂ H₂ fp pn=>uf) (fun C s₂ H₂ fp pn=>yi qd) w (km h4)
  ·exact vo E h1 h2 (@ug _ _ _ _ _ _ _ _ _ _ _ _ _ p1 E.e.calm p2 (fun C s₂ H₂ fp pn=>uf) (fun C s₂ H₂ fp pn=>yi qd) (km h4)) w
 |.tp k i x,sc,N,st,h=>by
  have hh:=aD h;clear h;obtain ⟨⟨tg,e,pos⟩,q,h⟩:=hh
  cases qk q
  have hh:=aD h;clear h;obtain ⟨⟨o,ie⟩,q,h⟩:=hh
  obtain ⟨p,r⟩:=kx q
  have r:tg=_:=r
  subst r
  obtain ⟨h2,h3,h4,h5⟩:=fI h
  obtain ⟨ti,pi,ji⟩:=sX i h4
  obtain ⟨te,pe,je⟩:=sX x h5
  exact ⟨_,fun Z E=>Ea (nQ E.e.rm) (sV h3 Z E.e) (pi Z E.e) (pe Z E.e) (qz h2),Qy je ji⟩
 |.tc k,sc,N,st,h=>by
  have hh:=aD h;clear h;obtain ⟨e,q,h⟩:=hh
  obtain ⟨pos,rfl⟩:=uB q
  have hh:=aD h;clear h;obtain ⟨⟨o,as⟩,q,h⟩:=hh
  obtain ⟨ap,cp,rfl,h2,h3,h4⟩:=lQ q
  obtain ⟨h0,h6⟩:=cI h
  cases List.isEmpty_iff.mp h0
  exact ⟨_,fun Z E=>@uj _ _ _ _ (E.e.k▸@ER _ _ _ _ _ _ _ _ _ PySem.F.plainAttrs_dict PySem.F.slot_dict_clear PySem.F.type_dict_clear MQ (sV h6 Z E.e) (qj h2) h3) rfl,MR⟩
 |.rO f sl l,sc,N,st,h=>by
  have hh:=aD h;clear h;obtain ⟨o,q,h⟩:=hh
  obtain ⟨pos,rfl⟩:=Fv q
  have hh:=aD h;clear h;obtain ⟨e,rfl,h⟩:=hh
  obtain ⟨n,ta,p1,p2,nc,p3⟩:=YF h
  exact ⟨_,fun Z E=>Fe (p1 Z E.e),Oc p2 p3⟩
mutual
theorem sS:∀ (s:S) {sc:Scope}{N:List Str}{st:Stmt},kS c lv s sc N st=true→∃ ts,(∀ Z,CS c lv K t va sc N Z→eY Z st ts)∧JS K ts (eS t s)
 |.l x,sc,N,st,h=>sL x (st:=st) h
 |.ie t' a b,sc,N,st,h=>by
  have hh:=aD h;clear h;obtain ⟨⟨e,as,bs⟩,q,h⟩:=hh
  obtain ⟨p,rfl⟩:=T7 q
  obtain ⟨h1,h2,h3⟩:=gd h
  obtain ⟨tq,pq,jq⟩:=sT t' h1
  obtain ⟨ta,pa,ja⟩:=sB a h2
  obtain ⟨tb,pb,jb⟩:=sB b h3
  exact ⟨_,fun Z E=>Vj (pq Z E.e) (pa Z E) (pb Z E),Va jq ja jb⟩
 |.fo i g b,sc,N,st,h=>by
  have hh:=aD h;clear h;obtain ⟨⟨tg,it,body⟩,q,h⟩:=hh
  obtain ⟨p,rfl⟩:=Fw q
  obtain ⟨h1,h2,h3,h4⟩:=fI h
  obtain ⟨ti,pi,ji⟩:=sI i h1
  obtain ⟨JC,pg,jg⟩:=sG g h3
  obtain ⟨tb,pb,jb⟩:=sB b h4
  exact ⟨_,fun Z E=>@Fg _ _ _ _ _ _ _ _ E.po E.e.calm (pi Z tg E.e id) (pg Z E) (pb Z E) (km h2),S3 ji jg jb⟩
 |.fv k g b,sc,N,st,h=>by
  have hh:=aD h;clear h;obtain ⟨⟨tg,it,body⟩,q,h⟩:=hh
  obtain ⟨p,rfl⟩:=Fw q
  have hh:=aD h;clear h;obtain ⟨⟨o,as⟩,q,h⟩:=hh
  obtain ⟨ap,cp,r,h2,h3,_⟩:=lQ q
  have r:it=_:=r
  subst r
  obtain ⟨h0,h5,h6,h7⟩:=fI h
  cases List.isEmpty_iff.mp h0
  obtain ⟨JC,pg,jg⟩:=sG g h6
  obtain ⟨tb,pb,jb⟩:=sB b h7
  exact ⟨_,fun Z E=>Qu (@Fg _ _ _ _ _ _ _ _ E.po E.e.calm (@ML _ _ _ _ _ _ (sV h5 Z E.e) (qj h2) h3) (pg Z E) (pb Z E) (km rfl)),Qv (i:=k) jg jb⟩
 |.wh t' b,sc,N,st,h=>by
  have hh:=aD h;clear h;obtain ⟨⟨e,body⟩,q,h⟩:=hh
  obtain ⟨p,rfl⟩:=T8 q
  obtain ⟨h1,h2⟩:=cI h
  obtain ⟨tq,pq,jq⟩:=sT t' h1
  obtain ⟨tb,pb,jb⟩:=sB b h2
  exact ⟨_,fun Z E=>N8 E.po (pq Z E.e) (pb Z E),NR jq jb⟩
 |.fz k s,sc,N,st,h=>by
  obtain ⟨ts,ps,js⟩:=sS s (st:=st) h
  exact ⟨_,ps,SY js⟩
theorem sB:∀ (b:B) {sc:Scope}{N:List Str}{ss:List Stmt},kB c lv b sc N ss=true→∃ ts,(∀ Z,CS c lv K t va sc N Z→jP Z ss ts)∧JS K ts (eB t b)
 |.n,_,_,ss,h=>by
  cases List.isEmpty_iff.mp h
  exact ⟨_,fun _ _=>Qm,PB⟩
 |.o s,_,_,ss,h=>by
  have hh:=aD h;clear h;obtain ⟨st,q,h⟩:=hh
  cases iZ q
  obtain ⟨ts,ps,js⟩:=sS s h
  exact ⟨_,fun Z E=>Qn (ps Z E),js⟩
 |.c s b,_,_,ss,h=>by
  have hh:=aD h;clear h;obtain ⟨⟨st,r⟩,q,h⟩:=hh
  cases lI q
  obtain ⟨h1,h2⟩:=cI h
  obtain ⟨ts,ps,js⟩:=sS s h1
  obtain ⟨tb,pb,jb⟩:=sB b h2
  exact ⟨_,fun Z E=>N7 (ps Z E) (pb Z E),SQ js jb⟩
end
end
end C
namespace C
open PySem PySem.Spec L2 J My
def gO (P:Program) (w:World) (K:PySem.W.Frag) (mg:Str→Option Value) (base:Heap) (fs:List Fi) (t:List FT):Prop :=
 ∀ (i:Nat) fi,fs[i]?=some fi→∃ F,t[i]?=some F∧mP P w K mg base fi F
noncomputable def kF (c:Cf) (lv:Nat) (N ps:List Str) (st:Stmt) (b:B):Bool :=
 decide ((bZ st).kind=.function∧(bZ st).isCoroutine=false∧(bZ st).isGenerator=false∧N.Nodup∧N.take ps.length=ps ∧
  (∀ x∈ps,(bZ st).names.lookup x=some .local∨(bZ st).names.lookup x=some .cell)∧(∀ y∈(bZ st).names,y.2≠.free))&&kB c lv b (bZ st) N (eU st)
section
variable {P:Program}{w:World}{K:PySem.W.Frag}{mg:Str→Option Value}{base:Heap}{t:List FT}{va:List V}
theorem gO.nil:gO P w K mg base [] t:=fun i fi h=>by simp at h
theorem gO.cons {fs:List Fi}{f:Fi}{F:FT} (h:gO P w K mg base fs t) (q:mP P w K mg base f F):gO P w K mg base (f::fs) (F::t)
 |0,fi,e=>by cases e;exact ⟨F,rfl,q⟩
 |i+1,fi,e=>h i fi e
theorem ctx {bs:List String}{gs:List (Str×Gv)}{fs:List Fi}{lv:Nat}{N ps:List Str}{st:Stmt}{b:B}{qual:Str}{f:Addr}{cd:Value}{A:Around}{outer:List Env}{s:Shared}{H:Hp}{E:XK} (h:gO P w K mg base fs t) (hb:∀ x∈bs,mg (Str.ofString x)=none) (hg:GV K mg va gs) (k:kF ⟨bs,gs,fs⟩ lv N ps st b=true)
  (hr:dw lv (A.deeper (PyProof.Rows.envOfC qual (bZ st) s.heap.objs.size f cd))):CS ⟨bs,gs,fs⟩ lv K t va (bZ st) N ((kK j4 P w K mg base N qual (bZ st) f cd A outer s H E).mw):=by
 obtain ⟨k1,k2⟩:=cI k
 obtain ⟨h1,h2,h3,h4,h5,h6,h7⟩:=of_decide_eq_true k1
 exact ⟨⟨rfl,rfl,rfl,rfl,hr,hb,hg,h⟩,h4,fun _=>rfl,PassesOwn.never,h1⟩
theorem zL {c:Cf}{lv:Nat}{N ps:List Str}{st:Stmt}{b:B} (k:kF c lv N ps st b=true):p5 N ps (bZ st):=by
 obtain ⟨h1,h2,h3,h4,h5,h6,h7⟩:=of_decide_eq_true (cI k).1
 exact ⟨h1,h2,h3,h4,h5,h6,h7⟩
theorem Vv {bs:List String}{gs:List (Str×Gv)}{fs:List Fi}{lv:Nat}{N ps:List Str}{x:Str}{st:Stmt}{b:B}{f:Addr}{fd:FuncData} (h:gO P w K mg base fs t) (hb:∀ x∈bs,mg (Str.ofString x)=none) (hg:GV K mg va gs) (Df:Df K mg x st ps f fd) (k:kF ⟨bs,gs,fs⟩ lv N ps st b=true) :
  mP P w K mg base ⟨x,ps.length,lv+1,none⟩ (.p (fn N.length (eB t b))):=by
 refine ⟨rfl,f,fd,ps,?_,Df.mg,Df.fn.kp,Df.bd⟩
 refine Df.fn.ok (zL k) (fun vs H Q E h=>h.1) (fun bM A outer s H vs Q E hr q=>?_)
 obtain ⟨ts,p1,p2⟩:=sB (t:=t) (va:=va) (K:=K) b (cI k).2
 exact ⟨ts,(p1 _ (ctx h hb hg k hr)).go,D5 p2 q⟩
theorem Vw {bs:List String}{gs:List (Str×Gv)}{fs:List Fi}{lv:Nat}{N ps:List Str}{x:Str}{st:Stmt}{b:B}{f:Addr}{fd:FuncData} (h:gO P w K mg base fs t) (hb:∀ x∈bs,mg (Str.ofString x)=none) (hg:GV K mg va gs) (Df:Df K mg x st ps f fd) (k:kF ⟨bs,gs,fs⟩ lv N ps st b=true) :
  mP P w K mg base ⟨x,ps.length,lv+1,some []⟩ (.oo (i7 N.length (eB t b))):=by
 refine ⟨rfl,f,fd,ps,?_,Df.mg,Df.fn.kp,Df.bd⟩
 refine Df.fn.ok (zL k) (fun vs H Q E h=>h.1) (fun bM A outer s H vs Q E hr q=>?_)
 obtain ⟨ts,p1,p2⟩:=sB (t:=t) (va:=va) (K:=K) b (cI k).2
 exact ⟨ts,(p1 _ (ctx h hb hg k hr)).go,MT p2 q⟩
end
structure Dd where
 nm:Str
 st:Stmt
 ps:List Str
 N:List Str
 lv:Nat
 io:Option (List Nat)
 b:B
noncomputable def qQ (t:List FT) (d:Dd):FT:=match d.io with
 |none=>.p (fn d.N.length (eB t d.b))
 |some _=>.oo (i7 d.N.length (eB t d.b))
noncomputable def zM (d:Dd):Fi:=⟨d.nm,d.ps.length,d.lv+1,d.io.map fun _=>[]⟩
noncomputable def tab:List Dd→List FT
 |[]=>[]
 |d::ds=>qQ (tab ds) d::tab ds
noncomputable def uT (bs:List String) (gs:List (Str×Gv)):List Dd→Bool
 |[]=>true
 |d::ds=>kF ⟨bs,gs,ds.map zM⟩ d.lv d.N d.ps d.st d.b&&uT bs gs ds
def BA (d:Str) (s:Stmt) (ps:List Str):Prop:=∀ (kV doc pm:Value) (an:Option Addr) (bM ct:Value) (us:List Value),us.length=ps.length→bindArgs (PySem.W.fnOf d d (fN s) (eU s) (bZ s) .none kV doc pm an bM ct) ⟨us,[]⟩=pure (ps.zip us)
theorem dU {d:Str}{s:Stmt}{p0:Str} (h:∀ k o p n c t u0,bindArgs (PySem.W.fnOf d d (fN s) (eU s) (bZ s) .none k o p n c t) ⟨[u0],[]⟩=pure (List.zip [p0] [u0])):BA d s [p0]:=by
 intro _ _ _ _ _ _ us hl
 obtain _|⟨_,us⟩:=us
 ·cases hl
 obtain _|_:=us
 ·exact h _ _ _ _ _ _ _
 ·simp at hl
theorem dI {d:Str}{s:Stmt}{p0 p1:Str} (h:∀ k o p n c t u0 u1,bindArgs (PySem.W.fnOf d d (fN s) (eU s) (bZ s) .none k o p n c t) ⟨[u0,u1],[]⟩=pure (List.zip [p0,p1] [u0,u1])):BA d s [p0,p1]:=by
 intro _ _ _ _ _ _ us hl
 obtain _|⟨_,us⟩:=us
 ·cases hl
 obtain _|⟨_,us⟩:=us
 ·cases hl
 obtain _|_:=us
 ·exact h _ _ _ _ _ _ _ _
 ·simp at hl
theorem YG {d:Str}{s:Stmt}{p0 p1 p2:Str} (h:∀ k o p n c t u0 u1 u2,bindArgs (PySem.W.fnOf d d (fN s) (eU s) (bZ s) .none k o p n c t) ⟨[u0,u1,u2],[]⟩=pure (List.zip [p0,p1,p2] [u0,u1,u2])):BA d s [p0,p1,p2]:=by
 intro _ _ _ _ _ _ us hl
 obtain _|⟨_,us⟩:=us
 ·cases hl
 obtain _|⟨_,us⟩:=us
 ·cases hl
 obtain _|⟨_,us⟩:=us
 ·cases hl
 obtain _|_:=us
 ·exact h _ _ _ _ _ _ _ _ _
 ·simp at hl
theorem JD {d:Str}{s:Stmt}{p0 p1 p2 p3:Str} (h:∀ k o p n c t u0 u1 u2 u3,bindArgs (PySem.W.fnOf d d (fN s) (eU s) (bZ s) .none k o p n c t) ⟨[u0,u1,u2,u3],[]⟩=pure (List.zip [p0,p1,p2,p3] [u0,u1,u2,u3])):BA d s [p0,p1,p2,p3]:=by
 intro _ _ _ _ _ _ us hl
 obtain _|⟨_,us⟩:=us
 ·cases hl
 obtain _|⟨_,us⟩:=us
 ·cases hl
 obtain _|⟨_,us⟩:=us
 ·cases hl
 obtain _|⟨_,us⟩:=us
 ·cases hl
 obtain _|_:=us
 ·exact h _ _ _ _ _ _ _ _ _ _
 ·simp at hl
theorem YH {d:Str}{s:Stmt}{p0 p1 p2 p3 p4:Str} (h:∀ k o p n c t u0 u1 u2 u3 u4,bindArgs (PySem.W.fnOf d d (fN s) (eU s) (bZ s) .none k o p n c t) ⟨[u0,u1,u2,u3,u4],[]⟩=pure (List.zip [p0,p1,p2,p3,p4] [u0,u1,u2,u3,u4])):BA d s [p0,p1,p2,p3,p4]:=by
 intro _ _ _ _ _ _ us hl
 obtain _|⟨_,us⟩:=us
 ·cases hl
 obtain _|⟨_,us⟩:=us
 ·cases hl
 obtain _|⟨_,us⟩:=us
 ·cases hl
 obtain _|⟨_,us⟩:=us
 ·cases hl
 obtain _|⟨_,us⟩:=us
 ·cases hl
 obtain _|_:=us
 ·exact h _ _ _ _ _ _ _ _ _ _ _
 ·simp at hl
noncomputable def wc:List Dd→Prop
 |[]=>True
 |d::ds=>BA d.nm d.st d.ps∧wc ds
def DE (K:PySem.W.Frag) (d:Str) (s:Stmt):Prop:=∃ (f:Addr) (oc:Value) (od:Option Addr) (kV dc pm:Value) (an:Option Addr) (cd ct:Value) (sl:Array (Option Value)),
 PySem.W.nsIn K mainGlobals d=some (some (.ref f))∧K.lookup f=some ⟨oc,od,.func (PySem.W.fnOf d d (fN s) (eU s) (bZ s) .none kV dc pm an cd ct),sl⟩∧PySem.W.codeIn K cd d=true∧PySem.W.keepIn K (.ref f)=true
theorem Xb {K:PySem.W.Frag}{d:Str}{s:Stmt}{f:Addr}{oc:Value}{od:Option Addr}{kV dc pm:Value}{an:Option Addr}{cd ct:Value}{sl:Array (Option Value)} (a:PySem.W.nsIn K mainGlobals d=some (some (.ref f))) (l:K.lookup f=some ⟨oc,od,.func (PySem.W.fnOf d d (fN s) (eU s) (bZ s) .none kV dc pm an cd ct),sl⟩) (c:PySem.W.codeIn K cd d=true) (k:PySem.W.keepIn K (.ref f)=true):DE K d s :=
 ⟨f,oc,od,kV,dc,pm,an,cd,ct,sl,a,l,c,k⟩
noncomputable def wd (K:PySem.W.Frag):List Dd→Prop
 |[]=>True
 |d::ds=>DE K d.nm d.st∧wd K ds
noncomputable def wg (K:PySem.W.Frag):List String→Prop
 |[]=>True
 |b::bs=>PySem.W.nsIn K mainGlobals (Str.ofString b)=some none∧wg K bs
noncomputable def GE (K:PySem.W.Frag) (x:Str):Gv→Prop
 |.s y=>∃ tk,PySem.W.nsIn K mainGlobals x=some (some (.str y tk))
 |.t l=>∃ (a:Addr) (od:Option Addr) (it:Array Value) (n:Nat) (sl:Array (Option Value)),PySem.W.nsIn K mainGlobals x=some (some (.ref a))∧K.lookup a=some ⟨.type "tuple",od,.seq it n,sl⟩∧it.toList.map nY=l.map (fun y=>some (V.str y))∧4≤l.length∧l.length≤1000
noncomputable def wj (K:PySem.W.Frag):List (Str×Gv)→Prop
 |[]=>True
 |g::gs=>GE K g.1 g.2∧wj K gs
section
variable {P:Program}{w:World}{K:PySem.W.Frag}{mg:Str→Option Value}{base:Heap}
theorem Fx {h:Heap} (X:K.In h) (G:h.Ns mainGlobals mg):∀ {bs:List String},wg K bs→∀ x∈bs,mg (Str.ofString x)=none
 |[],_,_,m=>nomatch m
 |b::bs,q,x,m=>by
  rcases List.mem_cons.mp m with rfl|m
  ·exact PySem.W.mg_none_of X G q.1
  ·exact Fx X G q.2 x m
theorem Gn {h:Heap} (X:K.In h) (G:h.Ns mainGlobals mg):∀ {gs:List (Str×Gv)},wj K gs→∃ va,GV K mg va gs
  |[],_=>⟨[],fun i g e=>by simp at e⟩
  | (x,g)::gs,q=>by
    obtain ⟨va,r⟩:=Gn X G q.2
    have one:∃ v u,mg x=some u∧RelV v u∧JT K (tC v) (jC g.d):=by
      cases g with
      |s y =>
        obtain ⟨tk,e⟩:=q.1
        exact ⟨.str y,_,PySem.W.mg_of X G e,⟨_,rfl⟩,og rfl⟩
      |t l =>
        obtain ⟨a,od,it,n,sl,e,lk,m,hl⟩:=q.1
        exact ⟨.ref a,_,PySem.W.mg_of X G e,rfl,Tr (Ql lk m hl) fun _ _=>B7 l⟩
    obtain ⟨v,u,h1,h2,h3⟩:=one
    refine ⟨v::va,fun i g' e=>?_⟩
    cases i with
    |zero=>cases e;exact ⟨v,u,rfl,h1,h2,h3⟩
    |succ i=>exact r i g' e
theorem Vx {h:Heap}{d:Str}{s:Stmt}{ps:List Str} (X:K.In h) (G:h.Ns mainGlobals mg) (e:DE K d s) (b:BA d s ps):∃ f fd,Df K mg d s ps f fd:=by
 obtain ⟨f,oc,od,kV,dc,pm,an,cd,ct,sl,q1,q2,q3,q4⟩:=e
 exact ⟨f,_,PySem.W.mg_of X G q1,yk q2 q3 q4,(yk q2 q3 q4).binds b⟩
theorem Gp {h:Heap}{bs:List String}{gs:List (Str×Gv)}{va:List V} (X:K.In h) (G:h.Ns mainGlobals mg) (hb:∀ x∈bs,mg (Str.ofString x)=none) (hg:GV K mg va gs):∀ {ds:List Dd},wd K ds→wc ds→uT bs gs ds=true→gO P w K mg base (ds.map zM) (tab ds)
 |[],_,_,_=>gO.nil
 |d::ds,q,b,k=>by
  obtain ⟨k1,k2⟩:=cI k
  have r:=Gp X G hb hg q.2 b.2 k2
  obtain ⟨f,fd,D⟩:=Vx X G q.1 b.1
  refine gO.cons r ?_
  obtain ⟨nm,st,ps,N,lv,io,bd⟩:=d
  cases io with
  |none=>exact Vv r hb hg D k1
  |some io=>exact Vw r hb hg D k1
theorem bK {d:Dd}{ds:List Dd}{t:List FT}{g:Ev→Option Fl}{F:List D→Option (M×D)} (e:tab ds=t) (h:d.io=none) (q:eB t d.b=g) (r:fn d.N.length g=F):tab (d::ds)=.p F::t:=by
 subst e q r
 show qQ (tab ds) d::tab ds=_
 unfold qQ
 rw [h]
theorem yz {d:Dd}{ds:List Dd}{t:List FT}{g:Ev→Option Fl}{F:List D→Option D} (e:tab ds=t) (h:d.io=some []) (q:eB t d.b=g) (r:i7 d.N.length g=F):tab (d::ds)=.oo F::t:=by
 subst e q r
 show qQ (tab ds) d::tab ds=_
 unfold qQ
 rw [h]
theorem Vy {h:Heap}{bs:List String}{gs:List (Str×Gv)}{ds:List Dd}{st:Stmt}{N:List Str}{lv:Nat}{b:B}{t:List FT}{F:List D→Option (M×D)}{x:Str}{fa:Addr} (X:K.In h) (G:h.Ns mainGlobals mg) (A5:mg "law" = some (.ref fa)) (hb:wg K bs) (hg:wj K gs) (q:wd K (⟨"law",st,[x],N,lv,none,b⟩::ds)) (ba:wc (⟨"law",st,[x],N,lv,none,b⟩::ds)) (k:uT bs gs (⟨"law",st,[x],N,lv,none,b⟩::ds)=true)
  (e:tab (⟨"law",st,[x],N,lv,none,b⟩::ds)=.p F::t) (hs:∀ (kV doc pm:Value) (an:Option Addr) (bM ct:Value) (s:Shared) (v:Value),BindsTo s (PySem.W.fnOf "law" "law" (fN st) (eU st) (bZ st) .none kV doc pm an bM ct) ⟨[v],[]⟩ [(x,v)]) :
  ∃ fd:FuncData,(∀ (s:Shared) (v:Value),BindsTo s fd ⟨[v],[]⟩ [(x,v)])∧∀ base:Heap,K.In base→base.Ns mainGlobals mg→jL P w K mg base j4 (lv+1) fa fd [x] (mG K 1 F):=by
 obtain ⟨k1,k2⟩:=cI k
 have hb:=Fx X G hb
 obtain ⟨va,hg⟩:=Gn X G hg
 obtain ⟨⟨f,oc,od,kV,dc,pm,an,cd,ct,sl,q1,q2,q3,q4⟩,qs⟩:=q
 have ef:=A5.symm.trans (PySem.W.mg_of X G q1)
 cases ef
 refine ⟨_,fun s v=>hs kV dc pm an cd ct s v,fun base _ _=>?_⟩
 have r:gO P w K mg base (ds.map zM) (tab ds):=Gp X G hb hg qs ba.2 k2
 have ht:fn N.length (eB (tab ds) b)=F:=by
  have e:FT.p (fn N.length (eB (tab ds) b))::tab ds=.p F::t:=e
  cases e;rfl
 have fk:=yk (x := "law") (qual := "law") (st:=st) q2 q3 q4
 refine fk.ok (zL k1) (fun vs H Q E h=>h.1) (fun bM A outer s H vs Q E hr q=>?_)
 obtain ⟨ts,p1,p2⟩:=sB (t:=tab ds) (va:=va) (K:=K) b (cI k1).2
 rw [←ht] at q
 exact ⟨ts,(p1 _ (ctx r hb hg k1 hr)).go,D5 p2 q⟩
end
end C
namespace aL
open PySem PySem.Spec L2 My J
noncomputable def top (i:Nat):PySem.Stmt:=PySem.Challenge.pw_lazyhoist_k32_standing.main.body.getD i (.Pass ⟨0,0,0,0⟩)
noncomputable def bs:List String:=["bool", "dict", "enumerate", "int", "isinstance", "len", "list", "max", "range", "sum"]
noncomputable def gs:List (Str×C.Gv):=[]
noncomputable def t0:List C.FT:=[]
noncomputable def JF:List C.Dd:=[]
theorem e0:C.tab JF=t0:=rfl
noncomputable def Bt:Ev→Option Fl :=
 (aj (aK (jB (ae aN (ae ak (jV 0) (jC (.int 0))) (jC (.str "reckon"))))
  (aG (aQ (ag (ae ak (jV 0) (jC (.int 2))) (ag (ae ak (jV 0) (jC (.int 3))) (ag (ae ak (jV 0) (jC (.int 4))) ah)))))
  aR)
 (aG (jC .non)))
noncomputable def mU:List D→Option (M×D):=fn 1 Bt
noncomputable def d1:C.Dd:=⟨"reckoning_of",top 1,["row"],["row"],0,none,(.c (.ie (.c .eq (.ix (.v 0) (.ki 0)) (.ks "reckon")) (.o (.l (.rt (.tu (.c (.ix (.v 0) (.ki 2)) (.c (.ix (.v 0) (.ki 3)) (.c (.ix (.v 0) (.ki 4)) .n))))))) .n) (.o (.l (.rt .kn))))⟩
noncomputable def JH:List C.Dd:=d1::JF
noncomputable def t1:List C.FT:=.p mU::t0
theorem e1:C.tab JH=t1:=C.bK e0 rfl rfl rfl
noncomputable def Uc:Ev→Option Fl :=
 (aj (aK (cY (jB (ae aN (ae ak (jV 0) (jC (.int 0))) (jC (.str "reckon")))) (jB (ae aN (ae ak (jV 0) (jC (.int 0))) (jC (.str "copy")))))
  (aG (ae ak (jV 0) (jC (.int 1))))
  aR)
 (aG (jC .non)))
noncomputable def uC:List D→Option (M×D):=fn 1 Uc
noncomputable def d2:C.Dd:=⟨"sets",top 2,["row"],["row"],0,none,(.c (.ie (.or (.c .eq (.ix (.v 0) (.ki 0)) (.ks "reckon")) (.c .eq (.ix (.v 0) (.ki 0)) (.ks "copy"))) (.o (.l (.rt (.ix (.v 0) (.ki 1))))) .n) (.o (.l (.rt .kn))))⟩
noncomputable def JK:List C.Dd:=d2::JH
noncomputable def t2:List C.FT:=.p uC::t1
theorem e2:C.tab JK=t2:=C.bK e1 rfl rfl rfl
noncomputable def CM:Ev→Option Fl :=
 (aj (ao 2 (ax uC (ag (jV 0) ah)))
 (aG (kO (ae qu (jV 2) (jC .non)) (rB (ae aN (jV 2) (ae ak (jV 1) (jC (.int 1)))) (ae aN (jV 2) (ae ak (jV 1) (jC (.int 2))))))))
noncomputable def pT:List D→Option (M×D):=fn 3 CM
noncomputable def d3:C.Dd:=⟨"changes",top 3,["row", "reckoning"],["row", "reckoning", "name"],1,none,(.c (.l (.st 2 (.ca 0 (.c (.v 0) .n)))) (.o (.l (.rt (.an (.co .rM (.v 2) .kn) (.or (.co .eq (.v 2) (.ix (.v 1) (.ki 1))) (.co .eq (.v 2) (.ix (.v 1) (.ki 2)))))))))⟩
noncomputable def JL:List C.Dd:=d3::JK
noncomputable def t3:List C.FT:=.p pT::t2
theorem e3:C.tab JL=t3:=C.bK e2 rfl rfl rfl
noncomputable def BQ:Ev→Option Fl :=
 (aj (ao 2 (ae ak (jV 0) (jV 1)))
 (aj (aK (jB (ae aN (ae ak (jV 2) (jC (.int 0))) (jC (.str "end"))))
  (aG (bE ah))
  aR)
 (aj (aK (jB (ae aN (ae ak (jV 2) (jC (.int 0))) (jC (.str "go"))))
  (aG (bE (ag (ae ak (jV 2) (jC (.int 1))) ah)))
  aR)
 (aj (aK (jB (ae aN (ae ak (jV 2) (jC (.int 0))) (jC (.str "part"))))
  (aG (bE (ag (ae bB (jV 1) (jC (.int 1))) (ag (ae ak (jV 2) (jC (.int 2))) ah))))
  aR)
 (aG (bE (ag (ae bB (jV 1) (jC (.int 1))) ah)))))))
noncomputable def pJ:List D→Option (M×D):=fn 3 BQ
noncomputable def d4:C.Dd:=⟨"followers",top 5,["program", "n"],["program", "n", "row"],0,none,(.c (.l (.st 2 (.ix (.v 0) (.v 1)))) (.c (.ie (.c .eq (.ix (.v 2) (.ki 0)) (.ks "end")) (.o (.l (.rt (.li .n)))) .n) (.c (.ie (.c .eq (.ix (.v 2) (.ki 0)) (.ks "go")) (.o (.l (.rt (.li (.c (.ix (.v 2) (.ki 1)) .n))))) .n) (.c (.ie (.c .eq (.ix (.v 2) (.ki 0)) (.ks "part")) (.o (.l (.rt (.li (.c (.bo .add (.v 1) (.ki 1)) (.c (.ix (.v 2) (.ki 2)) .n)))))) .n) (.o (.l (.rt (.li (.c (.bo .add (.v 1) (.ki 1)) .n)))))))))⟩
noncomputable def JM:List C.Dd:=d4::JL
noncomputable def t4:List C.FT:=.p pJ::t3
theorem e4:C.tab JM=t4:=C.bK e3 rfl rfl rfl
noncomputable def Bq:Ev→Option Fl :=
 (aG (cf (bP (ag (aJ bz (ag (jV 0) ah)) ah)) [0] dA (ax pJ (ag (jV 1) (ag (jV 0) ah)))))
noncomputable def pj:List D→Option (M×D):=fn 1 Bq
noncomputable def d5:C.Dd:=⟨"all_followers",top 6,["program"],["program"],1,none,(.o (.l (.rt (.cp (.r1 (.c (.fb .len (.c (.v 0) .n)) .n)) [0] .y (.ca 0 (.c (.v 1) (.c (.v 0) .n)))))))⟩
noncomputable def JN:List C.Dd:=d5::JM
noncomputable def t5:List C.FT:=.p pj::t4
theorem e5:C.tab JN=t5:=C.bK e4 rfl rfl rfl
noncomputable def pN:Ev→Option Fl :=
 (cE 1 (aQ (ag (jV 2) (ag (jV 4) ah))))
noncomputable def xo:Ev→Option Fl :=
 (cN 3 (aY (bO (jV 3)) (gN 4)
  pN))
noncomputable def Dm:Ev→Option Fl :=
 (aj (ao 1 (bE (ag (aQ (ag (bN df (jC (.int 1))) (ag (jC (.int 0)) ah))) ah)))
 (aj (aY (gb (ag (ax pj (ag (jV 0) ah)) ah)) (gT 2 (bJ (gN 2) (bJ (gN 3) du)))
  xo)
 (aG (jV 1))))
noncomputable def tY:List D→Option (M×D):=fn 5 Dm
noncomputable def d6:C.Dd:=⟨"places",top 7,["program"],["program", "told", "n", "targets", "m"],2,none,(.c (.l (.st 1 (.li (.c (.tu (.c (.uo .neg (.ki 1)) (.c (.ki 0) .n))) .n)))) (.c (.fo (.en (.c (.ca 0 (.c (.v 0) .n)) .n)) (.t 2 (.c (.n 2) (.c (.n 3) .n))) (.o (.fz 3 (.fo (.l (.v 3)) (.n 4) (.o (.l (.ap 1 (.tu (.c (.v 2) (.c (.v 4) .n)))))))))) (.o (.l (.rt (.v 1))))))⟩
noncomputable def JQ:List C.Dd:=d6::JN
noncomputable def t6:List C.FT:=.p tY::t5
theorem e6:C.tab JQ=t6:=C.bK e5 rfl rfl rfl
noncomputable def sN:Ev→Option Fl :=
 (aj (ao 3 (ax mU (ag (jV 2) ah)))
 (aK (jB (ae qu (jV 3) (jC .non)))
  (gM 1 (jV 3) (jC (.bl true)))
  aR))
noncomputable def BG:Ev→Option Fl :=
 (aj (ao 1 nX)
 (aj (cN 0 (aY (bO (jV 0)) (gN 2)
  sN))
 (aG (aJ qi (ag (jV 1) ah)))))
noncomputable def mW:List D→Option (M×D):=fn 4 BG
noncomputable def d7:C.Dd:=⟨"reckonings",top 8,["program"],["program", "told", "row", "reckoning"],1,none,(.c (.l (.st 1 .dT)) (.c (.fz 0 (.fo (.l (.v 0)) (.n 2) (.c (.l (.st 3 (.ca 5 (.c (.v 2) .n)))) (.o (.ie (.c .rM (.v 3) .kn) (.o (.l (.tp 1 (.v 3) (.kb true)))) .n))))) (.o (.l (.rt (.fb .uR (.c (.v 1) .n)))))))⟩
noncomputable def JV:List C.Dd:=d7::JQ
noncomputable def t7:List C.FT:=.p mW::t6
theorem e7:C.tab JV=t7:=C.bK e6 rfl rfl rfl
noncomputable def tI:Ev→Option Fl :=
 (aK (jB (jV 3))
  (ao 1 (ae kW (jV 1) (ae lV (jC (.int 1)) (jV 2))))
  aR)
noncomputable def CN:Ev→Option Fl :=
 (aj (ao 1 (jC (.int 0)))
 (aj (cN 0 (aY (gb (ag (jV 0) ah)) (gT 2 (bJ (gN 2) (bJ (gN 3) du)))
  tI))
 (aG (jV 1))))
noncomputable def pU:List D→Option (M×D):=fn 4 CN
noncomputable def d8:C.Dd:=⟨"bits_of",top 10,["truths"],["truths", "bits", "k", "there"],0,none,(.c (.l (.st 1 (.ki 0))) (.c (.fz 0 (.fo (.en (.c (.v 0) .n)) (.t 2 (.c (.n 2) (.c (.n 3) .n))) (.o (.ie (.b (.v 3)) (.o (.l (.st 1 (.bo .bor (.v 1) (.bo .shl (.ki 1) (.v 2)))))) .n)))) (.o (.l (.rt (.v 1))))))⟩
noncomputable def JW:List C.Dd:=d8::JV
noncomputable def t8:List C.FT:=.p pU::t7
theorem e8:C.tab JW=t8:=C.bK e7 rfl rfl rfl
noncomputable def BR:Ev→Option Fl :=
 (aG (ax pU (ag (cf (bO (ax mW (ag (jV 0) ah))) [] dA (jC (.bl true))) ah)))
noncomputable def pL:List D→Option (M×D):=fn 1 BR
noncomputable def d9:C.Dd:=⟨"every_bit",top 11,["program"],["program"],2,none,(.o (.l (.rt (.ca 0 (.c (.cp (.l (.ca 1 (.c (.v 0) .n))) [] .y (.kb true)) .n)))))⟩
noncomputable def JX:List C.Dd:=d9::JW
noncomputable def t9:List C.FT:=.p pL::t8
theorem e9:C.tab JX=t9:=C.bK e8 rfl rfl rfl
noncomputable def sk:Ev→Option Fl :=
 (gM 1 (jV 3) (ae lV (jC (.int 1)) (jV 2)))
noncomputable def Br:Ev→Option Fl :=
 (aj (ao 1 nX)
 (aj (aY (gb (ag (ax mW (ag (jV 0) ah)) ah)) (gT 2 (bJ (gN 2) (bJ (gN 3) du)))
  sk)
 (aG (cf (bO (jV 0)) [1] dA (qh (jV 1) (ax mU (ag (jV 0) ah)) (jC (.int 0)))))))
noncomputable def sF:List D→Option (M×D):=fn 4 Br
noncomputable def wm:C.Dd:=⟨"reckoned_bits",top 12,["program"],["program", "by_reckoning", "k", "reckoning"],2,none,(.c (.l (.st 1 .dT)) (.c (.fo (.en (.c (.ca 2 (.c (.v 0) .n)) .n)) (.t 2 (.c (.n 2) (.c (.n 3) .n))) (.o (.l (.tp 1 (.v 3) (.bo .shl (.ki 1) (.v 2)))))) (.o (.l (.rt (.cp (.l (.v 0)) [1] .y (.vX (.v 1) (.ca 8 (.c (.v 0) .n)) (.ki 0))))))))⟩
noncomputable def Hf:List C.Dd:=wm::JX
noncomputable def JY:List C.FT:=.p sF::t9
theorem YJ:C.tab Hf=JY:=C.bK e9 rfl rfl rfl
noncomputable def sv:Ev→Option Fl :=
 (aj (ao 5 (ax uC (ag (jV 4) ah)))
 (aj (aK (jB (dO true (jV 5) (jV 2)))
  (cN 1 (iY 2 (jV 5) (ax pU (ag (cf (bO (jV 1)) [4] dA (ax pT (ag (jV 1) (ag (jV 0) ah)))) ah))))
  aR)
 (cE 3 (qv (jV 2) (jV 5)))))
noncomputable def Bu:Ev→Option Fl :=
 (aj (ao 1 (ax mW (ag (jV 0) ah)))
 (aj (ao 2 nH)
 (aj (ao 3 (bE ah))
 (aj (cN 0 (aY (bO (jV 0)) (gN 4)
  sv))
 (aG (jV 3))))))
noncomputable def sO:List D→Option (M×D):=fn 6 Bu
noncomputable def wo:C.Dd:=⟨"changed_bits",top 13,["program"],["program", "told", "by_name", "bits", "row", "name"],2,none,(.c (.l (.st 1 (.ca 3 (.c (.v 0) .n)))) (.c (.l (.st 2 .dK)) (.c (.l (.st 3 (.li .n))) (.c (.fz 0 (.fo (.l (.v 0)) (.n 4) (.c (.l (.st 5 (.ca 8 (.c (.v 4) .n)))) (.c (.ie (.d true (.v 5) (.v 2)) (.o (.fz 1 (.l (.dp 2 (.v 5) (.ca 2 (.c (.cp (.l (.v 1)) [4] .y (.ca 7 (.c (.v 1) (.c (.v 0) .n)))) .n)))))) .n) (.o (.l (.ap 3 (.dg (.v 2) (.v 5))))))))) (.o (.l (.rt (.v 3))))))))⟩
noncomputable def Hg:List C.Dd:=wo::Hf
noncomputable def JZ:List C.FT:=.p sO::JY
theorem YK:C.tab Hg=JZ:=C.bK YJ rfl rfl rfl
noncomputable def pO:Ev→Option Fl :=
 (aj (ao 7 (ae kW (ae ak (jV 3) (jV 6)) (ae iW (ae ak (jV 3) (jV 5)) (ae ak (jV 2) (jV 6)))))
 (aK (jB (ae ft (jV 7) (ae ak (jV 3) (jV 6))))
  (aj (c9 3 (jV 6) (jV 7))
 (cE 4 (jV 6)))
  aR))
noncomputable def xq:Ev→Option Fl :=
 (aj (kR 5 4)
 (aY (bO (ae ak (jV 0) (jV 5))) (gN 6)
  pO))
noncomputable def pP:Ev→Option Bool :=
 (jB (ae gC (aJ bz (ag (jV 4) ah)) (jC (.int 0))))
noncomputable def Dp:Ev→Option Fl :=
 (aj (ao 3 (aJ lM (ag (jV 1) ah)))
 (aj (ao 4 (vU (ag (aJ bz (ag (jV 1) ah)) ah)))
 (aj (gk pP
  xq)
 (aG (jV 3)))))
noncomputable def tZ:List D→Option (M×D):=fn 8 Dp
noncomputable def wq:C.Dd:=⟨"spread",top 14,["steps", "made", "passed"],["steps", "made", "passed", "told", "waiting", "n", "m", "more"],0,none,(.c (.l (.st 3 (.fb .list (.c (.v 1) .n)))) (.c (.l (.st 4 (.lr (.c (.fb .len (.c (.v 1) .n)) .n)))) (.c (.wh (.c .gt (.fb .len (.c (.v 4) .n)) (.ki 0)) (.c (.l (.po 5 4)) (.o (.fo (.l (.ix (.v 0) (.v 5))) (.n 6) (.c (.l (.st 7 (.bo .bor (.ix (.v 3) (.v 6)) (.bo .band (.ix (.v 3) (.v 5)) (.ix (.v 2) (.v 6)))))) (.o (.ie (.c .ne (.v 7) (.ix (.v 3) (.v 6))) (.c (.l (.si 3 (.v 6) (.v 7))) (.o (.l (.ap 4 (.v 6))))) .n))))))) (.o (.l (.rt (.v 3)))))))⟩
noncomputable def Hh:List C.Dd:=wq::Hg
noncomputable def J0:List C.FT:=.p tZ::JZ
theorem YL:C.tab Hh=J0:=C.bK YK rfl rfl rfl
noncomputable def Bj:Ev→Option Fl :=
 (aj (ao 1 (ax pL (ag (jV 0) ah)))
 (aj (ao 2 (cf (bO (ax sF (ag (jV 0) ah))) [1] dA (ae iW (jV 1) (bN kU (jV 0)))))
 (aj (ao 3 (ax sO (ag (jV 0) ah)))
 (aj (c9 3 (jC (.int 0)) (ae kW (ae ak (jV 3) (jC (.int 0))) (ae ak (jV 2) (jC (.int 0)))))
 (aG (ax tZ (ag (ax pj (ag (jV 0) ah)) (ag (jV 3) (ag (jV 2) ah)))))))))
noncomputable def sr:List D→Option (M×D):=fn 4 Bj
noncomputable def wt:C.Dd:=⟨"unstanding_bits",top 17,["program"],["program", "every", "passed", "made"],3,none,(.c (.l (.st 1 (.ca 3 (.c (.v 0) .n)))) (.c (.l (.sc 2 (.l (.ca 2 (.c (.v 0) .n))) [1] .y (.bo .band (.v 1) (.uo .inv (.v 0))))) (.c (.l (.st 3 (.ca 1 (.c (.v 0) .n)))) (.c (.l (.si 3 (.ki 0) (.bo .bor (.ix (.v 3) (.ki 0)) (.ix (.v 2) (.ki 0))))) (.o (.l (.rt (.ca 0 (.c (.ca 7 (.c (.v 0) .n)) (.c (.v 3) (.c (.v 2) .n)))))))))))⟩
noncomputable def Hi:List C.Dd:=wt::Hh
noncomputable def J1:List C.FT:=.p sr::J0
theorem YM:C.tab Hi=J1:=C.bK YL rfl rfl rfl
noncomputable def tE:Ev→Option Fl :=
 (gM 3 (jV 4) (oh (jB (ae aN (ae ak (jV 4) (jC (.int 0))) (bN df (jC (.int 1))))) (jC (.int 0)) (ae iW (jV 1) (bN kU (ae ak (jV 2) (ae ak (jV 4) (jC (.int 0))))))))
noncomputable def Cd:Ev→Option Fl :=
 (aj (ao 1 (ax pL (ag (jV 0) ah)))
 (aj (ao 2 (ax sr (ag (jV 0) ah)))
 (aj (ao 3 nX)
 (aj (aY (bO (ax tY (ag (jV 0) ah))) (gN 4)
  tE)
 (aG (jV 3))))))
noncomputable def lz:List D→Option (M×D):=fn 5 Cd
noncomputable def wu:C.Dd:=⟨"standing",top 16,["program"],["program", "every", "missing", "told", "place"],4,none,(.c (.l (.st 1 (.ca 4 (.c (.v 0) .n)))) (.c (.l (.st 2 (.ca 0 (.c (.v 0) .n)))) (.c (.l (.st 3 .dT)) (.c (.fo (.l (.ca 7 (.c (.v 0) .n))) (.n 4) (.o (.l (.tp 3 (.v 4) (.ie (.c .eq (.ix (.v 4) (.ki 0)) (.uo .neg (.ki 1))) (.ki 0) (.bo .band (.v 1) (.uo .inv (.ix (.v 2) (.ix (.v 4) (.ki 0)))))))))) (.o (.l (.rt (.v 3))))))))⟩
noncomputable def Hj:List C.Dd:=wu::Hi
noncomputable def J2:List C.FT:=.p lz::J1
theorem YN:C.tab Hj=J2:=C.bK YM rfl rfl rfl
noncomputable def Ce:Ev→Option Fl :=
 (aj (aK (jB (ae fq (jV 1) (aJ bz (ag (jV 0) ah))))
  (aG (ae ak (jV 0) (jV 1)))
  aR)
 (aG (ae bB (ae eE (jV 1) (jC (.int 7919))) (jC (.int 11)))))
noncomputable def iO:List D→Option (M×D):=fn 2 Ce
noncomputable def wx:C.Dd:=⟨"_law_cell",top 19,["_law_script", "_law_k"],["_law_script", "_law_k"],0,none,(.c (.ie (.c .lt (.v 1) (.fb .len (.c (.v 0) .n))) (.o (.l (.rt (.ix (.v 0) (.v 1))))) .n) (.o (.l (.rt (.bo .add (.bo .mul (.v 1) (.ki 7919)) (.ki 11))))))⟩
noncomputable def Hk:List C.Dd:=wx::Hj
noncomputable def J3:List C.FT:=.p iO::J2
theorem YQ:C.tab Hk=J3:=C.bK YN rfl rfl rfl
noncomputable def BU:Ev→Option Fl :=
 (aG (ae aT (ae eE (ae bB (ae bB (jV 0) (ae eE (jC (.int 7)) (jV 1))) (jC (.int 11))) (jC (.int 2862933555777941757))) (jC (.int 999999999999999989))))
noncomputable def iN:List D→Option (M×D):=fn 2 BU
noncomputable def wy:C.Dd:=⟨"_law_mixed",top 20,["_law_cell_here", "_law_k"],["_law_cell_here", "_law_k"],0,none,(.o (.l (.rt (.bo .mod (.bo .mul (.bo .add (.bo .add (.v 0) (.bo .mul (.ki 7) (.v 1))) (.ki 11)) (.ki 2862933555777941757)) (.ki 999999999999999989)))))⟩
noncomputable def Hl:List C.Dd:=wy::Hk
noncomputable def J4:List C.FT:=.p iN::J3
theorem YR:C.tab Hl=J4:=C.bK YQ rfl rfl rfl
noncomputable def Bx:Ev→Option Fl :=
 (aG (ae aN (ae aT (ax iO (ag (jV 0) (ag (jC (.int 0)) ah))) (jC (.int 2))) (jC (.int 1))))
noncomputable def mV:List D→Option (M×D):=fn 1 Bx
noncomputable def wz:C.Dd:=⟨"_law_is_free",top 21,["_law_script"],["_law_script"],1,none,(.o (.l (.rt (.co .eq (.bo .mod (.ca 1 (.c (.v 0) (.c (.ki 0) .n))) (.ki 2)) (.ki 1)))))⟩
noncomputable def Hm:List C.Dd:=wz::Hl
noncomputable def J5:List C.FT:=.p mV::J4
theorem YS:C.tab Hm=J5:=C.bK YR rfl rfl rfl
noncomputable def pB:Ev→Option Fl :=
 (aj (ao 8 (ae bB (ae bW (ae bW (jV 0) (jC (.int 192))) (ae bB (jV 7) (jC (.int 1)))) (ae eE (jC (.int 5)) (jV 7))))
 (aK (cY (jB (ae aN (jV 7) (jV 3))) (jB (ae aN (jV 7) (jC (.int 0)))))
  (ao 6 (ae bB (jV 6) (ae ak (jV 1) (ae aT (ae bB (jV 8) (ae eE (jV 5) (aJ kQ (ag (ae aN (jV 7) (jV 3)) ah)))) (jC (.int 26))))))
  (ao 6 (ae bB (jV 6) (ae ak (ae bB (jV 1) (jC (.str "0123456789"))) (ae aT (jV 8) (jC (.int 36))))))))
noncomputable def sW:Ev→Option Fl :=
 (aj (ao 6 (jC (.str "")))
 (aj (aY (bP (ag (jV 2) ah)) (gN 7)
  pB)
 (aj (aK (jB (ae (dN false) (jV 6) (aQ (ag (jC (.str "say")) (ag (jC (.str "go")) (ag (jC (.str "part")) (ag (jC (.str "end")) ah)))))))
  (ao 6 (ae bB (jV 6) (jC (.str "1"))))
  aR)
 (cE 4 (jV 6)))))
noncomputable def BV:Ev→Option Fl :=
 (aj (ao 1 (jC (.str "abcdefghijklmnopqrstuvwxyz")))
 (aj (ao 0 (ax iN (ag (jV 0) (ag (jC (.int 3)) ah))))
 (aj (ao 2 (ae bB (jC (.int 1)) (ae aT (jV 0) (jC (.int 8)))))
 (aj (ao 3 (ae aT (ae bW (jV 0) (jC (.int 8))) (jV 2)))
 (aj (ao 4 (bE ah))
 (aj (aY (bP (ag (ae bB (jC (.int 3)) (ae aT (ae bW (jV 0) (jC (.int 64))) (jC (.int 3)))) ah)) (gN 5)
  sW)
 (aG (jV 4))))))))
noncomputable def mZ:List D→Option (M×D):=fn 9 BV
noncomputable def wA:C.Dd:=⟨"_law_names",top 22,["_law_cell_here"],["_law_cell_here", "_law_signs", "_law_size", "_law_at", "_law_names_here", "_law_k", "_law_name", "_law_j", "_law_step"],1,none,(.c (.l (.st 1 (.ks "abcdefghijklmnopqrstuvwxyz"))) (.c (.l (.st 0 (.ca 1 (.c (.v 0) (.c (.ki 3) .n))))) (.c (.l (.st 2 (.bo .add (.ki 1) (.bo .mod (.v 0) (.ki 8))))) (.c (.l (.st 3 (.bo .mod (.bo .div (.v 0) (.ki 8)) (.v 2)))) (.c (.l (.st 4 (.li .n))) (.c (.fo (.r1 (.c (.bo .add (.ki 3) (.bo .mod (.bo .div (.v 0) (.ki 64)) (.ki 3))) .n)) (.n 5) (.c (.l (.st 6 (.ks ""))) (.c (.fo (.r1 (.c (.v 2) .n)) (.n 7) (.c (.l (.st 8 (.bo .add (.bo .div (.bo .div (.v 0) (.ki 192)) (.bo .add (.v 7) (.ki 1))) (.bo .mul (.ki 5) (.v 7))))) (.o (.ie (.or (.c .eq (.v 7) (.v 3)) (.c .eq (.v 7) (.ki 0))) (.o (.l (.st 6 (.bo .add (.v 6) (.ix (.v 1) (.bo .mod (.bo .add (.v 8) (.bo .mul (.v 5) (.fb .int (.c (.co .eq (.v 7) (.v 3)) .n)))) (.ki 26))))))) (.o (.l (.st 6 (.bo .add (.v 6) (.ix (.bo .add (.v 1) (.ks "0123456789")) (.bo .mod (.v 8) (.ki 36))))))))))) (.c (.ie (.c .ll (.v 6) (.tu (.c (.ks "say") (.c (.ks "go") (.c (.ks "part") (.c (.ks "end") .n)))))) (.o (.l (.st 6 (.bo .add (.v 6) (.ks "1"))))) .n) (.o (.l (.ap 4 (.v 6)))))))) (.o (.l (.rt (.v 4))))))))))⟩
noncomputable def Hn:List C.Dd:=wA::Hm
noncomputable def J6:List C.FT:=.p mZ::J5
theorem YT:C.tab Hn=J6:=C.bK YS rfl rfl rfl
noncomputable def By:Ev→Option Fl :=
 (aj (aK (jB (ae aN (ae aT (jV 0) (jC (.int 6))) (jC (.int 0))))
  (aG (ae ak (bE (ag (jC (.int 0)) (ag (jC (.int 1)) (ag (ae gR (ae gq (jC (.int 2)) (jC (.int 64))) (jC (.int 1))) (ag (ae aT (ae eE (ae bW (jV 0) (jC (.int 24))) (jC (.int 48271))) (ae gq (jC (.int 2)) (jC (.int 64)))) ah))))) (ae aT (ae bW (jV 0) (jC (.int 6))) (jC (.int 4)))))
  aR)
 (aG (ae ak (jV 1) (ae aT (ae bW (jV 0) (jC (.int 6))) (aJ bz (ag (jV 1) ah))))))
noncomputable def hX:List D→Option (M×D):=fn 2 By
noncomputable def wB:C.Dd:=⟨"_law_operand",top 23,["_law_cell_here", "_law_names_here"],["_law_cell_here", "_law_names_here"],0,none,(.c (.ie (.c .eq (.bo .mod (.v 0) (.ki 6)) (.ki 0)) (.o (.l (.rt (.ix (.li (.c (.ki 0) (.c (.ki 1) (.c (.bo .sub (.bo .pow (.ki 2) (.ki 64)) (.ki 1)) (.c (.bo .mod (.bo .mul (.bo .div (.v 0) (.ki 24)) (.ki 48271)) (.bo .pow (.ki 2) (.ki 64))) .n))))) (.bo .mod (.bo .div (.v 0) (.ki 6)) (.ki 4)))))) .n) (.o (.l (.rt (.ix (.v 1) (.bo .mod (.bo .div (.v 0) (.ki 6)) (.fb .len (.c (.v 1) .n))))))))⟩
noncomputable def Ho:List C.Dd:=wB::Hn
noncomputable def J7:List C.FT:=.p hX::J6
theorem YV:C.tab Ho=J7:=C.bK YT rfl rfl rfl
noncomputable def sY:Ev→Option Fl :=
 (aj (ao 7 (ax iN (ag (jV 4) (ag (jV 6) ah))))
 (aj (ao 8 (ax iN (ag (jV 4) (ag (ae bB (jV 6) (jC (.int 20))) ah))))
 (aj (ao 9 (ae aT (ax iN (ag (jV 4) (ag (ae bB (jV 6) (jC (.int 40))) ah))) (jC (.int 8))))
 (aj (aK (jB (ax mV (ag (jV 0) ah)))
  (aj (ao 7 (ae aT (jV 4) (ae gq (jC (.int 10)) (jC (.int 21)))))
 (aj (ao 8 (ae aT (ae bW (jV 4) (ae gq (jC (.int 10)) (jC (.int 21)))) (ae gq (jC (.int 10)) (jC (.int 21)))))
 (aj (ao 9 (ae aT (ae bW (jV 4) (ae gq (jC (.int 10)) (jC (.int 42)))) (jC (.int 8))))
 (ao 4 (ae bW (jV 4) (ae eE (jC (.int 8)) (ae gq (jC (.int 10)) (jC (.int 42)))))))))
  aR)
 (cE 5 (aQ (ag (ae ak (jC (.str "+-*&|^<=")) (jV 9)) (ag (ax hX (ag (jV 7) (ag (jV 1) ah))) (ag (ax hX (ag (jV 8) (ag (jV 1) ah))) ah)))))))))
noncomputable def BW:Ev→Option Fl :=
 (aj (ao 2 (ax iO (ag (jV 0) (ag (jC (.int 1)) ah))))
 (aj (ao 3 (ae bB (jC (.int 1)) (ae aT (jV 2) (jC (.int 4)))))
 (aj (aK (jB (ae aN (ae aT (ae bW (jV 2) (jC (.int 4))) (jC (.int 6))) (jC (.int 1))))
  (ao 3 (jC (.int 12)))
  aR)
 (aj (ao 4 (ae bW (jV 2) (jC (.int 24))))
 (aj (ao 5 (bE ah))
 (aj (aY (bP (ag (jV 3) ah)) (gN 6)
  sY)
 (aj (aK (cX (jB (ae aN (aJ bz (ag (jV 5) ah)) (jC (.int 2)))) (jB (ae aN (ae aT (ae bW (jV 2) (jC (.int 4))) (jC (.int 3))) (jC (.int 0)))))
  (c9 5 (jC (.int 1)) (aQ (ag (ae ak (ae ak (jV 5) (jC (.int 0))) (jC (.int 0))) (ag (ae ak (ae ak (jV 5) (jC (.int 0))) (jC (.int 2))) (ag (ae ak (ae ak (jV 5) (jC (.int 0))) (jC (.int 1))) ah)))))
  aR)
 (aG (jV 5)))))))))
noncomputable def m3:List D→Option (M×D):=fn 10 BW
noncomputable def wC:C.Dd:=⟨"_law_deeds",top 24,["_law_script", "_law_names_here"],["_law_script", "_law_names_here", "_law_cell_here", "_law_many", "_law_rest", "_law_found", "_law_k", "_law_one", "_law_other", "_law_sign"],2,none,(.c (.l (.st 2 (.ca 4 (.c (.v 0) (.c (.ki 1) .n))))) (.c (.l (.st 3 (.bo .add (.ki 1) (.bo .mod (.v 2) (.ki 4))))) (.c (.ie (.c .eq (.bo .mod (.bo .div (.v 2) (.ki 4)) (.ki 6)) (.ki 1)) (.o (.l (.st 3 (.ki 12)))) .n) (.c (.l (.st 4 (.bo .div (.v 2) (.ki 24)))) (.c (.l (.st 5 (.li .n))) (.c (.fo (.r1 (.c (.v 3) .n)) (.n 6) (.c (.l (.st 7 (.ca 3 (.c (.v 4) (.c (.v 6) .n))))) (.c (.l (.st 8 (.ca 3 (.c (.v 4) (.c (.bo .add (.v 6) (.ki 20)) .n))))) (.c (.l (.st 9 (.bo .mod (.ca 3 (.c (.v 4) (.c (.bo .add (.v 6) (.ki 40)) .n))) (.ki 8)))) (.c (.ie (.b (.ca 2 (.c (.v 0) .n))) (.c (.l (.st 7 (.bo .mod (.v 4) (.bo .pow (.ki 10) (.ki 21))))) (.c (.l (.st 8 (.bo .mod (.bo .div (.v 4) (.bo .pow (.ki 10) (.ki 21))) (.bo .pow (.ki 10) (.ki 21))))) (.c (.l (.st 9 (.bo .mod (.bo .div (.v 4) (.bo .pow (.ki 10) (.ki 42))) (.ki 8)))) (.o (.l (.st 4 (.bo .div (.v 4) (.bo .mul (.ki 8) (.bo .pow (.ki 10) (.ki 42)))))))))) .n) (.o (.l (.ap 5 (.tu (.c (.ix (.ks "+-*&|^<=") (.v 9)) (.c (.ca 0 (.c (.v 7) (.c (.v 1) .n))) (.c (.ca 0 (.c (.v 8) (.c (.v 1) .n))) .n)))))))))))) (.c (.ie (.an (.c .eq (.fb .len (.c (.v 5) .n)) (.ki 2)) (.c .eq (.bo .mod (.bo .div (.v 2) (.ki 4)) (.ki 3)) (.ki 0))) (.o (.l (.si 5 (.ki 1) (.tu (.c (.ix (.ix (.v 5) (.ki 0)) (.ki 0)) (.c (.ix (.ix (.v 5) (.ki 0)) (.ki 2)) (.c (.ix (.ix (.v 5) (.ki 0)) (.ki 1)) .n))))))) .n) (.o (.l (.rt (.v 5)))))))))))⟩
noncomputable def Hq:List C.Dd:=wC::Ho
noncomputable def J8:List C.FT:=.p m3::J7
theorem YW:C.tab Hq=J8:=C.bK YV rfl rfl rfl
noncomputable def CP:Ev→Option Fl :=
 (aj (ao 4 (ae ak (jV 2) (ae aT (ae aT (jV 1) (jC (.int 60))) (aJ bz (ag (jV 2) ah)))))
 (aj (ao 5 (ax hX (ag (ae bW (jV 1) (jC (.int 43200))) (ag (jV 2) ah))))
 (aj (aK (jB (ae fq (ae aT (jV 0) (jC (.int 11))) (jC (.int 5))))
  (aj (lY (gT 3 (bJ (gN 6) (bJ (gN 7) (bJ (gN 8) du)))) (ae ak (jV 3) (ae aT (ae aT (ae bW (jV 1) (jC (.int 60))) (jC (.int 12))) (aJ bz (ag (jV 3) ah)))))
 (aG (aQ (ag (jC (.str "reckon")) (ag (jV 4) (ag (jV 6) (ag (jV 7) (ag (jV 8) ah))))))))
  aR)
 (aj (aK (jB (ae aN (ae aT (jV 0) (jC (.int 11))) (jC (.int 5))))
  (aG (aQ (ag (jC (.str "copy")) (ag (jV 4) (ag (jV 5) ah)))))
  aR)
 (aj (aK (jB (ae aN (ae aT (jV 0) (jC (.int 11))) (jC (.int 6))))
  (aG (aQ (ag (jC (.str "say")) (ag (jV 5) ah))))
  aR)
 (aj (aK (jB (ae fq (ae aT (jV 0) (jC (.int 11))) (jC (.int 9))))
  (aG (aQ (ag (jC (.str "part")) (ag (jV 5) (ag (ae aT (ae bW (jV 1) (jC (.int 720))) (jC (.int 60))) ah)))))
  aR)
 (aG (aQ (ag (jC (.str "part")) (ag (jV 5) (ag (bN df (jC (.int 1))) ah)))))))))))
noncomputable def pV:List D→Option (M×D):=fn 9 CP
noncomputable def wD:C.Dd:=⟨"_law_row",top 25,["_law_cell_here", "_law_other", "_law_names_here", "_law_deeds_here"],["_law_cell_here", "_law_other", "_law_names_here", "_law_deeds_here", "_law_name", "_law_operand_here", "_law_s", "_law_a", "_law_b"],1,none,(.c (.l (.st 4 (.ix (.v 2) (.bo .mod (.bo .mod (.v 1) (.ki 60)) (.fb .len (.c (.v 2) .n)))))) (.c (.l (.st 5 (.ca 1 (.c (.bo .div (.v 1) (.ki 43200)) (.c (.v 2) .n))))) (.c (.ie (.c .lt (.bo .mod (.v 0) (.ki 11)) (.ki 5)) (.c (.l (.as (.t 3 (.c (.n 6) (.c (.n 7) (.c (.n 8) .n)))) (.ix (.v 3) (.bo .mod (.bo .mod (.bo .div (.v 1) (.ki 60)) (.ki 12)) (.fb .len (.c (.v 3) .n)))))) (.o (.l (.rt (.tu (.c (.ks "reckon") (.c (.v 4) (.c (.v 6) (.c (.v 7) (.c (.v 8) .n)))))))))) .n) (.c (.ie (.c .eq (.bo .mod (.v 0) (.ki 11)) (.ki 5)) (.o (.l (.rt (.tu (.c (.ks "copy") (.c (.v 4) (.c (.v 5) .n))))))) .n) (.c (.ie (.c .eq (.bo .mod (.v 0) (.ki 11)) (.ki 6)) (.o (.l (.rt (.tu (.c (.ks "say") (.c (.v 5) .n)))))) .n) (.c (.ie (.c .lt (.bo .mod (.v 0) (.ki 11)) (.ki 9)) (.o (.l (.rt (.tu (.c (.ks "part") (.c (.v 5) (.c (.bo .mod (.bo .div (.v 1) (.ki 720)) (.ki 60)) .n))))))) .n) (.o (.l (.rt (.tu (.c (.ks "part") (.c (.v 5) (.c (.uo .neg (.ki 1)) .n)))))))))))))⟩
noncomputable def Hr:List C.Dd:=wD::Hq
noncomputable def J9:List C.FT:=.p pV::J8
theorem YX:C.tab Hr=J9:=C.bK YW rfl rfl rfl
noncomputable def Cg:Ev→Option Fl :=
 (aj (ao 2 (cf (bP (ag (aJ bz (ag (jV 0) ah)) ah)) [0] (jB (ae aN (ae ak (ae ak (jV 1) (jV 0)) (jC (.int 0))) (jC (.str "end")))) (jV 0)))
 (aj (aK (cY (jB (ae gu (jV 2) (bE ah))) (jB (ae gC (ae aT (jV 1) (jC (.int 3))) (jC (.int 0)))))
  (aG (aQ (ag (jC (.str "end")) ah)))
  aR)
 (aG (aQ (ag (jC (.str "go")) (ag (ae aT (ae bW (jV 1) (jC (.int 3))) (ae ak (jV 2) (jC (.int 0)))) ah))))))
noncomputable def tP:List D→Option (M×D):=fn 3 Cg
noncomputable def wF:C.Dd:=⟨"_law_last",top 26,["_law_rows", "_law_number_here"],["_law_rows", "_law_number_here", "_law_ends"],0,none,(.c (.l (.sc 2 (.r1 (.c (.fb .len (.c (.v 0) .n)) .n)) [0] (.c .eq (.ix (.ix (.v 1) (.v 0)) (.ki 0)) (.ks "end")) (.v 0))) (.c (.ie (.or (.c .oR (.v 2) (.li .n)) (.c .gt (.bo .mod (.v 1) (.ki 3)) (.ki 0))) (.o (.l (.rt (.tu (.c (.ks "end") .n))))) .n) (.o (.l (.rt (.tu (.c (.ks "go") (.c (.bo .mod (.bo .div (.v 1) (.ki 3)) (.ix (.v 2) (.ki 0))) .n))))))))⟩
noncomputable def Hs:List C.Dd:=wF::Hr
noncomputable def Ka:List C.FT:=.p tP::J9
theorem YY:C.tab Hs=Ka:=C.bK YX rfl rfl rfl
noncomputable def BH:Ev→Option Fl :=
 (aj (aK (jB (ax mV (ag (jV 0) ah)))
  (aG (ax iO (ag (jV 0) (ag (jV 1) ah))))
  aR)
 (aG (ax iN (ag (aJ qM (ag (fu f9 (jV 0) gS (dM (jC (.int 4)))) ah)) (ag (jV 1) ah)))))
noncomputable def mX:List D→Option (M×D):=fn 2 BH
noncomputable def wG:C.Dd:=⟨"_law_number",top 28,["_law_script", "_law_k"],["_law_script", "_law_k"],2,none,(.c (.ie (.b (.ca 5 (.c (.v 0) .n))) (.o (.l (.rt (.ca 7 (.c (.v 0) (.c (.v 1) .n)))))) .n) (.o (.l (.rt (.ca 6 (.c (.fb .sum (.c (.sl (.v 0) .n (.s (.ki 4))) .n)) (.c (.v 1) .n)))))))⟩
noncomputable def Ht:List C.Dd:=wG::Hs
noncomputable def Kc:List C.FT:=.p mX::Ka
theorem YZ:C.tab Ht=Kc:=C.bK YY rfl rfl rfl
noncomputable def sZ:Ev→Option Fl :=
 (aj (ao 7 (ax iN (ag (jV 6) (ag (jV 5) ah))))
 (aj (cE 4 (ax pV (ag (jV 6) (ag (jV 7) (ag (jV 2) (ag (jV 3) ah))))))
 (aj (aK (jB (ae aN (ae aT (jV 6) (jC (.int 11))) (jC (.int 9))))
  (cE 4 (aQ (ag (jC (.str "end")) ah)))
  aR)
 (aK (jB (ae aN (ae aT (jV 6) (jC (.int 11))) (jC (.int 10))))
  (cE 4 (aQ (ag (jC (.str "go")) (ag (ae aT (ae bW (jV 7) (jC (.int 720))) (jC (.int 60))) ah))))
  aR))))
noncomputable def BX:Ev→Option Fl :=
 (aj (ao 2 (ax mZ (ag (ax iO (ag (jV 0) (ag (jC (.int 0)) ah))) ah)))
 (aj (ao 3 (ax m3 (ag (jV 0) (ag (jV 2) ah))))
 (aj (ao 4 (bE ah))
 (aj (cN 1 (aY (gb (ag (jV 1) ah)) (gT 2 (bJ (gN 5) (bJ (gN 6) du)))
  sZ))
 (aG (ae bB (jV 4) (bE (ag (ax tP (ag (jV 4) (ag (ax mX (ag (jV 0) (ag (jC (.int 58)) ah))) ah))) ah))))))))
noncomputable def tJ:List D→Option (M×D):=fn 8 BX
noncomputable def wH:C.Dd:=⟨"_law_rough",top 27,["_law_script", "_law_cells"],["_law_script", "_law_cells", "_law_names_here", "_law_deeds_here", "_law_rows", "_law_k", "_law_cell_here", "_law_other"],3,none,(.c (.l (.st 2 (.ca 5 (.c (.ca 8 (.c (.v 0) (.c (.ki 0) .n))) .n)))) (.c (.l (.st 3 (.ca 3 (.c (.v 0) (.c (.v 2) .n))))) (.c (.l (.st 4 (.li .n))) (.c (.fz 1 (.fo (.en (.c (.v 1) .n)) (.t 2 (.c (.n 5) (.c (.n 6) .n))) (.c (.l (.st 7 (.ca 7 (.c (.v 6) (.c (.v 5) .n))))) (.c (.l (.ap 4 (.ca 2 (.c (.v 6) (.c (.v 7) (.c (.v 2) (.c (.v 3) .n))))))) (.c (.ie (.c .eq (.bo .mod (.v 6) (.ki 11)) (.ki 9)) (.o (.l (.ap 4 (.tu (.c (.ks "end") .n))))) .n) (.o (.ie (.c .eq (.bo .mod (.v 6) (.ki 11)) (.ki 10)) (.o (.l (.ap 4 (.tu (.c (.ks "go") (.c (.bo .mod (.bo .div (.v 7) (.ki 720)) (.ki 60)) .n)))))) .n))))))) (.o (.l (.rt (.bo .add (.v 4) (.li (.c (.ca 1 (.c (.v 4) (.c (.ca 0 (.c (.v 0) (.c (.ki 58) .n))) .n))) .n))))))))))⟩
noncomputable def Hu:List C.Dd:=wH::Ht
noncomputable def Kd:List C.FT:=.p tJ::Kc
theorem Y0:C.tab Hu=Kd:=C.bK YZ rfl rfl rfl
noncomputable def xm:Ev→Option Fl :=
 (ao 1 (ae gR (jV 1) (jC (.int 1))))
noncomputable def tF:Ev→Option Bool :=
 (jB (ae aN (ae ak (ae ak (jV 0) (jV 1)) (jC (.int 0))) (jC (.str "go"))))
noncomputable def Ci:Ev→Option Fl :=
 (aj (ao 1 (ae aT (jV 1) (aJ bz (ag (jV 0) ah))))
 (aj (gk tF
  xm)
 (aG (jV 1))))
noncomputable def tQ:List D→Option (M×D):=fn 2 Ci
noncomputable def wI:C.Dd:=⟨"_law_goal",top 29,["_law_rough_here", "_law_to"],["_law_rough_here", "_law_to"],0,none,(.c (.l (.st 1 (.bo .mod (.v 1) (.fb .len (.c (.v 0) .n))))) (.c (.wh (.c .eq (.ix (.ix (.v 0) (.v 1)) (.ki 0)) (.ks "go")) (.o (.l (.st 1 (.bo .sub (.v 1) (.ki 1)))))) (.o (.l (.rt (.v 1))))))⟩
noncomputable def Hv:List C.Dd:=wI::Hu
noncomputable def Ke:List C.FT:=.p tQ::Kd
theorem Y1:C.tab Hv=Ke:=C.bK Y0 rfl rfl rfl
noncomputable def Bn:Ev→Option Fl :=
 (aj (ao 2 (cf (qI (ag (jC (.int 2)) (ag (aJ bz (ag (jV 0) ah)) ah))) [0] (jB (ae (dN false) (ae ak (ae ak (jV 1) (jV 0)) (jC (.int 0))) (aQ (ag (jC (.str "reckon")) (ag (jC (.str "copy")) (ag (jC (.str "say")) ah)))))) (jV 0)))
 (aj (aK (cY (jB (ae gu (jV 2) (bE ah))) (jB (ae (dN true) (ae ak (ae ak (jV 0) (jC (.int 0))) (jC (.int 0))) (aQ (ag (jC (.str "reckon")) (ag (jC (.str "copy")) (ag (jC (.str "say")) ah)))))))
  (aG (jV 0))
  aR)
 (aj (ao 3 (ae ak (jV 2) (ae aT (ae bW (jV 1) (jC (.int 4))) (aJ bz (ag (jV 2) ah)))))
 (aj (c9 0 (jV 3) (aQ (ag (jC (.str "part")) (ag (ae ak (ae ak (jV 0) (jV 3)) (jC (.int 1))) (ag (jC (.int 1)) ah)))))
 (aj (c9 0 (jC (.int 0)) (aQ (ag (jC (.str "go")) (ag (jV 3) ah))))
 (aG (jV 0)))))))
noncomputable def sx:List D→Option D:=i7 4 Bn
noncomputable def wJ:C.Dd:=⟨"_law_with_while",top 30,["_law_rows", "_law_cell_here"],["_law_rows", "_law_cell_here", "_law_flat", "_law_last_here"],0,some [],(.c (.l (.sc 2 (.r2 (.c (.ki 2) (.c (.fb .len (.c (.v 0) .n)) .n))) [0] (.c .ll (.ix (.ix (.v 1) (.v 0)) (.ki 0)) (.tu (.c (.ks "reckon") (.c (.ks "copy") (.c (.ks "say") .n))))) (.v 0))) (.c (.ie (.or (.c .oR (.v 2) (.li .n)) (.c .vV (.ix (.ix (.v 0) (.ki 0)) (.ki 0)) (.tu (.c (.ks "reckon") (.c (.ks "copy") (.c (.ks "say") .n)))))) (.o (.l (.rt (.v 0)))) .n) (.c (.l (.st 3 (.ix (.v 2) (.bo .mod (.bo .div (.v 1) (.ki 4)) (.fb .len (.c (.v 2) .n)))))) (.c (.l (.si 0 (.v 3) (.tu (.c (.ks "part") (.c (.ix (.ix (.v 0) (.v 3)) (.ki 1)) (.c (.ki 1) .n)))))) (.c (.l (.si 0 (.ki 0) (.tu (.c (.ks "go") (.c (.v 3) .n))))) (.o (.l (.rt (.v 0)))))))))⟩
noncomputable def Hw:List C.Dd:=wJ::Hv
noncomputable def Kf:List C.FT:=.oo sx::Ke
theorem Y2:C.tab Hw=Kf:=C.yz Y1 rfl rfl rfl
noncomputable def Bs:Ev→Option Fl :=
 (aj (ao 2 (cf (bP (ag (aJ bz (ag (jV 0) ah)) ah)) [0] (jB (ae (dN false) (ae ak (ae ak (jV 1) (jV 0)) (jC (.int 0))) (aQ (ag (jC (.str "reckon")) (ag (jC (.str "copy")) (ag (jC (.str "say")) ah)))))) (jV 0)))
 (aj (aK (jB (ae aN (ae aT (jV 1) (jC (.int 4))) (jC (.int 3))))
  (jD [0] [(0,0),(1,1)] sx (ag (jV 0) (ag (jV 1) ah)))
  aR)
 (aj (aK (cY (jB (ae fq (aJ bz (ag (jV 2) ah)) (jC (.int 2)))) (jB (ae aN (ae aT (jV 1) (jC (.int 2))) (jC (.int 0)))))
  (aG (jV 0))
  aR)
 (aj (ao 3 (ae ak (jV 2) (ae aT (ae bW (jV 1) (jC (.int 4))) (ae gR (aJ bz (ag (jV 2) ah)) (jC (.int 1))))))
 (aj (cN 2 (ao 4 (cf (bO (jV 2)) [3] (jB (ae gC (jV 0) (jV 1))) (jV 0))))
 (aj (ao 5 (ae ak (jV 4) (ae aT (ae bW (jV 1) (jC (.int 256))) (aJ bz (ag (jV 4) ah)))))
 (aj (ao 6 (ae aT (ae bW (jV 1) (jC (.int 16384))) (aJ bz (ag (jV 0) ah))))
 (aj (aK (jB (ae aN (ae ak (ae ak (jV 0) (bN df (jC (.int 1)))) (jC (.int 0))) (jC (.str "go"))))
  (ao 6 (ae aT (jV 6) (ae bB (jV 3) (jC (.int 1)))))
  aR)
 (aj (aK (jB (nD fq oK (jV 3) (jV 6) (jV 5)))
  (ao 6 (ae bB (jV 5) (jC (.int 1))))
  aR)
 (aj (aK (jB (ae aN (ae ak (ae ak (jV 0) (jV 6)) (jC (.int 0))) (jC (.str "go"))))
  (ao 6 (jC (.int 0)))
  aR)
 (aj (c9 0 (jV 3) (aQ (ag (jC (.str "part")) (ag (ae ak (ae ak (jV 0) (jV 3)) (jC (.int 1))) (ag (ae bB (jV 5) (jC (.int 1))) ah)))))
 (aj (c9 0 (jV 5) (aQ (ag (jC (.str "go")) (ag (jV 6) ah))))
 (aG (jV 0))))))))))))))
noncomputable def sH:List D→Option D:=i7 7 Bs
noncomputable def wK:C.Dd:=⟨"_law_with_else",top 31,["_law_rows", "_law_cell_here"],["_law_rows", "_law_cell_here", "_law_flat", "_law_first", "_law_later", "_law_last_here", "_law_to"],1,some [],(.c (.l (.sc 2 (.r1 (.c (.fb .len (.c (.v 0) .n)) .n)) [0] (.c .ll (.ix (.ix (.v 1) (.v 0)) (.ki 0)) (.tu (.c (.ks "reckon") (.c (.ks "copy") (.c (.ks "say") .n))))) (.v 0))) (.c (.ie (.c .eq (.bo .mod (.v 1) (.ki 4)) (.ki 3)) (.o (.l (.rO 0 [0] (.c (.v 0) (.c (.v 1) .n))))) .n) (.c (.ie (.or (.c .lt (.fb .len (.c (.v 2) .n)) (.ki 2)) (.c .eq (.bo .mod (.v 1) (.ki 2)) (.ki 0))) (.o (.l (.rt (.v 0)))) .n) (.c (.l (.st 3 (.ix (.v 2) (.bo .mod (.bo .div (.v 1) (.ki 4)) (.bo .sub (.fb .len (.c (.v 2) .n)) (.ki 1)))))) (.c (.fz 2 (.l (.sc 4 (.l (.v 2)) [3] (.c .gt (.v 0) (.v 1)) (.v 0)))) (.c (.l (.st 5 (.ix (.v 4) (.bo .mod (.bo .div (.v 1) (.ki 256)) (.fb .len (.c (.v 4) .n)))))) (.c (.l (.st 6 (.bo .mod (.bo .div (.v 1) (.ki 16384)) (.fb .len (.c (.v 0) .n))))) (.c (.ie (.c .eq (.ix (.ix (.v 0) (.uo .neg (.ki 1))) (.ki 0)) (.ks "go")) (.o (.l (.st 6 (.bo .mod (.v 6) (.bo .add (.v 3) (.ki 1)))))) .n) (.c (.ie (.h .lt .le (.v 3) (.v 6) (.v 5)) (.o (.l (.st 6 (.bo .add (.v 5) (.ki 1))))) .n) (.c (.ie (.c .eq (.ix (.ix (.v 0) (.v 6)) (.ki 0)) (.ks "go")) (.o (.l (.st 6 (.ki 0)))) .n) (.c (.l (.si 0 (.v 3) (.tu (.c (.ks "part") (.c (.ix (.ix (.v 0) (.v 3)) (.ki 1)) (.c (.bo .add (.v 5) (.ki 1)) .n)))))) (.c (.l (.si 0 (.v 5) (.tu (.c (.ks "go") (.c (.v 6) .n))))) (.o (.l (.rt (.v 0))))))))))))))))⟩
noncomputable def Hx:List C.Dd:=wK::Hw
noncomputable def Kg:List C.FT:=.oo sH::Kf
theorem Y3:C.tab Hx=Kg:=C.yz Y2 rfl rfl rfl
noncomputable def sQ:Ev→Option Fl :=
 (aj (ao 6 (ax iO (ag (jV 0) (ag (ae bB (jC (.int 2)) (jV 5)) ah))))
 (aj (cE 4 (ax pV (ag (ae bB (ae eE (ae bW (jV 6) (jC (.int 11))) (jC (.int 11))) (ae aT (jV 6) (jC (.int 7)))) (ag (ax iN (ag (jV 6) (ag (jV 5) ah))) (ag (jV 2) (ag (jV 3) ah))))))
 (cE 4 (aQ (ag (jC (.str "go")) (ag (ae gR (ae eE (jC (.int 2)) (jV 5)) (jC (.int 1))) ah))))))
noncomputable def BI:Ev→Option Fl :=
 (aj (ao 2 (ax mZ (ag (ax iO (ag (jV 0) (ag (jC (.int 0)) ah))) ah)))
 (aj (ao 3 (ax m3 (ag (jV 0) (ag (jV 2) ah))))
 (aj (ao 4 (bE (ag (aQ (ag (jC (.str "go")) (ag (ae gR (ae eE (jC (.int 2)) (jV 1)) (jC (.int 1))) ah))) ah)))
 (aj (aY (bP (ag (jV 1) ah)) (gN 5)
  sQ)
 (aj (c9 4 (jC (.int 2)) (aQ (ag (jC (.str "go")) (ag (ae bB (ae eE (jC (.int 2)) (jV 1)) (jC (.int 1))) ah))))
 (aG (ae bB (jV 4) (bE (ag (aQ (ag (jC (.str "end")) ah)) ah)))))))))
noncomputable def tG:List D→Option (M×D):=fn 7 BI
noncomputable def wL:C.Dd:=⟨"_law_stairs",top 32,["_law_script", "_law_many"],["_law_script", "_law_many", "_law_names_here", "_law_deeds_here", "_law_rows", "_law_k", "_law_cell_here"],3,none,(.c (.l (.st 2 (.ca 9 (.c (.ca 12 (.c (.v 0) (.c (.ki 0) .n))) .n)))) (.c (.l (.st 3 (.ca 7 (.c (.v 0) (.c (.v 2) .n))))) (.c (.l (.st 4 (.li (.c (.tu (.c (.ks "go") (.c (.bo .sub (.bo .mul (.ki 2) (.v 1)) (.ki 1)) .n))) .n)))) (.c (.fo (.r1 (.c (.v 1) .n)) (.n 5) (.c (.l (.st 6 (.ca 12 (.c (.v 0) (.c (.bo .add (.ki 2) (.v 5)) .n))))) (.c (.l (.ap 4 (.ca 6 (.c (.bo .add (.bo .mul (.bo .div (.v 6) (.ki 11)) (.ki 11)) (.bo .mod (.v 6) (.ki 7))) (.c (.ca 11 (.c (.v 6) (.c (.v 5) .n))) (.c (.v 2) (.c (.v 3) .n))))))) (.o (.l (.ap 4 (.tu (.c (.ks "go") (.c (.bo .sub (.bo .mul (.ki 2) (.v 5)) (.ki 1)) .n))))))))) (.c (.l (.si 4 (.ki 2) (.tu (.c (.ks "go") (.c (.bo .add (.bo .mul (.ki 2) (.v 1)) (.ki 1)) .n))))) (.o (.l (.rt (.bo .add (.v 4) (.li (.c (.tu (.c (.ks "end") .n)) .n)))))))))))⟩
noncomputable def Hy:List C.Dd:=wL::Hx
noncomputable def Kh:List C.FT:=.p tG::Kg
theorem Y4:C.tab Hy=Kh:=C.bK Y3 rfl rfl rfl
noncomputable def Bz:Ev→Option Fl :=
 (aj (ao 5 (ae aT (jV 0) (jC (.int 14))))
 (aj (ao 6 (ae bW (jV 0) (jC (.int 14))))
 (aj (aK (jB (ae fq (jV 5) (jC (.int 6))))
  (aj (lY (gT 3 (bJ (gN 7) (bJ (gN 8) (bJ (gN 9) du)))) (ae ak (jV 4) (ae aT (ae bW (jV 6) (aJ bz (ag (jV 3) ah))) (aJ bz (ag (jV 4) ah)))))
 (aG (aQ (ag (jC (.str "reckon")) (ag (ae ak (jV 3) (ae aT (jV 6) (aJ bz (ag (jV 3) ah)))) (ag (jV 7) (ag (jV 8) (ag (jV 9) ah))))))))
  aR)
 (aj (aK (jB (ae fq (jV 5) (jC (.int 8))))
  (aG (aQ (ag (jC (.str "copy")) (ag (ae ak (jV 3) (ae aT (jV 6) (aJ bz (ag (jV 3) ah)))) (ag (ax hX (ag (ae bW (jV 6) (aJ bz (ag (jV 3) ah))) (ag (jV 3) ah))) ah)))))
  aR)
 (aj (aK (jB (ae fq (jV 5) (jC (.int 10))))
  (aG (aQ (ag (jC (.str "say")) (ag (ax hX (ag (jV 6) (ag (jV 3) ah))) ah))))
  aR)
 (aj (aK (cX (jB (ae fq (jV 5) (jC (.int 12)))) (jB (ae gC (jV 2) (jC (.int 1)))))
  (aG (aQ (ag (jC (.str "part")) (ag (ax hX (ag (ae bW (jV 6) (ae gR (jV 2) (jC (.int 1)))) (ag (jV 3) ah))) (ag (ae aT (ae bB (ae bB (jV 1) (jC (.int 2))) (ae aT (jV 6) (ae gR (jV 2) (jC (.int 1))))) (jV 2)) ah)))))
  aR)
 (aj (aK (jB (ae aN (jV 5) (jC (.int 12))))
  (aG (aQ (ag (jC (.str "go")) (ag (ae aT (jV 6) (jV 2)) ah))))
  aR)
 (aG (aQ (ag (jC (.str "end")) ah))))))))))
noncomputable def pC:List D→Option (M×D):=fn 10 Bz
noncomputable def wM:C.Dd:=⟨"_law_any_row",top 33,["_law_cell_here", "_law_n", "_law_many", "_law_names_here", "_law_deeds_here"],["_law_cell_here", "_law_n", "_law_many", "_law_names_here", "_law_deeds_here", "_law_kind", "_law_rest", "_law_s", "_law_a", "_law_b"],1,none,(.c (.l (.st 5 (.bo .mod (.v 0) (.ki 14)))) (.c (.l (.st 6 (.bo .div (.v 0) (.ki 14)))) (.c (.ie (.c .lt (.v 5) (.ki 6)) (.c (.l (.as (.t 3 (.c (.n 7) (.c (.n 8) (.c (.n 9) .n)))) (.ix (.v 4) (.bo .mod (.bo .div (.v 6) (.fb .len (.c (.v 3) .n))) (.fb .len (.c (.v 4) .n)))))) (.o (.l (.rt (.tu (.c (.ks "reckon") (.c (.ix (.v 3) (.bo .mod (.v 6) (.fb .len (.c (.v 3) .n)))) (.c (.v 7) (.c (.v 8) (.c (.v 9) .n)))))))))) .n) (.c (.ie (.c .lt (.v 5) (.ki 8)) (.o (.l (.rt (.tu (.c (.ks "copy") (.c (.ix (.v 3) (.bo .mod (.v 6) (.fb .len (.c (.v 3) .n)))) (.c (.ca 9 (.c (.bo .div (.v 6) (.fb .len (.c (.v 3) .n))) (.c (.v 3) .n))) .n))))))) .n) (.c (.ie (.c .lt (.v 5) (.ki 10)) (.o (.l (.rt (.tu (.c (.ks "say") (.c (.ca 9 (.c (.v 6) (.c (.v 3) .n))) .n)))))) .n) (.c (.ie (.an (.c .lt (.v 5) (.ki 12)) (.c .gt (.v 2) (.ki 1))) (.o (.l (.rt (.tu (.c (.ks "part") (.c (.ca 9 (.c (.bo .div (.v 6) (.bo .sub (.v 2) (.ki 1))) (.c (.v 3) .n))) (.c (.bo .mod (.bo .add (.bo .add (.v 1) (.ki 2)) (.bo .mod (.v 6) (.bo .sub (.v 2) (.ki 1)))) (.v 2)) .n))))))) .n) (.c (.ie (.c .eq (.v 5) (.ki 12)) (.o (.l (.rt (.tu (.c (.ks "go") (.c (.bo .mod (.v 6) (.v 2)) .n)))))) .n) (.o (.l (.rt (.tu (.c (.ks "end") .n))))))))))))⟩
noncomputable def Hz:List C.Dd:=wM::Hy
noncomputable def Ki:List C.FT:=.p pC::Kh
theorem Y5:C.tab Hz=Ki:=C.bK Y4 rfl rfl rfl
noncomputable def K3:Ev→Option Fl :=
 (aj (ao 2 (ae ak (jV 0) (jV 1)))
 (aj (aK (jB (ae aN (ae ak (jV 2) (jC (.int 0))) (jC (.str "end"))))
  (aG (bE ah))
  aR)
 (aj (aK (jB (ae aN (ae ak (jV 2) (jC (.int 0))) (jC (.str "go"))))
  (aG (bE (ag (ae ak (jV 2) (jC (.int 1))) ah)))
  aR)
 (aj (aK (jB (ae aN (ae ak (jV 2) (jC (.int 0))) (jC (.str "part"))))
  (aG (bE (ag (ae bB (jV 1) (jC (.int 1))) (ag (ae ak (jV 2) (jC (.int 2))) ah))))
  aR)
 (aG (bE (ag (ae bB (jV 1) (jC (.int 1))) ah)))))))
noncomputable def sJ:List D→Option (M×D):=fn 3 K3
noncomputable def wN:C.Dd:=⟨"_law_followers",top 38,["_law_program_here", "_law_n"],["_law_program_here", "_law_n", "_law_row_here"],0,none,(.c (.l (.st 2 (.ix (.v 0) (.v 1)))) (.c (.ie (.c .eq (.ix (.v 2) (.ki 0)) (.ks "end")) (.o (.l (.rt (.li .n)))) .n) (.c (.ie (.c .eq (.ix (.v 2) (.ki 0)) (.ks "go")) (.o (.l (.rt (.li (.c (.ix (.v 2) (.ki 1)) .n))))) .n) (.c (.ie (.c .eq (.ix (.v 2) (.ki 0)) (.ks "part")) (.o (.l (.rt (.li (.c (.bo .add (.v 1) (.ki 1)) (.c (.ix (.v 2) (.ki 2)) .n)))))) .n) (.o (.l (.rt (.li (.c (.bo .add (.v 1) (.ki 1)) .n)))))))))⟩
noncomputable def HB:List C.Dd:=wN::Hz
noncomputable def Kj:List C.FT:=.p sJ::Ki
theorem Y6:C.tab HB=Kj:=C.bK Y5 rfl rfl rfl
noncomputable def ph:Ev→Option Fl :=
 (aK (jB (ae aN (ae ak (ae ak (jV 0) (jV 3)) (jC (.int 0))) (jC (.str "end"))))
  (iY 2 (jV 3) (jC (.bl true)))
  aR)
noncomputable def sC:Ev→Option Fl :=
 (aj (lY (gT 2 (bJ (gN 6) (bJ (gN 7) du))) (ae ak (bE (ag (aQ (ag (jV 5) (ag (jV 3) ah))) (ag (aQ (ag (jV 3) (ag (jV 5) ah))) ah))) (aJ kQ (ag (jV 1) ah))))
 (aK (cX (jB (dO false (jV 6) (jV 2))) (jB (dO true (jV 7) (jV 2))))
  (aj (iY 2 (jV 7) (jC (.bl true)))
 (ao 4 (jC (.bl true))))
  aR))
noncomputable def sD:Ev→Option Fl :=
 (aY (bO (ax sJ (ag (jV 0) (ag (jV 3) ah)))) (gN 5)
  sC)
noncomputable def sE:Ev→Option Fl :=
 (aj (ao 4 (jC (.bl false)))
 (aY (bP (ag (aJ bz (ag (jV 0) ah)) ah)) (gN 3)
  sD))
noncomputable def xj:Ev→Option Bool :=
 (jB (jV 4))
noncomputable def Bv:Ev→Option Fl :=
 (aj (ao 2 (yT (jC (.int 0)) (jC (.bl true))))
 (aj (aK (fC (jB (jV 1)))
  (aj (ao 2 nH)
 (aY (bP (ag (aJ bz (ag (jV 0) ah)) ah)) (gN 3)
  ph))
  aR)
 (aj (ao 4 (jC (.bl true)))
 (aj (gk xj
  sE)
 (aG (jV 2))))))
noncomputable def pv:List D→Option (M×D):=fn 8 Bv
noncomputable def wO:C.Dd:=⟨"_law_comes_to",top 34,["_law_rows", "_law_ahead"],["_law_rows", "_law_ahead", "_law_seen", "_law_n", "_law_more", "_law_m", "_law_one", "_law_other"],1,none,(.c (.l (.st 2 (.d1 (.ki 0) (.kb true)))) (.c (.ie (.nt (.b (.v 1))) (.c (.l (.st 2 .dK)) (.o (.fo (.r1 (.c (.fb .len (.c (.v 0) .n)) .n)) (.n 3) (.o (.ie (.c .eq (.ix (.ix (.v 0) (.v 3)) (.ki 0)) (.ks "end")) (.o (.l (.dp 2 (.v 3) (.kb true)))) .n))))) .n) (.c (.l (.st 4 (.kb true))) (.c (.wh (.b (.v 4)) (.c (.l (.st 4 (.kb false))) (.o (.fo (.r1 (.c (.fb .len (.c (.v 0) .n)) .n)) (.n 3) (.o (.fo (.l (.ca 0 (.c (.v 0) (.c (.v 3) .n)))) (.n 5) (.c (.l (.as (.t 2 (.c (.n 6) (.c (.n 7) .n))) (.ix (.li (.c (.tu (.c (.v 5) (.c (.v 3) .n))) (.c (.tu (.c (.v 3) (.c (.v 5) .n))) .n))) (.fb .int (.c (.v 1) .n))))) (.o (.ie (.an (.d false (.v 6) (.v 2)) (.d true (.v 7) (.v 2))) (.c (.l (.dp 2 (.v 7) (.kb true))) (.o (.l (.st 4 (.kb true))))) .n))))))))) (.o (.l (.rt (.v 2))))))))⟩
noncomputable def HC:List C.Dd:=wO::HB
noncomputable def Kk:List C.FT:=.p pv::Kj
theorem Y7:C.tab HC=Kk:=C.bK Y6 rfl rfl rfl
noncomputable def pw:Ev→Option Fl :=
 (aj (ao 3 (ax pv (ag (jV 0) (ag (jC (.bl true)) ah))))
 (aj (ao 4 (ax pv (ag (jV 0) (ag (jC (.bl false)) ah))))
 (aj (ao 5 (cf (bP (ag (aJ bz (ag (jV 0) ah)) ah)) [3] (jB (dO true (jV 0) (jV 1))) (jV 0)))
 (aj (ao 6 (cf (bP (ag (aJ bz (ag (jV 0) ah)) ah)) [4] (jB (dO true (jV 0) (jV 1))) (jV 0)))
 (aK (jB (ae fS (jV 5) (bE ah)))
  (c9 0 (ae gR (ae ak (jV 5) (jC (.int 0))) (jC (.int 1))) (aQ (ag (jC (.str "say")) (ag (jV 2) ah))))
  (aK (cX (jB (ae fS (jV 6) (bE ah))) (jB (ae aN (ae ak (jV 6) (bN df (jC (.int 1)))) (jV 1))))
  (c9 0 (jV 1) (aQ (ag (jC (.str "end")) ah)))
  (aK (jB (ae fS (jV 6) (bE ah)))
  (c9 0 (ae ak (jV 6) (bN df (jC (.int 1)))) (aQ (ag (jC (.str "say")) (ag (jV 2) ah))))
  (aG (jV 0)))))))))
noncomputable def BJ:Ev→Option Fl :=
 (aj (ao 1 (ae gR (aJ bz (ag (jV 0) ah)) (jC (.int 1))))
 (aj (aK (jB (ae ft (ae ak (ae ak (jV 0) (jV 1)) (jC (.int 0))) (jC (.str "go"))))
  (c9 0 (jV 1) (aQ (ag (jC (.str "end")) ah)))
  aR)
 (aj (aY (bP (ag (ae eE (jC (.int 2)) (aJ bz (ag (jV 0) ah))) ah)) (gN 2)
  pw)
 (aG (jV 0)))))
noncomputable def pF:List D→Option D:=i7 7 BJ
noncomputable def wQ:C.Dd:=⟨"_law_mended",top 35,["_law_rows"],["_law_rows", "_law_last_here", "_law_turn", "_law_seen", "_law_near", "_law_lost", "_law_dead"],2,some [],(.c (.l (.st 1 (.bo .sub (.fb .len (.c (.v 0) .n)) (.ki 1)))) (.c (.ie (.c .ne (.ix (.ix (.v 0) (.v 1)) (.ki 0)) (.ks "go")) (.o (.l (.si 0 (.v 1) (.tu (.c (.ks "end") .n))))) .n) (.c (.fo (.r1 (.c (.bo .mul (.ki 2) (.fb .len (.c (.v 0) .n))) .n)) (.n 2) (.c (.l (.st 3 (.ca 0 (.c (.v 0) (.c (.kb true) .n))))) (.c (.l (.st 4 (.ca 0 (.c (.v 0) (.c (.kb false) .n))))) (.c (.l (.sc 5 (.r1 (.c (.fb .len (.c (.v 0) .n)) .n)) [3] (.d true (.v 0) (.v 1)) (.v 0))) (.c (.l (.sc 6 (.r1 (.c (.fb .len (.c (.v 0) .n)) .n)) [4] (.d true (.v 0) (.v 1)) (.v 0))) (.o (.ie (.c .mN (.v 5) (.li .n)) (.o (.l (.si 0 (.bo .sub (.ix (.v 5) (.ki 0)) (.ki 1)) (.tu (.c (.ks "say") (.c (.v 2) .n)))))) (.o (.ie (.an (.c .mN (.v 6) (.li .n)) (.c .eq (.ix (.v 6) (.uo .neg (.ki 1))) (.v 1))) (.o (.l (.si 0 (.v 1) (.tu (.c (.ks "end") .n))))) (.o (.ie (.c .mN (.v 6) (.li .n)) (.o (.l (.si 0 (.ix (.v 6) (.uo .neg (.ki 1))) (.tu (.c (.ks "say") (.c (.v 2) .n)))))) (.o (.l (.rt (.v 0))))))))))))))) (.o (.l (.rt (.v 0)))))))⟩
noncomputable def HD:List C.Dd:=wQ::HC
noncomputable def Kl:List C.FT:=.oo pF::Kk
theorem Y8:C.tab HD=Kl:=C.yz Y7 rfl rfl rfl
noncomputable def Bl:Ev→Option Fl :=
 (aj (ao 2 (ax mZ (ag (ax iO (ag (jV 0) (ag (jC (.int 0)) ah))) ah)))
 (aj (ao 3 (ax m3 (ag (jV 0) (ag (jV 2) ah))))
 (aj (ao 4 (aJ qH (ag (jC (.int 1)) (ag (aJ bz (ag (jV 1) ah)) ah))))
 (aj (ao 5 (bE (ag (aQ (ag (jC (.str "end")) ah)) ah)))
 (aj (aK (jB (ae gC (aJ bz (ag (jV 1) ah)) (jC (.int 0))))
  (ao 5 (cf (bP (ag (jV 4) ah)) [4,2,3,1] dA (ax pC (ag (ae ak (jV 4) (jV 0)) (ag (jV 0) (ag (jV 1) (ag (jV 2) (ag (jV 3) ah))))))))
  aR)
 (jD [5] [(0,5)] pF (ag (jV 5) ah)))))))
noncomputable def su:List D→Option (M×D):=fn 6 Bl
noncomputable def wR:C.Dd:=⟨"_law_any_program",top 36,["_law_script", "_law_cells"],["_law_script", "_law_cells", "_law_names_here", "_law_deeds_here", "_law_many", "_law_rows"],3,none,(.c (.l (.st 2 (.ca 14 (.c (.ca 17 (.c (.v 0) (.c (.ki 0) .n))) .n)))) (.c (.l (.st 3 (.ca 12 (.c (.v 0) (.c (.v 2) .n))))) (.c (.l (.st 4 (.fb .max (.c (.ki 1) (.c (.fb .len (.c (.v 1) .n)) .n))))) (.c (.l (.st 5 (.li (.c (.tu (.c (.ks "end") .n)) .n)))) (.c (.ie (.c .gt (.fb .len (.c (.v 1) .n)) (.ki 0)) (.o (.l (.sc 5 (.r1 (.c (.v 4) .n)) [4,2,3,1] .y (.ca 3 (.c (.ix (.v 4) (.v 0)) (.c (.v 0) (.c (.v 1) (.c (.v 2) (.c (.v 3) .n))))))))) .n) (.o (.l (.rO 0 [5] (.c (.v 5) .n)))))))))⟩
noncomputable def HF:List C.Dd:=wR::HD
noncomputable def Km:List C.FT:=.p su::Kl
theorem Y9:C.tab HF=Km:=C.bK Y8 rfl rfl rfl
noncomputable def sM:Ev→Option Fl :=
 (aj (aK (cX (jB (ae aN (ae ak (jV 6) (jC (.int 0))) (jC (.str "part")))) (jB (ae aN (ae ak (jV 6) (jC (.int 2))) (bN df (jC (.int 1))))))
  (ao 6 (aQ (ag (jC (.str "part")) (ag (ae ak (jV 6) (jC (.int 1))) (ag (ae bB (jV 5) (jC (.int 2))) ah)))))
  (aK (cX (jB (ae aN (ae ak (jV 6) (jC (.int 0))) (jC (.str "part")))) (jB (ae aN (ae aT (ae ak (jV 6) (jC (.int 2))) (aJ bz (ag (jV 3) ah))) (ae bB (jV 5) (jC (.int 1))))))
  (ao 6 (aQ (ag (jC (.str "part")) (ag (ae ak (jV 6) (jC (.int 1))) (ag (jV 5) ah)))))
  (aK (jB (ae aN (ae ak (jV 6) (jC (.int 0))) (jC (.str "part"))))
  (ao 6 (aQ (ag (jC (.str "part")) (ag (ae ak (jV 6) (jC (.int 1))) (ag (ae aT (ae ak (jV 6) (jC (.int 2))) (aJ bz (ag (jV 3) ah))) ah)))))
  (aK (jB (ae aN (ae ak (jV 6) (jC (.int 0))) (jC (.str "go"))))
  (ao 6 (aQ (ag (jC (.str "go")) (ag (ax tQ (ag (jV 3) (ag (ae ak (jV 6) (jC (.int 1))) ah))) ah))))
  aR))))
 (cE 4 (jV 6)))
noncomputable def BD:Ev→Option Fl :=
 (aj (aK (jB (ax mV (ag (jV 0) ah)))
  (aG (ax su (ag (jV 0) (ag (jV 1) ah))))
  aR)
 (aj (ao 2 (ax mX (ag (jV 0) (ag (jC (.int 57)) ah))))
 (aj (aK (jB (ae aN (ae aT (jV 2) (jC (.int 8))) (jC (.int 1))))
  (aG (ax tG (ag (jV 0) (ag (ae bB (jC (.int 1)) (ae aT (ae bW (jV 2) (jC (.int 8))) (jC (.int 28)))) ah))))
  aR)
 (aj (ao 3 (ax tJ (ag (jV 0) (ag (jV 1) ah))))
 (aj (ao 4 (bE ah))
 (aj (cN 3 (aY (gb (ag (jV 3) ah)) (gT 2 (bJ (gN 5) (bJ (gN 6) du)))
  sM))
 (jD [4] [(0,4)] sH (ag (jV 4) (ag (ax mX (ag (jV 0) (ag (jC (.int 59)) ah))) ah)))))))))
noncomputable def pD:List D→Option (M×D):=fn 7 BD
noncomputable def wU:C.Dd:=⟨"_law_program",top 37,["_law_script", "_law_cells"],["_law_script", "_law_cells", "_law_turn", "_law_rough_here", "_law_rows", "_law_n", "_law_row_here"],4,none,(.c (.ie (.b (.ca 16 (.c (.v 0) .n))) (.o (.l (.rt (.ca 0 (.c (.v 0) (.c (.v 1) .n)))))) .n) (.c (.l (.st 2 (.ca 10 (.c (.v 0) (.c (.ki 57) .n))))) (.c (.ie (.c .eq (.bo .mod (.v 2) (.ki 8)) (.ki 1)) (.o (.l (.rt (.ca 5 (.c (.v 0) (.c (.bo .add (.ki 1) (.bo .mod (.bo .div (.v 2) (.ki 8)) (.ki 28))) .n)))))) .n) (.c (.l (.st 3 (.ca 9 (.c (.v 0) (.c (.v 1) .n))))) (.c (.l (.st 4 (.li .n))) (.c (.fz 3 (.fo (.en (.c (.v 3) .n)) (.t 2 (.c (.n 5) (.c (.n 6) .n))) (.c (.ie (.an (.c .eq (.ix (.v 6) (.ki 0)) (.ks "part")) (.c .eq (.ix (.v 6) (.ki 2)) (.uo .neg (.ki 1)))) (.o (.l (.st 6 (.tu (.c (.ks "part") (.c (.ix (.v 6) (.ki 1)) (.c (.bo .add (.v 5) (.ki 2)) .n))))))) (.o (.ie (.an (.c .eq (.ix (.v 6) (.ki 0)) (.ks "part")) (.c .eq (.bo .mod (.ix (.v 6) (.ki 2)) (.fb .len (.c (.v 3) .n))) (.bo .add (.v 5) (.ki 1)))) (.o (.l (.st 6 (.tu (.c (.ks "part") (.c (.ix (.v 6) (.ki 1)) (.c (.v 5) .n))))))) (.o (.ie (.c .eq (.ix (.v 6) (.ki 0)) (.ks "part")) (.o (.l (.st 6 (.tu (.c (.ks "part") (.c (.ix (.v 6) (.ki 1)) (.c (.bo .mod (.ix (.v 6) (.ki 2)) (.fb .len (.c (.v 3) .n))) .n))))))) (.o (.ie (.c .eq (.ix (.v 6) (.ki 0)) (.ks "go")) (.o (.l (.st 6 (.tu (.c (.ks "go") (.c (.ca 8 (.c (.v 3) (.c (.ix (.v 6) (.ki 1)) .n))) .n)))))) .n))))))) (.o (.l (.ap 4 (.v 6))))))) (.o (.l (.rO 6 [4] (.c (.v 4) (.c (.ca 10 (.c (.v 0) (.c (.ki 59) .n))) .n)))))))))))⟩
noncomputable def HG:List C.Dd:=wU::HF
noncomputable def Kn:List C.FT:=.p pD::Km
theorem Za:C.tab HG=Kn:=C.bK Y9 rfl rfl rfl
noncomputable def sR:Ev→Option Fl :=
 (cE 1 (aQ (ag (jV 2) (ag (jV 3) ah))))
noncomputable def sU:Ev→Option Fl :=
 (aY (bO (ax sJ (ag (jV 0) (ag (jV 2) ah)))) (gN 3)
  sR)
noncomputable def BK:Ev→Option Fl :=
 (aj (ao 1 (bE (ag (aQ (ag (bN df (jC (.int 1))) (ag (jC (.int 0)) ah))) ah)))
 (aj (aY (bP (ag (aJ bz (ag (jV 0) ah)) ah)) (gN 2)
  sU)
 (aG (jV 1))))
noncomputable def pG:List D→Option (M×D):=fn 4 BK
noncomputable def wV:C.Dd:=⟨"_law_places",top 39,["_law_program_here"],["_law_program_here", "_law_found", "_law_n", "_law_m"],1,none,(.c (.l (.st 1 (.li (.c (.tu (.c (.uo .neg (.ki 1)) (.c (.ki 0) .n))) .n)))) (.c (.fo (.r1 (.c (.fb .len (.c (.v 0) .n)) .n)) (.n 2) (.o (.fo (.l (.ca 4 (.c (.v 0) (.c (.v 2) .n)))) (.n 3) (.o (.l (.ap 1 (.tu (.c (.v 2) (.c (.v 3) .n))))))))) (.o (.l (.rt (.v 1))))))⟩
noncomputable def HJ:List C.Dd:=wV::HG
noncomputable def Kp:List C.FT:=.p pG::Kn
theorem Zb:C.tab HJ=Kp:=C.bK Za rfl rfl rfl
noncomputable def CQ:Ev→Option Fl :=
 (aG (kO (ae aN (ae ak (jV 0) (jC (.int 0))) (jC (.str "reckon"))) (ae gu (fu f9 (jV 0) (dM (jC (.int 2))) gS) (jV 1))))
noncomputable def m7:List D→Option (M×D):=fn 2 CQ
noncomputable def wW:C.Dd:=⟨"_law_has",top 40,["_law_row_here", "_law_deed"],["_law_row_here", "_law_deed"],0,none,(.o (.l (.rt (.an (.co .eq (.ix (.v 0) (.ki 0)) (.ks "reckon")) (.co .oR (.sl (.v 0) (.s (.ki 2)) .n) (.v 1))))))⟩
noncomputable def HK:List C.Dd:=wW::HJ
noncomputable def Kq:List C.FT:=.p m7::Kp
theorem Zc:C.tab HK=Kq:=C.bK Zb rfl rfl rfl
noncomputable def BE:Ev→Option Fl :=
 (aG (kO (ae (dN false) (ae ak (jV 0) (jC (.int 0))) (aQ (ag (jC (.str "reckon")) (ag (jC (.str "copy")) ah)))) (ae (dN false) (ae ak (jV 0) (jC (.int 1))) (fu f9 (jV 1) (dM (jC (.int 1))) gS))))
noncomputable def pE:List D→Option (M×D):=fn 2 BE
noncomputable def wX:C.Dd:=⟨"_law_changes",top 41,["_law_row_here", "_law_deed"],["_law_row_here", "_law_deed"],0,none,(.o (.l (.rt (.an (.co .ll (.ix (.v 0) (.ki 0)) (.tu (.c (.ks "reckon") (.c (.ks "copy") .n)))) (.co .ll (.ix (.v 0) (.ki 1)) (.sl (.v 1) (.s (.ki 1)) .n))))))⟩
noncomputable def HL:List C.Dd:=wX::HK
noncomputable def Kr:List C.FT:=.p pE::Kq
theorem Zd:C.tab HL=Kr:=C.bK Zc rfl rfl rfl
noncomputable def tf:Ev→Option Fl :=
 (aK (cX (jB (ae aN (ae ak (jV 2) (jC (.int 0))) (jC (.str "reckon")))) (jB (ae (mh true) (fu f9 (jV 2) (dM (jC (.int 2))) gS) (jV 1))))
  (cE 1 (fu f9 (jV 2) (dM (jC (.int 2))) gS))
  aR)
noncomputable def BZ:Ev→Option Fl :=
 (aj (ao 1 (bE ah))
 (aj (cN 0 (aY (bO (jV 0)) (gN 2)
  tf))
 (aG (jV 1))))
noncomputable def tK:List D→Option (M×D):=fn 3 BZ
noncomputable def wY:C.Dd:=⟨"_law_known",top 42,["_law_program_here"],["_law_program_here", "_law_found", "_law_row_here"],0,none,(.c (.l (.st 1 (.li .n))) (.c (.fz 0 (.fo (.l (.v 0)) (.n 2) (.o (.ie (.an (.c .eq (.ix (.v 2) (.ki 0)) (.ks "reckon")) (.c .vW (.sl (.v 2) (.s (.ki 2)) .n) (.v 1))) (.o (.l (.ap 1 (.sl (.v 2) (.s (.ki 2)) .n)))) .n)))) (.o (.l (.rt (.v 1))))))⟩
noncomputable def HM:List C.Dd:=wY::HL
noncomputable def Ks:List C.FT:=.p tK::Kr
theorem Ze:C.tab HM=Ks:=C.bK Zd rfl rfl rfl
noncomputable def tm:Ev→Option Fl :=
 (aK (cY (fC (jB (aJ jO (ag (jV 2) (ag (jC (.ty "int")) ah))))) (jB (aJ jO (ag (jV 2) (ag (jC (.ty "bool")) ah)))))
  (aG (jC (.bl false)))
  aR)
noncomputable def B1:Ev→Option Fl :=
 (aj (aK (cY (fC (jB (aJ jO (ag (jV 0) (ag (jC (.ty "dict")) ah))))) (jB (ae ou (jV 0) (jV 1))))
  (aG (jC (.bl false)))
  aR)
 (aj (qx 0 (gN 2)
  tm)
 (aG (jC (.bl true)))))
noncomputable def ly:List D→Option (M×D):=fn 3 B1
noncomputable def wZ:C.Dd:=⟨"_law_right",top 43,["_law_found", "_law_due_here"],["_law_found", "_law_due_here", "_law_bits"],0,none,(.c (.ie (.or (.nt (.b (.fb .oS (.c (.v 0) (.c (.ty "dict") .n))))) (.c .neT (.v 0) (.v 1))) (.o (.l (.rt (.kb false)))) .n) (.c (.fv 0 (.n 2) (.o (.ie (.or (.nt (.b (.fb .oS (.c (.v 2) (.c (.ty "int") .n))))) (.b (.fb .oS (.c (.v 2) (.c (.ty "bool") .n))))) (.o (.l (.rt (.kb false)))) .n))) (.o (.l (.rt (.kb true))))))⟩
noncomputable def HN:List C.Dd:=wZ::HM
noncomputable def Kt:List C.FT:=.p ly::Ks
theorem Zf:C.tab HN=Kt:=C.bK Ze rfl rfl rfl
noncomputable def mY:Ev→Option Fl :=
 (aK (jB (ae ft (jV 2) (bN df (jC (.int 1)))))
  (qw 1 (jV 3) (jV 2))
  aR)
noncomputable def Cj:Ev→Option Fl :=
 (aj (cN 0 (uP 1 (bO (jV 0))))
 (aj (aY (bO (ax pG (ag (jV 0) ah))) (gT 2 (bJ (gN 2) (bJ (gN 3) du)))
  mY)
 (aG (jV 1))))
noncomputable def tR:List D→Option (M×D):=fn 4 Cj
noncomputable def w4:C.Dd:=⟨"_law_came",top 44,["_law_program_here"],["_law_program_here", "_law_came_here", "_law_n", "_law_m"],2,none,(.c (.fz 0 (.l (.ne 1 (.l (.v 0))))) (.c (.fo (.l (.ca 4 (.c (.v 0) .n))) (.t 2 (.c (.n 2) (.c (.n 3) .n))) (.o (.ie (.c .ne (.v 2) (.uo .neg (.ki 1))) (.o (.l (.na 1 (.v 3) (.v 2)))) .n))) (.o (.l (.rt (.v 1))))))⟩
noncomputable def HQ:List C.Dd:=w4::HN
noncomputable def Ku:List C.FT:=.p tR::Kt
theorem Zg:C.tab HQ=Ku:=C.bK Zf rfl rfl rfl
noncomputable def xk:Ev→Option Fl :=
 (aj (kR 6 5)
 (aj (aK (jB (ax pE (ag (ae ak (jV 0) (jV 6)) (ag (jV 2) ah))))
  (aG (jC (.bl true)))
  aR)
 (aj (aK (cY (jB (dO false (jV 6) (jV 4))) (jB (ax m7 (ag (ae ak (jV 0) (jV 6)) (ag (jV 2) ah)))))
  yQ
  aR)
 (aj (aK (jB (ae aN (jV 6) (jC (.int 0))))
  (aG (jC (.bl true)))
  aR)
 (aj (iY 4 (jV 6) (jC (.bl true)))
 (ao 5 (ae bB (jV 5) (ae ak (jV 1) (jV 6)))))))))
noncomputable def pA:Ev→Option Bool :=
 (jB (ae gC (aJ bz (ag (jV 5) ah)) (jC (.int 0))))
noncomputable def BL:Ev→Option Fl :=
 (aj (ao 4 nH)
 (aj (ao 5 (bE (ag (jV 3) ah)))
 (aj (gk pA
  xk)
 (aG (jC (.bl false))))))
noncomputable def pH:List D→Option (M×D):=fn 7 BL
noncomputable def w5:C.Dd:=⟨"_law_missed",top 45,["_law_program_here", "_law_came_here", "_law_deed", "_law_n"],["_law_program_here", "_law_came_here", "_law_deed", "_law_n", "_law_seen", "_law_left", "_law_here"],1,none,(.c (.l (.st 4 .dK)) (.c (.l (.st 5 (.li (.c (.v 3) .n)))) (.c (.wh (.c .gt (.fb .len (.c (.v 5) .n)) (.ki 0)) (.c (.l (.po 6 5)) (.c (.ie (.b (.ca 3 (.c (.ix (.v 0) (.v 6)) (.c (.v 2) .n)))) (.o (.l (.rt (.kb true)))) .n) (.c (.ie (.or (.d false (.v 6) (.v 4)) (.b (.ca 4 (.c (.ix (.v 0) (.v 6)) (.c (.v 2) .n))))) (.o (.l .ct)) .n) (.c (.ie (.c .eq (.v 6) (.ki 0)) (.o (.l (.rt (.kb true)))) .n) (.c (.l (.dp 4 (.v 6) (.kb true))) (.o (.l (.st 5 (.bo .add (.v 5) (.ix (.v 1) (.v 6)))))))))))) (.o (.l (.rt (.kb false)))))))⟩
noncomputable def HR:List C.Dd:=w5::HQ
noncomputable def Kv:List C.FT:=.p pH::Ku
theorem Zh:C.tab HR=Kv:=C.bK Zg rfl rfl rfl
noncomputable def tL:Ev→Option Fl :=
 (aK (fC (jB (ax pH (ag (jV 0) (ag (jV 2) (ag (jV 4) (ag (jV 5) ah)))))))
  (c9 1 (jV 5) (ae kW (ae ak (jV 1) (jV 5)) (ae lV (jC (.int 1)) (jV 3))))
  aR)
noncomputable def tM:Ev→Option Fl :=
 (aY (bP (ag (aJ bz (ag (jV 0) ah)) ah)) (gN 5)
  tL)
noncomputable def tN:Ev→Option Fl :=
 (aj (gM 6 (jV 7) (jC (.int 0)))
 (aK (jB (ae ft (ae ak (jV 7) (jC (.int 0))) (bN df (jC (.int 1)))))
  (gM 6 (jV 7) (ae ak (jV 1) (ae ak (jV 7) (jC (.int 0)))))
  aR))
noncomputable def CT:Ev→Option Fl :=
 (aj (cN 0 (ao 1 (cf (bO (jV 0)) [] dA (jC (.int 0)))))
 (aj (ao 2 (ax tR (ag (jV 0) ah)))
 (aj (aY (gb (ag (ax tK (ag (jV 0) ah)) ah)) (gT 2 (bJ (gN 3) (bJ (gN 4) du)))
  tM)
 (aj (ao 6 nX)
 (aj (aY (bO (ax pG (ag (jV 0) ah))) (gN 7)
  tN)
 (aG (jV 6)))))))
noncomputable def m8:List D→Option (M×D):=fn 8 CT
noncomputable def w6:C.Dd:=⟨"_law_due",top 46,["_law_program_here"],["_law_program_here", "_law_stood", "_law_came_here", "_law_k", "_law_deed", "_law_n", "_law_due_here", "_law_place"],3,none,(.c (.fz 0 (.l (.sc 1 (.l (.v 0)) [] .y (.ki 0)))) (.c (.l (.st 2 (.ca 1 (.c (.v 0) .n)))) (.c (.fo (.en (.c (.ca 3 (.c (.v 0) .n)) .n)) (.t 2 (.c (.n 3) (.c (.n 4) .n))) (.o (.fo (.r1 (.c (.fb .len (.c (.v 0) .n)) .n)) (.n 5) (.o (.ie (.nt (.b (.ca 0 (.c (.v 0) (.c (.v 2) (.c (.v 4) (.c (.v 5) .n))))))) (.o (.l (.si 1 (.v 5) (.bo .bor (.ix (.v 1) (.v 5)) (.bo .shl (.ki 1) (.v 3)))))) .n))))) (.c (.l (.st 6 .dT)) (.c (.fo (.l (.ca 6 (.c (.v 0) .n))) (.n 7) (.c (.l (.tp 6 (.v 7) (.ki 0))) (.o (.ie (.c .ne (.ix (.v 7) (.ki 0)) (.uo .neg (.ki 1))) (.o (.l (.tp 6 (.v 7) (.ix (.v 1) (.ix (.v 7) (.ki 0)))))) .n)))) (.o (.l (.rt (.v 6)))))))))⟩
noncomputable def HS:List C.Dd:=w6::HR
noncomputable def Kw:List C.FT:=.p m8::Kv
theorem Zi:C.tab HS=Kw:=C.bK Zh rfl rfl rfl
noncomputable def Gq:Ev→Option Fl :=
 (aj (ao 1 (ax pD (ag (jV 0) (ag (fu f9 (jV 0) (dM (jC (.int 2))) (dM (jC (.int 22)))) ah))))
 (aj (ao 2 (ax pD (ag (jV 0) (ag (uQ (fu f9 (jV 0) (dM (jC (.int 2))) (dM (jC (.int 22)))) (dM (bN df (jC (.int 1))))) ah))))
 (aj (ao 3 (ax m8 (ag (jV 1) ah)))
 (aj (ao 4 (aJ lM (ag (jV 1) ah)))
 (aj (ao 5 (ax lz (ag (jV 4) ah)))
 (aj (aK (cY (fC (jB (ax ly (ag (jV 5) (ag (jV 3) ah))))) (jB (ae fS (jV 4) (jV 1))))
  (aG (jC (.bl false)))
  aR)
 (aj (xV 5)
 (aj (yl 4)
 (aj (aK (fC (jB (ax ly (ag (ax lz (ag (jV 2) ah)) (ag (ax m8 (ag (jV 2) ah)) ah)))))
  (aG (jC (.bl false)))
  aR)
 (aG (ax ly (ag (ax lz (ag (jV 1) ah)) (ag (jV 3) ah)))))))))))))
noncomputable def uU:List D→Option (M×D):=fn 6 Gq
noncomputable def w9:C.Dd:=⟨"law",top 47,["_law_script"],["_law_script", "_law_program_here", "_law_other", "_law_due_here", "_law_handed", "_law_found"],5,none,(.c (.l (.st 1 (.ca 8 (.c (.v 0) (.c (.sl (.v 0) (.s (.ki 2)) (.s (.ki 22))) .n))))) (.c (.l (.st 2 (.ca 8 (.c (.v 0) (.c (.rs (.sl (.v 0) (.s (.ki 2)) (.s (.ki 22))) (.s (.uo .neg (.ki 1)))) .n))))) (.c (.l (.st 3 (.ca 0 (.c (.v 1) .n)))) (.c (.l (.st 4 (.fb .list (.c (.v 1) .n)))) (.c (.l (.st 5 (.ca 28 (.c (.v 4) .n)))) (.c (.ie (.or (.nt (.b (.ca 3 (.c (.v 5) (.c (.v 3) .n))))) (.c .mN (.v 4) (.v 1))) (.o (.l (.rt (.kb false)))) .n) (.c (.l (.tc 5)) (.c (.l (.cl 4)) (.c (.ie (.nt (.b (.ca 3 (.c (.ca 28 (.c (.v 2) .n)) (.c (.ca 0 (.c (.v 2) .n)) .n))))) (.o (.l (.rt (.kb false)))) .n) (.o (.l (.rt (.ca 3 (.c (.ca 28 (.c (.v 1) .n)) (.c (.v 3) .n)))))))))))))))⟩
noncomputable def vp:List C.Dd:=w9::HS
noncomputable def Zj:List C.FT:=.p uU::Kw
theorem Zk:C.tab vp=Zj:=C.bK Zi rfl rfl rfl
theorem ok:C.uT bs gs vp=true:=by decide +kernel
theorem Xc:C.BA d1.nm d1.st d1.ps:=C.dU fun _ _ _ _ _ _ _=>rfl
theorem Xd:C.BA d2.nm d2.st d2.ps:=C.dU fun _ _ _ _ _ _ _=>rfl
theorem Xe:C.BA d3.nm d3.st d3.ps:=C.dI fun _ _ _ _ _ _ _ _=>rfl
theorem Xf:C.BA d4.nm d4.st d4.ps:=C.dI fun _ _ _ _ _ _ _ _=>rfl
theorem Xg:C.BA d5.nm d5.st d5.ps:=C.dU fun _ _ _ _ _ _ _=>rfl
theorem Xh:C.BA d6.nm d6.st d6.ps:=C.dU fun _ _ _ _ _ _ _=>rfl
theorem Xi:C.BA d7.nm d7.st d7.ps:=C.dU fun _ _ _ _ _ _ _=>rfl
theorem Xj:C.BA d8.nm d8.st d8.ps:=C.dU fun _ _ _ _ _ _ _=>rfl
theorem Xk:C.BA d9.nm d9.st d9.ps:=C.dU fun _ _ _ _ _ _ _=>rfl
theorem Vz:C.BA wm.nm wm.st wm.ps:=C.dU fun _ _ _ _ _ _ _=>rfl
theorem VA:C.BA wo.nm wo.st wo.ps:=C.dU fun _ _ _ _ _ _ _=>rfl
theorem VB:C.BA wq.nm wq.st wq.ps:=C.YG fun _ _ _ _ _ _ _ _ _=>rfl
theorem VC:C.BA wt.nm wt.st wt.ps:=C.dU fun _ _ _ _ _ _ _=>rfl
theorem VD:C.BA wu.nm wu.st wu.ps:=C.dU fun _ _ _ _ _ _ _=>rfl
theorem VF:C.BA wx.nm wx.st wx.ps:=C.dI fun _ _ _ _ _ _ _ _=>rfl
theorem VG:C.BA wy.nm wy.st wy.ps:=C.dI fun _ _ _ _ _ _ _ _=>rfl
theorem VH:C.BA wz.nm wz.st wz.ps:=C.dU fun _ _ _ _ _ _ _=>rfl
theorem VJ:C.BA wA.nm wA.st wA.ps:=C.dU fun _ _ _ _ _ _ _=>rfl
theorem VL:C.BA wB.nm wB.st wB.ps:=C.dI fun _ _ _ _ _ _ _ _=>rfl
theorem VM:C.BA wC.nm wC.st wC.ps:=C.dI fun _ _ _ _ _ _ _ _=>rfl
theorem VN:C.BA wD.nm wD.st wD.ps:=C.JD fun _ _ _ _ _ _ _ _ _ _=>rfl
theorem VP:C.BA wF.nm wF.st wF.ps:=C.dI fun _ _ _ _ _ _ _ _=>rfl
theorem VQ:C.BA wG.nm wG.st wG.ps:=C.dI fun _ _ _ _ _ _ _ _=>rfl
theorem VR:C.BA wH.nm wH.st wH.ps:=C.dI fun _ _ _ _ _ _ _ _=>rfl
theorem VW:C.BA wI.nm wI.st wI.ps:=C.dI fun _ _ _ _ _ _ _ _=>rfl
theorem VX:C.BA wJ.nm wJ.st wJ.ps:=C.dI fun _ _ _ _ _ _ _ _=>rfl
theorem VY:C.BA wK.nm wK.st wK.ps:=C.dI fun _ _ _ _ _ _ _ _=>rfl
theorem VZ:C.BA wL.nm wL.st wL.ps:=C.dI fun _ _ _ _ _ _ _ _=>rfl
theorem V0:C.BA wM.nm wM.st wM.ps:=C.YH fun _ _ _ _ _ _ _ _ _ _ _=>rfl
theorem V1:C.BA wN.nm wN.st wN.ps:=C.dI fun _ _ _ _ _ _ _ _=>rfl
theorem V2:C.BA wO.nm wO.st wO.ps:=C.dI fun _ _ _ _ _ _ _ _=>rfl
theorem V3:C.BA wQ.nm wQ.st wQ.ps:=C.dU fun _ _ _ _ _ _ _=>rfl
theorem V4:C.BA wR.nm wR.st wR.ps:=C.dI fun _ _ _ _ _ _ _ _=>rfl
theorem V5:C.BA wU.nm wU.st wU.ps:=C.dI fun _ _ _ _ _ _ _ _=>rfl
theorem V6:C.BA wV.nm wV.st wV.ps:=C.dU fun _ _ _ _ _ _ _=>rfl
theorem V7:C.BA wW.nm wW.st wW.ps:=C.dI fun _ _ _ _ _ _ _ _=>rfl
theorem V8:C.BA wX.nm wX.st wX.ps:=C.dI fun _ _ _ _ _ _ _ _=>rfl
theorem V9:C.BA wY.nm wY.st wY.ps:=C.dU fun _ _ _ _ _ _ _=>rfl
theorem Wa:C.BA wZ.nm wZ.st wZ.ps:=C.dI fun _ _ _ _ _ _ _ _=>rfl
theorem Wb:C.BA w4.nm w4.st w4.ps:=C.dU fun _ _ _ _ _ _ _=>rfl
theorem Wc:C.BA w5.nm w5.st w5.ps:=C.JD fun _ _ _ _ _ _ _ _ _ _=>rfl
theorem Wd:C.BA w6.nm w6.st w6.ps:=C.dU fun _ _ _ _ _ _ _=>rfl
theorem Wf:C.BA w9.nm w9.st w9.ps:=C.dU fun _ _ _ _ _ _ _=>rfl
theorem ba:C.wc vp:=⟨Wf,Wd,Wc,Wb,Wa,V9,V8,V7,V6,V5,V4,V3,V2,V1,V0,VZ,VY,VX,VW,VR,VQ,VP,VN,VM,VL,VJ,VH,VG,VF,VD,VC,VB,VA,Vz,Xk,Xj,Xi,Xh,Xg,Xf,Xe,Xd,Xc,trivial⟩
end aL
namespace aL
open PySem L2 J
theorem ck {d:D}{ds:List D}{n:Nat}:((d::ds).map (fun d=>some (M.al,d))++List.replicate (n+1-(d::ds).length) none:Ev)=some (.al,d)::(ds.map (fun d=>some (M.al,d))++List.replicate (n-ds.length) none):=by simp
theorem bq {n:Nat}:(([]:List D).map (fun d=>some (M.al,d))++List.replicate (n+1-([]:List D).length) none:Ev)=none::(([]:List D).map (fun d=>some (M.al,d))++List.replicate (n-([]:List D).length) none):=rfl
theorem bw:(([]:List D).map (fun d=>some (M.al,d))++List.replicate (0-([]:List D).length) none:Ev)=[]:=rfl
theorem an {a b:Prop} (x:a) (y:b):a∧b:=⟨x,y⟩
def Zm :=
 an @jG <| an @de <| an @uO <| an @Ge <| an @nF <| an @yn <| an @Ve <| an @Vf <| an @nU <| an @iX <| an @cL <| an @cW <| an @Vi <| an @bj <| an @ig <| an @fA <| an @Qc <| an @fO <| an @nG <| an @yp <| an @yq <| an @dZ <| an @yr <| an @qK <| an @G5 <| an @cQ <| an @ku <| an @Tc <| an @jz <| an @Bool.and_self <| an @Bool.and_true <| an @Bool.true_and <| an @Bool.false_eq_true <| an @decide_true <| an @decide_false <| an @Bool.not_true <| an @Bool.not_false <| an @IL <| an @mul_r <| an @jy <| an @div_ii <| an @Vd <| an @Lq @Lc
local macro_rules|`(tactic| walk_at "ev")=>`(tactic| simp -implicitDefEqProofs only [Zm,aj,aK,jB,ae,bN,jV,aJ,ag,ah,aG,ao,aR,jC,ax,kO,rB,zt,cX,cY,fC,oh,aQ,bE,jF,fP,cE,c9,lY,gL,bJ,du,cN,aW,aY,bO,bP,bX,dE,own,gN,zx,eJ,dA,List.map_cons,List.map_nil,List.length_cons,List.length_nil,List.cons_append,List.nil_append,List.replicate,List.getElem?_cons_zero,List.getElem?_cons_succ,List.set_cons_zero,List.set_cons_succ,List.all_cons,List.all_nil,Option.bind_some,Option.bind_none,Option.map_some,Option.map_none,id_eq,if_true,if_false,reduceIte,reduceCtorEq,List.length_map,Nat.reduceAdd,Nat.reduceSub,Nat.reduceLeDiff,Int.reducePow,Int.reduceNeg,Int.reduceLT,Int.reduceLE,Int.reduceToNat,and_self,and_true,true_and,Nat.reduceLT,ne_eq,not_false_eq_true,fu,dM,gS,nD,As,Int.reduceEq,Int.reduceSub,Int.reduceAdd])
local macro_rules|`(tactic| walk_at "go")=>`(tactic| ((try walk_at "ev");repeat ((first|rw [div_ii (by omega)]|rw [jy (by omega)]|rw [mul_r (by omega)]|rw [Gf (by omega)]|rw [mul_r (by split<;>omega)]);try walk_at "ev")))
theorem gz {α:Type}{a:α}{l:List α}:(a::l)[0]?=some a:=rfl
theorem gy {α:Type}{a:α}{l:List α}{i:Nat}:(a::l)[i+1]?=l[i]?:=List.getElem?_cons_succ
theorem oq {α β:Type}{a:α}{f:α→Option β}:(some a).bind f=f a:=rfl
theorem tz {α:Type}{a b:α}{l:List α}:(a::l).set 0 b=b::l:=rfl
theorem tq {α:Type}{a b:α}{l:List α}{i:Nat}:(a::l).set (i+1) b=a::l.set i b:=rfl
theorem mq {α β:Type}{a:α}{l:List α}{f:α→β}:(a::l).map f=f a::l.map f:=rfl
theorem mn {α β:Type}{f:α→β}:[].map f=[]:=rfl
theorem oy {α β:Type}{a:α}{f:α→β}:(some a).map f=some (f a):=rfl
theorem ln {α β:Type}{l:List α}{f:α→β}:(l.map f).length=l.length:=List.length_map _
theorem dJ {c:Ev→Option Bool}{f g:Ev→Option Fl}{e:Ev} (h:c e=some false):aj (aK c f aR) g e=g e:=by simp [aj,aK,h,aR]
noncomputable abbrev AB:Str := "abcdefghijklmnopqrstuvwxyz"
theorem yA (x y:Str):(x++y).length=x.length+y.length:=by
 show (x.cps++y.cps).size=_
 rw [Array.size_append];rfl
theorem lF (ns:List Int) (k:Int) (h0:0≤k):∃ c,iO [.lst (ns.map .int),.int k]=some (.fr,.int c):=by
 unfold iO fn Ce
 walk_at "ev"
 by_cases h:k < ns.length
 ·obtain ⟨c,hc⟩:=Dc h0 h
  refine ⟨c,?_⟩
  simp only [h,hc]
  walk_at "ev"
  simp only [E9,qK]
 ·simp only [h]
  walk_at "go"
  exact ⟨_,rfl⟩
theorem lD (c k:Int):∃ x,iN [.int c,.int k]=some (.fr,.int x):=by
 unfold iN fn BU
 walk_at "go"
 exact ⟨_,rfl⟩
theorem xY (ns:List Int):∃ b,mV [.lst (ns.map .int)]=some (.fr,.bl b):=by
 obtain ⟨c,hc⟩:=lF ns 0 (by omega)
 unfold mV fn Bx
 walk_at "ev"
 rw [hc]
 walk_at "go"
 exact ⟨_,rfl⟩
theorem Od (c sz a k j:Int) (L:Option (M×D)) (z:Str) (o:Option (M×D)) (hz:z.length≤20) (h0:0≤j) (h1:j < 9) :
  ∃ z' o',pB [some (.fr,.int c),some (.fr,.str AB),some (.fr,.int sz),some (.fr,.int a),L,some (.fr,.int k),some (.fr,.str z),some (.fr,.int j),o]=some (.nx [some (.fr,.int c),some (.fr,.str AB),some (.fr,.int sz),some (.fr,.int a),L,some (.fr,.int k),some (.fr,.str z'),some (.fr,.int j),o'])∧z'.length≤z.length+1:=by
 have Zn:AB.length≤sizeLine:=by decide
 have la:AB.cps.toList.length=26:=by decide +kernel
 have lb:(AB++("0123456789" : Str)).cps.toList.length=36:=by decide +kernel
 have sb:(AB++("0123456789" : Str)).length≤sizeLine:=by decide +kernel
 have sc:AB.length+("0123456789" : Str).length≤sizeLine:=by decide
 have h8:pB [some (.fr,.int c),some (.fr,.str AB),some (.fr,.int sz),some (.fr,.int a),L,some (.fr,.int k),some (.fr,.str z),some (.fr,.int j),o] =
  (aK (cY (jB (ae aN (jV 7) (jV 3))) (jB (ae aN (jV 7) (jC (.int 0)))))
   (ao 6 (ae bB (jV 6) (ae ak (jV 1) (ae aT (ae bB (jV 8) (ae eE (jV 5) (aJ kQ (ag (ae aN (jV 7) (jV 3)) ah)))) (jC (.int 26))))))
   (ao 6 (ae bB (jV 6) (ae ak (ae bB (jV 1) (jC (.str "0123456789"))) (ae aT (jV 8) (jC (.int 36)))))))
   [some (.fr,.int c),some (.fr,.str AB),some (.fr,.int sz),some (.fr,.int a),L,some (.fr,.int k),some (.fr,.str z),some (.fr,.int j),some (.fr,.int (c / 192 / (j+1)+5*j))]:=by
  unfold pB
  refine av ?_
  walk_at "go"
 rw [h8]
 generalize c / 192 / (j+1)+5*j=st
 have fin:∀ d,J.One d→∃ y:Str,d=.str y∧y.length=1:=fun d ⟨cc,e⟩=>⟨_,e,rfl⟩
 have hc:∃ b,(cY (jB (ae aN (jV 7) (jV 3))) (jB (ae aN (jV 7) (jC (.int 0))))) [some (.fr,.int c),some (.fr,.str AB),some (.fr,.int sz),some (.fr,.int a),L,some (.fr,.int k),some (.fr,.str z),some (.fr,.int j),some (.fr,.int st)]=some b:=by
  walk_at "ev"
  by_cases q:j=a
  ·simp only [q,decide_true];exact ⟨_,rfl⟩
  ·simp only [q,decide_false];exact ⟨_,rfl⟩
 obtain ⟨b,hb⟩:=hc
 cases b with
 |true =>
  rw [bp hb]
  have hm:∀ i:Int,∃ y:Str,ak (.fr,.str AB) (.fr,.int (i%26))=some (.fr,.str y)∧y.length=1:=fun i=>by
   obtain ⟨d,e,od⟩:=xT (m:=.fr) (n:=.fr) (x:=AB) (i:=i%26) Zn (by omega) (by rw [la];omega)
   obtain ⟨y,rfl,hy⟩:=fin d od
   exact ⟨y,e,hy⟩
  walk_at "go"
  obtain ⟨y,e,hy⟩:=hm (st+k*if decide (j=a)=true then 1 else 0)
  rw [e]
  walk_at "ev"
  rw [uv (by rw [hy];exact Nat.le_trans (show z.length+1≤21 by omega) (by decide))]
  walk_at "ev"
  exact ⟨_,_,rfl,by rw [yA];omega⟩
 |false =>
  rw [bH hb]
  walk_at "ev"
  rw [uv sc]
  walk_at "go"
  obtain ⟨d,e,od⟩:=xT (m:=.fr) (n:=.fr) (x:=AB++("0123456789" : Str)) (i:=st%36) sb (by omega) (by rw [lb];omega)
  obtain ⟨y,rfl,hy⟩:=fin d od
  rw [e]
  walk_at "ev"
  rw [uv (by rw [hy];exact Nat.le_trans (show z.length+1≤21 by omega) (by decide))]
  walk_at "ev"
  exact ⟨_,_,rfl,by rw [yA];omega⟩
theorem Oe (c sz a k:Int) (fs:List Str) (o6 o7 o8:Option (M×D)) (hs:0≤sz∧sz≤8) (hf:fs.length≤50) :
  ∃ z bC gf,sW [some (.fr,.int c),some (.fr,.str AB),some (.fr,.int sz),some (.fr,.int a),some (.bo,.lst (fs.map .str)),some (.fr,.int k),o6,o7,o8]=some (.nx [some (.fr,.int c),some (.fr,.str AB),some (.fr,.int sz),some (.fr,.int a),some (.bo,.lst ((fs++[z]).map .str)),some (.fr,.int k),some (.fr,.str z),bC,gf])∧z.length≤20:=by
 obtain ⟨e',l1,z,bC,gf,he,hz⟩:=cP (g:=gN 7) (b:=pB) (m:=.fr) (ds:=bT 0 sz.toNat) (e:=[some (.fr,.int c),some (.fr,.str AB),some (.fr,.int sz),some (.fr,.int a),some (.bo,.lst (fs.map .str)),some (.fr,.int k),some (.fr,.str ""),o7,o8])
  (fun i e=>∃ (z:Str) (o7 o8:Option (M×D)),e=[some (.fr,.int c),some (.fr,.str AB),some (.fr,.int sz),some (.fr,.int a),some (.bo,.lst (fs.map .str)),some (.fr,.int k),some (.fr,.str z),o7,o8]∧z.length≤i) ⟨"",o7,o8,rfl,Nat.le_refl _⟩
  (fun i d e hd aZ=>by
   obtain ⟨z,o7,o8,he,hz⟩:=aZ
   subst he
   obtain ⟨hi,rfl⟩:=jA hd
   obtain ⟨z',o',q,hl⟩:=Od c sz a k (0+(i:Int)) (some (.bo,.lst (fs.map .str))) z o8 (by omega) (by omega) (by omega)
   exact ⟨_,_,rfl,q,z',_,o',rfl,by omega⟩)
 subst he
 rw [iQ] at hz
 have hz8:z.length≤8:=by omega
 unfold sW
 rw [av (e':=[some (.fr,.int c),some (.fr,.str AB),some (.fr,.int sz),some (.fr,.int a),some (.bo,.lst (fs.map .str)),some (.fr,.int k),some (.fr,.str ""),o7,o8]) rfl]
 rw [av (e':=[some (.fr,.int c),some (.fr,.str AB),some (.fr,.int sz),some (.fr,.int a),some (.bo,.lst (fs.map .str)),some (.fr,.int k),some (.fr,.str z),bC,gf]) (by
  have bY:-4611686018427387904≤sz∧sz < 4611686018427387904:=by omega
  simp -implicitDefEqProofs only [aY,bP,ag,ah,jV,gz,gy,id_eq,oq,bY,and_self,if_true]
  exact l1)]
 have s5:fs.length < sizeLine:=Nat.lt_of_le_of_lt hf (by decide)
 have hb:∃ b,(jB (ae (dN false) (jV 6) (aQ (ag (jC (.str "say")) (ag (jC (.str "go")) (ag (jC (.str "part")) (ag (jC (.str "end")) ah))))))) [some (.fr,.int c),some (.fr,.str AB),some (.fr,.int sz),some (.fr,.int a),some (.bo,.lst (fs.map .str)),some (.fr,.int k),some (.fr,.str z),bC,gf]=some b:=⟨dH (.str z) [.str "say",.str "go",.str "part",.str "end"],by with_unfolding_all rfl⟩
 obtain ⟨b,hb⟩:=hb
 cases b with
 |false =>
  rw [av (e':=[some (.fr,.int c),some (.fr,.str AB),some (.fr,.int sz),some (.fr,.int a),some (.bo,.lst (fs.map .str)),some (.fr,.int k),some (.fr,.str z),bC,gf]) (by rw [bH hb];rfl)]
  refine ⟨z,bC,gf,?_,by omega⟩
  simp -implicitDefEqProofs only [cE,jV,gz,gy,id_eq,oq,dZ,if_true,dE,own,ln,s5,tz,tq,List.map_append,mq,mn]
 |true =>
  have s1:z.length+("1" : Str).length≤sizeLine:=Nat.le_trans (show z.length+1≤9 by omega) (by decide)
  rw [av (e':=[some (.fr,.int c),some (.fr,.str AB),some (.fr,.int sz),some (.fr,.int a),some (.bo,.lst (fs.map .str)),some (.fr,.int k),some (.fr,.str (z ++ "1")),bC,gf]) (by
   rw [bp hb]
   simp -implicitDefEqProofs only [ao,ae,jV,jC,gz,gy,id_eq,oq,uv s1,fA,tz,tq])]
  refine ⟨z ++ "1",bC,gf,?_,by
   rw [yA];have:("1" : Str).length=1:=rfl
   omega⟩
  simp -implicitDefEqProofs only [cE,jV,gz,gy,id_eq,oq,dZ,if_true,dE,own,ln,s5,tz,tq,List.map_append,mq,mn]
theorem xE (c:Int):∃ fs:List Str,(3≤fs.length∧fs.length≤5)∧mZ [.int c]=some (.un,.lst (fs.map .str)):=by
 obtain ⟨x,hx⟩:=lD c 3
 obtain ⟨e',l1,fs,o5,o6,o7,o8,he,hl⟩:=cP (g:=gN 5) (b:=sW) (m:=.fr) (ds:=bT 0 (3+x / 64%3).toNat) (e:=[some (.fr,.int x),some (.fr,.str AB),some (.fr,.int (1+x%8)),some (.fr,.int (x / 8%(1+x%8))),some (.bo,.lst []),none,none,none,none])
  (fun i e=>∃ (fs:List Str) (o5 o6 o7 o8:Option (M×D)),e=[some (.fr,.int x),some (.fr,.str AB),some (.fr,.int (1+x%8)),some (.fr,.int (x / 8%(1+x%8))),some (.bo,.lst (fs.map .str)),o5,o6,o7,o8]∧fs.length=i) ⟨[],none,none,none,none,rfl,rfl⟩
  (fun i d e hd aZ=>by
   obtain ⟨fs,o5,o6,o7,o8,he,hl⟩:=aZ
   subst he
   obtain ⟨hi,rfl⟩:=jA hd
   obtain ⟨z,bC,gf,q,hz⟩:=Oe x (1+x%8) (x / 8%(1+x%8)) (0+(i:Int)) fs o6 o7 o8 (by omega) (by omega)
   exact ⟨_,_,rfl,q,fs++[z],_,_,bC,gf,rfl,by simp [hl]⟩)
 subst he
 rw [iQ] at hl
 refine ⟨fs,by omega,?_⟩
 unfold mZ fn BV
 simp only [ck,bq,bw]
 rw [av (e':=[some (.al,.int c),some (.fr,.str AB),none,none,none,none,none,none,none]) rfl]
 rw [av (e':=[some (.fr,.int x),some (.fr,.str AB),none,none,none,none,none,none,none]) (by walk_at "ev"; rw [hx];walk_at "ev")]
 rw [av (e':=[some (.fr,.int x),some (.fr,.str AB),some (.fr,.int (1+x%8)),none,none,none,none,none,none]) (by walk_at "go")]
 rw [av (e':=[some (.fr,.int x),some (.fr,.str AB),some (.fr,.int (1+x%8)),some (.fr,.int (x / 8%(1+x%8))),none,none,none,none,none]) (by walk_at "go")]
 rw [av (e':=[some (.fr,.int x),some (.fr,.str AB),some (.fr,.int (1+x%8)),some (.fr,.int (x / 8%(1+x%8))),some (.bo,.lst []),none,none,none,none]) rfl]
 rw [av (e':=[some (.fr,.int x),some (.fr,.str AB),some (.fr,.int (1+x%8)),some (.fr,.int (x / 8%(1+x%8))),some (.bo,.lst (fs.map .str)),o5,o6,o7,o8]) (by
  have bY:-4611686018427387904≤3+x / 64%3∧3+x / 64%3 < 4611686018427387904:=by omega
  walk_at "go"
  simp -implicitDefEqProofs only [bY,and_self,if_true,oq]
  exact l1)]
 rfl
theorem MV {ns:List Str}{k:Int} (h0:0≤k) (h1:k < ns.length):∃ c,L2.bt (ns.map D.str) k=some (.str c):=N3 h0 h1
theorem m5 (c:Int) (ns:List Str) (h:0 < ns.length):∃ k:Ko,hX [.int c,.lst (ns.map .str)]=some (.fr,kD k):=by
 unfold hX fn By
 simp only [ck,bq,bw]
 have hb:(jB (ae aN (ae aT (jV 0) (jC (.int 6))) (jC (.int 0)))) [some (.al,.int c),some (.al,.lst (ns.map .str))]=some (decide (c%6=0)):=by walk_at "go"
 by_cases q:c%6=0
 ·rw [dq (e':=[some (.al,.int c),some (.al,.lst (ns.map .str))]) (m:=.fr) (d:=kD (.inl ((L2.bt [0,1,18446744073709551615,c / 24*48271%18446744073709551616] (c / 6%4)).getD 0))) (by
   rw [bp (by rw [hb,q];rfl)]
   walk_at "go"
   have e:=gF (l:=[D.int 0,.int 1,.int 18446744073709551615,.int (c / 24*48271%18446744073709551616)]) (k:=c / 6%4) (by omega) (by simp;omega)
   have e2:=gF (l:=[(0:Int),1,18446744073709551615,c / 24*48271%18446744073709551616]) (k:=c / 6%4) (by omega) (by simp;omega)
   rw [e,e2]
   have:∀ (l:List Int) (i:Nat) (h:i < l.length) (h':i < (l.map D.int).length),(l.map D.int)[i]=D.int l[i]:=fun l i h h'=>by simp
   have e3:=this [(0:Int),1,18446744073709551615,c / 24*48271%18446744073709551616] (c / 6%4).toNat (by simp;omega) (by simp;omega)
   simp -implicitDefEqProofs only [mq,mn] at e3
   rw [e3]
   rfl)]
  exact ⟨_,rfl⟩
 ·rw [dJ (by rw [hb,decide_eq_false q])]
  walk_at "go"
  obtain ⟨z,e⟩:=MV (ns:=ns) (k:=c / 6%ns.length) (Int.emod_nonneg _ (by omega)) (Int.emod_lt_of_pos _ (by omega))
  rw [e]
  walk_at "ev"
  exact ⟨.inr z,by simp only [E9,G5];rfl⟩
noncomputable abbrev De:=Str×Ko×Ko
noncomputable def aq (q:De):D:=.tup [.str q.1,kD q.2.1,kD q.2.2]
theorem Ud (q:De):(aq q).bQ=true:=by simp only [aq,D.bQ,D.cw,qg,Bool.and_self]
theorem m9 {α β:Type}{f:α→β}{l:List α}{k:Int} (h0:0≤k) (h1:k < l.length):∃ c∈l,L2.bt (l.map f) k=some (f c):=by
 rw [gF h0 (by simpa using h1)]
 exact ⟨l[k.toNat]'(by omega),List.getElem_mem _,by simp⟩
section
variable {m n:M}
theorem Wg:gq (m,.int 10) (n,.int 21)=some (.fr,.int 1000000000000000000000):=by
 rw [yo (by decide),show (10:Int) ^ (21:Int).toNat=1000000000000000000000 by decide]
theorem Wh:gq (m,.int 10) (n,.int 42)=some (.fr,.int 1000000000000000000000000000000000000000000):=by
 rw [yo (by decide),show (10:Int) ^ (42:Int).toNat=1000000000000000000000000000000000000000000 by decide]
end
theorem Ue {m n:M}{i:Int} (h0:0≤i) (h1:i < 8):∃ s:Str,ak (m,.str "+-*&|^<=") (n,.int i)=some (.fr,.str s):=by
 obtain ⟨d,e,c,rfl⟩:=xT (m:=m) (n:=n) (x := "+-*&|^<=") (i:=i) (by decide) h0 (by rw [show (("+-*&|^<=" : Str).cps.toList.length:Int)=8 by decide +kernel];exact h1)
 exact ⟨_,e⟩
theorem QI (ns:List Int) (fs:List Str) (hf:0 < fs.length) (A2 A3:Option (M×D)) (r k:Int) (ds:List De) (hd:ds.length≤50) (o7 o8 o9:Option (M×D)) :
  ∃ r' q bC gf A6,sY [some (.al,.lst (ns.map .int)),some (.al,.lst (fs.map .str)),A2,A3,some (.fr,.int r),some (.bo,.lst (ds.map aq)),some (.fr,.int k),o7,o8,o9]=some (.nx [some (.al,.lst (ns.map .int)),some (.al,.lst (fs.map .str)),A2,A3,some (.fr,.int r'),some (.bo,.lst ((ds++[q]).map aq)),some (.fr,.int k),bC,gf,A6]):=by
 obtain ⟨x1,h1⟩:=lD r k
 obtain ⟨x2,h2⟩:=lD r (k+20)
 obtain ⟨x3,h3⟩:=lD r (k+40)
 obtain ⟨b,hb⟩:=xY ns
 have s5:ds.length < sizeLine:=Nat.lt_of_le_of_lt hd (by decide)
 unfold sY
 rw [av (e':=[some (.al,.lst (ns.map .int)),some (.al,.lst (fs.map .str)),A2,A3,some (.fr,.int r),some (.bo,.lst (ds.map aq)),some (.fr,.int k),some (.fr,.int x1),o8,o9]) (by walk_at "ev"; rw [h1];walk_at "ev")]
 rw [av (e':=[some (.al,.lst (ns.map .int)),some (.al,.lst (fs.map .str)),A2,A3,some (.fr,.int r),some (.bo,.lst (ds.map aq)),some (.fr,.int k),some (.fr,.int x1),some (.fr,.int x2),o9]) (by walk_at "ev"; rw [h2];walk_at "ev")]
 rw [av (e':=[some (.al,.lst (ns.map .int)),some (.al,.lst (fs.map .str)),A2,A3,some (.fr,.int r),some (.bo,.lst (ds.map aq)),some (.fr,.int k),some (.fr,.int x1),some (.fr,.int x2),some (.fr,.int (x3%8))]) (by walk_at "ev"; rw [h3];walk_at "go")]
 have fin:∀ (r' y1 y2 y3:Int),0≤y3→y3 < 8→∃ q,cE 5 (aQ (ag (ae ak (jC (.str "+-*&|^<=")) (jV 9)) (ag (ax hX (ag (jV 7) (ag (jV 1) ah))) (ag (ax hX (ag (jV 8) (ag (jV 1) ah))) ah)))) [some (.al,.lst (ns.map .int)),some (.al,.lst (fs.map .str)),A2,A3,some (.fr,.int r'),some (.bo,.lst (ds.map aq)),some (.fr,.int k),some (.fr,.int y1),some (.fr,.int y2),some (.fr,.int y3)]=some (.nx [some (.al,.lst (ns.map .int)),some (.al,.lst (fs.map .str)),A2,A3,some (.fr,.int r'),some (.bo,.lst ((ds++[q]).map aq)),some (.fr,.int k),some (.fr,.int y1),some (.fr,.int y2),some (.fr,.int y3)]):=fun r' y1 y2 y3 z0 z1=>by
  obtain ⟨s,hs⟩:=Ue (m:=.fr) (n:=.fr) z0 z1
  obtain ⟨a,ha⟩:=m5 y1 fs hf
  obtain ⟨b,hb⟩:=m5 y2 fs hf
  refine ⟨(s,a,b),?_⟩
  walk_at "ev"
  rw [hs]
  walk_at "ev"
  rw [ha]
  walk_at "ev"
  rw [hb]
  walk_at "ev"
  simp -implicitDefEqProofs only [s5,if_true,List.map_append,mq,mn,aq]
 cases b with
 |false =>
  rw [av (e':=[some (.al,.lst (ns.map .int)),some (.al,.lst (fs.map .str)),A2,A3,some (.fr,.int r),some (.bo,.lst (ds.map aq)),some (.fr,.int k),some (.fr,.int x1),some (.fr,.int x2),some (.fr,.int (x3%8))]) (by walk_at "ev"; rw [hb];walk_at "ev")]
  obtain ⟨q,hq⟩:=fin r x1 x2 (x3%8) (by omega) (by omega)
  exact ⟨_,q,_,_,_,hq⟩
 |true =>
  rw [av (e':=[some (.al,.lst (ns.map .int)),some (.al,.lst (fs.map .str)),A2,A3,some (.fr,.int (r / 8000000000000000000000000000000000000000000)),some (.bo,.lst (ds.map aq)),some (.fr,.int k),some (.fr,.int (r%1000000000000000000000)),some (.fr,.int (r / 1000000000000000000000%1000000000000000000000)),some (.fr,.int (r / 1000000000000000000000000000000000000000000%8))]) (by
   rw [bp (by walk_at "ev"; rw [hb];rfl)]
   walk_at "ev"
   simp -implicitDefEqProofs only [Wg,Wh]
   walk_at "go"
   rfl)]
  obtain ⟨q,hq⟩:=fin (r / 8000000000000000000000000000000000000000000) (r%1000000000000000000000) (r / 1000000000000000000000%1000000000000000000000) (r / 1000000000000000000000000000000000000000000%8) (by omega) (by omega)
  exact ⟨_,q,_,_,_,hq⟩
theorem xF (ns:List Int) (fs:List Str) (hf:0 < fs.length):∃ ds:List De,(1≤ds.length∧ds.length≤12)∧m3 [.lst (ns.map .int),.lst (fs.map .str)]=some (.un,.lst (ds.map aq)):=by
 obtain ⟨c,hc⟩:=lF ns 1 (by omega)
 unfold m3 fn BW
 simp only [ck,bq,bw]
 rw [av (e':=[some (.al,.lst (ns.map .int)),some (.al,.lst (fs.map .str)),some (.fr,.int c),none,none,none,none,none,none,none]) (by walk_at "ev"; rw [hc];walk_at "ev")]
 rw [av (e':=[some (.al,.lst (ns.map .int)),some (.al,.lst (fs.map .str)),some (.fr,.int c),some (.fr,.int (1+c%4)),none,none,none,none,none,none]) (by walk_at "go")]
 have hm:∃ many:Int,(1≤many∧many≤12)∧aK (jB (ae aN (ae aT (ae bW (jV 2) (jC (.int 4))) (jC (.int 6))) (jC (.int 1)))) (ao 3 (jC (.int 12))) aR [some (.al,.lst (ns.map .int)),some (.al,.lst (fs.map .str)),some (.fr,.int c),some (.fr,.int (1+c%4)),none,none,none,none,none,none]=some (.nx [some (.al,.lst (ns.map .int)),some (.al,.lst (fs.map .str)),some (.fr,.int c),some (.fr,.int many),none,none,none,none,none,none]):=by
  by_cases q:c / 4%6=1
  ·exact ⟨12,by omega,by rw [bp (by walk_at "go"; simp only [q,decide_true])];rfl⟩
  ·exact ⟨1+c%4,by omega,by rw [bH (by walk_at "go"; simp only [q,decide_false])];rfl⟩
 obtain ⟨many,rV,em⟩:=hm
 rw [av em]
 rw [av (e':=[some (.al,.lst (ns.map .int)),some (.al,.lst (fs.map .str)),some (.fr,.int c),some (.fr,.int many),some (.fr,.int (c / 24)),none,none,none,none,none]) (by walk_at "go")]
 rw [av (e':=[some (.al,.lst (ns.map .int)),some (.al,.lst (fs.map .str)),some (.fr,.int c),some (.fr,.int many),some (.fr,.int (c / 24)),some (.bo,.lst []),none,none,none,none]) rfl]
 obtain ⟨e',l1,ds,r,o6,o7,o8,o9,he,hl⟩:=cP (g:=gN 6) (b:=sY) (m:=.fr) (ds:=bT 0 many.toNat) (e:=[some (.al,.lst (ns.map .int)),some (.al,.lst (fs.map .str)),some (.fr,.int c),some (.fr,.int many),some (.fr,.int (c / 24)),some (.bo,.lst []),none,none,none,none])
  (fun i e=>∃ (ds:List De) (r:Int) (o6 o7 o8 o9:Option (M×D)),e=[some (.al,.lst (ns.map .int)),some (.al,.lst (fs.map .str)),some (.fr,.int c),some (.fr,.int many),some (.fr,.int r),some (.bo,.lst (ds.map aq)),o6,o7,o8,o9]∧ds.length=i) ⟨[],_,none,none,none,none,rfl,rfl⟩
  (fun i d e hd aZ=>by
   obtain ⟨ds,r,o6,o7,o8,o9,he,hl⟩:=aZ
   subst he
   obtain ⟨hi,rfl⟩:=jA hd
   obtain ⟨r',q,bC,gf,A6,e⟩:=QI ns fs hf (some (.fr,.int c)) (some (.fr,.int many)) r (0+(i:Int)) ds (by omega) o7 o8 o9
   exact ⟨_,_,rfl,e,ds++[q],r',_,bC,gf,A6,rfl,by simp [hl]⟩)
 subst he
 rw [iQ] at hl
 rw [av (e':=[some (.al,.lst (ns.map .int)),some (.al,.lst (fs.map .str)),some (.fr,.int c),some (.fr,.int many),some (.fr,.int r),some (.bo,.lst (ds.map aq)),o6,o7,o8,o9]) (by
  have bY:-4611686018427387904≤many∧many < 4611686018427387904:=by omega
  simp -implicitDefEqProofs only [aY,bP,ag,ah,jV,gz,gy,id_eq,oq,bY,and_self,if_true]
  exact l1)]
 by_cases q2:ds.length=2
 ·obtain ⟨d0,d1,rfl⟩:∃ a b,ds=[a,b]:=by
   clear hl l1
   obtain _|⟨a,_|⟨b,_|_⟩⟩:=ds
   ·cases q2
   ·cases q2
   ·exact ⟨a,b,rfl⟩
   ·cases q2
  by_cases q3:c / 4%3=0
  ·refine ⟨[d0,(d0.1,d0.2.2,d0.2.1)],by simp,?_⟩
   rw [av (e':=[some (.al,.lst (ns.map .int)),some (.al,.lst (fs.map .str)),some (.fr,.int c),some (.fr,.int many),some (.fr,.int r),some (.bo,.lst ([d0,(d0.1,d0.2.2,d0.2.1)].map aq)),o6,o7,o8,o9]) (by
    rw [bp (by walk_at "go"; simp [q3])]
    rfl)]
   rfl
  ·refine ⟨[d0,d1],by simp,?_⟩
   rw [av (e':=[some (.al,.lst (ns.map .int)),some (.al,.lst (fs.map .str)),some (.fr,.int c),some (.fr,.int many),some (.fr,.int r),some (.bo,.lst ([d0,d1].map aq)),o6,o7,o8,o9]) (by
    rw [bH (by walk_at "go"; simp [q3])]
    rfl)]
   rfl
 ·refine ⟨ds,by omega,?_⟩
  rw [av (e':=[some (.al,.lst (ns.map .int)),some (.al,.lst (fs.map .str)),some (.fr,.int c),some (.fr,.int many),some (.fr,.int r),some (.bo,.lst (ds.map aq)),o6,o7,o8,o9]) (by
   rw [bH (by
    walk_at "ev"
    have:¬ ((ds.length:Int)=2):=by omega
    simp only [this,decide_false]
    walk_at "ev")]
   rfl)]
  rfl
noncomputable def Row.flat:Row→Bool
 |.rk _ _ _ _=>true
 |.cp _ _=>true
 |.sy _=>true
 |_=>false
theorem Fy (c o:Int) (fs:List Str) (hf:0 < fs.length) (ds:List De) (hd:0 < ds.length):∃ r:Row,pV [.int c,.int o,.lst (fs.map .str),.lst (ds.map aq)]=some (.fr,r.d)∧(c%11 < 7→Row.flat r=true)∧(7≤c%11→c%11 < 9→∃ a t,r=.pt a t∧0≤t)∧(9≤c%11→∃ a,r=.pt a (-1)):=by
 obtain ⟨nm,_,hn⟩:=m9 (f:=D.str) (l:=fs) (k:=o%60%fs.length) (Int.emod_nonneg _ (by omega)) (Int.emod_lt_of_pos _ (by omega))
 obtain ⟨op,ho⟩:=m5 (o / 43200) fs hf
 obtain ⟨q,_,hq⟩:=m9 (f:=aq) (l:=ds) (k:=o / 60%12%ds.length) (Int.emod_nonneg _ (by omega)) (Int.emod_lt_of_pos _ (by omega))
 unfold pV fn CP
 simp only [ck,bq,bw]
 rw [av (e':=[some (.al,.int c),some (.al,.int o),some (.al,.lst (fs.map .str)),some (.al,.lst (ds.map aq)),some (.al,.str nm),none,none,none,none]) (by
  walk_at "go"
  rw [hn]
  walk_at "ev")]
 rw [av (e':=[some (.al,.int c),some (.al,.int o),some (.al,.lst (fs.map .str)),some (.al,.lst (ds.map aq)),some (.al,.str nm),some (.fr,kD op),none,none,none]) (by
  walk_at "go"
  rw [ho]
  walk_at "ev")]
 by_cases q1:c%11 < 5
 ·refine ⟨.rk nm q.1 q.2.1 q.2.2,?_,fun _=>rfl,fun z=>by omega,fun z=>by omega⟩
  rw [dq (e':=[some (.al,.int c),some (.al,.int o),some (.al,.lst (fs.map .str)),some (.al,.lst (ds.map aq)),some (.al,.str nm),some (.fr,kD op),some (.al,.str q.1),some (.al,kD q.2.1),some (.al,kD q.2.2)]) (m:=.fr) (d:=Row.d (.rk nm q.1 q.2.1 q.2.2)) (by
   rw [bp (by walk_at "go"; simp only [q1,decide_true])]
   rw [av (e':=[some (.al,.int c),some (.al,.int o),some (.al,.lst (fs.map .str)),some (.al,.lst (ds.map aq)),some (.al,.str nm),some (.fr,kD op),some (.al,.str q.1),some (.al,kD q.2.1),some (.al,kD q.2.2)]) (by
    walk_at "go"
    rw [hq]
    rfl)]
   walk_at "ev"
   simp -implicitDefEqProofs only [qg,Bool.and_self,if_true]
   rfl)]
  rfl
 rw [dJ (by walk_at "go"; simp only [q1,decide_false])]
 by_cases q2:c%11=5
 ·refine ⟨.cp nm op,?_,fun _=>rfl,fun z=>by omega,fun z=>by omega⟩
  rw [dq (e':=[some (.al,.int c),some (.al,.int o),some (.al,.lst (fs.map .str)),some (.al,.lst (ds.map aq)),some (.al,.str nm),some (.fr,kD op),none,none,none]) (m:=.fr) (d:=Row.d (.cp nm op)) (by
   rw [bp (by walk_at "go"; simp only [q2,decide_true])]
   walk_at "ev"
   rfl)]
  rfl
 rw [dJ (by walk_at "go"; simp only [q2,decide_false])]
 by_cases q3:c%11=6
 ·refine ⟨.sy op,?_,fun _=>rfl,fun z=>by omega,fun z=>by omega⟩
  rw [dq (e':=[some (.al,.int c),some (.al,.int o),some (.al,.lst (fs.map .str)),some (.al,.lst (ds.map aq)),some (.al,.str nm),some (.fr,kD op),none,none,none]) (m:=.fr) (d:=Row.d (.sy op)) (by
   rw [bp (by walk_at "go"; simp only [q3,decide_true])]
   walk_at "ev"
   rfl)]
  rfl
 rw [dJ (by walk_at "go"; simp only [q3,decide_false])]
 by_cases q4:c%11 < 9
 ·refine ⟨.pt op (o / 720%60),?_,fun z=>by omega,fun _ _=>⟨_,_,rfl,by omega⟩,fun z=>by omega⟩
  rw [dq (e':=[some (.al,.int c),some (.al,.int o),some (.al,.lst (fs.map .str)),some (.al,.lst (ds.map aq)),some (.al,.str nm),some (.fr,kD op),none,none,none]) (m:=.fr) (d:=Row.d (.pt op (o / 720%60))) (by
   rw [bp (by walk_at "go"; simp only [q4,decide_true])]
   walk_at "go"
   rfl)]
  rfl
 ·refine ⟨.pt op (-1),?_,fun z=>by omega,fun _ z=>by omega,fun _=>⟨_,rfl⟩⟩
  rw [dJ (by walk_at "go"; simp only [q4,decide_false])]
  walk_at "ev"
  rfl
noncomputable def Row.cy:Row→Bool
 |.go _=>true
 |_=>false
noncomputable def Row.fj:Row→Bool
 |.pt _ _=>true
 |_=>false
noncomputable def Row.dP:Row→Bool
 |.en=>true
 |_=>false
theorem fT (r:Row):decide (r.word=("go" : Str))=Row.cy r:=by
 cases r with
 |rk x s a b=>exact (by decide +kernel:decide (("reckon" : Str) = "go")=false)
 |cp x a=>exact (by decide +kernel:decide (("copy" : Str) = "go")=false)
 |sy a=>exact (by decide +kernel:decide (("say" : Str) = "go")=false)
 |go t=>exact (by decide +kernel:decide (("go" : Str) = "go")=true)
 |pt a t=>exact (by decide +kernel:decide (("part" : Str) = "go")=false)
 |en=>exact (by decide +kernel:decide (("end" : Str) = "go")=false)
theorem iD (r:Row):decide (r.word=("part" : Str))=Row.fj r:=by
 cases r with
 |rk x s a b=>exact (by decide +kernel:decide (("reckon" : Str) = "part")=false)
 |cp x a=>exact (by decide +kernel:decide (("copy" : Str) = "part")=false)
 |sy a=>exact (by decide +kernel:decide (("say" : Str) = "part")=false)
 |go t=>exact (by decide +kernel:decide (("go" : Str) = "part")=false)
 |pt a t=>exact (by decide +kernel:decide (("part" : Str) = "part")=true)
 |en=>exact (by decide +kernel:decide (("end" : Str) = "part")=false)
theorem gU (r:Row):decide (r.word=("end" : Str))=Row.dP r:=by
 cases r with
 |rk x s a b=>exact (by decide +kernel:decide (("reckon" : Str) = "end")=false)
 |cp x a=>exact (by decide +kernel:decide (("copy" : Str) = "end")=false)
 |sy a=>exact (by decide +kernel:decide (("say" : Str) = "end")=false)
 |go t=>exact (by decide +kernel:decide (("go" : Str) = "end")=false)
 |pt a t=>exact (by decide +kernel:decide (("part" : Str) = "end")=false)
 |en=>exact (by decide +kernel:decide (("end" : Str) = "end")=true)
theorem cU (m n:M) (r:Row):ak (m,r.d) (n,.int 0)=some (aV m,.str r.word):=by
 show (L2.bt r.ds 0).map (fun d=>(aV m,d))=_
 rw [Row.Yf];rfl
theorem QJ {rs:List Row}{i:Nat}{d:D} (h:(bS (rs.map Row.d))[i]?=some d):∃ r,rs[i]?=some r∧d=.tup [.int i,r.d]:=by
 unfold bS at h
 rw [List.getElem?_mapIdx,List.getElem?_map] at h
 cases e:rs[i]? with
 |none=>rw [e] at h;cases h
 |some r=>rw [e] at h;cases h;exact ⟨r,rfl,rfl⟩
noncomputable def bf (n:Int):Row→List Int
 |.en=>[]
 |.go t=>[t]
 |.pt _ t=>[n+1,t]
 |_=>[n+1]
def aM (rs:List Row) (i j:Nat):Prop:=∃ r,rs[i]?=some r∧(j:Int)∈bf i r∧j < rs.length
theorem Fz (rs:List Row) (n:Nat) (r:Row) (h:rs[n]?=some r):pJ [.lst (rs.map Row.d),.int n]=some (.un,.lst ((bf n r).map .int)):=by
 have aS:n < rs.length:=(List.getElem?_eq_some_iff.mp h).1
 have oW:L2.bt (rs.map Row.d) (n:Int)=some r.d:=by
  rw [lE (by rw [ln];exact aS),List.getElem_map]
  rw [List.getElem?_eq_getElem aS] at h
  rw [Option.some.inj h]
 generalize (n:Int)=nn at oW ⊢
 unfold pJ fn BQ
 walk_at "ev"
 rw [oW]
 walk_at "ev"
 simp -implicitDefEqProofs only [cU,oq,cQ,de,bj,gU,fT,iD]
 cases r with
 |en=>simp only [Row.dP,bf];walk_at "ev"
 |go t =>
  have q:∀ {m n:M},ak (m,Row.d (.go t)) (n,.int 1)=some (aV m,.int t):=fun {m n}=>rfl
  simp only [Row.dP,Row.cy,bf]
  walk_at "ev"
  simp -implicitDefEqProofs only [cU,oq,cQ,de,bj,gU,fT,iD,Row.cy]
  walk_at "ev"
  rw [q]
  walk_at "ev"
 |pt a t =>
  have q:∀ {m n:M},ak (m,Row.d (.pt a t)) (n,.int 2)=some (aV m,.int t):=fun {m n}=>rfl
  simp only [Row.dP,Row.cy,Row.fj,bf]
  walk_at "ev"
  simp -implicitDefEqProofs only [cU,oq,cQ,de,bj,gU,fT,iD,Row.cy,Row.fj]
  walk_at "ev"
  simp -implicitDefEqProofs only [cU,oq,cQ,de,bj,gU,fT,iD,Row.cy,Row.fj]
  walk_at "ev"
  rw [q]
  walk_at "ev"
 |rk x s a b =>
  simp only [Row.dP,bf]
  walk_at "ev"
  simp -implicitDefEqProofs only [cU,oq,cQ,de,bj,gU,fT,iD,Row.cy,Row.fj]
  walk_at "ev"
  simp -implicitDefEqProofs only [cU,oq,cQ,de,bj,gU,fT,iD,Row.cy,Row.fj]
  walk_at "ev"
 |cp x a =>
  simp only [Row.dP,bf]
  walk_at "ev"
  simp -implicitDefEqProofs only [cU,oq,cQ,de,bj,gU,fT,iD,Row.cy,Row.fj]
  walk_at "ev"
  simp -implicitDefEqProofs only [cU,oq,cQ,de,bj,gU,fT,iD,Row.cy,Row.fj]
  walk_at "ev"
 |sy a =>
  simp only [Row.dP,bf]
  walk_at "ev"
  simp -implicitDefEqProofs only [cU,oq,cQ,de,bj,gU,fT,iD,Row.cy,Row.fj]
  walk_at "ev"
  simp -implicitDefEqProofs only [cU,oq,cQ,de,bj,gU,fT,iD,Row.cy,Row.fj]
  walk_at "ev"
theorem Eg (rs:List Row) (n:Nat) (r:Row) (h:rs[n]?=some r):sJ [.lst (rs.map Row.d),.int n]=some (.un,.lst ((bf n r).map .int)):=Fz rs n r h
structure Good (rs:List Row):Prop where
 pos:0 < rs.length
 bf:∀ (n:Nat) r,rs[n]?=some r→∀ m∈aL.bf n r,0≤m∧m < rs.length
theorem lB:∀ (N:Nat) (l:List Nat),l.Nodup→(∀ x∈l,x < N)→l.length≤N
 |0,l,_,h=>by
  cases l with
  |nil=>exact Nat.le_refl _
  |cons a l=>exact absurd (h a List.mem_cons_self) (Nat.not_lt_zero a)
 |N+1,l,hn,h=>by
  have ih:=lB N (l.erase N) (hn.erase N) (fun x hx=>by
   have h1:=h x (List.mem_of_mem_erase hx)
   have h2:x≠N:=fun e=>by subst e;exact (List.Nodup.not_mem_erase hn) hx
   omega)
  rw [List.length_erase] at ih
  split at ih<;>omega
noncomputable def au (l:List Nat):List D:=l.map fun (n:Nat)=>D.int (n:Int)
theorem dn (l:List Nat):(au l).length=l.length:=by simp [au]
theorem Dq (l:List Nat) (x:Nat):au l++[D.int (x:Int)]=au (l++[x]):=by simp [au]
theorem Eh:∀ l:List Nat,D.cw (au l)=true
 |[]=>by simp only [au,mn,D.cw]
 |a::l=>by
  have:=Eh l
  simp only [au] at this
  simp only [au,mq,D.cw,D.bQ,this,Bool.and_self]
noncomputable def cF (rs:List Row) (n:Nat):List Int:=match rs[n]? with
 |some r=>bf n r
 |none=>[]
noncomputable def fm (rs:List Row) (n:Nat):List Nat:=(cF rs n).map Int.toNat
theorem xG {rs:List Row} (g:Good rs) {n:Nat}{m:Int} (h:m∈cF rs n):0≤m∧m < rs.length:=by
 unfold cF at h
 split at h
 ·rename_i r hr;exact g.bf _ _ hr _ h
 ·cases h
theorem FC {rs:List Row} (g:Good rs) (n:Nat):(cF rs n).map D.int=au (fm rs n):=by
 unfold au fm
 rw [List.map_map]
 refine List.map_congr_left fun m hm=>?_
 have:=xG g hm
 show D.int m=D.int ((m.toNat:Nat):Int)
 rw [Int.toNat_of_nonneg this.1]
theorem ua {rs:List Row} (g:Good rs) {n m:Nat} (h:m∈fm rs n):aM rs n m:=by
 obtain ⟨x,hx,rfl⟩:=List.mem_map.mp h
 have b:=xG g hx
 unfold cF at hx
 split at hx
 ·rename_i r hr
  exact ⟨r,hr,by rw [Int.toNat_of_nonneg b.1];exact hx,by omega⟩
 ·cases hx
theorem Og {rs:List Row}{n m:Nat} (h:aM rs n m):m∈fm rs n:=by
 obtain ⟨r,hr,hm,_⟩:=h
 refine List.mem_map.mpr ⟨(m:Int),?_,by simp⟩
 unfold cF;rw [hr];exact hm
noncomputable def lq (rs:List Row):List D:=(List.range rs.length).map fun n=>D.lst ((cF rs n).map D.int)
theorem CV {fe:Ev→Option (M×D)}{m m':M}{fr:Ev}:∀ {ds:List D}{G:Nat→D},(∀ (k:Nat) d,ds[k]?=some d→fe (some (m,d)::fr)=some (m',G k))→cV dA fe m fr ds=some ((List.range ds.length).map fun k=>(m',G k))
 |[],G,_=>rfl
 |d::ds,G,h=>by
  have ih:=CV (fe:=fe) (m:=m) (m':=m') (fr:=fr) (ds:=ds) (G:=fun k=>G (k+1)) fun k e he=>h (k+1) e (by simpa using he)
  rw [cV,show dA (some (m,d)::fr)=some true from rfl,oq,if_pos rfl,h 0 d rfl,oq,ih,oq,List.length_cons,List.range_succ_eq_map,mq,List.map_map]
  rfl
theorem Ug {m:M} (hm:m=.fr∨m=.un) {N:Nat} (h:N≤1000) (G:Nat→D):fP ((List.range N).map fun k=>(m,G k))=some (.un,.lst ((List.range N).map G)):=by
 unfold fP
 rw [if_pos (by rw [ln,List.length_range];exact Nat.le_trans h (by decide)),if_pos (by rw [List.all_map];exact List.all_eq_true.mpr fun _ _=>by rcases hm with rfl|rfl<;>rfl),List.map_map]
 rfl
theorem Ck {rs:List Row} (hl:rs.length≤800):pj [.lst (rs.map Row.d)]=some (.un,.lst (lq rs)):=by
 have ex:=CV (fe:=ax pJ (ag (jV 1) (ag (jV 0) ah))) (m:=.fr) (m':=.un) (fr:=[some (.al,.lst (rs.map Row.d))]) (ds:=bT 0 rs.length) (G:=fun n=>D.lst ((cF rs n).map D.int)) (fun k d hd=>by
  obtain ⟨hk,rfl⟩:=jA hd
  have hr:rs[k]?=some (rs[k]'hk):=by simp
  have e:=Fz rs k _ hr
  have ef:cF rs k=bf k (rs[k]'hk):=by unfold cF;rw [hr]
  rw [ef,show (0:Int)+(k:Int)=(k:Int) by omega]
  simp -implicitDefEqProofs only [ax,ag,ah,jV,gz,gy,id_eq,oq,mq,mn,e])
 rw [iQ] at ex
 have bY:-4611686018427387904≤(rs.length:Int)∧(rs.length:Int) < 4611686018427387904:=by omega
 have ht:(rs.length:Int).toNat=rs.length:=by omega
 unfold pj fn Bq
 simp -implicitDefEqProofs only [aG,cf,bP,aJ,ag,ah,jV,mq,mn,List.length_cons,List.length_nil,List.replicate,List.nil_append,List.cons_append,List.append_nil,gz,id_eq,oq,cW,ln,bY,and_self,if_true,ht,Nat.sub_self,Nat.reduceAdd,Nat.reduceSub]
 rw [show eW [some (M.al,D.lst (rs.map Row.d))] [0]=[some (.al,.lst (rs.map Row.d))] from rfl]
 rw [ex,oq,Ug (.inr rfl) (by omega),oq]
 rfl
noncomputable def A7 (k:Nat) (e:Ev):Nat:=match e[k]? with
 |some (some (_,.dk ks))=>ks.length
 |_=>0
noncomputable def aO (ks:List Nat):List (Key×D):=ks.map fun (n:Nat)=>(.inl (n:Int),.bl true)
theorem uV:∀ (ks:List Nat) (n:Nat),(cS (aO ks) (.inl (n:Int))).isSome=decide (n∈ks)
 |[],n=>rfl
 |k::ks,n=>by
  have ih:=uV ks n
  show (((((Key.inl (k:Int):Key),D.bl true)::aO ks).find? fun kv=>decide (kv.1=.inl (n:Int))).map (·.2)).isSome=_
  rw [List.find?_cons]
  by_cases h:k=n
  ·subst h
   rw [decide_eq_true rfl]
   simp
  ·have eO:¬ ((Key.inl (k:Int):Key)=.inl (n:Int)):=fun e=>h (Int.ofNat_inj.mp (Key.inl.inj e))
   rw [decide_eq_false eO]
   have h':¬ n=k:=fun z=>h z.symm
   simp only [List.mem_cons,h',false_or]
   exact ih
theorem yB {ks:List Nat}{n:Nat} (h:n∉ks):putD (aO ks) (.inl (n:Int)) (.bl true)=aO (ks++[n]):=by
 have ha:((aO ks).any fun kv=>decide (kv.1=.inl (n:Int)))=false:=by
  rw [List.any_eq_false]
  intro kv bU
  obtain ⟨q,hq,rfl⟩:=List.mem_map.mp bU
  simp only [decide_eq_true_eq]
  intro e
  exact h ((Int.ofNat_inj.mp (Key.inl.inj e))▸hq)
 unfold putD
 rw [ha,if_neg Bool.false_ne_true]
 simp only [aO,List.map_append,mq,mn]
theorem ql (ks:List Nat):(aO ks).length=ks.length:=by simp [aO]
noncomputable def aX (S:List (List Nat)):List D:=S.map fun l=>.lst (au l)
noncomputable def fJ (Bk:List (List Nat)):D:=.lst ((Bk.map au).map D.lst)
theorem QK (Bk:List (List Nat)):fJ Bk=.lst (aX Bk):=by unfold fJ aX;rw [List.map_map];rfl
theorem xH {Bk:List (List Nat)}{m j:Nat}{v:List Nat} (hm:m < Bk.length):(Bk.set m v).getD j []=if j=m then v else Bk.getD j []:=by
 rw [List.getD_eq_getElem?_getD,List.getD_eq_getElem?_getD,List.getElem?_set]
 by_cases h:m=j
 ·subst h;simp [hm]
 ·have h':¬ j=m:=fun z=>h z.symm
  simp [h,h']
theorem Oh (rs:List Row) (n:Nat):(fm rs n).length≤2:=by
 unfold fm cF
 rw [ln]
 split
 ·rename_i r _;cases r<;>simp [bf]
 ·simp
theorem QL {rs:List Row} (g:Good rs):lq rs=aX ((List.range rs.length).map (fm rs)):=by
 unfold lq aX
 rw [List.map_map]
 refine List.map_congr_left fun n _=>?_
 show D.lst ((cF rs n).map D.int)=D.lst (au (fm rs n))
 rw [FC g]
theorem ur (N:Nat):bT 0 N=au (List.range N):=by
 unfold bT au
 exact List.map_congr_left fun k _=>by rw [Int.zero_add]
theorem pI {fc:Ev→Option Bool}{fe:Ev→Option (M×D)}{m:M}{fr:Ev}{p:Nat→Bool}:∀ (ks:List Nat),(∀ k∈ks,fc (some (m,.int (k:Int))::fr)=some (p k)∧fe (some (m,.int (k:Int))::fr)=some (.fr,.int (k:Int)))→cV fc fe m fr (au ks)=some ((au (ks.filter p)).map fun x=>(M.fr,x))
 |[],_=>rfl
 |k::ks,h=>by
  obtain ⟨h1,h2⟩:=h k List.mem_cons_self
  have ih:=pI (fc:=fc) (fe:=fe) (m:=m) (fr:=fr) (p:=p) ks fun x hx=>h x (List.mem_cons_of_mem _ hx)
  rw [show au (k::ks)=D.int (k:Int)::au ks from rfl,cV,h1,oq,List.filter_cons]
  cases p k with
  |true=>rw [if_pos rfl,h2,oq,ih,if_pos rfl];rfl
  |false=>rw [if_neg Bool.false_ne_true,ih,if_neg Bool.false_ne_true]
mutual
theorem Dr:∀ d:D,J.plain d=true→PyData.eqv (toPy d) (toPy d)=true
 |.non,_=>by simp [toPy,PyData.eqv]
 |.bl b,_=>by simp [toPy,PyData.eqv]
 |.int i,_=>by simp [toPy,PyData.eqv]
 |.str x,_=>by simp [toPy,PyData.eqv]
 |.ty n,h=>by simp [J.plain] at h
 |.dk _,h=>by simp [J.plain] at h
 |.dt _,h=>by simp [J.plain] at h
 |.tup ds,h=>by
  simp only [toPy,PyData.eqv]
  exact xx ds (by simpa only [J.plain] using h)
 |.lst ds,h=>by
  simp only [toPy,PyData.eqv]
  exact xx ds (by simpa only [J.plain] using h)
theorem xx:∀ ds:List D,J.eC ds=true→PyData.eqvAll (cM ds) (cM ds)=true
 |[],_=>by simp [cM,PyData.eqvAll]
 |d::ds,h=>by
  have h':J.plain d=true∧J.eC ds=true:=by simpa [J.eC] using h
  simp only [cM,PyData.eqvAll,Dr d h'.1,xx ds h'.2,Bool.and_self]
end
theorem CW {n:Nat}:∀ {ds:List D},(∀ d∈ds,(toPy d).depth≤n)→PyData.depthAll (cM ds)≤n
 |[],_=>by simp [cM,PyData.depthAll]
 |d::ds,h=>by
  have:=CW (ds:=ds) fun x hx=>h x (List.mem_cons_of_mem _ hx)
  have h1:=h d List.mem_cons_self
  simp only [cM,PyData.depthAll];omega
theorem pQ:∀ {ds:List D},(∀ d∈ds,J.plain d=true)→J.eC ds=true
 |[],_=>by simp [J.eC]
 |d::ds,h=>by simp only [J.eC,h d List.mem_cons_self,pQ fun x hx=>h x (List.mem_cons_of_mem _ hx),Bool.and_self]
theorem Oi {ds:List D} (h1:∀ d∈ds,J.plain d=true) (h2:∀ d∈ds,(toPy d).depth≤10):i5 (.lst ds) (.lst ds)=true:=by
 have hd:(toPy (.lst ds)).depth≤60:=by
  simp only [toPy,PyData.depth]
  have:=CW h2;omega
 simp only [i5,J.plain,pQ h1,lN,Bool.and_self,Bool.true_and]
 exact decide_eq_true (by omega)
theorem Uh {m n:M}{ds:List D} (h1:∀ d∈ds,J.plain d=true) (h2:∀ d∈ds,(toPy d).depth≤10):fS (m,.lst ds) (n,.lst ds)=some (.fr,.bl false):=by
 have e:=Dr (.lst ds) (by simp only [J.plain];exact pQ h1)
 simp only [fS,Oi h1 h2,if_true,e,Bool.not_true]
noncomputable def hU (q:Int×Int):D:=.tup [.int q.1,.int q.2]
noncomputable def bR (l:List (Int×Int)):List D:=l.map hU
theorem ng (l:List (Int×Int)):(bR l).length=l.length:=by simp [bR]
theorem Dt (l:List (Int×Int)) (a b:Int):bR l++[.tup [.int a,.int b]]=bR (l++[(a,b)]):=by simp [bR,hU]
theorem L4 (l:List Row):∀ d∈l.map Row.d,J.plain d=true:=fun d hd=>by
 obtain ⟨r,_,rfl⟩:=List.mem_map.mp hd
 have k:∀ a:Ko,J.plain (kD a)=true:=fun a=>by cases a<;>simp [kD,J.plain]
 cases r<;>simp [Row.d,Row.ds,J.plain,J.eC,k]
theorem L5 (l:List Row):∀ d∈l.map Row.d,(toPy d).depth≤10:=fun d hd=>by
 obtain ⟨r,_,rfl⟩:=List.mem_map.mp hd
 have k:∀ a:Ko,(toPy (kD a)).depth=0:=fun a=>by cases a<;>simp [kD,toPy,PyData.depth]
 cases r<;>simp [Row.d,Row.ds,toPy,cM,PyData.depth,PyData.depthAll,k]
noncomputable def a9 (rs:List Row) (k:Nat):List (Int×Int):=(-1,0)::(List.range k).flatMap fun n=>(cF rs n).map fun m=>((n:Int),m)
theorem xI (rs:List Row) (k:Nat):a9 rs (k+1)=a9 rs k++(cF rs k).map fun m=>((k:Int),m):=by
 unfold a9
 rw [List.range_succ,List.flatMap_append]
 simp
theorem xJ (rs:List Row) (n:Nat):(cF rs n).length≤2:=by
 have:=Oh rs n
 unfold fm at this
 rwa [ln] at this
theorem nh (rs:List Row):∀ k,(a9 rs k).length≤2*k+1
 |0=>by simp [a9]
 |k+1=>by
  have:=nh rs k
  have:=xJ rs k
  rw [xI,List.length_append,ln];omega
theorem BM {A0 A3:Option (M×D)}{n:Int}:∀ (ms:List Int) (l:List (Int×Int)) (o4:Option (M×D)),l.length+ms.length≤5000→∃ kf,forL (gN 4) pN .fr (ms.map D.int) [A0,some (.bo,.lst (bR l)),some (.fr,.int n),A3,o4]=some (.nx [A0,some (.bo,.lst (bR (l++ms.map fun m=>(n,m)))),some (.fr,.int n),A3,kf])
 |[],l,o4,_=>⟨o4,by simp [forL]⟩
 |m::ms,l,o4,hl=>by
  rw [List.length_cons] at hl
  obtain ⟨kf,q⟩:=BM (A0:=A0) (A3:=A3) (n:=n) ms (l++[(n,m)]) (some (.fr,.int m)) (by rw [List.length_append];simp only [List.length_cons,List.length_nil];omega)
  refine ⟨kf,?_⟩
  have hs:l.length < sizeLine:=Nat.lt_of_le_of_lt (show l.length≤5000 by omega) (by decide)
  rw [mq,forL,show gN 4 (M.fr,D.int m) [A0,some (.bo,.lst (bR l)),some (.fr,.int n),A3,o4]=some [A0,some (.bo,.lst (bR l)),some (.fr,.int n),A3,some (.fr,.int m)] from rfl,oq]
  have hb:pN [A0,some (.bo,.lst (bR l)),some (.fr,.int n),A3,some (.fr,.int m)]=some (.nx [A0,some (.bo,.lst (bR (l++[(n,m)]))),some (.fr,.int n),A3,some (.fr,.int m)]):=by
   unfold pN
   walk_at "ev"
   rw [ng,if_pos hs,Dt]
  rw [hb,oq]
  simpa using q
theorem Oj {rs:List Row}{i:Nat}{d:D} (h:(bS (lq rs))[i]?=some d):i < rs.length∧d=.tup [.int (i:Int),.lst ((cF rs i).map D.int)]:=by
 unfold bS lq at h
 rw [List.getElem?_mapIdx,List.getElem?_map] at h
 rcases Nat.lt_or_ge i rs.length with z|z
 ·rw [List.getElem?_range z] at h
  cases h
  exact ⟨z,rfl⟩
 ·rw [List.getElem?_eq_none (by simpa using z)] at h;cases h
theorem MX {rs:List Row} (hl:rs.length≤800):tY [.lst (rs.map Row.d)]=some (.un,.lst (bR (a9 rs rs.length))):=by
 have af:=Ck hl
 obtain ⟨e',l1,o2,o3,o4,he⟩:=cP (g:=gT 2 (bJ (gN 2) (bJ (gN 3) du))) (b:=xo) (m:=.fr) (ds:=bS (lq rs)) (e:=[some (.al,.lst (rs.map Row.d)),some (.bo,.lst (bR (a9 rs 0))),none,none,none])
  (fun i e=>∃ (o2 o3 o4:Option (M×D)),e=[some (.al,.lst (rs.map Row.d)),some (.bo,.lst (bR (a9 rs i))),o2,o3,o4])
  ⟨none,none,none,rfl⟩
  (fun i d e hd aZ=>by
   obtain ⟨o2,o3,o4,he⟩:=aZ
   subst he
   obtain ⟨hi,rfl⟩:=Oj hd
   have h1:=nh rs i
   have h2:=xJ rs i
   obtain ⟨kf,q⟩:=BM (A0:=some (.al,.lst (rs.map Row.d))) (A3:=some (.fr,.lst ((cF rs i).map D.int))) (n:=(i:Int)) (cF rs i) (a9 rs i) o4 (by omega)
   refine ⟨_,_,rfl,?_,some (.fr,.int (i:Int)),some (.fr,.lst ((cF rs i).map D.int)),kf,by rw [xI]⟩
   unfold xo
   rw [cN]
   show aY (bO (jV 3)) (gN 4) pN [some (.al,.lst (rs.map Row.d)),some (.bo,.lst (bR (a9 rs i))),some (.fr,.int (i:Int)),some (.fr,.lst ((cF rs i).map D.int)),o4]=_
   simp -implicitDefEqProofs only [aY,bO,jV,gz,gy,id_eq,oq,bX,oy]
   exact q)
 subst he
 have hE:(bS (lq rs)).length=rs.length:=by simp [bS,lq]
 rw [hE] at l1
 unfold tY fn Dm
 simp only [ck,bq,bw]
 rw [av (e':=[some (.al,.lst (rs.map Row.d)),some (.bo,.lst (bR (a9 rs 0))),none,none,none]) rfl]
 rw [av (e':=[some (.al,.lst (rs.map Row.d)),some (.bo,.lst (bR (a9 rs rs.length))),o2,o3,o4]) (by
  simp -implicitDefEqProofs only [aY,gb,ag,jV,ah,ax,gz,gy,oq,id_eq,mq,mn,af,bX,oy]
  exact l1)]
 rfl
theorem Du {m:M} (ws:List Int):eR m (ws.map .int)=some (.un,.lst (ws.map .int)):=by
 unfold eR
 rw [if_pos (xv ws),if_pos (xv ws),ite_self,ite_self]
theorem QM (ws:List Int) (lo hi:Option Int):J.cut (ws.map D.int) lo hi=(J.cut ws lo hi).map D.int:=by
 unfold J.cut
 rw [ln,List.map_take,List.map_drop]
theorem xZ {m:M} (ws:List Int) (lo hi:Option Int):f9 (m,.lst (ws.map .int)) lo hi=some (.un,.lst ((J.cut ws lo hi).map .int)):=by
 unfold f9 qJ zu
 simp only [QM,Du]
theorem CY:∀ xs:List Int,nW (xs.map .int)=some xs
 |[]=>rfl
 |x::xs=>by rw [mq,nW,CY xs];rfl
theorem xA (ns:List Int) (k:Int) (h:0≤k):∃ x,mX [.lst (ns.map .int),.int k]=some (.fr,.int x):=by
 obtain ⟨b,hb⟩:=xY ns
 obtain ⟨c,hc⟩:=lF ns k h
 obtain ⟨x,hx⟩:=lD (J.cut ns none (some 4)).sum k
 unfold mX fn BH
 simp only [ck,bq,bw]
 cases b with
 |true =>
  refine ⟨c,?_⟩
  rw [dq (e':=[some (.al,.lst (ns.map .int)),some (.al,.int k)]) (m:=.fr) (d:=.int c) (by
   rw [bp (by walk_at "ev"; rw [hb];rfl)]
   walk_at "ev"
   rw [hc]
   rfl)]
  rfl
 |false =>
  refine ⟨x,?_⟩
  rw [dJ (by walk_at "ev"; rw [hb];rfl)]
  walk_at "ev"
  rw [xZ]
  walk_at "ev"
  simp -implicitDefEqProofs only [qM,CY,oq]
  walk_at "ev"
  rw [hx]
  walk_at "ev"
theorem jE {rs:List Row}{n:Nat}{r:Row} (h:rs[n]?=some r):L2.bt (rs.map Row.d) (n:Int)=some r.d:=by
 have aS:n < rs.length:=(List.getElem?_eq_some_iff.mp h).1
 rw [lE (by rw [ln];exact aS),List.getElem_map]
 rw [List.getElem?_eq_getElem aS] at h
 rw [Option.some.inj h]
theorem Ui {r:Row}:Row.dP r=true↔r=.en:=by cases r<;>simp [Row.dP]
theorem yC {r:Row}:Row.cy r=true↔∃ t,r=.go t:=by cases r<;>simp [Row.cy]
noncomputable def pick (rs:List Row) (p:Row→Bool) (n:Nat):Bool:=match rs[n]? with
 |some r=>p r
 |none=>false
theorem uD (es:List Nat):i5 (.lst (au es)) (.lst [])=true∧PyData.eqv (toPy (.lst (au es))) (toPy (.lst []))=es.isEmpty:=by
 have p1:J.eC (au es)=true:=pQ fun d hd=>by
  obtain ⟨q,_,rfl⟩:=List.mem_map.mp hd;simp [J.plain]
 refine ⟨?_,?_⟩
 ·simp only [i5,J.plain,p1,J.eC,lN,Bool.and_self,Bool.true_and]
  exact decide_eq_true (by simp [toPy,cM,PyData.depth,PyData.depthAll])
 ·cases es<;>simp [au,toPy,cM,PyData.eqv,PyData.eqvAll]
theorem Ei {m n:M} (es:List Nat):gu (m,.lst (au es)) (n,.lst [])=some (.fr,.bl es.isEmpty):=by
 simp only [gu,(uD es).1,if_true,(uD es).2]
theorem Ej {m n:M} (es:List Nat):fS (m,.lst (au es)) (n,.lst [])=some (.fr,.bl (!es.isEmpty)):=by
 simp only [fS,(uD es).1,if_true,(uD es).2]
theorem Gu {α:Type}{a:α}{l:List α}:L2.bt (a::l) 0=some a:=by
 have:=lE (l:=a::l) (k:=0) (by simp)
 simpa using this
theorem QN (rs:List Row) (n:Int) (hl:rs.length≤100) (h0:rs[0]?≠some .en):∃ r:Row,tP [.lst (rs.map Row.d),.int n]=some (.fr,r.d)∧(r=.en∨(0 < rs.length∧∃ t,r=.go t)):=by
 have bY:-4611686018427387904≤(rs.length:Int)∧(rs.length:Int) < 4611686018427387904:=by omega
 have ht:(rs.length:Int).toNat=rs.length:=by omega
 have ex:=pI (fc:=jB (ae aN (ae ak (ae ak (jV 1) (jV 0)) (jC (.int 0))) (jC (.str "end")))) (fe:=jV 0) (m:=.fr) (fr:=[some (.al,.lst (rs.map Row.d))]) (p:=pick rs Row.dP) (List.range rs.length) (fun k hk=>by
  have hk:=List.mem_range.mp hk
  have hr:rs[k]?=some (rs[k]'hk):=by simp
  have e:=jE hr
  refine ⟨?_,rfl⟩
  walk_at "ev"
  rw [e]
  walk_at "ev"
  simp -implicitDefEqProofs only [cU,oq,cQ,de,bj,gU,pick,hr])
 generalize he:(List.range rs.length).filter (pick rs Row.dP)=es at ex
 have Ap:es.length≤100:=by rw [←he];have:=List.length_filter_le (pick rs Row.dP) (List.range rs.length);simp at this;omega
 have Zo:ao 2 (cf (bP (ag (aJ bz (ag (jV 0) ah)) ah)) [0] (jB (ae aN (ae ak (ae ak (jV 1) (jV 0)) (jC (.int 0))) (jC (.str "end")))) (jV 0)) [some (.al,.lst (rs.map Row.d)),some (.al,.int n),none]=some (.nx [some (.al,.lst (rs.map Row.d)),some (.al,.int n),some (.bo,.lst (au es))]):=by
  simp -implicitDefEqProofs only [ao,cf,bP,aJ,ag,ah,jV,gz,gy,id_eq,oq,cW,ln,bY,and_self,if_true,ht]
  rw [show eW [some (M.al,D.lst (rs.map Row.d)),some (M.al,D.int n),none] [0]=[some (.al,.lst (rs.map Row.d))] from rfl,ur,ex,oq,gG (by rw [dn];omega),oq]
  rfl
 unfold tP fn Cg
 simp only [ck,bq,bw]
 rw [av Zo]
 have hq:=Ei (m:=.bo) (n:=.un) es
 generalize iE:es.isEmpty=b at hq
 have hb:b=false→es≠[]:=fun z e=>by subst e;rw [←iE] at z;cases z
 have hc:∀ c,(cY (jB (ae gu (jV 2) (bE ah))) (jB (ae gC (ae aT (jV 1) (jC (.int 3))) (jC (.int 0))))) [some (.al,.lst (rs.map Row.d)),some (.al,.int n),some (.bo,.lst (au es))]=some c→(c=false→b=false):=fun c h hf=>by
  subst hf
  revert h
  walk_at "go"
  rw [hq]
  walk_at "ev"
  cases b with
  |true=>intro h;cases h
  |false=>intro _;rfl
 have fX:∃ c,(cY (jB (ae gu (jV 2) (bE ah))) (jB (ae gC (ae aT (jV 1) (jC (.int 3))) (jC (.int 0))))) [some (.al,.lst (rs.map Row.d)),some (.al,.int n),some (.bo,.lst (au es))]=some c:=by
  walk_at "go"
  rw [hq]
  walk_at "ev"
  cases b<;>exact ⟨_,rfl⟩
 obtain ⟨c,fX⟩:=fX
 cases c with
 |true =>
  refine ⟨.en,?_,.inl rfl⟩
  rw [dq (e':=[some (.al,.lst (rs.map Row.d)),some (.al,.int n),some (.bo,.lst (au es))]) (m:=.fr) (d:=Row.d .en) (by rw [bp fX];rfl)]
  rfl
 |false =>
  have eO:=hb (hc false fX rfl)
  obtain ⟨a,l,rfl⟩:=List.exists_cons_of_ne_nil eO
  have hm:a∈(List.range rs.length).filter (pick rs Row.dP):=by rw [he];exact List.mem_cons_self
  obtain ⟨h1,h2⟩:=List.mem_filter.mp hm
  have h1:=List.mem_range.mp h1
  have ha:a≠0:=fun z=>by
   subst z
   unfold pick at h2
   split at h2
   ·rename_i r hr;rw [Ui.mp h2] at hr;exact h0 hr
   ·cases h2
  refine ⟨.go (n / 3%(a:Int)),?_,.inr ⟨by omega,_,rfl⟩⟩
  rw [av (e':=[some (.al,.lst (rs.map Row.d)),some (.al,.int n),some (.bo,.lst (au (a::l)))]) (by rw [bH fX];rfl)]
  walk_at "go"
  rw [show au (a::l)=.int (a:Int)::au l from rfl,Gu]
  walk_at "ev"
  rw [jy (by omega)]
  walk_at "ev"
  rfl
structure RG (rs:List Row):Prop where
 r0:∀ r,rs[0]?=some r→Row.dP r=false∧Row.cy r=false
 pt:∀ (i:Nat) a t,rs[i]?=some (.pt a t)→(t=-1∧i+1 < rs.length)∨0≤t
theorem RG.nil:RG []:=⟨fun r h=>by simp at h,fun i a t h=>by simp at h⟩
theorem gj {rs:List Row}{x r:Row}{i:Nat} (h:(rs++[x])[i]?=some r):rs[i]?=some r∨(i=rs.length∧r=x):=by
 rw [List.getElem?_append] at h
 split at h
 ·exact .inl h
 ·rename_i hi
  have:i-rs.length=0:=by
   rcases Nat.eq_zero_or_pos (i-rs.length) with z|z
   ·exact z
   ·rw [List.getElem?_eq_none (by simp;omega)] at h;cases h
  rw [this] at h
  simp at h
  exact .inr ⟨by omega,h.symm⟩
theorem RG.one {rs:List Row}{r:Row} (h:RG rs) (e:Row.dP r=false) (g:Row.cy r=false) (p:∀ a t,r=.pt a t→0≤t):RG (rs++[r]):=by
 refine ⟨fun x hx=>?_,fun i a t hx=>?_⟩
 ·rcases gj hx with z|⟨_,rfl⟩
  ·exact h.r0 x z
  ·exact ⟨e,g⟩
 ·rcases gj hx with z|⟨_,z⟩
  ·rcases h.pt i a t z with ⟨w,y⟩|w
   ·exact .inl ⟨w,by simp;omega⟩
   ·exact .inr w
  ·exact .inr (p a t z.symm)
theorem RG.two {rs:List Row}{a:Ko}{y:Row} (h:RG rs) (hy:∀ b t,y≠.pt b t):RG (rs++[.pt a (-1)]++[y]):=by
 refine ⟨fun x hx=>?_,fun i b t hx=>?_⟩
 ·rcases gj hx with z|⟨z,_⟩
  ·rcases gj z with z|⟨_,rfl⟩
   ·exact h.r0 x z
   ·exact ⟨rfl,rfl⟩
  ·simp at z
 ·rcases gj hx with z|⟨_,z⟩
  ·rcases gj z with z|⟨z,w⟩
   ·rcases h.pt i b t z with ⟨w,y⟩|w
    ·exact .inl ⟨w,by simp;omega⟩
    ·exact .inr w
   ·cases w;exact .inl ⟨rfl,by simp;omega⟩
  ·exact absurd z.symm (hy b t)
theorem nJ {e:Ev}{k:Nat}{rs:List Row}{r:Row}{f:Ev→Option (M×D)} (he:e[k]?=some (some (.bo,.lst (rs.map Row.d)))) (hf:f e=some (.fr,r.d)) (hl:rs.length≤1000):cE k f e=some (.nx (e.set k (some (.bo,.lst ((rs++[r]).map Row.d))))):=by
 have s:rs.length < sizeLine:=Nat.lt_of_le_of_lt hl (by decide)
 simp -implicitDefEqProofs only [cE,hf,oq,dZ,if_true,dE,he,own,ln,s,List.map_append,mq,mn]
theorem QO (A0 A1:Option (M×D)) (fs:List Str) (hf:0 < fs.length) (ds:List De) (hd:0 < ds.length) (rs:List Row) (h:RG rs) (hl:rs.length≤200) (k c:Int) (o7:Option (M×D)) :
  ∃ bD bC,sZ [A0,A1,some (.bo,.lst (fs.map .str)),some (.bo,.lst (ds.map aq)),some (.bo,.lst (rs.map Row.d)),some (.al,.int k),some (.al,.int c),o7]=some (.nx [A0,A1,some (.bo,.lst (fs.map .str)),some (.bo,.lst (ds.map aq)),some (.bo,.lst (bD.map Row.d)),some (.al,.int k),some (.al,.int c),bC])∧RG bD∧bD.length≤rs.length+2:=by
 obtain ⟨x,hx⟩:=lD c k
 obtain ⟨r,hr,p1,p2,p3⟩:=Fy c x fs hf ds hd
 unfold sZ
 rw [av (e':=[A0,A1,some (.bo,.lst (fs.map .str)),some (.bo,.lst (ds.map aq)),some (.bo,.lst (rs.map Row.d)),some (.al,.int k),some (.al,.int c),some (.fr,.int x)]) (by walk_at "ev"; rw [hx];walk_at "ev")]
 rw [av (nJ (rs:=rs) (r:=r) rfl (by walk_at "ev"; rw [hr]) (by omega))]
 simp -implicitDefEqProofs only [tz,tq]
 by_cases q1:c%11=9
 ·obtain ⟨a,rfl⟩:=p3 (by omega)
  rw [av (e':=[A0,A1,some (.bo,.lst (fs.map .str)),some (.bo,.lst (ds.map aq)),some (.bo,.lst ((rs++[Row.pt a (-1)]++[Row.en]).map Row.d)),some (.al,.int k),some (.al,.int c),some (.fr,.int x)]) (by
   rw [bp (by walk_at "go"; simp only [q1,decide_true])]
   exact nJ (r:=.en) rfl rfl (by simp;omega))]
  rw [bH (by walk_at "go"; simp only [q1];rfl)]
  exact ⟨_,_,rfl,h.two (fun _ _ z=>nomatch z),by simp⟩
 rw [av (e':=[A0,A1,some (.bo,.lst (fs.map .str)),some (.bo,.lst (ds.map aq)),some (.bo,.lst ((rs++[r]).map Row.d)),some (.al,.int k),some (.al,.int c),some (.fr,.int x)]) (by
  rw [bH (by walk_at "go"; simp only [q1,decide_false])];rfl)]
 by_cases q2:c%11=10
 ·obtain ⟨a,rfl⟩:=p3 (by omega)
  rw [bp (by walk_at "go"; simp only [q2,decide_true])]
  exact ⟨_,_,nJ (r:=.go (x / 720%60)) rfl (by walk_at "go"; rfl) (by simp;omega),h.two (fun _ _ z=>nomatch z),by simp⟩
 ·rw [bH (by walk_at "go"; simp only [q2,decide_false])]
  refine ⟨_,_,rfl,?_,by simp⟩
  by_cases q3:c%11 < 7
  ·have:=p1 q3
   refine h.one ?_ ?_ ?_<;>cases r<;>simp_all [Row.flat,Row.dP,Row.cy]
  ·obtain ⟨a,t,rfl,ht⟩:=p2 (by omega) (by omega)
   exact h.one rfl rfl fun b s e=>by cases e;exact ht
theorem Ol {cs:List Int}{i:Nat}{d:D} (h:(bS (cs.map D.int))[i]?=some d):∃ c:Int,d=.tup [.int i,.int c]:=by
 unfold bS at h
 rw [List.getElem?_mapIdx,List.getElem?_map] at h
 cases e:cs[i]? with
 |none=>rw [e] at h;cases h
 |some r=>rw [e] at h;cases h;exact ⟨r,rfl⟩
structure RF (rs:List Row):Prop where
 pos:0 < rs.length
 r0:∀ t,rs[0]?≠some (.go t)
 pt:∀ (i:Nat) a t,rs[i]?=some (.pt a t)→i+1 < rs.length∧((t=-1∧i+2 < rs.length)∨0≤t)
 fl:∀ (i:Nat) r,rs[i]?=some r→Row.flat r=true→i+1 < rs.length
theorem RG.rf {rs:List Row}{x:Row} (h:RG rs) (hx:x=.en∨(0 < rs.length∧∃ t,x=.go t)):RF (rs++[x]):=by
 have lt:∀ {i:Nat}{r:Row},rs[i]?=some r→i < rs.length:=fun z=>(List.getElem?_eq_some_iff.mp z).1
 refine ⟨by simp,fun t ht=>?_,fun i a t ht=>?_,fun i r hr hf=>?_⟩
 ·rcases gj ht with z|⟨z,w⟩
  ·have:=(h.r0 _ z).2;simp [Row.cy] at this
  ·rcases hx with rfl|⟨hp,_⟩
   ·cases w
   ·omega
 ·rcases gj ht with z|⟨z,w⟩
  ·have:=lt z
   refine ⟨by simp;omega,?_⟩
   rcases h.pt i a t z with ⟨w,y⟩|w
   ·exact .inl ⟨w,by simp;omega⟩
   ·exact .inr w
  ·rcases hx with rfl|⟨_,t,rfl⟩<;>cases w
 ·rcases gj hr with z|⟨z,rfl⟩
  ·have:=lt z;simp;omega
  ·rcases hx with rfl|⟨_,t,rfl⟩<;>cases hf
theorem Om (ns cs:List Int) (hc:cs.length≤40):∃ rs,tJ [.lst (ns.map .int),.lst (cs.map .int)]=some (.un,.lst (rs.map Row.d))∧RF rs∧rs.length≤100:=by
 obtain ⟨c0,h0⟩:=lF ns 0 (by omega)
 obtain ⟨fs,kg,rW⟩:=xE c0
 obtain ⟨ds,xa,iI⟩:=xF ns fs (by omega)
 obtain ⟨nu,A8⟩:=xA ns 58 (by omega)
 obtain ⟨e',l1,rs,o5,o6,o7,he,hg,hl⟩:=cP (g:=gT 2 (bJ (gN 5) (bJ (gN 6) du))) (b:=sZ) (m:=.al) (ds:=bS (cs.map D.int)) (e:=[some (.al,.lst (ns.map .int)),some (.al,.lst (cs.map .int)),some (.bo,.lst (fs.map .str)),some (.bo,.lst (ds.map aq)),some (.bo,.lst ([].map Row.d)),none,none,none])
  (fun i e=>∃ (rs:List Row) (o5 o6 o7:Option (M×D)),e=[some (.al,.lst (ns.map .int)),some (.al,.lst (cs.map .int)),some (.bo,.lst (fs.map .str)),some (.bo,.lst (ds.map aq)),some (.bo,.lst (rs.map Row.d)),o5,o6,o7]∧RG rs∧(i≤cs.length→rs.length≤2*i))
  ⟨[],none,none,none,rfl,RG.nil,fun _=>Nat.le_refl _⟩
  (fun i d e hd aZ=>by
   obtain ⟨rs,o5,o6,o7,he,hg,hl⟩:=aZ
   subst he
   have hi:i < cs.length:=by
    have:=(List.getElem?_eq_some_iff.mp hd).1
    simpa [bS] using this
   obtain ⟨c,rfl⟩:=Ol hd
   have hl:=hl (by omega)
   obtain ⟨bD,bC,q1,q2,q3⟩:=QO (some (.al,.lst (ns.map .int))) (some (.al,.lst (cs.map .int))) fs (by omega) ds (by omega) rs hg (by omega) (i:Int) c o7
   exact ⟨_,_,rfl,q1,bD,_,_,bC,rfl,q2,fun _=>by omega⟩)
 subst he
 have hl:rs.length≤80:=by
  have:=hl (by simp [bS])
  simp [bS] at this;omega
 obtain ⟨x,hx,Zq⟩:=QN rs nu (by omega) (fun z=>by have:=(hg.r0 _ z).1;simp [Row.dP] at this)
 refine ⟨rs++[x],?_,hg.rf Zq,by simp;omega⟩
 unfold tJ fn BX
 simp only [ck,bq,bw]
 rw [av (e':=[some (.al,.lst (ns.map .int)),some (.al,.lst (cs.map .int)),some (.bo,.lst (fs.map .str)),none,none,none,none,none]) (by walk_at "ev"; rw [h0];walk_at "ev"; rw [rW];walk_at "ev")]
 rw [av (e':=[some (.al,.lst (ns.map .int)),some (.al,.lst (cs.map .int)),some (.bo,.lst (fs.map .str)),some (.bo,.lst (ds.map aq)),none,none,none,none]) (by walk_at "ev"; rw [iI];walk_at "ev")]
 rw [av (e':=[some (.al,.lst (ns.map .int)),some (.al,.lst (cs.map .int)),some (.bo,.lst (fs.map .str)),some (.bo,.lst (ds.map aq)),some (.bo,.lst ([].map Row.d)),none,none,none]) rfl]
 rw [av (e':=[some (.al,.lst (ns.map .int)),some (.al,.lst (cs.map .int)),some (.bo,.lst (fs.map .str)),some (.bo,.lst (ds.map aq)),some (.bo,.lst (rs.map Row.d)),o5,o6,o7]) (by
  rw [cN,show aW 1 [some (.al,.lst (ns.map .int)),some (.al,.lst (cs.map .int)),some (.bo,.lst (fs.map .str)),some (.bo,.lst (ds.map aq)),some (.bo,.lst ([].map Row.d)),none,none,none]=[some (.al,.lst (ns.map .int)),some (.al,.lst (cs.map .int)),some (.bo,.lst (fs.map .str)),some (.bo,.lst (ds.map aq)),some (.bo,.lst ([].map Row.d)),none,none,none] from rfl]
  simp -implicitDefEqProofs only [aY,gb,ag,jV,ah,gz,gy,oq,id_eq,bX,oy]
  exact l1)]
 walk_at "ev"
 rw [A8]
 walk_at "ev"
 rw [hx]
 walk_at "ev"
 rw [ym (by decide) (by decide) (by simp only [ln,List.length_cons,List.length_nil];exact Nat.le_trans (show rs.length+(0+1)≤200 by omega) (by decide))]
 rw [show mJ .bo .un=.fr from rfl,Fd]
 walk_at "ev"
 rw [List.map_append];rfl
noncomputable def intAt (k:Nat) (e:Ev):Nat:=match e[k]? with
 |some (some (_,.int g))=>g.toNat
 |_=>0
theorem QP {rs:List Row} (h:RF rs) (hl:rs.length≤200) (t:Int):∃ g:Int,tQ [.lst (rs.map Row.d),.int t]=some (.fr,.int g)∧0≤g∧g < rs.length:=by
 have hp:=h.pos
 obtain ⟨e',l1,⟨g,he,hg⟩,_⟩:=CG (c:=tF) (b:=xm) (e:=[some (.al,.lst (rs.map Row.d)),some (.fr,.int (t%rs.length))])
  (fun e=>∃ g:Nat,e=[some (.al,.lst (rs.map Row.d)),some (.fr,.int (g:Int))]∧g < rs.length)
  (intAt 1)
  ⟨(t%rs.length).toNat,by rw [Int.toNat_of_nonneg (Int.emod_nonneg _ (by omega))],by have:=Int.emod_lt_of_pos t (show (0:Int) < rs.length by omega);have:=Int.emod_nonneg t (show (rs.length:Int)≠0 by omega);omega⟩
  (fun e aZ=>by
   obtain ⟨g,he,hg⟩:=aZ
   subst he
   have hr:rs[g]?=some (rs[g]'hg):=by simp
   generalize rs[g]'hg=r at hr
   have e1:=jE hr
   have hC:tF [some (.al,.lst (rs.map Row.d)),some (.fr,.int (g:Int))]=some (Row.cy r):=by
    unfold tF
    walk_at "ev"
    rw [e1]
    walk_at "ev"
    simp -implicitDefEqProofs only [cU,oq,cQ,de,bj,fT]
   cases jn:Row.cy r with
   |false=>exact .inl (by rw [hC,jn])
   |true =>
    obtain ⟨t',rfl⟩:=yC.mp jn
    have h0:g≠0:=fun z=>by subst z;exact h.r0 t' hr
    refine .inr ⟨by rw [hC,jn],[some (.al,.lst (rs.map Row.d)),some (.fr,.int ((g-1:Nat):Int))],?_,⟨g-1,rfl,by omega⟩,?_⟩
    ·unfold xm
     walk_at "ev"
     rw [show (g:Int)-1=((g-1:Nat):Int) by omega]
    ·simp only [intAt,gz,gy];omega)
 subst he
 refine ⟨g,?_,by omega,by omega⟩
 unfold tQ fn Ci
 simp only [ck,bq,bw]
 rw [av (e':=[some (.al,.lst (rs.map Row.d)),some (.fr,.int (t%rs.length))]) (by walk_at "go")]
 rw [av l1]
 rfl
theorem Uj {r:Row}:Row.fj r=true↔∃ a t,r=.pt a t:=by cases r<;>simp [Row.fj]
theorem A9 (m n:M) (a:Ko) (t:Int):ak (m,Row.d (.pt a t)) (n,.int 1)=some (aV m,kD a):=rfl
theorem oX (m n:M) (a:Ko) (t:Int):ak (m,Row.d (.pt a t)) (n,.int 2)=some (aV m,.int t):=rfl
theorem Zr (m n:M) (t:Int):ak (m,Row.d (.go t)) (n,.int 1)=some (aV m,.int t):=rfl
theorem Ba (a:Ko) (t:Int):jF [(M.fr,D.str "part"),(.fr,kD a),(.fr,.int t)]=some (.fr,Row.d (.pt a t)):=rfl
theorem Zt (t:Int):jF [(M.fr,D.str "go"),(.fr,.int t)]=some (.fr,Row.d (.go t)):=rfl
theorem Uk {ro:List Row} (h:RF ro) (hl:ro.length≤200) (A0 A1 A2:Option (M×D)) (rs:List Row) (hr:rs.length≤200) {i:Nat}{r:Row} (hi:ro[i]?=some r) :
  ∃ r' o6,sM [A0,A1,A2,some (.fr,.lst (ro.map Row.d)),some (.bo,.lst (rs.map Row.d)),some (.fr,.int (i:Int)),some (.fr,r.d)]=some (.nx [A0,A1,A2,some (.fr,.lst (ro.map Row.d)),some (.bo,.lst ((rs++[r']).map Row.d)),some (.fr,.int (i:Int)),o6])∧∀ m∈bf i r',0≤m∧m < ro.length:=by
 have hp:=h.pos
 have aS:i < ro.length:=(List.getElem?_eq_some_iff.mp hi).1
 have fin:∀ r':Row,(∀ m∈bf i r',0≤m∧m < ro.length)→∀ f,f [A0,A1,A2,some (.fr,.lst (ro.map Row.d)),some (.bo,.lst (rs.map Row.d)),some (.fr,.int (i:Int)),some (.fr,r.d)]=some (.nx [A0,A1,A2,some (.fr,.lst (ro.map Row.d)),some (.bo,.lst (rs.map Row.d)),some (.fr,.int (i:Int)),some (.fr,r'.d)]) →
   ∃ r' o6,aj f (cE 4 (jV 6)) [A0,A1,A2,some (.fr,.lst (ro.map Row.d)),some (.bo,.lst (rs.map Row.d)),some (.fr,.int (i:Int)),some (.fr,r.d)]=some (.nx [A0,A1,A2,some (.fr,.lst (ro.map Row.d)),some (.bo,.lst ((rs++[r']).map Row.d)),some (.fr,.int (i:Int)),o6])∧∀ m∈bf i r',0≤m∧m < ro.length:=fun r' h1 f h2=>by
  refine ⟨r',some (.fr,r'.d),?_,h1⟩
  rw [av h2]
  exact nJ (r:=r') rfl rfl (by omega)
 have w1:∀ e:Ev,e[6]?=some (some (.fr,r.d))→(jB (ae aN (ae ak (jV 6) (jC (.int 0))) (jC (.str "part")))) e=some (Row.fj r):=fun e he=>by
  simp -implicitDefEqProofs only [jB,ae,jV,jC,he,id_eq,oq,cU,ku,de,bj,iD]
 have w2:∀ e:Ev,e[6]?=some (some (.fr,r.d))→(jB (ae aN (ae ak (jV 6) (jC (.int 0))) (jC (.str "go")))) e=some (Row.cy r):=fun e he=>by
  simp -implicitDefEqProofs only [jB,ae,jV,jC,he,id_eq,oq,cU,ku,de,bj,fT]
 have vq:∀ {a b:Ev→Option Bool}{e:Ev},a e=some false→cX a b e=some false:=fun {a b e} h=>by simp [cX,h]
 have qR:∀ {a b:Ev→Option Bool}{e:Ev},a e=some true→cX a b e=b e:=fun {a b e} h=>by simp [cX,h]
 unfold sM
 by_cases fw:Row.fj r=true
 ·obtain ⟨a,t,rfl⟩:=Uj.mp fw
  obtain ⟨n1,n2⟩:=h.pt i a t hi
  by_cases q1:t=-1
  ·refine fin (.pt a ((i:Int)+2)) (fun m hm=>?_) _ ?_
   ·have:m=(i:Int)+1∨m=(i:Int)+2:=by simpa [aL.bf] using hm
    rcases n2 with ⟨_,z⟩|z<;>omega
   ·rw [bp (by rw [qR (by rw [w1 _ rfl,fw])];simp -implicitDefEqProofs only [jB,ae,bN,jV,jC,gz,gy,id_eq,oq,oX,iX,jG,bj,q1,decide_true])]
    simp -implicitDefEqProofs only [ao,aQ,ag,ah,ae,jV,jC,gz,gy,id_eq,oq,A9,ku,nF,Ba,fA,tz,tq]
  ·have n3:0≤t:=by rcases n2 with ⟨z,_⟩|z<;>omega
   have m0:=Int.emod_nonneg t (show (ro.length:Int)≠0 by omega)
   have m1:=Int.emod_lt_of_pos t (show (0:Int) < ro.length by omega)
   by_cases q2:t%ro.length=(i:Int)+1
   ·refine fin (.pt a (i:Int)) (fun m hm=>?_) _ ?_
    ·have:m=(i:Int)+1∨m=(i:Int):=by simpa [aL.bf] using hm
     omega
    ·rw [bH (by rw [qR (by rw [w1 _ rfl,fw])];simp -implicitDefEqProofs only [jB,ae,bN,jV,jC,gz,gy,id_eq,oq,oX,iX,jG,bj,q1,decide_false])]
     rw [bp (by rw [qR (by rw [w1 _ rfl,fw])];simp -implicitDefEqProofs only [jB,ae,bN,jV,jC,aJ,ag,ah,gz,gy,id_eq,oq,oX,cW,ln,nF];rw [jy (by omega)];simp -implicitDefEqProofs only [oq,jG,bj,q2,decide_true])]
     simp -implicitDefEqProofs only [ao,aQ,ag,ah,ae,jV,jC,gz,gy,id_eq,oq,A9,ku,nF,Ba,fA,tz,tq]
   ·refine fin (.pt a (t%ro.length)) (fun m hm=>?_) _ ?_
    ·have:m=(i:Int)+1∨m=t%ro.length:=by simpa [aL.bf] using hm
     omega
    ·rw [bH (by rw [qR (by rw [w1 _ rfl,fw])];simp -implicitDefEqProofs only [jB,ae,bN,jV,jC,gz,gy,id_eq,oq,oX,iX,jG,bj,q1,decide_false])]
     rw [bH (by rw [qR (by rw [w1 _ rfl,fw])];simp -implicitDefEqProofs only [jB,ae,bN,jV,jC,aJ,ag,ah,gz,gy,id_eq,oq,oX,cW,ln,nF];rw [jy (by omega)];simp -implicitDefEqProofs only [oq,jG,bj,q2,decide_false])]
     rw [bp (by rw [w1 _ rfl,fw])]
     simp -implicitDefEqProofs only [ao,aQ,ag,ah,ae,jV,jC,aJ,gz,gy,id_eq,oq,A9,oX,ku,cW,ln]
     rw [jy (by omega)]
     simp -implicitDefEqProofs only [oq,Ba,fA,tz,tq]
 ·have fw:Row.fj r=false:=by simpa using fw
  by_cases jn:Row.cy r=true
  ·obtain ⟨t,rfl⟩:=yC.mp jn
   obtain ⟨g,eg,g0,g1⟩:=QP h hl t
   refine fin (.go g) (fun m hm=>?_) _ ?_
   ·have:m=g:=by simpa [aL.bf] using hm
    omega
   ·rw [bH (vq (by rw [w1 _ rfl,fw])),bH (vq (by rw [w1 _ rfl,fw])),bH (by rw [w1 _ rfl,fw]),bp (by rw [w2 _ rfl,jn])]
    simp -implicitDefEqProofs only [ao,aQ,ag,ah,ae,jV,jC,ax,gz,gy,id_eq,oq,Zr,ku,mq,mn,eg,Zt,fA,tz,tq]
  ·have jn:Row.cy r=false:=by simpa using jn
   refine fin r (fun m hm=>?_) _ ?_
   ·cases r with
    |en=>simp [aL.bf] at hm
    |go t=>cases jn
    |pt a t=>cases fw
    |rk x s a b =>
     have:=h.fl i _ hi rfl;have:m=(i:Int)+1:=by simpa [aL.bf] using hm
     omega
    |cp x a =>
     have:=h.fl i _ hi rfl;have:m=(i:Int)+1:=by simpa [aL.bf] using hm
     omega
    |sy a =>
     have:=h.fl i _ hi rfl;have:m=(i:Int)+1:=by simpa [aL.bf] using hm
     omega
   ·rw [bH (vq (by rw [w1 _ rfl,fw])),bH (vq (by rw [w1 _ rfl,fw])),bH (by rw [w1 _ rfl,fw]),bH (by rw [w2 _ rfl,jn])]
    rfl
theorem Good.set {rs:List Row}{j:Nat}{r:Row} (h:Good rs) (hj:∀ m∈aL.bf j r,0≤m∧m < rs.length):Good (rs.set j r):=by
 refine ⟨by rw [List.length_set];exact h.pos,fun n x hx m hm=>?_⟩
 rw [List.length_set]
 rw [List.getElem?_set] at hx
 split at hx
 ·rename_i e;subst e
  split at hx
  ·cases hx;exact hj m hm
  ·cases hx
 ·exact h.bf n x hx m hm
theorem jt {e:Ev}{k j:Nat}{mo m':M}{rs:List Row}{r:Row}{f g:Ev→Option (M×D)} (ho:own mo=true) (he:e[k]?=some (some (mo,.lst (rs.map Row.d)))) (hf:f e=some (.fr,r.d)) (hg:g e=some (m',.int (j:Int))) (hj:j < rs.length) :
  c9 k g f e=some (.nx (e.set k (some (mo,.lst ((rs.set j r).map Row.d))))):=by
 have kh:cT (rs.map Row.d).length (j:Int)=some j:=by
  unfold cT
  rw [ln,if_pos (by omega),if_pos (by omega)];simp
 simp -implicitDefEqProofs only [c9,hf,hg,oq,ig,dZ,if_true,dE,he,ho,kh,List.map_set]
theorem Ul (r:Row):dH (.str r.word) [.str "reckon",.str "copy",.str "say"]=Row.flat r:=by
 cases r with
 |rk x s a b=>exact (by decide +kernel:dH (.str ("reckon" : Str)) [.str "reckon",.str "copy",.str "say"]=true)
 |cp x a=>exact (by decide +kernel:dH (.str ("copy" : Str)) [.str "reckon",.str "copy",.str "say"]=true)
 |sy a=>exact (by decide +kernel:dH (.str ("say" : Str)) [.str "reckon",.str "copy",.str "say"]=true)
 |go t=>exact (by decide +kernel:dH (.str ("go" : Str)) [.str "reckon",.str "copy",.str "say"]=false)
 |pt a t=>exact (by decide +kernel:dH (.str ("part" : Str)) [.str "reckon",.str "copy",.str "say"]=false)
 |en=>exact (by decide +kernel:dH (.str ("end" : Str)) [.str "reckon",.str "copy",.str "say"]=false)
theorem Ek (m n:M) (r:Row) (neg:Bool):dN neg (m,.str r.word) (n,.tup [.str "reckon",.str "copy",.str "say"])=some (.fr,.bl (if neg then !Row.flat r else Row.flat r)):=by
 rw [←Ul r];rfl
theorem Gw {r:Row} (h:Row.flat r=true):∃ a:Ko,∀ m n:M,ak (m,r.d) (n,.int 1)=some (aV m,kD a):=by
 cases r with
 |rk x s a b=>exact ⟨.inr x,fun _ _=>rfl⟩
 |cp x a=>exact ⟨.inr x,fun _ _=>rfl⟩
 |sy a=>exact ⟨a,fun _ _=>rfl⟩
 |go t=>cases h
 |pt a t=>cases h
 |en=>cases h
theorem x4 {rs:List Row} (h:Good rs) {i:Nat}{r:Row} (hi:rs[i]?=some r) (hf:Row.flat r=true):i+1 < rs.length:=by
 have:=h.bf i r hi ((i:Int)+1) (by cases r<;>simp_all [Row.flat,aL.bf])
 omega
theorem El {rs:List Row}{p:Row→Bool}{n:Nat} (h:pick rs p n=true):∃ r,rs[n]?=some r∧p r=true:=by
 unfold pick at h
 split at h
 ·rename_i r hr;exact ⟨r,hr,h⟩
 ·cases h
theorem CZ {rs:List Row}{mo:M} (he:aV mo=.fr) (hn:∀ d:D,¬ (mo=.nb)) {ks:List Nat} (hk:∀ k∈ks,k < rs.length) :
  cV (jB (ae (dN false) (ae ak (ae ak (jV 1) (jV 0)) (jC (.int 0))) (aQ (ag (jC (.str "reckon")) (ag (jC (.str "copy")) (ag (jC (.str "say")) ah)))))) (jV 0) .fr [some (mo,.lst (rs.map Row.d))] (au ks)=some ((au (ks.filter (pick rs Row.flat))).map fun x=>(M.fr,x)):=by
 refine pI ks fun k mR=>?_
 have aS:=hk k mR
 have hr:rs[k]?=some (rs[k]'aS):=by simp
 have e:=jE hr
 refine ⟨?_,rfl⟩
 simp -implicitDefEqProofs only [jB,ae,jV,jC,aQ,ag,ah,gz,gy,id_eq,oq,cL,e,oy,he,cU,ku]
 rw [show jF [(M.fr,D.str "reckon"),(.fr,.str "copy"),(.fr,.str "say")]=some (.fr,.tup [.str "reckon",.str "copy",.str "say"]) from rfl,oq,Ek,oq,if_neg Bool.false_ne_true]
 simp only [bj,pick,hr]
theorem Oo (N:Nat):bT 2 N=au ((List.range N).map fun k=>k+2):=by
 unfold bT au
 rw [List.map_map]
 exact List.map_congr_left fun k _=>by show D.int (2+(k:Int))=D.int ((k+2:Nat):Int);congr 1;omega
theorem Oq {rs:List Row} (h:Good rs) (hl:rs.length≤200) (c:Int):∃ bD:List Row,sx [.lst (rs.map Row.d),.int c]=some (.lst (bD.map Row.d))∧Good bD∧bD.length=rs.length:=by
 have hp:=h.pos
 have bY:-4611686018427387904≤(2:Int)∧(2:Int) < 4611686018427387904∧-4611686018427387904≤(rs.length:Int)∧(rs.length:Int) < 4611686018427387904:=by omega
 have fin:∀ {bD:List Row}{e:Ev},kC (.rt e .bi (.lst (bD.map Row.d)))=some (.lst (bD.map Row.d)):=fun {bD e}=>by
  simp only [kC,own,gD,lC,and_self,if_true]
 have ex:=CZ (rs:=rs) (mo:=.bi) rfl (fun _ z=>nomatch z) (ks:=(List.range ((rs.length:Int)-2).toNat).map fun k=>k+2) (fun k hk=>by
  obtain ⟨j,hj,rfl⟩:=List.mem_map.mp hk
  have:=List.mem_range.mp hj;omega)
 generalize kg:((List.range ((rs.length:Int)-2).toNat).map fun k=>k+2).filter (pick rs Row.flat)=fl at ex
 have zN:fl.length≤1000:=by
  rw [←kg]
  have:=List.length_filter_le (pick rs Row.flat) ((List.range ((rs.length:Int)-2).toNat).map fun k=>k+2)
  simp at this;simp;omega
 have s1:ao 2 (cf (qI (ag (jC (.int 2)) (ag (aJ bz (ag (jV 0) ah)) ah))) [0] (jB (ae (dN false) (ae ak (ae ak (jV 1) (jV 0)) (jC (.int 0))) (aQ (ag (jC (.str "reckon")) (ag (jC (.str "copy")) (ag (jC (.str "say")) ah)))))) (jV 0)) [some (.bi,.lst (rs.map Row.d)),some (.al,.int c),none,none]=some (.nx [some (.bi,.lst (rs.map Row.d)),some (.al,.int c),some (.bo,.lst (au fl)),none]):=by
  simp -implicitDefEqProofs only [ao,cf,qI,aJ,ag,ah,jV,jC,gz,gy,id_eq,oq,cW,ln,bY,and_self,if_true]
  rw [show eW [some (M.bi,D.lst (rs.map Row.d)),some (M.al,D.int c),none,none] [0]=[some (.bi,.lst (rs.map Row.d))] from rfl,Oo,ex,oq,gG (by rw [dn];exact zN),oq]
  rfl
 unfold sx i7 Bn
 rw [show (iR [0] [D.lst (rs.map Row.d),.int c]++List.replicate (4 - [D.lst (rs.map Row.d),.int c].length) none:Ev)=[some (.bi,.lst (rs.map Row.d)),some (.al,.int c),none,none] from rfl]
 rw [av s1]
 have Kx:rs[0]?=some (rs[0]'hp):=by simp
 generalize hx0:rs[0]'hp=x0 at Kx
 have a0:=jE Kx
 have hb:(cY (jB (ae gu (jV 2) (bE ah))) (jB (ae (dN true) (ae ak (ae ak (jV 0) (jC (.int 0))) (jC (.int 0))) (aQ (ag (jC (.str "reckon")) (ag (jC (.str "copy")) (ag (jC (.str "say")) ah))))))) [some (.bi,.lst (rs.map Row.d)),some (.al,.int c),some (.bo,.lst (au fl)),none]=some (fl.isEmpty||!Row.flat x0):=by
  have e2:(jB (ae (dN true) (ae ak (ae ak (jV 0) (jC (.int 0))) (jC (.int 0))) (aQ (ag (jC (.str "reckon")) (ag (jC (.str "copy")) (ag (jC (.str "say")) ah)))))) [some (.bi,.lst (rs.map Row.d)),some (.al,.int c),some (.bo,.lst (au fl)),none]=some (!Row.flat x0):=by
   simp -implicitDefEqProofs only [jB,ae,jV,jC,aQ,ag,ah,gz,gy,id_eq,oq,cL]
   rw [show (0:Int)=((0:Nat):Int) from rfl,a0]
   simp -implicitDefEqProofs only [oy,oq,Int.natCast_zero,cU]
   rw [show jF [(M.fr,D.str "reckon"),(.fr,.str "copy"),(.fr,.str "say")]=some (.fr,.tup [.str "reckon",.str "copy",.str "say"]) from rfl,oq,Ek,oq,if_pos rfl]
   rfl
  have e1:(jB (ae gu (jV 2) (bE ah))) [some (.bi,.lst (rs.map Row.d)),some (.al,.int c),some (.bo,.lst (au fl)),none]=some fl.isEmpty:=by
   simp -implicitDefEqProofs only [jB,ae,jV,bE,ah,gz,gy,id_eq,oq]
   rw [show fP []=some (.un,.lst []) from rfl,oq,Ei]
   rfl
  unfold cY
  rw [e1,oq]
  cases fl.isEmpty with
  |true=>rfl
  |false=>rw [e2];rfl
 cases j3:(fl.isEmpty||!Row.flat x0) with
 |true =>
  rw [dq (e':=[some (.bi,.lst (rs.map Row.d)),some (.al,.int c),some (.bo,.lst (au fl)),none]) (m:=.bi) (d:=.lst (rs.map Row.d)) (by rw [bp (by rw [hb,j3])];rfl)]
  exact ⟨rs,by rw [oq];exact fin,h,rfl⟩
 |false =>
  obtain ⟨Zu,hx⟩:fl.isEmpty=false∧Row.flat x0=true:=by simpa using j3
  rw [dJ (by rw [hb,j3])]
  have hfp:0 < fl.length:=by
   cases fl with
   |nil=>cases Zu
   |cons a l=>simp
  obtain ⟨la,hR,Bb⟩:=m9 (f:=fun (n:Nat)=>D.int (n:Int)) (l:=fl) (k:=c / 4%fl.length) (Int.emod_nonneg _ (by omega)) (Int.emod_lt_of_pos _ (by omega))
  rw [←kg] at hR
  obtain ⟨rX,rY⟩:=List.mem_filter.mp hR
  obtain ⟨r,hr,lu⟩:=El rY
  have HV:2≤la:=by obtain ⟨j,_,rfl⟩:=List.mem_map.mp rX;omega
  have hnx:=x4 h hr lu
  obtain ⟨a,ha⟩:=Gw lu
  have ar:=jE hr
  rw [av (e':=[some (.bi,.lst (rs.map Row.d)),some (.al,.int c),some (.bo,.lst (au fl)),some (.fr,.int (la:Int))]) (by
   simp -implicitDefEqProofs only [ao,ae,jV,jC,aJ,ag,ah,gz,gy,id_eq,oq,cW,dn]
   rw [div_ii (by omega),oq,jy (by omega),oq,cL,show au fl=fl.map (fun (n:Nat)=>D.int (n:Int)) from rfl,Bb]
   rfl)]
  rw [av (jt (j:=la) (r:=.pt a 1) (mo:=.bi) (m':=.fr) rfl rfl (by
   simp -implicitDefEqProofs only [aQ,ag,ah,ae,jV,jC,gz,gy,id_eq,oq,cL,ar,oy,ha]
   rfl) rfl (by omega))]
  simp -implicitDefEqProofs only [tz,tq]
  rw [av (jt (rs:=rs.set la (.pt a 1)) (j:=0) (r:=.go (la:Int)) (mo:=.bi) (m':=.fr) rfl rfl rfl rfl (by rw [List.length_set];omega))]
  refine ⟨(rs.set la (.pt a 1)).set 0 (.go (la:Int)),by rw [show (aG (jV 0)) _=some (.rt _ .bi (.lst (((rs.set la (.pt a 1)).set 0 (.go (la:Int))).map Row.d))) from rfl,oq];exact fin,?_,by simp⟩
  refine (h.set fun m hm=>?_).set fun m hm=>?_
  ·have:m=(la:Int)+1∨m=1:=by simpa [aL.bf] using hm
   omega
  ·have:m=(la:Int):=by simpa [aL.bf] using hm
   rw [List.length_set];omega
theorem QQ {R:List D}{c:Int} (h1:D.cw R=true):j7 [0] [0] [(0,0),(1,1)] [(.bi,.lst R),(.al,.int c)]=true:=by
 simp [j7,List.range_succ,own,gD,f6,h1]
theorem Ot {m:M}{f:Int}:∀ ks:List Nat,cV (jB (ae gC (jV 0) (jV 1))) (jV 0) .fr [some (m,.int f)] (au ks)=some ((au (ks.filter fun k=>decide (f < (k:Int)))).map fun x=>(M.fr,x)):=fun ks =>
 pI ks fun k _=>⟨by
  simp -implicitDefEqProofs only [jB,ae,jV,gz,gy,id_eq,oq,nU,bj],rfl⟩
theorem MY {fl:List Nat} (hs:fl.Pairwise (· < ·)) {i:Nat} (hi:i+1 < fl.length):∃ f∈fl,fl[i]?=some f∧∃ l∈fl,f < l:=by
 have h1:fl[i]?=some (fl[i]'(by omega)):=by simp
 refine ⟨fl[i]'(by omega),List.getElem_mem _,h1,fl[i+1]'hi,List.getElem_mem _,?_⟩
 exact (List.pairwise_iff_getElem.mp hs) i (i+1) (by omega) hi (by omega)
theorem QR {rs:List Row} (h:Good rs) (hl:rs.length≤200) (c:Int):∃ bD:List Row,sH [.lst (rs.map Row.d),.int c]=some (.lst (bD.map Row.d))∧Good bD∧bD.length=rs.length:=by
 have hp:=h.pos
 have bY:-4611686018427387904≤(rs.length:Int)∧(rs.length:Int) < 4611686018427387904:=by omega
 have ht:(rs.length:Int).toNat=rs.length:=by omega
 have fin:∀ {bD:List Row}{e:Ev},kC (.rt e .bi (.lst (bD.map Row.d)))=some (.lst (bD.map Row.d)):=fun {bD e}=>by
  simp only [kC,own,gD,lC,and_self,if_true]
 have ex:=CZ (rs:=rs) (mo:=.bi) rfl (fun _ z=>nomatch z) (ks:=List.range rs.length) (fun k hk=>List.mem_range.mp hk)
 generalize kg:(List.range rs.length).filter (pick rs Row.flat)=fl at ex
 have zN:fl.length≤1000:=by
  rw [←kg]
  have:=List.length_filter_le (pick rs Row.flat) (List.range rs.length)
  simp at this;simp;omega
 have Wi:fl.Pairwise (· < ·):=by rw [←kg];exact List.Pairwise.filter _ List.pairwise_lt_range
 have Ky:∀ n∈fl,∃ r,rs[n]?=some r∧Row.flat r=true:=fun n hn=>by
  rw [←kg] at hn
  exact El (List.mem_filter.mp hn).2
 have s1:ao 2 (cf (bP (ag (aJ bz (ag (jV 0) ah)) ah)) [0] (jB (ae (dN false) (ae ak (ae ak (jV 1) (jV 0)) (jC (.int 0))) (aQ (ag (jC (.str "reckon")) (ag (jC (.str "copy")) (ag (jC (.str "say")) ah)))))) (jV 0)) [some (.bi,.lst (rs.map Row.d)),some (.al,.int c),none,none,none,none,none]=some (.nx [some (.bi,.lst (rs.map Row.d)),some (.al,.int c),some (.bo,.lst (au fl)),none,none,none,none]):=by
  simp -implicitDefEqProofs only [ao,cf,bP,aJ,ag,ah,jV,jC,gz,gy,id_eq,oq,cW,ln,bY,and_self,if_true,ht]
  rw [show eW [some (M.bi,D.lst (rs.map Row.d)),some (M.al,D.int c),none,none,none,none,none] [0]=[some (.bi,.lst (rs.map Row.d))] from rfl,ur,ex,oq,gG (by rw [dn];exact zN),oq]
  rfl
 unfold sH i7 Bs
 rw [show (iR [0] [D.lst (rs.map Row.d),.int c]++List.replicate (7 - [D.lst (rs.map Row.d),.int c].length) none:Ev)=[some (.bi,.lst (rs.map Row.d)),some (.al,.int c),none,none,none,none,none] from rfl]
 rw [av s1]
 by_cases q1:c%4=3
 ·obtain ⟨bD,e1,g1,l1⟩:=Oq h hl c
  rw [dq (e':=[none,none,none,none,none,none,none]) (m:=.bi) (d:=.lst (bD.map Row.d)) (by
   rw [bp (by walk_at "go"; simp only [q1,decide_true])]
   simp -implicitDefEqProofs only [jD,ag,ah,jV,gz,gy,id_eq,oq,QQ (lC rs),if_true,mq,mn,e1])]
  exact ⟨bD,by rw [oq];exact fin,g1,l1⟩
 rw [dJ (by walk_at "go"; simp only [q1,decide_false])]
 have hb:(cY (jB (ae fq (aJ bz (ag (jV 2) ah)) (jC (.int 2)))) (jB (ae aN (ae aT (jV 1) (jC (.int 2))) (jC (.int 0))))) [some (.bi,.lst (rs.map Row.d)),some (.al,.int c),some (.bo,.lst (au fl)),none,none,none,none]=some (decide ((fl.length:Int) < 2)||decide (c%2=0)):=by
  walk_at "go"
  rw [dn]
  cases decide ((fl.length:Int) < 2)<;>rfl
 cases j3:(decide ((fl.length:Int) < 2)||decide (c%2=0)) with
 |true =>
  rw [dq (e':=[some (.bi,.lst (rs.map Row.d)),some (.al,.int c),some (.bo,.lst (au fl)),none,none,none,none]) (m:=.bi) (d:=.lst (rs.map Row.d)) (by rw [bp (by rw [hb,j3])];rfl)]
  exact ⟨rs,by rw [oq];exact fin,h,rfl⟩
 |false =>
  have h2:2≤fl.length:=by
   have:¬ ((fl.length:Int) < 2):=by
    intro z;simp [z] at j3
   omega
  rw [dJ (by rw [hb,j3])]
  have k0:=Int.emod_nonneg (c / 4) (show ((fl.length:Int)-1)≠0 by omega)
  have k1:=Int.emod_lt_of_pos (c / 4) (show (0:Int) < (fl.length:Int)-1 by omega)
  obtain ⟨f,hf,Zv,l0,Zw,Xl⟩:=MY Wi (i:=(c / 4%((fl.length:Int)-1)).toNat) (by omega)
  have ef:L2.bt (au fl) (c / 4%((fl.length:Int)-1))=some (.int (f:Int)):=by
   rw [gF k0 (by rw [dn];omega)]
   have:=(List.getElem?_eq_some_iff.mp Zv).2
   simp only [au,List.getElem_map,this]
  rw [av (e':=[some (.bi,.lst (rs.map Row.d)),some (.al,.int c),some (.bo,.lst (au fl)),some (.fr,.int (f:Int)),none,none,none]) (by
   simp -implicitDefEqProofs only [ao,ae,jV,jC,aJ,ag,ah,gz,gy,id_eq,oq,cW,dn,yn]
   rw [div_ii (by omega),oq,jy (by omega),oq,cL,ef]
   rfl)]
  generalize aS:fl.filter (fun (k:Nat)=>decide ((f:Int) < (k:Int)))=lt
  have Z8:0 < lt.length:=by
   rw [←aS]
   exact List.length_pos_of_mem (List.mem_filter.mpr ⟨Zw,by simpa using Xl⟩)
  have Xm:lt.length≤1000:=by
   rw [←aS]
   have:=List.length_filter_le (fun k=>decide ((f:Int) < ((k:Nat):Int))) fl
   omega
  rw [av (e':=[some (.bi,.lst (rs.map Row.d)),some (.al,.int c),some (.fr,.lst (au fl)),some (.fr,.int (f:Int)),some (.bo,.lst (au lt)),none,none]) (by
   rw [cN,show aW 2 [some (.bi,.lst (rs.map Row.d)),some (.al,.int c),some (.bo,.lst (au fl)),some (.fr,.int (f:Int)),none,none,none]=[some (.bi,.lst (rs.map Row.d)),some (.al,.int c),some (.fr,.lst (au fl)),some (.fr,.int (f:Int)),none,none,none] from rfl]
   simp -implicitDefEqProofs only [ao,cf,bO,jV,gz,gy,id_eq,oq,bX,oy]
   rw [show eW [some (M.bi,D.lst (rs.map Row.d)),some (M.al,D.int c),some (.fr,.lst (au fl)),some (M.fr,D.int (f:Int)),none,none,none] [3]=[some (.fr,.int (f:Int))] from rfl,Ot,aS,oq,gG (by rw [dn];exact Xm),oq]
   rfl)]
  obtain ⟨la,hR,Bb⟩:=m9 (f:=fun (n:Nat)=>D.int (n:Int)) (l:=lt) (k:=c / 256%lt.length) (Int.emod_nonneg _ (by omega)) (Int.emod_lt_of_pos _ (by omega))
  rw [av (e':=[some (.bi,.lst (rs.map Row.d)),some (.al,.int c),some (.fr,.lst (au fl)),some (.fr,.int (f:Int)),some (.bo,.lst (au lt)),some (.fr,.int (la:Int)),none]) (by
   simp -implicitDefEqProofs only [ao,ae,jV,jC,aJ,ag,ah,gz,gy,id_eq,oq,cW,dn]
   rw [div_ii (by omega),oq,jy (by omega),oq,cL,show au lt=lt.map (fun (n:Nat)=>D.int (n:Int)) from rfl,Bb]
   rfl)]
  rw [←aS] at hR
  obtain ⟨Xn,HV⟩:=List.mem_filter.mp hR
  have Z9:f < la:=by simpa using HV
  obtain ⟨rf,lu,Kz⟩:=Ky f hf
  obtain ⟨rl,KC,Zx⟩:=Ky la Xn
  have nf:=x4 h lu Kz
  have nl:=x4 h KC Zx
  obtain ⟨a,ha⟩:=Gw Kz
  have Zy:=jE lu
  have t0:=Int.emod_nonneg (c / 16384) (show (rs.length:Int)≠0 by omega)
  have t1:=Int.emod_lt_of_pos (c / 16384) (show (0:Int) < rs.length by omega)
  rw [av (e':=[some (.bi,.lst (rs.map Row.d)),some (.al,.int c),some (.fr,.lst (au fl)),some (.fr,.int (f:Int)),some (.bo,.lst (au lt)),some (.fr,.int (la:Int)),some (.fr,.int (c / 16384%rs.length))]) (by walk_at "go")]
  generalize c / 16384%(rs.length:Int)=t at t0 t1 ⊢
  have lR:rs[rs.length-1]?=some (rs[rs.length-1]'(by omega)):=by simp
  generalize rs[rs.length-1]'(by omega)=rz at lR
  have az:L2.bt (rs.map Row.d) (-1)=some rz.d:=by
   unfold L2.bt L2.cT
   rw [if_neg (by decide),ln,if_pos (by omega),oq,show (-1+(rs.length:Int)).toNat=rs.length-1 by omega,List.getElem?_map,lR]
   rfl
  have T1:∃ t':Int,(0≤t'∧t' < rs.length)∧aK (jB (ae aN (ae ak (ae ak (jV 0) (bN df (jC (.int 1)))) (jC (.int 0))) (jC (.str "go")))) (ao 6 (ae aT (jV 6) (ae bB (jV 3) (jC (.int 1))))) aR [some (.bi,.lst (rs.map Row.d)),some (.al,.int c),some (.fr,.lst (au fl)),some (.fr,.int (f:Int)),some (.bo,.lst (au lt)),some (.fr,.int (la:Int)),some (.fr,.int t)]=some (.nx [some (.bi,.lst (rs.map Row.d)),some (.al,.int c),some (.fr,.lst (au fl)),some (.fr,.int (f:Int)),some (.bo,.lst (au lt)),some (.fr,.int (la:Int)),some (.fr,.int t')]):=by
   have hc:(jB (ae aN (ae ak (ae ak (jV 0) (bN df (jC (.int 1)))) (jC (.int 0))) (jC (.str "go")))) [some (.bi,.lst (rs.map Row.d)),some (.al,.int c),some (.fr,.lst (au fl)),some (.fr,.int (f:Int)),some (.bo,.lst (au lt)),some (.fr,.int (la:Int)),some (.fr,.int t)]=some (Row.cy rz):=by
    simp -implicitDefEqProofs only [jB,ae,bN,jV,jC,gz,gy,id_eq,oq,iX,cL,az,oy,cU,de,bj,fT]
   cases hg:Row.cy rz with
   |true =>
    have m0:=Int.emod_nonneg t (show ((f:Int)+1)≠0 by omega)
    have m1:=Int.emod_lt_of_pos t (show (0:Int) < (f:Int)+1 by omega)
    exact ⟨t%((f:Int)+1),by omega,by rw [bp (by rw [hc,hg])];walk_at "go"⟩
   |false=>exact ⟨t,⟨t0,t1⟩,by rw [bH (by rw [hc,hg])];rfl⟩
  obtain ⟨t',b1,e1⟩:=T1
  rw [av e1]
  have T2:∃ t2:Int,(0≤t2∧t2 < rs.length)∧aK (jB (nD fq oK (jV 3) (jV 6) (jV 5))) (ao 6 (ae bB (jV 5) (jC (.int 1)))) aR [some (.bi,.lst (rs.map Row.d)),some (.al,.int c),some (.fr,.lst (au fl)),some (.fr,.int (f:Int)),some (.bo,.lst (au lt)),some (.fr,.int (la:Int)),some (.fr,.int t')]=some (.nx [some (.bi,.lst (rs.map Row.d)),some (.al,.int c),some (.fr,.lst (au fl)),some (.fr,.int (f:Int)),some (.bo,.lst (au lt)),some (.fr,.int (la:Int)),some (.fr,.int t2)]):=by
   have hc:∃ b,(jB (nD fq oK (jV 3) (jV 6) (jV 5))) [some (.bi,.lst (rs.map Row.d)),some (.al,.int c),some (.fr,.lst (au fl)),some (.fr,.int (f:Int)),some (.bo,.lst (au lt)),some (.fr,.int (la:Int)),some (.fr,.int t')]=some b:=by
    walk_at "ev"
    cases decide ((f:Int) < t')<;>exact ⟨_,rfl⟩
   obtain ⟨b,hc⟩:=hc
   cases b with
   |true=>exact ⟨(la:Int)+1,by omega,by rw [bp hc];walk_at "ev"⟩
   |false=>exact ⟨t',b1,by rw [bH hc];rfl⟩
  obtain ⟨t2,b2,e2⟩:=T2
  rw [av e2]
  have T3:∃ t3:Int,(0≤t3∧t3 < rs.length)∧aK (jB (ae aN (ae ak (ae ak (jV 0) (jV 6)) (jC (.int 0))) (jC (.str "go")))) (ao 6 (jC (.int 0))) aR [some (.bi,.lst (rs.map Row.d)),some (.al,.int c),some (.fr,.lst (au fl)),some (.fr,.int (f:Int)),some (.bo,.lst (au lt)),some (.fr,.int (la:Int)),some (.fr,.int t2)]=some (.nx [some (.bi,.lst (rs.map Row.d)),some (.al,.int c),some (.fr,.lst (au fl)),some (.fr,.int (f:Int)),some (.bo,.lst (au lt)),some (.fr,.int (la:Int)),some (.fr,.int t3)]):=by
   have at2:=N4 (rs:=rs) b2.1 b2.2
   have hc:∃ b,(jB (ae aN (ae ak (ae ak (jV 0) (jV 6)) (jC (.int 0))) (jC (.str "go")))) [some (.bi,.lst (rs.map Row.d)),some (.al,.int c),some (.fr,.lst (au fl)),some (.fr,.int (f:Int)),some (.bo,.lst (au lt)),some (.fr,.int (la:Int)),some (.fr,.int t2)]=some b:=by
    simp -implicitDefEqProofs only [jB,ae,jV,jC,gz,gy,id_eq,oq,cL,at2,oy,cU,de,bj]
    exact ⟨_,rfl⟩
   obtain ⟨b,hc⟩:=hc
   cases b with
   |true=>exact ⟨0,by omega,by rw [bp hc];rfl⟩
   |false=>exact ⟨t2,b2,by rw [bH hc];rfl⟩
  obtain ⟨t3,b3,e3⟩:=T3
  rw [av e3]
  rw [av (jt (j:=f) (r:=.pt a ((la:Int)+1)) (mo:=.bi) (m':=.fr) rfl rfl (by
   simp -implicitDefEqProofs only [aQ,ag,ah,ae,jV,jC,gz,gy,id_eq,oq,cL,Zy,oy,ha,nF]
   rfl) rfl (by omega))]
  simp -implicitDefEqProofs only [tz,tq]
  rw [av (jt (rs:=rs.set f (.pt a ((la:Int)+1))) (j:=la) (r:=.go t3) (mo:=.bi) (m':=.fr) rfl rfl rfl rfl (by rw [List.length_set];omega))]
  refine ⟨(rs.set f (.pt a ((la:Int)+1))).set la (.go t3),by rw [show (aG (jV 0)) _=some (.rt _ .bi (.lst (((rs.set f (.pt a ((la:Int)+1))).set la (.go t3)).map Row.d))) from rfl,oq];exact fin,?_,by simp⟩
  refine (h.set fun m hm=>?_).set fun m hm=>?_
  ·have:m=(f:Int)+1∨m=(la:Int)+1:=by simpa [aL.bf] using hm
   omega
  ·have:m=t3:=by simpa [aL.bf] using hm
   rw [List.length_set];omega
theorem Ou (ns:List Int) (A1:Option (M×D)) (fs:List Str) (hf:0 < fs.length) (ds:List De) (hd:0 < ds.length) (rs:List Row) (hl:rs.length≤200) (i:Nat) (o6:Option (M×D)) :
  ∃ (r:Row) (cg:Option (M×D)),sQ [some (.al,.lst (ns.map .int)),A1,some (.bo,.lst (fs.map .str)),some (.bo,.lst (ds.map aq)),some (.bo,.lst (rs.map Row.d)),some (.fr,.int (i:Int)),o6]=some (.nx [some (.al,.lst (ns.map .int)),A1,some (.bo,.lst (fs.map .str)),some (.bo,.lst (ds.map aq)),some (.bo,.lst ((rs++[r]++[Row.go (2*(i:Int)-1)]).map Row.d)),some (.fr,.int (i:Int)),cg])∧Row.flat r=true:=by
 obtain ⟨c,hc⟩:=lF ns (2+(i:Int)) (by omega)
 obtain ⟨x,hx⟩:=lD c (i:Int)
 obtain ⟨r,hr,p1,_,_⟩:=Fy (c / 11*11+c%7) x fs hf ds hd
 refine ⟨r,some (.fr,.int c),?_,p1 (by omega)⟩
 unfold sQ
 rw [av (e':=[some (.al,.lst (ns.map .int)),A1,some (.bo,.lst (fs.map .str)),some (.bo,.lst (ds.map aq)),some (.bo,.lst (rs.map Row.d)),some (.fr,.int (i:Int)),some (.fr,.int c)]) (by walk_at "ev"; rw [hc];walk_at "ev")]
 rw [av (nJ (rs:=rs) (r:=r) rfl (by walk_at "go"; rw [hx];walk_at "go"; rw [hr]) (by omega))]
 simp -implicitDefEqProofs only [tz,tq]
 exact nJ (rs:=rs++[r]) (r:=.go (2*(i:Int)-1)) rfl (by walk_at "go"; rfl) (by simp;omega)
theorem MZ (ns:List Int) (many:Int) (h1:1≤many) (h2:many≤28):∃ rs:List Row,tG [.lst (ns.map .int),.int many]=some (.un,.lst (rs.map Row.d))∧Good rs∧rs.length≤100:=by
  obtain ⟨c0,h0⟩:=lF ns 0 (by omega)
  obtain ⟨fs,kg,rW⟩:=xE c0
  obtain ⟨ds,xa,iI⟩:=xF ns fs (by omega)
  obtain ⟨e',l1,rs,o5,o6,he,hl,hP⟩:=cP (g:=gN 5) (b:=sQ) (m:=.fr) (ds:=bT 0 many.toNat) (e:=[some (.al,.lst (ns.map .int)),some (.al,.int many),some (.bo,.lst (fs.map .str)),some (.bo,.lst (ds.map aq)),some (.bo,.lst ([Row.go (2*many-1)].map Row.d)),none,none])
    (fun i e=>∃ (rs:List Row) (o5 o6:Option (M×D)),e=[some (.al,.lst (ns.map .int)),some (.al,.int many),some (.bo,.lst (fs.map .str)),some (.bo,.lst (ds.map aq)),some (.bo,.lst (rs.map Row.d)),o5,o6]∧rs.length=2*i+1∧((i:Int)≤many→∀ (n:Nat) r,rs[n]?=some r→Row.flat r=true∨∃ t,r=.go t∧(0≤t∨n=2)∧t < 2*many+2))
    ⟨[Row.go (2*many-1)],none,none,rfl,rfl,fun _ n r hr=>by
      cases n with
      |zero=>simp at hr;subst hr;exact .inr ⟨_,rfl,.inl (by omega),by omega⟩
      |succ n=>simp at hr⟩
    (fun i d e hd aZ=>by
      obtain ⟨rs,o5,o6,he,hl,hP⟩:=aZ
      subst he
      obtain ⟨hi,rfl⟩:=jA hd
      rw [show (0:Int)+(i:Int)=(i:Int) by omega]
      obtain ⟨r,cg,q,hr⟩:=Ou ns (some (.al,.int many)) fs (by omega) ds (by omega) rs (by omega) i o6
      refine ⟨_,_,rfl,q,_,_,cg,rfl,by simp;omega,fun rQ n x hx=>?_⟩
      rcases gj hx with z|⟨z,rfl⟩
      · rcases gj z with z|⟨z,rfl⟩
        · exact hP (by omega) n x z
        · exact .inl hr
      · refine .inr ⟨_,rfl,?_,by omega⟩
        simp at z
        omega)
  subst he
  rw [iQ] at hl
  have hP:=hP (by rw [iQ];omega)
  unfold tG fn BI
  simp only [ck,bq,bw]
  rw [av (e':=[some (.al,.lst (ns.map .int)),some (.al,.int many),some (.bo,.lst (fs.map .str)),none,none,none,none]) (by walk_at "ev"; rw [h0];walk_at "ev"; rw [rW];walk_at "ev")]
  rw [av (e':=[some (.al,.lst (ns.map .int)),some (.al,.int many),some (.bo,.lst (fs.map .str)),some (.bo,.lst (ds.map aq)),none,none,none]) (by walk_at "ev"; rw [iI];walk_at "ev")]
  rw [av (e':=[some (.al,.lst (ns.map .int)),some (.al,.int many),some (.bo,.lst (fs.map .str)),some (.bo,.lst (ds.map aq)),some (.bo,.lst ([Row.go (2*many-1)].map Row.d)),none,none]) (by walk_at "go"; rfl)]
  rw [av (e':=[some (.al,.lst (ns.map .int)),some (.al,.int many),some (.bo,.lst (fs.map .str)),some (.bo,.lst (ds.map aq)),some (.bo,.lst (rs.map Row.d)),o5,o6]) (by
    have bY:-4611686018427387904≤many∧many < 4611686018427387904:=by omega
    simp -implicitDefEqProofs only [aY,bP,ag,ah,jV,gz,gy,id_eq,oq,bY,and_self,if_true]
    exact l1)]
  rw [av (jt (j:=2) (r:=.go (2*many+1)) (mo:=.bo) (m':=.fr) rfl rfl (by walk_at "go"; rfl) rfl (by omega))]
  simp -implicitDefEqProofs only [tz,tq]
  refine ⟨rs.set 2 (.go (2*many+1))++[.en],?_,⟨by simp,fun n r hr m hm=>?_⟩,by simp;omega⟩
  · walk_at "ev"
    rw [ym (by decide) (by decide) (by simp only [ln,List.length_set,List.length_cons,List.length_nil];exact Nat.le_trans (show rs.length+(0+1)≤200 by omega) (by decide))]
    rw [show mJ .bo .un=.fr from rfl,Fd]
    walk_at "ev"
    rw [List.map_append];rfl
  · have hlen:((rs.set 2 (.go (2*many+1))++[Row.en]).length:Int)=2*many+2:=by simp;omega
    rw [hlen]
    rcases gj hr with z|⟨_,rfl⟩
    · rw [List.getElem?_set] at z
      split at z
      · split at z
        · cases z
          have:m=2*many+1:=by simpa [aL.bf] using hm
          omega
        · cases z
      · rename_i n2
        have hn:n < rs.length:=(List.getElem?_eq_some_iff.mp z).1
        rcases hP n r z with w|⟨t,rfl,w,y⟩
        · have:m=(n:Int)+1:=by cases r<;>simp_all [Row.flat,aL.bf]
          omega
        · have:m=t:=by simpa [aL.bf] using hm
          rcases w with w|w<;>omega
    · simp [aL.bf] at hm
def Tg (many:Int) (r:Row):Prop:=(∀ t,r=.go t→0≤t∧t < many)∧∀ a t,r=.pt a t→0≤t∧t < many
theorem L6 (c n many:Int) (hm:1≤many∧many≤100) (fs:List Str) (hf:0 < fs.length∧fs.length≤100) (ds:List De) (hd:0 < ds.length):∃ r:Row,pC [.int c,.int n,.int many,.lst (fs.map .str),.lst (ds.map aq)]=some (.fr,r.d)∧Tg many r:=by
 obtain ⟨nm,_,hn⟩:=m9 (f:=D.str) (l:=fs) (k:=c / 14%fs.length) (Int.emod_nonneg _ (by omega)) (Int.emod_lt_of_pos _ (by omega))
 obtain ⟨q,_,hq⟩:=m9 (f:=aq) (l:=ds) (k:=c / 14 / fs.length%ds.length) (Int.emod_nonneg _ (by omega)) (Int.emod_lt_of_pos _ (by omega))
 obtain ⟨KD,Zz⟩:=m5 (c / 14 / fs.length) fs hf.1
 obtain ⟨KG,gX⟩:=m5 (c / 14) fs hf.1
 obtain ⟨KH,ZC⟩:=m5 (c / 14 / (many-1)) fs hf.1
 have np:∀ {r:Row},Row.cy r=false→Row.fj r=false→Tg many r:=fun {r} h1 h2=>⟨fun t e=>(by subst e;cases h1),fun a t e=>(by subst e;cases h2)⟩
 unfold pC fn Bz
 simp only [ck,bq,bw]
 rw [av (e':=[some (.al,.int c),some (.al,.int n),some (.al,.int many),some (.al,.lst (fs.map .str)),some (.al,.lst (ds.map aq)),some (.fr,.int (c%14)),none,none,none,none]) (by walk_at "go")]
 rw [av (e':=[some (.al,.int c),some (.al,.int n),some (.al,.int many),some (.al,.lst (fs.map .str)),some (.al,.lst (ds.map aq)),some (.fr,.int (c%14)),some (.fr,.int (c / 14)),none,none,none]) (by walk_at "go")]
 by_cases q1:c%14 < 6
 ·refine ⟨.rk nm q.1 q.2.1 q.2.2,?_,np rfl rfl⟩
  rw [dq (e':=[some (.al,.int c),some (.al,.int n),some (.al,.int many),some (.al,.lst (fs.map .str)),some (.al,.lst (ds.map aq)),some (.fr,.int (c%14)),some (.fr,.int (c / 14)),some (.al,.str q.1),some (.al,kD q.2.1),some (.al,kD q.2.2)]) (m:=.fr) (d:=Row.d (.rk nm q.1 q.2.1 q.2.2)) (by
   rw [bp (by walk_at "go"; simp only [q1,decide_true])]
   rw [av (e':=[some (.al,.int c),some (.al,.int n),some (.al,.int many),some (.al,.lst (fs.map .str)),some (.al,.lst (ds.map aq)),some (.fr,.int (c%14)),some (.fr,.int (c / 14)),some (.al,.str q.1),some (.al,kD q.2.1),some (.al,kD q.2.2)]) (by
    walk_at "go"
    rw [hq]
    rfl)]
   walk_at "go"
   rw [hn]
   walk_at "ev"
   simp -implicitDefEqProofs only [qg,Bool.and_self,if_true]
   rfl)]
  rfl
 rw [dJ (by walk_at "go"; simp only [q1,decide_false])]
 by_cases q2:c%14 < 8
 ·refine ⟨.cp nm KD,?_,np rfl rfl⟩
  rw [dq (e':=[some (.al,.int c),some (.al,.int n),some (.al,.int many),some (.al,.lst (fs.map .str)),some (.al,.lst (ds.map aq)),some (.fr,.int (c%14)),some (.fr,.int (c / 14)),none,none,none]) (m:=.fr) (d:=Row.d (.cp nm KD)) (by
   rw [bp (by walk_at "go"; simp only [q2,decide_true])]
   walk_at "go"
   rw [hn]
   walk_at "go"
   rw [Zz]
   walk_at "ev"
   rfl)]
  rfl
 rw [dJ (by walk_at "go"; simp only [q2,decide_false])]
 by_cases q3:c%14 < 10
 ·refine ⟨.sy KG,?_,np rfl rfl⟩
  rw [dq (e':=[some (.al,.int c),some (.al,.int n),some (.al,.int many),some (.al,.lst (fs.map .str)),some (.al,.lst (ds.map aq)),some (.fr,.int (c%14)),some (.fr,.int (c / 14)),none,none,none]) (m:=.fr) (d:=Row.d (.sy KG)) (by
   rw [bp (by walk_at "go"; simp only [q3,decide_true])]
   walk_at "go"
   rw [gX]
   walk_at "ev"
   rfl)]
  rfl
 rw [dJ (by walk_at "go"; simp only [q3,decide_false])]
 have KJ:(cX (jB (ae fq (jV 5) (jC (.int 12)))) (jB (ae gC (jV 2) (jC (.int 1))))) [some (.al,.int c),some (.al,.int n),some (.al,.int many),some (.al,.lst (fs.map .str)),some (.al,.lst (ds.map aq)),some (.fr,.int (c%14)),some (.fr,.int (c / 14)),none,none,none]=some (decide (c%14 < 12)&&decide (1 < many)):=by
  walk_at "ev"
  cases decide (c%14 < 12)<;>rfl
 cases q4:(decide (c%14 < 12)&&decide (1 < many)) with
 |true =>
  have h1m:1 < many:=by simp at q4;exact q4.2
  have m0:=Int.emod_nonneg (n+2+c / 14%(many-1)) (show many≠0 by omega)
  have m1:=Int.emod_lt_of_pos (n+2+c / 14%(many-1)) (show 0 < many by omega)
  refine ⟨.pt KH ((n+2+c / 14%(many-1))%many),?_,(fun t e=>nomatch e),fun a t e=>(by cases e;exact ⟨m0,m1⟩)⟩
  rw [dq (e':=[some (.al,.int c),some (.al,.int n),some (.al,.int many),some (.al,.lst (fs.map .str)),some (.al,.lst (ds.map aq)),some (.fr,.int (c%14)),some (.fr,.int (c / 14)),none,none,none]) (m:=.fr) (d:=Row.d (.pt KH ((n+2+c / 14%(many-1))%many))) (by
   rw [bp (by rw [KJ,q4])]
   walk_at "go"
   rw [ZC]
   walk_at "go"
   rfl)]
  rfl
 |false =>
  rw [dJ (by rw [KJ,q4])]
  by_cases q5:c%14=12
  ·have m0:=Int.emod_nonneg (c / 14) (show many≠0 by omega)
   have m1:=Int.emod_lt_of_pos (c / 14) (show 0 < many by omega)
   refine ⟨.go (c / 14%many),?_,(fun t e=>by cases e;exact ⟨m0,m1⟩),(fun a t e=>nomatch e)⟩
   rw [dq (e':=[some (.al,.int c),some (.al,.int n),some (.al,.int many),some (.al,.lst (fs.map .str)),some (.al,.lst (ds.map aq)),some (.fr,.int (c%14)),some (.fr,.int (c / 14)),none,none,none]) (m:=.fr) (d:=Row.d (.go (c / 14%many))) (by
    rw [bp (by walk_at "ev"; simp only [q5,decide_true])]
    walk_at "go"
    rfl)]
   rfl
  ·refine ⟨.en,?_,np rfl rfl⟩
   rw [dJ (by walk_at "ev"; simp only [q5,decide_false])]
   rfl
noncomputable def zO (k:Nat) (e:Ev):Nat:=match e[k]? with
 |some (some (_,.bl true))=>1
 |_=>0
theorem x5 {ks:List Nat}{x N:Nat} (h1:ks.Nodup) (h2:∀ y∈ks,y < N) (hx:x∉ks) (hN:x < N):(ks++[x]).Nodup∧∀ y∈ks++[x],y < N:=by
 refine ⟨?_,fun y hy=>?_⟩
 ·rw [List.nodup_append]
  refine ⟨h1,by simp,fun a ha b hb=>?_⟩
  have:b=x:=by simpa using hb
  subst this
  exact fun z=>hx (z▸ha)
 ·rcases List.mem_append.mp hy with z|z
  ·exact h2 y z
  ·have:y=x:=by simpa using z
   omega
structure Gr (N:Nat) (ks:List Nat) (mo:Bool) (cJ:List Nat) (cZ:Bool):Prop where
 nd:cJ.Nodup
 lt:∀ x∈cJ,x < N
 sub:∀ x∈ks,x∈cJ
 le:ks.length≤cJ.length
 more:cZ=true→mo=true∨ks.length < cJ.length
theorem Gr.refl {N:Nat}{ks:List Nat}{mo:Bool} (h1:ks.Nodup) (h2:∀ x∈ks,x < N):Gr N ks mo ks mo:=⟨h1,h2,fun _ h=>h,Nat.le_refl _,fun h=>.inl h⟩
theorem Gr.trans {N:Nat}{ks xc oY:List Nat}{mo oZ pf:Bool} (a:Gr N ks mo xc oZ) (b:Gr N xc oZ oY pf):Gr N ks mo oY pf:=by
 have h1:=a.le
 have h2:=b.le
 refine ⟨b.nd,b.lt,fun x h=>b.sub x (a.sub x h),by omega,fun h=>?_⟩
 rcases b.more h with z|z
 ·rcases a.more z with w|w
  ·exact .inl w
  ·exact .inr (by omega)
 ·exact .inr (by omega)
theorem Wj {N:Nat} (hN:N≤800) (A0:Option (M×D)) (b:Bool) {ks:List Nat}{mo:Bool} (h1:ks.Nodup) (h2:∀ x∈ks,x < N) {n m:Nat} (hn:n < N) (hm:m < N) (o6 o7:Option (M×D)) :
  ∃ cJ cZ cg bC,sC [A0,some (.al,.bl b),some (.bo,.dk (aO ks)),some (.fr,.int (n:Int)),some (.fr,.bl mo),some (.fr,.int (m:Int)),o6,o7]=some (.nx [A0,some (.al,.bl b),some (.bo,.dk (aO cJ)),some (.fr,.int (n:Int)),some (.fr,.bl cZ),some (.fr,.int (m:Int)),cg,bC])∧Gr N ks mo cJ cZ:=by
 have xg:=lB N ks h1 h2
 have s1:ks.length < sizeLine:=Nat.lt_of_le_of_lt (show ks.length≤800 by omega) (by decide)
 obtain ⟨x,y,hx,hy,e⟩:∃ x y:Nat,x < N∧y < N∧lY (gT 2 (bJ (gN 6) (bJ (gN 7) du))) (ae ak (bE (ag (aQ (ag (jV 5) (ag (jV 3) ah))) (ag (aQ (ag (jV 3) (ag (jV 5) ah))) ah))) (aJ kQ (ag (jV 1) ah))) [A0,some (.al,.bl b),some (.bo,.dk (aO ks)),some (.fr,.int (n:Int)),some (.fr,.bl mo),some (.fr,.int (m:Int)),o6,o7]=some (.nx [A0,some (.al,.bl b),some (.bo,.dk (aO ks)),some (.fr,.int (n:Int)),some (.fr,.bl mo),some (.fr,.int (m:Int)),some (.fr,.int (x:Int)),some (.fr,.int (y:Int))]):=by
  cases b with
  |true=>exact ⟨n,m,hn,hm,rfl⟩
  |false=>exact ⟨m,n,hm,hn,rfl⟩
 unfold sC
 rw [av e]
 have hc:(cX (jB (dO false (jV 6) (jV 2))) (jB (dO true (jV 7) (jV 2)))) [A0,some (.al,.bl b),some (.bo,.dk (aO ks)),some (.fr,.int (n:Int)),some (.fr,.bl mo),some (.fr,.int (m:Int)),some (.fr,.int (x:Int)),some (.fr,.int (y:Int))]=some (decide (x∈ks)&&!decide (y∈ks)):=by
  simp -implicitDefEqProofs only [cX,jB,dO,jV,jQ,keyOf,gz,gy,id_eq,oq,uV,bj,if_true,Bool.false_eq_true,if_false]
  cases decide (x∈ks)<;>rfl
 cases hb:(decide (x∈ks)&&!decide (y∈ks)) with
 |false =>
  rw [bH (by rw [hc,hb])]
  exact ⟨ks,mo,_,_,rfl,.refl h1 h2⟩
 |true =>
  have KL:y∉ks:=by
   intro z;simp [z] at hb
  rw [bp (by rw [hc,hb])]
  obtain ⟨n1,n2⟩:=x5 h1 h2 KL hy
  refine ⟨ks++[y],true,some (.fr,.int (x:Int)),some (.fr,.int (y:Int)),?_,n1,n2,(fun z hz=>List.mem_append_left _ hz),by simp,fun _=>.inr (by simp)⟩
  simp -implicitDefEqProofs only [aj,iY,ao,jV,jC,keyOf,gz,gy,id_eq,oq,dZ,if_true,jR,own,ql,s1,yB KL,tz,tq,fA]
theorem Wk {rs:List Row} (g:Good rs) (hN:rs.length≤800) (b:Bool) {ks:List Nat}{mo:Bool} (h1:ks.Nodup) (h2:∀ x∈ks,x < rs.length) {n:Nat} (hn:n < rs.length) (o5 o6 o7:Option (M×D)) :
  ∃ cJ cZ dC cg bC,sD [some (.al,.lst (rs.map Row.d)),some (.al,.bl b),some (.bo,.dk (aO ks)),some (.fr,.int (n:Int)),some (.fr,.bl mo),o5,o6,o7]=some (.nx [some (.al,.lst (rs.map Row.d)),some (.al,.bl b),some (.bo,.dk (aO cJ)),some (.fr,.int (n:Int)),some (.fr,.bl cZ),dC,cg,bC])∧Gr rs.length ks mo cJ cZ:=by
 have hr:rs[n]?=some (rs[n]'hn):=by simp
 have ef:=Eg rs n _ hr
 have er:bf n (rs[n]'hn)=cF rs n:=by unfold cF;rw [hr]
 rw [er,FC g] at ef
 have hm:∀ m∈fm rs n,m < rs.length:=fun m h=>by obtain ⟨_,_,_,z⟩:=ua g h;exact z
 generalize fm rs n=ms at ef hm
 obtain ⟨e',l1,cJ,cZ,dC,cg,bC,he,hg⟩:=cP (g:=gN 5) (b:=sC) (m:=.fr) (ds:=au ms) (e:=[some (.al,.lst (rs.map Row.d)),some (.al,.bl b),some (.bo,.dk (aO ks)),some (.fr,.int (n:Int)),some (.fr,.bl mo),o5,o6,o7])
  (fun _ e=>∃ (cJ:List Nat) (cZ:Bool) (o5 o6 o7:Option (M×D)),e=[some (.al,.lst (rs.map Row.d)),some (.al,.bl b),some (.bo,.dk (aO cJ)),some (.fr,.int (n:Int)),some (.fr,.bl cZ),o5,o6,o7]∧Gr rs.length ks mo cJ cZ)
  ⟨ks,mo,o5,o6,o7,rfl,.refl h1 h2⟩
  (fun i d e hd aZ=>by
   obtain ⟨xc,oZ,o5,o6,o7,he,hg⟩:=aZ
   subst he
   obtain ⟨m,rZ,rfl⟩:∃ m∈ms,d=.int (m:Int):=by
    obtain ⟨x,hx,rfl⟩:=List.mem_map.mp (List.mem_of_getElem? hd);exact ⟨x,hx,rfl⟩
   obtain ⟨oY,pf,cg,bC,q,Bc⟩:=Wj hN (some (.al,.lst (rs.map Row.d))) b (mo:=oZ) hg.nd hg.lt hn (hm m rZ) o6 o7
   exact ⟨_,_,rfl,q,oY,pf,_,cg,bC,rfl,hg.trans Bc⟩)
 subst he
 refine ⟨cJ,cZ,dC,cg,bC,?_,hg⟩
 unfold sD
 simp -implicitDefEqProofs only [aY,bO,ax,ag,ah,jV,gz,gy,id_eq,oq,mq,mn,ef,bX,oy]
 exact l1
theorem Wm {rs:List Row} (g:Good rs) (hN:rs.length≤800) (b:Bool) {ks:List Nat} (h1:ks.Nodup) (h2:∀ x∈ks,x < rs.length) (o3 o4 o5 o6 o7:Option (M×D)) :
  ∃ cJ cZ dW dC cg bC,sE [some (.al,.lst (rs.map Row.d)),some (.al,.bl b),some (.bo,.dk (aO ks)),o3,o4,o5,o6,o7]=some (.nx [some (.al,.lst (rs.map Row.d)),some (.al,.bl b),some (.bo,.dk (aO cJ)),dW,some (.fr,.bl cZ),dC,cg,bC])∧Gr rs.length ks false cJ cZ:=by
 obtain ⟨e',l1,cJ,cZ,dW,dC,cg,bC,he,hg⟩:=cP (g:=gN 3) (b:=sD) (m:=.fr) (ds:=bT 0 rs.length) (e:=[some (.al,.lst (rs.map Row.d)),some (.al,.bl b),some (.bo,.dk (aO ks)),o3,some (.fr,.bl false),o5,o6,o7])
  (fun _ e=>∃ (cJ:List Nat) (cZ:Bool) (o3 o5 o6 o7:Option (M×D)),e=[some (.al,.lst (rs.map Row.d)),some (.al,.bl b),some (.bo,.dk (aO cJ)),o3,some (.fr,.bl cZ),o5,o6,o7]∧Gr rs.length ks false cJ cZ)
  ⟨ks,false,o3,o5,o6,o7,rfl,.refl h1 h2⟩
  (fun i d e hd aZ=>by
   obtain ⟨xc,oZ,o3,o5,o6,o7,he,hg⟩:=aZ
   subst he
   obtain ⟨hi,rfl⟩:=jA hd
   rw [show (0:Int)+(i:Int)=(i:Int) by omega]
   obtain ⟨oY,pf,dC,cg,bC,q,Bc⟩:=Wk g hN b (mo:=oZ) hg.nd hg.lt hi o5 o6 o7
   exact ⟨_,_,rfl,q,oY,pf,_,dC,cg,bC,rfl,hg.trans Bc⟩)
 subst he
 refine ⟨cJ,cZ,dW,dC,cg,bC,?_,hg⟩
 have bY:-4611686018427387904≤(rs.length:Int)∧(rs.length:Int) < 4611686018427387904:=by omega
 have ht:(rs.length:Int).toNat=rs.length:=by omega
 unfold sE
 rw [av (e':=[some (.al,.lst (rs.map Row.d)),some (.al,.bl b),some (.bo,.dk (aO ks)),o3,some (.fr,.bl false),o5,o6,o7]) rfl]
 simp -implicitDefEqProofs only [aY,bP,aJ,ag,ah,jV,gz,gy,id_eq,oq,cW,ln,bY,and_self,if_true,ht]
 exact l1
theorem Gx {rs:List Row} (g:Good rs) (hN:rs.length≤800) (b:Bool):∃ ks,pv [.lst (rs.map Row.d),.bl b]=some (.un,.dk (aO ks))∧ks.Nodup∧(∀ x∈ks,x < rs.length)∧(b=true→0∈ks):=by
 have bY:-4611686018427387904≤(rs.length:Int)∧(rs.length:Int) < 4611686018427387904:=by omega
 have ht:(rs.length:Int).toNat=rs.length:=by omega
 have hp:=g.pos
 unfold pv fn Bv
 simp only [ck,bq,bw]
 rw [av (e':=[some (.al,.lst (rs.map Row.d)),some (.al,.bl b),some (.bo,.dk (aO [0])),none,none,none,none,none]) rfl]
 have S:∃ ks o3,(aK (fC (jB (jV 1))) (aj (ao 2 nH) (aY (bP (ag (aJ bz (ag (jV 0) ah)) ah)) (gN 3) ph)) aR) [some (.al,.lst (rs.map Row.d)),some (.al,.bl b),some (.bo,.dk (aO [0])),none,none,none,none,none]=some (.nx [some (.al,.lst (rs.map Row.d)),some (.al,.bl b),some (.bo,.dk (aO ks)),o3,none,none,none,none])∧ks.Nodup∧(∀ x∈ks,x < rs.length)∧(b=true→0∈ks):=by
  cases b with
  |true =>
   exact ⟨[0],none,rfl,by simp,fun x h=>by simp at h;omega,fun _=>by simp⟩
  |false =>
   obtain ⟨e',l1,ks,o3,he,h1,h2⟩:=cP (g:=gN 3) (b:=ph) (m:=.fr) (ds:=bT 0 rs.length) (e:=[some (.al,.lst (rs.map Row.d)),some (.al,.bl false),some (.bo,.dk (aO [])),none,none,none,none,none])
    (fun i e=>∃ (ks:List Nat) (o3:Option (M×D)),e=[some (.al,.lst (rs.map Row.d)),some (.al,.bl false),some (.bo,.dk (aO ks)),o3,none,none,none,none]∧ks.Nodup∧∀ x∈ks,x < i)
    ⟨[],none,rfl,List.nodup_nil,fun x h=>nomatch h⟩
    (fun i d e hd aZ=>by
     obtain ⟨ks,o3,he,h1,h2⟩:=aZ
     subst he
     obtain ⟨hi,rfl⟩:=jA hd
     rw [show (0:Int)+(i:Int)=(i:Int) by omega]
     have xg:=lB i ks h1 h2
     have s1:ks.length < sizeLine:=Nat.lt_of_le_of_lt (show ks.length≤800 by omega) (by decide)
     have hr:rs[i]?=some (rs[i]'hi):=by simp
     generalize rs[i]'hi=r at hr
     have ar:=jE hr
     have hc:(jB (ae aN (ae ak (ae ak (jV 0) (jV 3)) (jC (.int 0))) (jC (.str "end")))) [some (.al,.lst (rs.map Row.d)),some (.al,.bl false),some (.bo,.dk (aO ks)),some (.fr,.int (i:Int)),none,none,none,none]=some (Row.dP r):=by
      simp -implicitDefEqProofs only [jB,ae,jV,jC,gz,gy,id_eq,oq,cL,ar,oy,cU,de,bj,gU]
     have KN:i∉ks:=fun z=>by have:=h2 i z;omega
     cases hb:Row.dP r with
     |false =>
      refine ⟨_,[some (.al,.lst (rs.map Row.d)),some (.al,.bl false),some (.bo,.dk (aO ks)),some (.fr,.int (i:Int)),none,none,none,none],rfl,?_,ks,_,rfl,h1,fun x hx=>by have:=h2 x hx;omega⟩
      unfold ph
      exact (bH (hc.trans (by rw [hb]))).trans rfl
     |true =>
      obtain ⟨n1,n2⟩:=x5 (N:=i+1) h1 (fun x hx=>by have:=h2 x hx;omega) KN (by omega)
      refine ⟨_,[some (.al,.lst (rs.map Row.d)),some (.al,.bl false),some (.bo,.dk (aO (ks++[i]))),some (.fr,.int (i:Int)),none,none,none,none],rfl,?_,ks++[i],_,rfl,n1,n2⟩
      unfold ph
      refine (bp (by exact hc.trans (by rw [hb]))).trans ?_
      simp -implicitDefEqProofs only [iY,jV,jC,keyOf,gz,gy,id_eq,oq,dZ,if_true,jR,own,ql,s1,yB KN,tz,tq])
   subst he
   rw [iQ] at h2
   refine ⟨ks,o3,?_,h1,h2,fun z=>nomatch z⟩
   rw [bp rfl,av (e':=[some (.al,.lst (rs.map Row.d)),some (.al,.bl false),some (.bo,.dk (aO [])),none,none,none,none,none]) rfl]
   simp -implicitDefEqProofs only [aY,bP,aJ,ag,ah,jV,gz,gy,id_eq,oq,cW,ln,bY,and_self,if_true,ht]
   exact l1
 obtain ⟨Bd,Be,e0,a1,a2,a3⟩:=S
 rw [av e0]
 rw [av (e':=[some (.al,.lst (rs.map Row.d)),some (.al,.bl b),some (.bo,.dk (aO Bd)),Be,some (.fr,.bl true),none,none,none]) rfl]
 obtain ⟨e',l1,⟨ks,mo,o3,o5,o6,o7,he,h1,h2,h3⟩,_⟩:=CG (c:=xj) (b:=sE) (e:=[some (.al,.lst (rs.map Row.d)),some (.al,.bl b),some (.bo,.dk (aO Bd)),Be,some (.fr,.bl true),none,none,none])
  (fun e=>∃ (ks:List Nat) (mo:Bool) (o3 o5 o6 o7:Option (M×D)),e=[some (.al,.lst (rs.map Row.d)),some (.al,.bl b),some (.bo,.dk (aO ks)),o3,some (.fr,.bl mo),o5,o6,o7]∧ks.Nodup∧(∀ x∈ks,x < rs.length)∧(b=true→0∈ks))
  (fun e=>rs.length-A7 2 e+zO 4 e)
  ⟨Bd,true,Be,none,none,none,rfl,a1,a2,a3⟩
  (fun e aZ=>by
   obtain ⟨ks,mo,o3,o5,o6,o7,he,h1,h2,h3⟩:=aZ
   subst he
   have hC:xj [some (.al,.lst (rs.map Row.d)),some (.al,.bl b),some (.bo,.dk (aO ks)),o3,some (.fr,.bl mo),o5,o6,o7]=some mo:=rfl
   cases mo with
   |false=>exact .inl hC
   |true =>
    obtain ⟨cJ,cZ,dW,dC,cg,bC,q,hg⟩:=Wm g hN b h1 h2 o3 (some (.fr,.bl true)) o5 o6 o7
    refine .inr ⟨hC,_,q,⟨cJ,cZ,dW,dC,cg,bC,rfl,hg.nd,hg.lt,fun z=>hg.sub 0 (h3 z)⟩,?_⟩
    have b1:=lB _ _ h1 h2
    have b2:=lB _ _ hg.nd hg.lt
    have b3:=hg.le
    cases cZ with
    |false=>simp only [A7,zO,gz,gy,ql];omega
    |true =>
     have:=hg.more rfl
     simp only [A7,zO,gz,gy,ql]
     rcases this with z|z
     ·cases z
     ·omega)
 subst he
 rw [av l1]
 exact ⟨ks,rfl,h1,h2,h3⟩
theorem Em {g:M×D→Ev→Option Ev}{b:Ev→Option Fl}{m:M} (Iv:Ev→Prop) (Rt:M→D→Prop):∀ {ds:List D}{e:Ev},Iv e →
  (∀ d∈ds,∀ e,Iv e→∃ e1,g (m,d) e=some e1∧((∃ e2,b e1=some (.nx e2)∧Iv e2)∨∃ e2 m' d',b e1=some (.rt e2 m' d')∧Rt m' d')) →
  (∃ e',forL g b m ds e=some (.nx e')∧Iv e')∨∃ e' m' d',forL g b m ds e=some (.rt e' m' d')∧Rt m' d'
 |[],e,h0,_=>.inl ⟨e,rfl,h0⟩
 |d::ds,e,h0,hs=>by
  obtain ⟨e1,h1,⟨e2,h2,h3⟩|⟨e2,m',d',h2,h3⟩⟩:=hs d List.mem_cons_self e h0
  ·simp only [forL,h1,h2,oq]
   exact Em Iv Rt h3 fun x hx=>hs x (List.mem_cons_of_mem _ hx)
  ·exact .inr ⟨e2,m',d',by simp only [forL,h1,h2,oq],h3⟩
noncomputable def fK (N:Nat) (ks:List Nat):List Nat:=(List.range N).filter fun n=>!decide (n∈ks)
theorem Dv {mo:M}{N:Nat}{ks:List Nat}:cV (jB (dO true (jV 0) (jV 1))) (jV 0) .fr [some (mo,.dk (aO ks))] (bT 0 N)=some ((au (fK N ks)).map fun x=>(M.fr,x)):=by
 rw [ur]
 refine pI _ fun k _=>⟨?_,rfl⟩
 simp -implicitDefEqProofs only [jB,dO,jV,jQ,keyOf,gz,gy,id_eq,oq,uV,bj,if_true]
theorem En (N:Nat) (ks:List Nat):(fK N ks).length≤N:=by
 have:=List.length_filter_le (fun n=>!decide (n∈ks)) (List.range N)
 rw [List.length_range] at this;exact this
theorem Eo {N:Nat}{ks:List Nat}{n:Nat} (h:n∈fK N ks):n < N∧n∉ks:=by
 obtain ⟨h1,h2⟩:=List.mem_filter.mp h
 exact ⟨List.mem_range.mp h1,by simpa using h2⟩
theorem Um {l:List Nat} (h:l≠[]):∃ x∈l,L2.bt (au l) (-1)=some (.int (x:Int)):=by
 have hp:0 < l.length:=List.length_pos_iff.mpr h
 refine ⟨l[l.length-1]'(by omega),List.getElem_mem _,?_⟩
 unfold L2.bt L2.cT
 rw [if_neg (by decide),dn,if_pos (by omega),oq,show (-1+(l.length:Int)).toNat=l.length-1 by omega,au,List.getElem?_map,List.getElem?_eq_getElem (by omega)]
 rfl
theorem FD (t:Int):jF [(M.fr,D.str "say"),(.fr,.int t)]=some (.fr,Row.d (.sy (.inl t))):=rfl
theorem Up {rs:List Row} (g:Good rs) (hN:rs.length≤200) (t:Int) (o3 o4 o5 o6:Option (M×D)) :
  (∃ bD dW kf dC cg,pw [some (.bi,.lst (rs.map Row.d)),some (.fr,.int ((rs.length:Int)-1)),some (.fr,.int t),o3,o4,o5,o6]=some (.nx [some (.bi,.lst (bD.map Row.d)),some (.fr,.int ((rs.length:Int)-1)),some (.fr,.int t),dW,kf,dC,cg])∧Good bD∧bD.length=rs.length) ∨
  ∃ e',pw [some (.bi,.lst (rs.map Row.d)),some (.fr,.int ((rs.length:Int)-1)),some (.fr,.int t),o3,o4,o5,o6]=some (.rt e' .bi (.lst (rs.map Row.d))):=by
 have bY:-4611686018427387904≤(rs.length:Int)∧(rs.length:Int) < 4611686018427387904:=by omega
 have ht:(rs.length:Int).toNat=rs.length:=by omega
 have hp:=g.pos
 obtain ⟨k1,e1,n1,b1,z1⟩:=Gx g (by omega) true
 obtain ⟨k2,e2,n2,b2,_⟩:=Gx g (by omega) false
 have ml1:=En rs.length k1
 have ml2:=En rs.length k2
 unfold pw
 rw [av (e':=[some (.bi,.lst (rs.map Row.d)),some (.fr,.int ((rs.length:Int)-1)),some (.fr,.int t),some (.bo,.dk (aO k1)),o4,o5,o6]) (by
  simp -implicitDefEqProofs only [ao,ax,ag,ah,jV,jC,gz,gy,id_eq,oq,mq,mn,e1,fO,tz,tq])]
 rw [av (e':=[some (.bi,.lst (rs.map Row.d)),some (.fr,.int ((rs.length:Int)-1)),some (.fr,.int t),some (.bo,.dk (aO k1)),some (.bo,.dk (aO k2)),o5,o6]) (by
  simp -implicitDefEqProofs only [ao,ax,ag,ah,jV,jC,gz,gy,id_eq,oq,mq,mn,e2,fO,tz,tq])]
 rw [av (e':=[some (.bi,.lst (rs.map Row.d)),some (.fr,.int ((rs.length:Int)-1)),some (.fr,.int t),some (.bo,.dk (aO k1)),some (.bo,.dk (aO k2)),some (.bo,.lst (au (fK rs.length k1))),o6]) (by
  simp -implicitDefEqProofs only [ao,cf,bP,aJ,ag,ah,jV,gz,gy,id_eq,oq,cW,ln,bY,and_self,if_true,ht]
  rw [show eW [some (.bi,.lst (rs.map Row.d)),some (.fr,.int ((rs.length:Int)-1)),some (.fr,.int t),some (.bo,.dk (aO k1)),some (.bo,.dk (aO k2)),o5,o6] [3]=[some (.bo,.dk (aO k1))] from rfl,Dv,oq,gG (by rw [dn];omega),oq]
  rfl)]
 rw [av (e':=[some (.bi,.lst (rs.map Row.d)),some (.fr,.int ((rs.length:Int)-1)),some (.fr,.int t),some (.bo,.dk (aO k1)),some (.bo,.dk (aO k2)),some (.bo,.lst (au (fK rs.length k1))),some (.bo,.lst (au (fK rs.length k2)))]) (by
  simp -implicitDefEqProofs only [ao,cf,bP,aJ,ag,ah,jV,gz,gy,id_eq,oq,cW,ln,bY,and_self,if_true,ht]
  rw [show eW [some (.bi,.lst (rs.map Row.d)),some (.fr,.int ((rs.length:Int)-1)),some (.fr,.int t),some (.bo,.dk (aO k1)),some (.bo,.dk (aO k2)),some (.bo,.lst (au (fK rs.length k1))),o6] [4]=[some (.bo,.dk (aO k2))] from rfl,Dv,oq,gG (by rw [dn];omega),oq]
  rfl)]
 have c5:(jB (ae fS (jV 5) (bE ah))) [some (.bi,.lst (rs.map Row.d)),some (.fr,.int ((rs.length:Int)-1)),some (.fr,.int t),some (.bo,.dk (aO k1)),some (.bo,.dk (aO k2)),some (.bo,.lst (au (fK rs.length k1))),some (.bo,.lst (au (fK rs.length k2)))]=some (!(fK rs.length k1).isEmpty):=by
  simp -implicitDefEqProofs only [jB,ae,jV,bE,ah,gz,gy,id_eq,oq]
  rw [show fP []=some (.un,.lst []) from rfl,oq,Ej]
  rfl
 have c6:(jB (ae fS (jV 6) (bE ah))) [some (.bi,.lst (rs.map Row.d)),some (.fr,.int ((rs.length:Int)-1)),some (.fr,.int t),some (.bo,.dk (aO k1)),some (.bo,.dk (aO k2)),some (.bo,.lst (au (fK rs.length k1))),some (.bo,.lst (au (fK rs.length k2)))]=some (!(fK rs.length k2).isEmpty):=by
  simp -implicitDefEqProofs only [jB,ae,jV,bE,ah,gz,gy,id_eq,oq]
  rw [show fP []=some (.un,.lst []) from rfl,oq,Ej]
  rfl
 cases rX:fK rs.length k1 with
 |cons l0 lr =>
  rw [rX] at c5 c6
  obtain ⟨q1,q2⟩:=Eo (N:=rs.length) (ks:=k1) (n:=l0) (by rw [rX];exact List.mem_cons_self)
  have h0:l0≠0:=fun z=>q2 (z▸z1 rfl)
  rw [bp (by rw [c5];rfl)]
  refine .inl ⟨rs.set (l0-1) (.sy (.inl t)),_,_,_,_,jt (j:=l0-1) (r:=.sy (.inl t)) (mo:=.bi) (m':=.fr) rfl rfl ?_ ?_ (by omega),g.set fun m hm=>?_,by simp⟩
  ·simp -implicitDefEqProofs only [aQ,ag,ah,jV,jC,gz,gy,id_eq,oq,FD]
  ·simp -implicitDefEqProofs only [ae,jV,jC,gz,gy,id_eq,oq,cL]
   rw [show au (l0::lr)=.int (l0:Int)::au lr from rfl,Gu]
   simp -implicitDefEqProofs only [oy,oq,yn]
   rw [show (l0:Int)-1=((l0-1:Nat):Int) by omega]
  ·have:m=((l0-1:Nat):Int)+1:=by simpa [aL.bf] using hm
   omega
 |nil =>
  rw [rX] at c5 c6
  rw [bH (by rw [c5];rfl)]
  cases rY:fK rs.length k2 with
  |nil =>
   rw [rY] at c6
   right
   rw [bH (by unfold cX;rw [c6];rfl),bH (by rw [c6];rfl)]
   exact ⟨_,rfl⟩
  |cons d0 dr =>
   rw [rY] at c6
   left
   obtain ⟨x,hx,ex⟩:=Um (l:=d0::dr) (List.cons_ne_nil _ _)
   obtain ⟨q1,_⟩:=Eo (N:=rs.length) (ks:=k2) (n:=x) (by rw [rY];exact hx)
   have ix:(ae ak (jV 6) (bN df (jC (.int 1)))) [some (.bi,.lst (rs.map Row.d)),some (.fr,.int ((rs.length:Int)-1)),some (.fr,.int t),some (.bo,.dk (aO k1)),some (.bo,.dk (aO k2)),some (.bo,.lst (au [])),some (.bo,.lst (au (d0::dr)))]=some (.fr,.int (x:Int)):=by
    simp -implicitDefEqProofs only [ae,bN,jV,jC,gz,gy,id_eq,oq,iX,cL,ex,oy,jz]
   have c7:(cX (jB (ae fS (jV 6) (bE ah))) (jB (ae aN (ae ak (jV 6) (bN df (jC (.int 1)))) (jV 1)))) [some (.bi,.lst (rs.map Row.d)),some (.fr,.int ((rs.length:Int)-1)),some (.fr,.int t),some (.bo,.dk (aO k1)),some (.bo,.dk (aO k2)),some (.bo,.lst (au [])),some (.bo,.lst (au (d0::dr)))]=some (decide ((x:Int)=(rs.length:Int)-1)):=by
    unfold cX
    rw [c6,show (some (!(d0::dr).isEmpty):Option Bool)=some true from rfl,oq,if_pos rfl]
    unfold jB ae
    rw [show (((jV 6) [some (.bi,.lst (rs.map Row.d)),some (.fr,.int ((rs.length:Int)-1)),some (.fr,.int t),some (.bo,.dk (aO k1)),some (.bo,.dk (aO k2)),some (.bo,.lst (au [])),some (.bo,.lst (au (d0::dr)))]).bind fun ZD=>((bN df (jC (.int 1))) [some (.bi,.lst (rs.map Row.d)),some (.fr,.int ((rs.length:Int)-1)),some (.fr,.int t),some (.bo,.dk (aO k1)),some (.bo,.dk (aO k2)),some (.bo,.lst (au [])),some (.bo,.lst (au (d0::dr)))]).bind fun y=>ak ZD y)=some (.fr,.int (x:Int)) from ix]
    simp -implicitDefEqProofs only [jV,gz,gy,id_eq,oq,jG,bj]
   by_cases q2:(x:Int)=(rs.length:Int)-1
   ·rw [bp (by rw [c7,decide_eq_true q2])]
    refine ⟨rs.set (rs.length-1) .en,_,_,_,_,jt (j:=rs.length-1) (r:=.en) (mo:=.bi) (m':=.fr) rfl rfl rfl ?_ (by omega),g.set fun m hm=>by simp [aL.bf] at hm,by simp⟩
    simp -implicitDefEqProofs only [jV,gz,gy,id_eq,oq]
    rw [show (rs.length:Int)-1=((rs.length-1:Nat):Int) by omega]
   ·rw [bH (by rw [c7,decide_eq_false q2]),bp (by rw [c6];rfl)]
    refine ⟨rs.set x (.sy (.inl t)),_,_,_,_,jt (j:=x) (r:=.sy (.inl t)) (mo:=.bi) (m':=.fr) rfl rfl ?_ ix (by omega),g.set fun m hm=>?_,by simp⟩
    ·simp -implicitDefEqProofs only [aQ,ag,ah,jV,jC,gz,gy,id_eq,oq,FD]
    ·have:m=(x:Int)+1:=by simpa [aL.bf] using hm
     omega
theorem QS {rs:List Row} (hp:0 < rs.length) (hN:rs.length≤200) (hT:∀ r∈rs,Tg rs.length r):∃ bD:List Row,pF [.lst (rs.map Row.d)]=some (.lst (bD.map Row.d))∧Good bD∧bD.length=rs.length:=by
 have fin:∀ {bD:List Row}{e:Ev},kC (.rt e .bi (.lst (bD.map Row.d)))=some (.lst (bD.map Row.d)):=fun {bD e}=>by
  simp only [kC,own,gD,lC,and_self,if_true]
 unfold pF i7 BJ
 rw [show (iR [0] [D.lst (rs.map Row.d)]++List.replicate (7 - [D.lst (rs.map Row.d)].length) none:Ev)=[some (.bi,.lst (rs.map Row.d)),none,none,none,none,none,none] from rfl]
 rw [av (e':=[some (.bi,.lst (rs.map Row.d)),some (.fr,.int ((rs.length:Int)-1)),none,none,none,none,none]) (by walk_at "ev")]
 have lR:rs[rs.length-1]?=some (rs[rs.length-1]'(by omega)):=by simp
 generalize rs[rs.length-1]'(by omega)=rz at lR
 have az:=jE lR
 rw [show ((rs.length-1:Nat):Int)=(rs.length:Int)-1 by omega] at az
 have S:∃ r1:List Row,Good r1∧r1.length=rs.length∧aK (jB (ae ft (ae ak (ae ak (jV 0) (jV 1)) (jC (.int 0))) (jC (.str "go")))) (c9 0 (jV 1) (aQ (ag (jC (.str "end")) ah))) aR [some (.bi,.lst (rs.map Row.d)),some (.fr,.int ((rs.length:Int)-1)),none,none,none,none,none]=some (.nx [some (.bi,.lst (r1.map Row.d)),some (.fr,.int ((rs.length:Int)-1)),none,none,none,none,none]):=by
  have hc:(jB (ae ft (ae ak (ae ak (jV 0) (jV 1)) (jC (.int 0))) (jC (.str "go")))) [some (.bi,.lst (rs.map Row.d)),some (.fr,.int ((rs.length:Int)-1)),none,none,none,none,none]=some (!Row.cy rz):=by
   simp -implicitDefEqProofs only [jB,ae,jV,jC,gz,gy,id_eq,oq,cL,az,oy,cU,Ge,bj,fT]
  have KP:∀ (n:Nat) r,rs[n]?=some r→n+1 < rs.length→∀ m∈bf n r,0≤m∧m < rs.length:=fun n r hr hn m hm=>by
   obtain ⟨t1,t2⟩:=hT r (List.mem_of_getElem? hr)
   cases r with
   |en=>simp [aL.bf] at hm
   |go t =>
    have:m=t:=by simpa [aL.bf] using hm
    have:=t1 t rfl;omega
   |pt a t =>
    have:m=(n:Int)+1∨m=t:=by simpa [aL.bf] using hm
    have:=t2 a t rfl;omega
   |rk x s a b =>
    have:m=(n:Int)+1:=by simpa [aL.bf] using hm
    omega
   |cp x a =>
    have:m=(n:Int)+1:=by simpa [aL.bf] using hm
    omega
   |sy a =>
    have:m=(n:Int)+1:=by simpa [aL.bf] using hm
    omega
  cases hg:Row.cy rz with
  |true =>
   refine ⟨rs,⟨hp,fun n r hr m hm=>?_⟩,rfl,by rw [bH (by rw [hc,hg];rfl)];rfl⟩
   by_cases hn:n+1 < rs.length
   ·exact KP n r hr hn m hm
   ·have aS:n < rs.length:=(List.getElem?_eq_some_iff.mp hr).1
    have:n=rs.length-1:=by omega
    subst this
    rw [lR] at hr;cases hr
    obtain ⟨t,rfl⟩:=yC.mp hg
    have:m=t:=by simpa [aL.bf] using hm
    have:=(hT _ (List.mem_of_getElem? lR)).1 t rfl;omega
  |false =>
   refine ⟨rs.set (rs.length-1) .en,⟨by simpa using hp,fun n r hr m hm=>?_⟩,by simp,by
    rw [bp (by rw [hc,hg];rfl)]
    refine jt (j:=rs.length-1) (r:=.en) (mo:=.bi) (m':=.fr) rfl rfl rfl ?_ (by omega)
    simp -implicitDefEqProofs only [jV,gz,gy,id_eq,oq]
    rw [show (rs.length:Int)-1=((rs.length-1:Nat):Int) by omega]⟩
   rw [List.length_set]
   rw [List.getElem?_set] at hr
   split at hr
   ·split at hr
    ·cases hr;simp [aL.bf] at hm
    ·cases hr
   ·rename_i eO
    have aS:n < rs.length:=(List.getElem?_eq_some_iff.mp hr).1
    exact KP n r hr (by omega) m hm
 obtain ⟨r1,g1,l1,e1⟩:=S
 rw [av e1]
 have bY:-4611686018427387904≤2*(rs.length:Int)∧2*(rs.length:Int) < 4611686018427387904:=by omega
 have L:=Em (g:=gN 2) (b:=pw) (m:=.fr) (ds:=bT 0 (2*(rs.length:Int)).toNat) (e:=[some (.bi,.lst (r1.map Row.d)),some (.fr,.int ((rs.length:Int)-1)),none,none,none,none,none])
  (fun e=>∃ (r2:List Row) (o2 o3 o4 o5 o6:Option (M×D)),e=[some (.bi,.lst (r2.map Row.d)),some (.fr,.int ((rs.length:Int)-1)),o2,o3,o4,o5,o6]∧Good r2∧r2.length=rs.length)
  (fun m d=>m=.bi∧∃ r2:List Row,d=.lst (r2.map Row.d)∧Good r2∧r2.length=rs.length)
  ⟨r1,none,none,none,none,none,rfl,g1,l1⟩
  (fun d hd e aZ=>by
   obtain ⟨r2,o2,o3,o4,o5,o6,he,g2,l2⟩:=aZ
   subst he
   obtain ⟨t,rfl⟩:∃ t:Int,d=.int t:=by
    obtain ⟨k,_,rfl⟩:=List.mem_map.mp hd;exact ⟨_,rfl⟩
   refine ⟨_,rfl,?_⟩
   rcases Up g2 (by omega) t o3 o4 o5 o6 with ⟨r3,dW,kf,dC,cg,q,g3,l3⟩|⟨e',q⟩
   ·rw [l2] at q
    exact .inl ⟨_,q,r3,_,dW,kf,dC,cg,rfl,g3,by omega⟩
   ·rw [l2] at q
    exact .inr ⟨e',.bi,_,q,rfl,r2,rfl,g2,l2⟩)
 have it:(bP (ag (ae eE (jC (.int 2)) (aJ bz (ag (jV 0) ah))) ah)) [some (.bi,.lst (r1.map Row.d)),some (.fr,.int ((rs.length:Int)-1)),none,none,none,none,none]=some (.fr,bT 0 (2*(rs.length:Int)).toNat):=by
  simp -implicitDefEqProofs only [bP,aJ,ae,jC,ag,ah,jV,gz,gy,id_eq,oq,cW,ln,l1]
  rw [Gf (by omega)]
  simp -implicitDefEqProofs only [oq,bY,and_self,if_true]
 rcases L with ⟨e',q,r2,o2,o3,o4,o5,o6,rfl,g2,l2⟩|⟨e',m',d',q,rfl,r2,rfl,g2,l2⟩
 ·refine ⟨r2,?_,g2,l2⟩
  rw [av (e':=[some (.bi,.lst (r2.map Row.d)),some (.fr,.int ((rs.length:Int)-1)),o2,o3,o4,o5,o6]) (by unfold aY;rw [it,oq];exact q)]
  rw [show (aG (jV 0)) [some (.bi,.lst (r2.map Row.d)),some (.fr,.int ((rs.length:Int)-1)),o2,o3,o4,o5,o6]=some (.rt _ .bi (.lst (r2.map Row.d))) from rfl,oq]
  exact fin
 ·refine ⟨r2,?_,g2,l2⟩
  rw [dq (e':=e') (m:=.bi) (d:=.lst (r2.map Row.d)) (by unfold aY;rw [it,oq];exact q),oq]
  exact fin
theorem Ep {P:Row→Prop}:∀ {xs:List D},(∀ x∈xs,∃ r:Row,x=r.d∧P r)→∃ rs:List Row,xs=rs.map Row.d∧∀ r∈rs,P r
 |[],_=>⟨[],rfl,fun _ h=>nomatch h⟩
 |x::xs,h=>by
  obtain ⟨r,rfl,hr⟩:=h x List.mem_cons_self
  obtain ⟨rs,rfl,hs⟩:=Ep fun y hy=>h y (List.mem_cons_of_mem _ hy)
  exact ⟨r::rs,rfl,fun y hy=>by
   rcases List.mem_cons.mp hy with rfl|hy
   ·exact hr
   ·exact hs y hy⟩
theorem Uq {k:Nat}{R:List D} (h1:D.cw R=true):j7 [0] [k] [(0,k)] [(.bo,.lst R)]=true:=by
 simp [j7,List.range_succ,own,gD,h1]
theorem Ur (ns cs:List Int) (hc:cs.length≤40):∃ rs:List Row,su [.lst (ns.map .int),.lst (cs.map .int)]=some (.un,.lst (rs.map Row.d))∧Good rs∧rs.length≤100:=by
 obtain ⟨c0,h0⟩:=lF ns 0 (by omega)
 obtain ⟨fs,kg,rW⟩:=xE c0
 obtain ⟨ds,xa,iI⟩:=xF ns fs (by omega)
 generalize rV:(if (cs.length:Int) > 1 then (cs.length:Int) else 1)=many
 have hm:1≤many∧many≤40∧(0 < cs.length→many=cs.length):=by rw [←rV];split<;>omega
 have fin:∀ rs:List Row,0 < rs.length→rs.length≤40→(∀ r∈rs,Tg rs.length r)→∃ bD:List Row,(jD [5] [(0,5)] pF (ag (jV 5) ah) [some (.al,.lst (ns.map .int)),some (.al,.lst (cs.map .int)),some (.bo,.lst (fs.map .str)),some (.bo,.lst (ds.map aq)),some (.fr,.int many),some (.bo,.lst (rs.map Row.d))]).bind out=some (.un,.lst (bD.map Row.d))∧Good bD∧bD.length≤100:=fun rs h1 h2 h3=>by
  obtain ⟨bD,e,g,l⟩:=QS h1 (by omega) h3
  refine ⟨bD,?_,g,by omega⟩
  simp -implicitDefEqProofs only [jD,ag,ah,jV,gz,gy,id_eq,oq,Uq (lC rs),if_true,mq,mn,e,yq]
 unfold su fn Bl
 simp only [ck,bq,bw]
 rw [av (e':=[some (.al,.lst (ns.map .int)),some (.al,.lst (cs.map .int)),some (.bo,.lst (fs.map .str)),none,none,none]) (by walk_at "ev"; rw [h0];walk_at "ev"; rw [rW];walk_at "ev")]
 rw [av (e':=[some (.al,.lst (ns.map .int)),some (.al,.lst (cs.map .int)),some (.bo,.lst (fs.map .str)),some (.bo,.lst (ds.map aq)),none,none]) (by walk_at "ev"; rw [iI];walk_at "ev")]
 rw [av (e':=[some (.al,.lst (ns.map .int)),some (.al,.lst (cs.map .int)),some (.bo,.lst (fs.map .str)),some (.bo,.lst (ds.map aq)),some (.fr,.int many),none]) (by
  walk_at "ev"
  simp -implicitDefEqProofs only [qH,oq,fA,rV])]
 rw [av (e':=[some (.al,.lst (ns.map .int)),some (.al,.lst (cs.map .int)),some (.bo,.lst (fs.map .str)),some (.bo,.lst (ds.map aq)),some (.fr,.int many),some (.bo,.lst ([Row.en].map Row.d))]) rfl]
 by_cases q:0 < cs.length
 ·have bY:-4611686018427387904≤many∧many < 4611686018427387904:=by omega
  have hme:=hm.2.2 q
  obtain ⟨xs,ex,xl,xp⟩:=J.CH (fc:=dA) (fe:=ax pC (ag (ae ak (jV 4) (jV 0)) (ag (jV 0) (ag (jV 1) (ag (jV 2) (ag (jV 3) ah)))))) (m:=.fr) (fr:=[some (.fr,.int many),some (.bo,.lst (fs.map .str)),some (.bo,.lst (ds.map aq)),some (.al,.lst (cs.map .int))]) (P:=fun x=>∃ r:Row,x=r.d∧Tg many r) (ds:=bT 0 many.toNat) (fun d hd=>by
   obtain ⟨k,hk,rfl⟩:=List.mem_map.mp hd
   have hk:=List.mem_range.mp hk
   obtain ⟨c,vy⟩:=Dc (ns:=cs) (k:=0+(k:Int)) (by omega) (by omega)
   obtain ⟨r,er,hr⟩:=L6 c (0+(k:Int)) many (by omega) fs (by omega) ds (by omega)
   refine ⟨rfl,r.d,?_,r,rfl,hr⟩
   simp -implicitDefEqProofs only [ax,ag,ah,ae,jV,gz,gy,id_eq,oq,cL,vy,oy,mq,mn,er])
  obtain ⟨rs,rfl,hT⟩:=Ep xp
  rw [iQ,ln] at xl
  rw [av (e':=[some (.al,.lst (ns.map .int)),some (.al,.lst (cs.map .int)),some (.bo,.lst (fs.map .str)),some (.bo,.lst (ds.map aq)),some (.fr,.int many),some (.bo,.lst (rs.map Row.d))]) (by
   rw [bp (by walk_at "ev"; rw [decide_eq_true (show (0:Int) < cs.length by omega)])]
   simp -implicitDefEqProofs only [ao,cf,bP,ag,ah,jV,gz,gy,id_eq,oq,bY,and_self,if_true]
   rw [show eW [some (.al,.lst (ns.map .int)),some (.al,.lst (cs.map .int)),some (.bo,.lst (fs.map .str)),some (.bo,.lst (ds.map aq)),some (.fr,.int many),some (.bo,.lst ([Row.en].map Row.d))] [4,2,3,1]=[some (.fr,.int many),some (.bo,.lst (fs.map .str)),some (.bo,.lst (ds.map aq)),some (.al,.lst (cs.map .int))] from rfl,ex,oq,gG (by rw [ln];omega),oq]
   rfl)]
  exact fin rs (by omega) (by omega) fun r hr=>by
   have:=hT r hr
   rw [show (rs.length:Int)=many by omega]
   exact this
 ·rw [av (e':=[some (.al,.lst (ns.map .int)),some (.al,.lst (cs.map .int)),some (.bo,.lst (fs.map .str)),some (.bo,.lst (ds.map aq)),some (.fr,.int many),some (.bo,.lst ([Row.en].map Row.d))]) (by
   rw [bH (by walk_at "ev"; rw [decide_eq_false (show ¬ (0:Int) < cs.length by omega)])];rfl)]
  exact fin [.en] (by simp) (by simp) fun r hr=>by
   have:r=.en:=by simpa using hr
   subst this
   exact ⟨(fun t e=>nomatch e),fun a t e=>nomatch e⟩
theorem Cm (ns cs:List Int) (hc:cs.length≤40):∃ rs:List Row,pD [.lst (ns.map .int),.lst (cs.map .int)]=some (.un,.lst (rs.map Row.d))∧Good rs∧rs.length≤100:=by
 obtain ⟨b,hb⟩:=xY ns
 obtain ⟨nu,A8⟩:=xA ns 57 (by omega)
 unfold pD fn BD
 simp only [ck,bq,bw]
 cases b with
 |true =>
  obtain ⟨rs,e,g,l⟩:=Ur ns cs hc
  refine ⟨rs,?_,g,l⟩
  rw [dq (e':=[some (.al,.lst (ns.map .int)),some (.al,.lst (cs.map .int)),none,none,none,none,none]) (m:=.un) (d:=.lst (rs.map Row.d)) (by
   rw [bp (by walk_at "ev"; rw [hb];rfl)]
   walk_at "ev"
   rw [e]
   rfl)]
  rfl
 |false =>
  rw [dJ (by walk_at "ev"; rw [hb];rfl)]
  rw [av (e':=[some (.al,.lst (ns.map .int)),some (.al,.lst (cs.map .int)),some (.fr,.int nu),none,none,none,none]) (by walk_at "ev"; rw [A8];walk_at "ev")]
  by_cases q:nu%8=1
  ·obtain ⟨rs,e,g,l⟩:=MZ ns (1+nu / 8%28) (by omega) (by omega)
   refine ⟨rs,?_,g,l⟩
   rw [dq (e':=[some (.al,.lst (ns.map .int)),some (.al,.lst (cs.map .int)),some (.fr,.int nu),none,none,none,none]) (m:=.un) (d:=.lst (rs.map Row.d)) (by
    rw [bp (by walk_at "go"; simp only [q,decide_true])]
    walk_at "go"
    rw [e]
    rfl)]
   rfl
  rw [dJ (by walk_at "go"; simp only [q,decide_false])]
  obtain ⟨ro,er,lu,KC⟩:=Om ns cs hc
  obtain ⟨n2,Ac⟩:=xA ns 59 (by omega)
  rw [av (e':=[some (.al,.lst (ns.map .int)),some (.al,.lst (cs.map .int)),some (.fr,.int nu),some (.bo,.lst (ro.map Row.d)),none,none,none]) (by walk_at "ev"; rw [er];walk_at "ev")]
  rw [av (e':=[some (.al,.lst (ns.map .int)),some (.al,.lst (cs.map .int)),some (.fr,.int nu),some (.bo,.lst (ro.map Row.d)),some (.bo,.lst ([].map Row.d)),none,none]) rfl]
  obtain ⟨e',l1,rs,o5,o6,he,hl,hP⟩:=cP (g:=gT 2 (bJ (gN 5) (bJ (gN 6) du))) (b:=sM) (m:=.fr) (ds:=bS (ro.map Row.d)) (e:=[some (.al,.lst (ns.map .int)),some (.al,.lst (cs.map .int)),some (.fr,.int nu),some (.fr,.lst (ro.map Row.d)),some (.bo,.lst ([].map Row.d)),none,none])
   (fun i e=>∃ (rs:List Row) (o5 o6:Option (M×D)),e=[some (.al,.lst (ns.map .int)),some (.al,.lst (cs.map .int)),some (.fr,.int nu),some (.fr,.lst (ro.map Row.d)),some (.bo,.lst (rs.map Row.d)),o5,o6]∧rs.length=i∧∀ (n:Nat) r,rs[n]?=some r→∀ m∈bf n r,0≤m∧m < ro.length)
   ⟨[],none,none,rfl,rfl,fun n r h=>by simp at h⟩
   (fun i d e hd aZ=>by
    obtain ⟨rs,o5,o6,he,hl,hP⟩:=aZ
    subst he
    obtain ⟨r,hr,rfl⟩:=QJ hd
    have hi:i < ro.length:=(List.getElem?_eq_some_iff.mp hr).1
    obtain ⟨r',cg,q,hm⟩:=Uk lu (by omega) (some (.al,.lst (ns.map .int))) (some (.al,.lst (cs.map .int))) (some (.fr,.int nu)) rs (by omega) hr
    refine ⟨_,_,rfl,q,rs++[r'],_,cg,rfl,by simp [hl],fun n x hx m mS=>?_⟩
    rcases gj hx with z|⟨z,rfl⟩
    ·exact hP n x z m mS
    ·rw [z,hl] at mS;exact hm m mS)
  subst he
  have hE:(bS (ro.map Row.d)).length=ro.length:=by simp [bS]
  rw [hE] at hl
  rw [av (e':=[some (.al,.lst (ns.map .int)),some (.al,.lst (cs.map .int)),some (.fr,.int nu),some (.fr,.lst (ro.map Row.d)),some (.bo,.lst (rs.map Row.d)),o5,o6]) (by
   rw [cN,show aW 3 [some (.al,.lst (ns.map .int)),some (.al,.lst (cs.map .int)),some (.fr,.int nu),some (.bo,.lst (ro.map Row.d)),some (.bo,.lst ([].map Row.d)),none,none]=[some (.al,.lst (ns.map .int)),some (.al,.lst (cs.map .int)),some (.fr,.int nu),some (.fr,.lst (ro.map Row.d)),some (.bo,.lst ([].map Row.d)),none,none] from rfl]
   simp -implicitDefEqProofs only [aY,gb,ag,jV,ah,gz,gy,oq,id_eq,bX,oy]
   exact l1)]
  have g:Good rs:=⟨by have:=lu.pos;omega,fun n r hr m hm=>by rw [hl];exact hP n r hr m hm⟩
  obtain ⟨bD,e2,g2,l2⟩:=QR g (by omega) n2
  refine ⟨bD,?_,g2,by omega⟩
  have io:j7 [0] [4] [(0,4)] [(.bo,.lst (rs.map Row.d)),(.fr,.int n2)]=true:=by
   simp [j7,List.range_succ,own,gD,f6,lC]
  simp -implicitDefEqProofs only [jD,ag,ah,jV,jC,ax,gz,gy,id_eq,oq,mq,mn,Ac,io,if_true,e2,yq]
noncomputable def bu (p:Nat→Bool):Nat→Nat
 |0=>0
 |k+1=>bu p k+(if p k=true then 2 ^ k else 0)
theorem yD (p:Nat→Bool):∀ k,bu p k < 2 ^ k
 |0=>by simp [bu]
 |k+1=>by
  have:=yD p k
  rw [bu,Nat.pow_succ]
  split<;>omega
theorem jv (p:Nat→Bool):∀ k j,(bu p k).testBit j=(decide (j < k)&&p j)
 |0,j=>by simp [bu]
 |k+1,j=>by
  have h:=yD p k
  have ih:=jv p k j
  rw [bu]
  by_cases hp:p k=true
  ·rw [if_pos hp,Nat.add_comm]
   rcases Nat.lt_trichotomy j k with hj|rfl|hj
   ·rw [Nat.testBit_two_pow_add_gt hj,ih]
    simp [hj,Nat.lt_succ_of_lt hj]
   ·rw [Nat.testBit_two_pow_add_eq,Nat.testBit_lt_two_pow h]
    simp [hp]
   ·rw [Nat.testBit_lt_two_pow (Nat.lt_of_lt_of_le (show 2 ^ k+bu p k < 2 ^ (k+1) by rw [Nat.pow_succ];omega) (Nat.pow_le_pow_right (by decide) hj))]
    have:¬ j < k+1:=by omega
    simp [this]
  ·rw [if_neg hp,Nat.add_zero,ih]
   by_cases hj:j < k
   ·simp [hj,Nat.lt_succ_of_lt hj]
   ·by_cases e:j=k
    ·subst e;simp [hp]
    ·have h2:¬ j < k+1:=by omega
     simp [hj,h2]
theorem p9 {p q:Nat→Bool}:∀ {k:Nat},(∀ j,j < k→p j=q j)→bu p k=bu q k
 |0,_=>rfl
 |k+1,h=>by rw [bu,bu,p9 fun j hj=>h j (by omega),h k (by omega)]
theorem QT {p q:Nat→Bool}{k:Nat} (h:bu p k=bu q k):∀ j,j < k→p j=q j:=fun j hj=>by
 have:=jv p k j
 rw [h,jv] at this
 simpa [hj] using this.symm
theorem Er (p q:Nat→Bool) (k:Nat):bu p k&&&bu q k=bu (fun j=>p j&&q j) k:=by
 apply Nat.eq_of_testBit_eq
 intro j
 rw [Nat.testBit_and,jv,jv,jv]
 cases decide (j < k)<;>simp
theorem Us (p q:Nat→Bool) (k:Nat):bu p k|||bu q k=bu (fun j=>p j||q j) k:=by
 apply Nat.eq_of_testBit_eq
 intro j
 rw [Nat.testBit_or,jv,jv,jv]
 cases decide (j < k)<;>simp
theorem C0 (p q:Nat→Bool):∀ k,bu (fun j=>p j&&q j) k+bu (fun j=>p j&&!q j) k=bu p k
 |0=>rfl
 |k+1=>by
  have:=C0 p q k
  simp only [bu]
  by_cases hp:p k=true<;>by_cases hq:q k=true<;>simp [hp,hq]<;>omega
theorem x6 {p:Nat→Bool}:∀ {k i:Nat},i < k→(∀ j,j < k→(p j=true↔j=i))→bu p k=2 ^ i
 |0,i,h,_=>absurd h (Nat.not_lt_zero i)
 |k+1,i,h,hp=>by
  rw [bu]
  by_cases e:i=k
  ·subst e
   rw [if_pos ((hp i (by omega)).mpr rfl),show bu p i=bu (fun _=>false) i from p9 fun j hj=>by
    cases hh:p j with
    |false=>rfl
    |true=>have:=(hp j (by omega)).mp hh;omega]
   have z:∀ n,bu (fun _=>false) n=0:=fun n=>by
    induction n with
    |zero=>rfl
    |succ n ih=>rw [bu,ih];simp
   rw [z];simp
  ·rw [if_neg fun z=>e ((hp k (by omega)).mp z).symm,Nat.add_zero]
   exact x6 (by omega) fun j hj=>hp j (by omega)
theorem Dw {p:Nat→Bool}{k:Nat} (h:∀ j,j < k→p j=false):bu p k=0:=by
 induction k with
 |zero=>rfl
 |succ k ih=>rw [bu,ih fun j hj=>h j (by omega),h k (by omega)];simp
noncomputable def bI (p:Nat→Bool) (k:Nat):D:=.int ((bu p k:Nat):Int)
theorem KQ (x y:Nat):Builtin.bitOr (x:Int) (y:Int)=((x|||y:Nat):Int):=by
 unfold Builtin.bitOr
 rw [PyProof.Rows.bitAnd_nn (by unfold Builtin.bitNot;omega) (by unfold Builtin.bitNot;omega)]
 have nn:∀ z:Int,Builtin.bitNot (Builtin.bitNot z)=z:=fun z=>by unfold Builtin.bitNot;omega
 rw [nn,nn,nn,Int.toNat_natCast,Int.toNat_natCast]
theorem HW (x y:Nat):Builtin.bitAnd (x:Int) (y:Int)=((x&&&y:Nat):Int):=by
 rw [PyProof.Rows.bitAnd_pp (Int.natCast_nonneg x) (Int.natCast_nonneg y),Int.toNat_natCast,Int.toNat_natCast]
section
variable {m n:M}{p q:Nat→Bool}{k:Nat}
theorem yX:kW (m,bI p k) (n,bI q k)=some (.fr,bI (fun j=>p j||q j) k):=by
 unfold bI
 rw [E8,KQ,Us]
theorem Ut:iW (m,bI p k) (n,bI q k)=some (.fr,bI (fun j=>p j&&q j) k):=by
 unfold bI
 rw [D8,HW,Er]
theorem FE:((kU (n,bI q k)).bind fun y=>iW (m,bI p k) y)=some (.fr,bI (fun j=>p j&&!q j) k):=by
 have:=C0 p q k
 unfold bI
 rw [Vg,oq,D8,PyProof.Rows.bitAnd_not,HW,Er]
 have h:((bu p k:Nat):Int)-((bu (fun j=>p j&&q j) k:Nat):Int)=((bu (fun j=>p j&&!q j) k:Nat):Int):=by omega
 rw [h]
theorem Uu:(bI p k).bQ=true:=qK
theorem ky (h:∀ j,j < k→p j=q j):bI p k=bI q k:=by unfold bI;rw [p9 h]
end
theorem Ov {bs:List Bool}{i:Nat}{d:D} (h:(bS (bs.map D.bl))[i]?=some d):∃ b,bs[i]?=some b∧d=.tup [.int i,.bl b]:=by
 unfold bS at h
 rw [List.getElem?_mapIdx,List.getElem?_map] at h
 cases e:bs[i]? with
 |none=>rw [e] at h;cases h
 |some r=>rw [e] at h;cases h;exact ⟨r,rfl,rfl⟩
theorem x8 {m n:M}{i:Nat} (h:i≤1000):lV (m,.int 1) (n,.int (i:Int))=some (.fr,.int ((2 ^ i:Nat):Int)):=by
 rw [Tb ⟨by omega,by omega,by decide⟩,Int.toNat_natCast,Int.one_mul]
 congr 3
theorem Et (bs:List Bool) (hl:bs.length≤500):pU [.lst (bs.map .bl)]=some (.fr,bI (fun j=>bs.getD j false) bs.length):=by
 obtain ⟨e',l1,o2,o3,he⟩:=cP (g:=gT 2 (bJ (gN 2) (bJ (gN 3) du))) (b:=tI) (m:=.al) (ds:=bS (bs.map D.bl)) (e:=[some (.al,.lst (bs.map .bl)),some (.fr,.int 0),none,none])
  (fun i e=>∃ o2 o3,e=[some (.al,.lst (bs.map .bl)),some (.fr,bI (fun j=>bs.getD j false) i),o2,o3]) ⟨none,none,rfl⟩
  (fun i d e hd aZ=>by
   obtain ⟨o2,o3,he⟩:=aZ
   subst he
   obtain ⟨b,hb,rfl⟩:=Ov hd
   have hi:i < bs.length:=(List.getElem?_eq_some_iff.mp hb).1
   have hg:bs.getD i false=b:=by rw [List.getD_eq_getElem?_getD,hb];rfl
   refine ⟨_,[some (.al,.lst (bs.map .bl)),some (.fr,bI (fun j=>bs.getD j false) (i+1)),some (.al,.int (i:Int)),some (.al,.bl b)],rfl,?_,_,_,rfl⟩
   show tI [some (.al,.lst (bs.map .bl)),some (.fr,bI (fun j=>bs.getD j false) i),some (.al,.int (i:Int)),some (.al,.bl b)]=_
   unfold tI
   cases b with
   |false =>
    rw [bH rfl]
    unfold bI
    rw [bu,hg,if_neg Bool.false_ne_true]
    rfl
   |true =>
    rw [bp rfl]
    simp -implicitDefEqProofs only [ao,ae,jV,jC,gz,gy,id_eq,oq,x8 (show i≤1000 by omega)]
    unfold bI
    rw [E8,KQ,bu,hg,if_pos rfl]
    have ho:bu (fun j=>bs.getD j false) i|||2 ^ i=bu (fun j=>bs.getD j false) i+2 ^ i:=by
     apply Nat.eq_of_testBit_eq
     intro j
     have h:=yD (fun j=>bs.getD j false) i
     rw [Nat.testBit_or,Nat.add_comm]
     rcases Nat.lt_trichotomy j i with hj|rfl|hj
     ·rw [Nat.testBit_two_pow_add_gt hj,Nat.testBit_two_pow_of_ne (by omega),Bool.or_false]
     ·rw [Nat.testBit_two_pow_add_eq,Nat.testBit_lt_two_pow h,Nat.testBit_two_pow_self];rfl
     ·rw [Nat.testBit_lt_two_pow (Nat.lt_of_lt_of_le h (Nat.pow_le_pow_right (by decide) (by omega))),Nat.testBit_two_pow_of_ne (by omega),Nat.testBit_lt_two_pow (Nat.lt_of_lt_of_le (show 2 ^ i+bu (fun j=>bs.getD j false) i < 2 ^ (i+1) by rw [Nat.pow_succ];omega) (Nat.pow_le_pow_right (by decide) hj))]
      rfl
    rw [ho]
    rfl)
 subst he
 have hE:(bS (bs.map D.bl)).length=bs.length:=by simp [bS]
 rw [hE] at l1
 unfold pU fn CN
 simp only [ck,bq,bw]
 rw [av (e':=[some (.al,.lst (bs.map .bl)),some (.fr,.int 0),none,none]) rfl]
 rw [av (e':=[some (.al,.lst (bs.map .bl)),some (.fr,bI (fun j=>bs.getD j false) bs.length),o2,o3]) (by
  rw [cN,show aW 0 [some (.al,.lst (bs.map .bl)),some (.fr,.int 0),none,none]=[some (.al,.lst (bs.map .bl)),some (.fr,.int 0),none,none] from rfl]
  simp -implicitDefEqProofs only [aY,gb,ag,jV,ah,gz,gy,oq,id_eq,bX,oy]
  exact l1)]
 rfl
section
variable {κ:Type} [DecidableEq κ]
theorem QV {ks:List (κ×D)}{k:κ}{d:D} (h:∀ kv∈ks,kv.1=k→kv.2=d) (hi:∃ kv∈ks,kv.1=k):putD ks k d=ks:=by
 unfold putD
 rw [if_pos (by rw [List.any_eq_true];obtain ⟨kv,h1,h2⟩:=hi;exact ⟨kv,h1,decide_eq_true h2⟩)]
 conv=>rhs;rw [←List.map_id ks]
 refine List.map_congr_left fun kv bU=>?_
 by_cases e:kv.1=k
 ·rw [if_pos e,←h kv bU e];rfl
 ·rw [if_neg e];rfl
theorem Dx {ks:List (κ×D)}{k:κ}{d:D} (h:∀ kv∈ks,kv.1≠k):putD ks k d=ks++[(k,d)]:=by
 unfold putD
 rw [if_neg]
 intro z
 obtain ⟨kv,h1,h2⟩:=List.any_eq_true.mp z
 exact h kv h1 (of_decide_eq_true h2)
theorem xB {ks:List (κ×D)}{k:κ}{d:D} (h:∀ kv∈ks,kv.1=k→kv.2=d) (hi:∃ kv∈ks,kv.1=k):cS ks k=some d:=by
 unfold cS
 cases f:ks.find? fun kv=>decide (kv.1=k) with
 |none =>
  obtain ⟨kv,h1,h2⟩:=hi
  have:=List.find?_eq_none.mp f kv h1
  exact absurd (decide_eq_true h2) this
 |some kv =>
  have h1:=List.mem_of_find?_eq_some f
  have h2:kv.1=k:=of_decide_eq_true (List.find?_some (p:=fun (kv:κ×D)=>decide (kv.1=k)) f)
  rw [oy,h kv h1 h2]
theorem Lw {ks:List (κ×D)}{k:κ}:(cS ks k).isSome=true↔∃ kv∈ks,kv.1=k:=by
 unfold cS
 rw [Option.isSome_map,List.find?_isSome]
 constructor
 ·rintro ⟨kv,h1,h2⟩;exact ⟨kv,h1,of_decide_eq_true h2⟩
 ·rintro ⟨kv,h1,h2⟩;exact ⟨kv,h1,decide_eq_true h2⟩
theorem xK (ks:List (κ×D)) (k:κ) (d:D):(putD ks k d).length≤ks.length+1:=by
 unfold putD
 split
 ·rw [ln];omega
 ·simp
theorem Dy {ks:List (κ×D)}{k:κ}{d:D}{kv:κ×D} (h:kv∈putD ks k d):(kv∈ks∧kv.1≠k)∨kv=(k,d):=by
 unfold putD at h
 split at h
 ·obtain ⟨x,hx,e⟩:=List.mem_map.mp h
  by_cases z:x.1=k
  ·rw [if_pos z] at e;exact .inr (by rw [←e,z])
  ·rw [if_neg z] at e;exact .inl (by rw [←e];exact ⟨hx,z⟩)
 ·rename_i hn
  rcases List.mem_append.mp h with z|z
  ·by_cases e:kv.1=k
   ·exact absurd (List.any_eq_true.mpr ⟨kv,z,decide_eq_true e⟩) hn
   ·exact .inl ⟨z,e⟩
  ·exact .inr (by simpa using z)
theorem putD_has {ks:List (κ×D)}{k:κ}{d:D}:∃ kv∈putD ks k d,kv.1=k:=by
 unfold putD
 split
 ·rename_i h
  obtain ⟨x,hx,e⟩:=List.any_eq_true.mp h
  have e:=of_decide_eq_true e
  exact ⟨_,List.mem_map.mpr ⟨x,hx,rfl⟩,by rw [if_pos e];exact e⟩
 ·exact ⟨(k,d),by simp,rfl⟩
end
noncomputable def dF:Row→Option De
 |.rk _ s a b=>some (s,a,b)
 |_=>none
noncomputable def sets:Row→Option Str
 |.rk x _ _ _=>some x
 |.cp x _=>some x
 |_=>none
noncomputable def dd:Option De→D
 |some q=>aq q
 |none=>.non
noncomputable def dS:Option Str→D
 |some q=>.str q
 |none=>.non
theorem zP (r:Row):decide (r.word=("reckon" : Str))=(dF r).isSome:=by
 cases r with
 |rk x s a b=>exact (by decide +kernel:decide (("reckon" : Str) = "reckon")=true)
 |cp x a=>exact (by decide +kernel:decide (("copy" : Str) = "reckon")=false)
 |sy a=>exact (by decide +kernel:decide (("say" : Str) = "reckon")=false)
 |go t=>exact (by decide +kernel:decide (("go" : Str) = "reckon")=false)
 |pt a t=>exact (by decide +kernel:decide (("part" : Str) = "reckon")=false)
 |en=>exact (by decide +kernel:decide (("end" : Str) = "reckon")=false)
theorem Eu (r:Row):mU [r.d]=some (.fr,dd (dF r)):=by
 unfold mU fn Bt
 walk_at "ev"
 simp -implicitDefEqProofs only [cU,oq,cQ,de,bj,zP]
 cases r with
 |rk x s a b =>
  simp -implicitDefEqProofs only [dF,Option.isSome_some,if_true]
  rw [show ak (.al,Row.d (.rk x s a b)) (.fr,.int 2)=some (.al,.str s) from rfl,show ak (.al,Row.d (.rk x s a b)) (.fr,.int 3)=some (.al,kD a) from rfl,show ak (.al,Row.d (.rk x s a b)) (.fr,.int 4)=some (.al,kD b) from rfl]
  walk_at "ev"
  simp -implicitDefEqProofs only [qg,Bool.and_self,if_true]
  rfl
 |_=>rfl
theorem Ew (r:Row):uC [r.d]=some (.fr,dS (sets r)):=by
 cases r<;>rfl
noncomputable def r6:Ko→Key
 |.inl i=>.inl i
 |.inr x=>.inr x
noncomputable def gg (q:De):List Key:=[.inr q.1,r6 q.2.1,r6 q.2.2]
theorem Ex {a b:Ko} (h:r6 a=r6 b):a=b:=by
 cases a<;>cases b<;>simp [r6] at h<;>rw [h]
theorem x9 {p q:De} (h:gg p=gg q):p=q:=by
 obtain ⟨s,a,b⟩:=p;obtain ⟨s',a',b'⟩:=q
 simp only [gg,List.cons.injEq,and_true,Key.inr.injEq] at h
 rw [h.1,Ex h.2.1,Ex h.2.2]
theorem ya (q:De):mj (aq q)=some (gg q):=by
 obtain ⟨s,a,b⟩:=q
 cases a<;>cases b<;>rfl
theorem QW (q:De):zH (gg q)=aq q:=by
 obtain ⟨s,a,b⟩:=q
 cases a<;>cases b<;>rfl
noncomputable def fL (l:List De):List (List Key×D):=l.map fun q=>(gg q,.bl true)
noncomputable instance Z2 (q:De) (l:List De):Decidable (q∈l):=@List.instDecidableMemOfLawfulBEq De instBEqOfDecidableEq inferInstance q l
noncomputable def iM (acc:List De) (r:Row):List De:=match dF r with
 |some q=>if q∈acc then acc else acc++[q]
 |none=>acc
noncomputable def kn (rs:List Row):List De:=rs.foldl iM []
theorem QX (acc:List De) (r:Row):(iM acc r).length≤acc.length+1:=by
 unfold iM
 split
 ·split<;>simp
 ·omega
theorem nr (rs:List Row) (i:Nat) (r:Row) (h:rs[i]?=some r):kn (rs.take (i+1))=iM (kn (rs.take i)) r:=by
 unfold kn
 rw [List.take_add_one,h,List.foldl_append]
 rfl
theorem uE (rs:List Row):∀ i,(kn (rs.take i)).length≤i
 |0=>by simp [kn]
 |i+1=>by
  have:=uE rs i
  cases h:rs[i]? with
  |none =>
   have e:rs.take (i+1)=rs.take i:=by rw [List.take_add_one,h];simp
   rw [e];omega
  |some r =>
   rw [nr rs i r h]
   have:=QX (kn (rs.take i)) r
   omega
theorem Dz (rs:List Row):∀ i,(kn (rs.take i)).Nodup
 |0=>by simp [kn]
 |i+1=>by
  have ih:=Dz rs i
  cases h:rs[i]? with
  |none =>
   have e:rs.take (i+1)=rs.take i:=by rw [List.take_add_one,h];simp
   rw [e];exact ih
  |some r =>
   rw [nr rs i r h]
   unfold iM
   split
   ·rename_i q _
    split
    ·exact ih
    ·rename_i hn
     rw [List.nodup_append]
     exact ⟨ih,by simp,fun a ha b hb=>fun z=>hn ((show b=q by simpa using hb)▸z▸ha)⟩
   ·exact ih
theorem FG (rs:List Row) {q:De}:∀ (i:Nat),(∃ (n:Nat) (r:Row),n < i∧rs[n]?=some r∧dF r=some q)→q∈kn (rs.take i)
 |0,⟨n,_,h,_⟩=>absurd h (Nat.not_lt_zero n)
 |i+1,⟨n,r,hn,hr,hd⟩=>by
  have up:∀ x,x∈kn (rs.take i)→x∈kn (rs.take (i+1)):=fun x hx=>by
   cases h:rs[i]? with
   |none =>
    have e:rs.take (i+1)=rs.take i:=by rw [List.take_add_one,h];simp
    rw [e];exact hx
   |some r =>
    rw [nr rs i r h]
    unfold iM
    split
    ·split
     ·exact hx
     ·exact List.mem_append_left _ hx
    ·exact hx
  by_cases e:n=i
  ·subst e
   rw [nr rs n r hr]
   unfold iM
   rw [hd]
   simp only
   split
   ·assumption
   ·simp
  ·exact up q (FG rs i ⟨n,r,by omega,hr,hd⟩)
theorem r9 {rs:List Row}:kn (rs.take rs.length)=kn rs:=by rw [List.take_length]
theorem Wn {r:Row}{l:List De} (hl:l.length≤500) (A0 o3:Option (M×D)):∃ dW,sN [A0,some (.bo,.dt (fL l)),some (.al,r.d),o3]=some (.nx [A0,some (.bo,.dt (fL (iM l r))),some (.al,r.d),dW]):=by
 have s1:(fL l).length < sizeLine:=by simp only [fL,ln];exact Nat.lt_of_le_of_lt hl (by decide)
 unfold sN
 rw [av (e':=[A0,some (.bo,.dt (fL l)),some (.al,r.d),some (.fr,dd (dF r))]) (by
  simp -implicitDefEqProofs only [ao,ax,ag,ah,jV,gz,gy,id_eq,oq,mq,mn,Eu,fA,tz,tq])]
 unfold iM
 cases hd:dF r with
 |none =>
  rw [bH rfl]
  exact ⟨_,rfl⟩
 |some q =>
  rw [bp rfl]
  refine ⟨some (.fr,aq q),?_⟩
  have hp:putD (fL l) (gg q) (.bl true)=fL (if q∈l then l else l++[q]):=by
   by_cases hq:q∈l
   ·rw [if_pos hq]
    exact QV (fun kv bU _=>by obtain ⟨x,_,rfl⟩:=List.mem_map.mp bU;rfl) ⟨(gg q,.bl true),List.mem_map.mpr ⟨q,hq,rfl⟩,rfl⟩
   ·rw [if_neg hq,Dx (fun kv bU=>by obtain ⟨x,hx,rfl⟩:=List.mem_map.mp bU;exact fun z=>hq (x9 z▸hx))]
    simp [fL]
  simp -implicitDefEqProofs only [gM,jV,jC,gz,gy,id_eq,oq,dd,ya,dZ,if_true,iC,own,s1,hp,tz,tq]
theorem yb {rs:List Row}{i:Nat}{d:D} (h:(rs.map Row.d)[i]?=some d):∃ r,rs[i]?=some r∧d=r.d:=by
 rw [List.getElem?_map] at h
 cases e:rs[i]? with
 |none=>rw [e] at h;cases h
 |some r=>rw [e] at h;cases h;exact ⟨r,rfl,rfl⟩
theorem yc {rs:List Row} (hl:rs.length≤400):mW [.lst (rs.map Row.d)]=some (.un,.lst ((kn rs).map aq)):=by
 obtain ⟨e',l1,o2,o3,he⟩:=cP (g:=gN 2) (b:=sN) (m:=.al) (ds:=rs.map Row.d) (e:=[some (.al,.lst (rs.map Row.d)),some (.bo,.dt (fL [])),none,none])
  (fun i e=>∃ o2 o3,e=[some (.al,.lst (rs.map Row.d)),some (.bo,.dt (fL (kn (rs.take i)))),o2,o3]) ⟨none,none,rfl⟩
  (fun i d e hd aZ=>by
   obtain ⟨o2,o3,he⟩:=aZ
   subst he
   obtain ⟨r,hr,rfl⟩:=yb hd
   have hi:i < rs.length:=(List.getElem?_eq_some_iff.mp hr).1
   have xg:=uE rs i
   obtain ⟨dW,q⟩:=Wn (r:=r) (l:=kn (rs.take i)) (by omega) (some (.al,.lst (rs.map Row.d))) o3
   rw [←nr rs i r hr] at q
   exact ⟨_,_,rfl,q,_,dW,rfl⟩)
 subst he
 rw [ln,r9] at l1
 unfold mW fn BG
 simp only [ck,bq,bw]
 rw [av (e':=[some (.al,.lst (rs.map Row.d)),some (.bo,.dt (fL [])),none,none]) rfl]
 rw [av (e':=[some (.al,.lst (rs.map Row.d)),some (.bo,.dt (fL (kn rs))),o2,o3]) (by
  rw [cN,show aW 0 [some (.al,.lst (rs.map Row.d)),some (.bo,.dt (fL [])),none,none]=[some (.al,.lst (rs.map Row.d)),some (.bo,.dt (fL [])),none,none] from rfl]
  simp -implicitDefEqProofs only [aY,bO,jV,gz,gy,id_eq,oq,bX,oy]
  exact l1)]
 simp -implicitDefEqProofs only [aG,aJ,ag,ah,jV,gz,gy,id_eq,oq,qi,own,true_or,if_true,yp]
 congr 3
 unfold fL
 rw [List.map_map]
 exact List.map_congr_left fun q _=>QW q
theorem lS (rs:List Row):(kn rs).length≤rs.length:=by have:=uE rs rs.length;rw [r9] at this;exact this
theorem Wo (rs:List Row):(kn rs).Nodup:=by have:=Dz rs rs.length;rw [r9] at this;exact this
theorem Wq {rs:List Row}{n:Nat}{r:Row}{q:De} (hr:rs[n]?=some r) (hd:dF r=some q):q∈kn rs:=by
 have:=FG rs (q:=q) rs.length ⟨n,r,(List.getElem?_eq_some_iff.mp hr).1,hr,hd⟩
 rw [r9] at this;exact this
theorem xC {fe:Ev→Option (M×D)}{m:M}{fr:Ev}{x:D} (h:∀ d,fe (some (m,d)::fr)=some (.fr,x)):∀ ds:List D,cV dA fe m fr ds=some ((List.replicate ds.length x).map fun y=>(M.fr,y))
 |[]=>rfl
 |d::ds=>by rw [cV,show dA (some (m,d)::fr)=some true from rfl,oq,if_pos rfl,h,oq,xC h ds,oq];rfl
theorem DB {rs:List Row} (hl:rs.length≤400):pL [.lst (rs.map Row.d)]=some (.fr,bI (fun _=>true) (kn rs).length):=by
 have hk:=lS rs
 have hr:=yc hl
 have hb:=Et (List.replicate (kn rs).length true) (by simp;omega)
 rw [List.map_replicate,List.length_replicate] at hb
 unfold pL fn BR
 simp only [ck,bq,bw]
 simp -implicitDefEqProofs only [aG,ax,ag,ah,cf,bO,jV,gz,gy,id_eq,oq,mq,mn,hr,bX,oy]
 rw [xC (x:=.bl true) (fun d=>rfl),oq,ln,gG (by rw [List.length_replicate];omega),oq]
 simp -implicitDefEqProofs only [mq,mn,oq,hb,nG]
 rw [ky (p:=fun j=>(List.replicate (kn rs).length true).getD j false) (q:=fun _=>true) fun j hj=>by rw [List.getD_eq_getElem?_getD,List.getElem?_replicate,if_pos hj];rfl]
noncomputable def gx (l:List De) (r:Row) (j:Nat):Bool:=match dF r,l[j]? with
 |some q,some q'=>decide (q=q')
 |_,_=>false
noncomputable def di (l:List De):List (List Key×D):=l.mapIdx fun k q=>(gg q,.int ((2 ^ k:Nat):Int))
theorem yd (l:List De):(di l).length=l.length:=by simp [di]
theorem Ey {l:List De}{kv:List Key×D} (h:kv∈di l):∃ (k:Nat) (q:De),l[k]?=some q∧kv=(gg q,.int ((2 ^ k:Nat):Int)):=by
 obtain ⟨i,hi,e⟩:=List.mem_iff_getElem.mp h
 simp only [di,List.getElem_mapIdx] at e
 have rQ:i < l.length:=by rw [yd] at hi;exact hi
 exact ⟨i,l[i]'rQ,by simp,e.symm⟩
theorem Ow (l:List De) (q:De):di (l++[q])=di l++[(gg q,.int ((2 ^ l.length:Nat):Int))]:=by
 simp [di,List.mapIdx_append]
theorem yZ {l:List De} (h:l.Nodup) {i j:Nat}{q:De} (hi:l[i]?=some q) (hj:l[j]?=some q):i=j:=by
 have rQ:=(List.getElem?_eq_some_iff.mp hi).1
 exact (List.getElem?_inj rQ h).mp (by rw [hi,hj])
theorem QY {l:List De} (h:l.Nodup) {k:Nat}{q:De} (hk:l[k]?=some q):cS (di l) (gg q)=some (.int ((2 ^ k:Nat):Int)):=by
 refine xB (fun kv bU e=>?_) ?_
 ·obtain ⟨i,q',hi,rfl⟩:=Ey bU
  have:q'=q:=x9 e
  subst this
  rw [yZ h hi hk]
 ·have mR:=(List.getElem?_eq_some_iff.mp hk).1
  refine ⟨_,List.getElem_mem (l:=di l) (n:=k) (by rw [yd];exact mR),?_⟩
  simp only [di,List.getElem_mapIdx]
  rw [(List.getElem?_eq_some_iff.mp hk).2]
theorem DC {l:List De}{i:Nat}{d:D} (h:(bS (l.map aq))[i]?=some d):∃ q,l[i]?=some q∧d=.tup [.int i,aq q]:=by
 unfold bS at h
 rw [List.getElem?_mapIdx,List.getElem?_map] at h
 cases e:l[i]? with
 |none=>rw [e] at h;cases h
 |some r=>rw [e] at h;cases h;exact ⟨r,rfl,rfl⟩
theorem QZ {l:List De} (h:l.Nodup) {r:Row}{q:De}{k:Nat} (hd:dF r=some q) (hk:l[k]?=some q):bu (gx l r) l.length=2 ^ k:=by
 refine x6 (List.getElem?_eq_some_iff.mp hk).1 fun j hj=>?_
 unfold gx
 rw [hd,List.getElem?_eq_getElem hj]
 simp only [decide_eq_true_eq]
 constructor
 ·intro e;exact yZ h (by rw [List.getElem?_eq_getElem hj,←e]) hk
 ·intro e;subst e;exact ((List.getElem?_eq_some_iff.mp hk).2).symm
theorem Cp {fe:Ev→Option (M×D)}{m m':M}{fr:Ev}{f:Row→D}:∀ rs:List Row,(∀ r∈rs,fe (some (m,r.d)::fr)=some (m',f r))→cV dA fe m fr (rs.map Row.d)=some ((rs.map f).map fun y=>(m',y))
 |[],_=>rfl
 |r::rs,h=>by
  have ih:=Cp (fe:=fe) (m:=m) (m':=m') (fr:=fr) (f:=f) rs fun x hx=>h x (List.mem_cons_of_mem _ hx)
  rw [mq,cV,show dA (some (m,r.d)::fr)=some true from rfl,oq,if_pos rfl,h r List.mem_cons_self,oq,ih,oq];rfl
theorem Ox {rs:List Row} (hl:rs.length≤400):sF [.lst (rs.map Row.d)]=some (.un,.lst (rs.map fun r=>bI (gx (kn rs) r) (kn rs).length)):=by
 have hk:=lS rs
 have mF:=Wo rs
 have hr:=yc hl
 obtain ⟨e',l1,o2,o3,he⟩:=cP (g:=gT 2 (bJ (gN 2) (bJ (gN 3) du))) (b:=sk) (m:=.fr) (ds:=bS ((kn rs).map aq)) (e:=[some (.al,.lst (rs.map Row.d)),some (.bo,.dt (di [])),none,none])
  (fun i e=>∃ o2 o3,e=[some (.al,.lst (rs.map Row.d)),some (.bo,.dt (di ((kn rs).take i))),o2,o3]) ⟨none,none,rfl⟩
  (fun i d e hd aZ=>by
   obtain ⟨o2,o3,he⟩:=aZ
   subst he
   obtain ⟨q,hq,rfl⟩:=DC hd
   have hi:i < (kn rs).length:=(List.getElem?_eq_some_iff.mp hq).1
   have s1:(di ((kn rs).take i)).length < sizeLine:=by rw [yd];exact Nat.lt_of_le_of_lt (show ((kn rs).take i).length≤400 by rw [List.length_take];omega) (by decide)
   have e1:di ((kn rs).take (i+1))=putD (di ((kn rs).take i)) (gg q) (.int ((2 ^ i:Nat):Int)):=by
    rw [List.take_add_one,hq,Option.toList_some,Ow,Dx (fun kv bU z=>?_)]
    ·rw [List.length_take,Nat.min_eq_left (by omega)]
    ·obtain ⟨k,q',mR,rfl⟩:=Ey bU
     have:q'=q:=x9 z
     subst this
     have aS:k < i:=by
      have:=(List.getElem?_eq_some_iff.mp mR).1
      rw [List.length_take] at this;omega
     rw [List.getElem?_take_of_lt aS] at mR
     have:=yZ mF mR hq
     omega
   refine ⟨_,[some (.al,.lst (rs.map Row.d)),some (.bo,.dt (di ((kn rs).take (i+1)))),some (.fr,.int (i:Int)),some (.fr,aq q)],rfl,?_,_,_,rfl⟩
   show sk [some (.al,.lst (rs.map Row.d)),some (.bo,.dt (di ((kn rs).take i))),some (.fr,.int (i:Int)),some (.fr,aq q)]=_
   unfold sk
   simp -implicitDefEqProofs only [gM,ae,jV,jC,gz,gy,id_eq,oq,x8 (show i≤1000 by omega),ya,dZ,if_true,iC,own,s1,←e1,tz,tq])
 subst he
 have hE:(bS ((kn rs).map aq)).length=(kn rs).length:=by simp [bS]
 rw [hE,List.take_length] at l1
 have ex:=Cp (fe:=qh (jV 1) (ax mU (ag (jV 0) ah)) (jC (.int 0))) (m:=.al) (m':=.fr) (fr:=[some (.bo,.dt (di (kn rs)))]) (f:=fun r=>bI (gx (kn rs) r) (kn rs).length) rs (fun r hr=>by
  simp -implicitDefEqProofs only [qh,ax,ag,ah,jV,jC,gz,gy,id_eq,oq,mq,mn,Eu,vj]
  cases hd:dF r with
  |none =>
   simp -implicitDefEqProofs only [dd,qK,if_true]
   unfold bI
   rw [Dw fun j _=>by unfold gx;rw [hd]]
   rfl
  |some q =>
   obtain ⟨n,hn⟩:=List.mem_iff_getElem?.mp hr
   obtain ⟨k,hk⟩:=List.mem_iff_getElem?.mp (Wq hn hd)
   have hv:=QY mF hk
   rw [show dd (some q)=D.tup [.str q.1,kD q.2.1,kD q.2.2] from rfl]
   simp only
   rw [show mj (D.tup [.str q.1,kD q.2.1,kD q.2.2])=some (gg q) from ya q,oq,hv]
   simp only [aV]
   unfold bI
   rw [QZ mF hd hk])
 unfold sF fn Br
 simp only [ck,bq,bw]
 rw [av (e':=[some (.al,.lst (rs.map Row.d)),some (.bo,.dt (di [])),none,none]) rfl]
 rw [av (e':=[some (.al,.lst (rs.map Row.d)),some (.bo,.dt (di (kn rs))),o2,o3]) (by
  simp -implicitDefEqProofs only [aY,gb,ax,ag,jV,ah,gz,gy,oq,id_eq,mq,mn,hr,bX,oy]
  exact l1)]
 simp -implicitDefEqProofs only [aG,cf,bO,jV,gz,gy,id_eq,oq,bX,oy]
 rw [show eW [some (M.al,D.lst (rs.map Row.d)),some (.bo,.dt (di (kn rs))),o2,o3] [1]=[some (.bo,.dt (di (kn rs)))] from rfl,ex,oq,gG (by rw [ln];omega),oq]
 rfl
noncomputable def isNm (a:Ko) (x:Str):Bool:=match a with
 |.inr y=>decide (x=y)
 |.inl _=>false
noncomputable def gE (o:Option Str) (q:De):Bool:=match o with
 |some x=>isNm q.2.1 x||isNm q.2.2 x
 |none=>false
theorem Xo {m n:M}{x:Str} (a:Ko):aN (m,.str x) (n,kD a)=some (.fr,.bl (isNm a x)):=by
 cases a with
 |inl i=>exact Vc
 |inr y=>exact de
theorem L7 (r:Row) (q:De):pT [r.d,aq q]=some (.fr,.bl (gE (sets r) q)):=by
 unfold pT fn CM
 simp only [ck,bq,bw]
 rw [av (e':=[some (.al,r.d),some (.al,aq q),some (.fr,dS (sets r))]) (by
  simp -implicitDefEqProofs only [ao,ax,ag,ah,jV,gz,gy,id_eq,oq,mq,mn,Ew,fA,tz,tq])]
 cases sets r with
 |none=>rfl
 |some x =>
  have e1:ak (.al,aq q) (.fr,.int 1)=some (.al,kD q.2.1):=rfl
  have e2:ak (.al,aq q) (.fr,.int 2)=some (.al,kD q.2.2):=rfl
  simp -implicitDefEqProofs only [aG,kO,rB,ae,jV,jC,gz,gy,id_eq,oq,dS,e1,e2,Xo]
  rw [show qu (.fr,.str x) (.fr,.non)=some (.fr,.bl true) from rfl]
  simp -implicitDefEqProofs only [oq,bj,if_true,gE]
  cases isNm q.2.1 x<;>rfl
noncomputable def dX (l:List De) (o:Option Str) (j:Nat):Bool:=match l[j]? with
 |some q=>gE o q
 |none=>false
noncomputable def nK:Option Str→Key
 |some x=>.inr x
 |none=>.non
noncomputable def ml:Key→Option Str
 |.inr x=>some x
 |_=>none
theorem Ez (o:Option Str):ml (nK o)=o:=by cases o<;>rfl
theorem xM (o:Option Str):keyOf (dS o)=some (nK o):=by cases o<;>rfl
theorem Cq {fe:Ev→Option (M×D)}{m m':M}{fr:Ev}{f:De→D}:∀ rs:List De,(∀ r∈rs,fe (some (m,aq r)::fr)=some (m',f r))→cV dA fe m fr (rs.map aq)=some ((rs.map f).map fun y=>(m',y))
 |[],_=>rfl
 |r::rs,h=>by
  have ih:=Cq (fe:=fe) (m:=m) (m':=m') (fr:=fr) (f:=f) rs fun x hx=>h x (List.mem_cons_of_mem _ hx)
  rw [mq,cV,show dA (some (m,aq r)::fr)=some true from rfl,oq,if_pos rfl,h r List.mem_cons_self,oq,ih,oq];rfl
theorem Wr {l:List De} (hl:l.length≤400) {m1:M} (h1:m1=.bo∨m1=.fr) (A0:Option (M×D)) {nm:List (Key×D)} (hn:∀ kv∈nm,kv.2=bI (dX l (ml kv.1)) l.length) (ZE:nm.length≤400) {bs:List D} (ZF:bs.length≤400) (r:Row) (o5:Option (M×D)) :
  ∃ se hV dC,sv [A0,some (m1,.lst (l.map aq)),some (.bo,.dk nm),some (.bo,.lst bs),some (.al,r.d),o5]=some (.nx [A0,some (se,.lst (l.map aq)),some (.bo,.dk hV),some (.bo,.lst (bs++[bI (dX l (sets r)) l.length])),some (.al,r.d),dC])∧(se=.bo∨se=.fr)∧(∀ kv∈hV,kv.2=bI (dX l (ml kv.1)) l.length)∧hV.length≤nm.length+1:=by
 have s1:nm.length < sizeLine:=Nat.lt_of_le_of_lt ZE (by decide)
 have s2:bs.length < sizeLine:=Nat.lt_of_le_of_lt ZF (by decide)
 have hc:(jB (dO true (jV 5) (jV 2))) [A0,some (m1,.lst (l.map aq)),some (.bo,.dk nm),some (.bo,.lst bs),some (.al,r.d),some (.fr,dS (sets r))]=some (!(cS nm (nK (sets r))).isSome):=by
  simp -implicitDefEqProofs only [jB,dO,jV,gz,gy,id_eq,oq,jQ,xM,if_true,bj]
 have fin:∀ (m2:M) (hV:List (Key×D)),(∀ kv∈hV,kv.2=bI (dX l (ml kv.1)) l.length)→(∃ kv∈hV,kv.1=nK (sets r))→cE 3 (qv (jV 2) (jV 5)) [A0,some (m2,.lst (l.map aq)),some (.bo,.dk hV),some (.bo,.lst bs),some (.al,r.d),some (.fr,dS (sets r))]=some (.nx [A0,some (m2,.lst (l.map aq)),some (.bo,.dk hV),some (.bo,.lst (bs++[bI (dX l (sets r)) l.length])),some (.al,r.d),some (.fr,dS (sets r))]):=fun m2 hV jc hi=>by
  have hv:cS hV (nK (sets r))=some (bI (dX l (sets r)) l.length):=xB (fun kv bU e=>by rw [jc kv bU,e,Ez]) hi
  simp -implicitDefEqProofs only [cE,qv,jV,gz,gy,id_eq,oq,jQ,xM,hv,jz,dZ,if_true,dE,own,s2,tz,tq]
 unfold sv
 rw [av (e':=[A0,some (m1,.lst (l.map aq)),some (.bo,.dk nm),some (.bo,.lst bs),some (.al,r.d),some (.fr,dS (sets r))]) (by
  simp -implicitDefEqProofs only [ao,ax,ag,ah,jV,gz,gy,id_eq,oq,mq,mn,Ew,fA,tz,tq])]
 cases hb:(cS nm (nK (sets r))).isSome with
 |true =>
  rw [dJ (by rw [hc,hb];rfl)]
  exact ⟨m1,nm,_,fin m1 nm hn (Lw.mp hb),h1,hn,by omega⟩
 |false =>
  have ex:=Cq (fe:=ax pT (ag (jV 1) (ag (jV 0) ah))) (m:=.fr) (m':=.fr) (fr:=[some (.al,r.d)]) (f:=fun q=>D.bl (gE (sets r) q)) l (fun q _=>by
   simp -implicitDefEqProofs only [ax,ag,ah,jV,gz,gy,id_eq,oq,mq,mn,L7])
  have Bf:=Et (l.map (gE (sets r))) (by rw [ln];omega)
  rw [List.map_map,ln] at Bf
  have iE:bI (fun j=>(l.map (gE (sets r))).getD j false) l.length=bI (dX l (sets r)) l.length:=ky fun j hj=>by
   rw [List.getD_eq_getElem?_getD,List.getElem?_map,List.getElem?_eq_getElem hj]
   unfold dX
   rw [List.getElem?_eq_getElem hj];rfl
  rw [iE] at Bf
  rw [av (e':=[A0,some (.fr,.lst (l.map aq)),some (.bo,.dk (putD nm (nK (sets r)) (bI (dX l (sets r)) l.length))),some (.bo,.lst bs),some (.al,r.d),some (.fr,dS (sets r))]) (by
   rw [bp (by rw [hc,hb];rfl)]
   rw [cN,show aW 1 [A0,some (m1,.lst (l.map aq)),some (.bo,.dk nm),some (.bo,.lst bs),some (.al,r.d),some (.fr,dS (sets r))]=[A0,some (.fr,.lst (l.map aq)),some (.bo,.dk nm),some (.bo,.lst bs),some (.al,r.d),some (.fr,dS (sets r))] from by rcases h1 with rfl|rfl<;>rfl]
   simp -implicitDefEqProofs only [iY,ax,cf,bO,ag,ah,jV,gz,gy,id_eq,oq,bX,oy]
   rw [show eW [A0,some (.fr,.lst (l.map aq)),some (.bo,.dk nm),some (.bo,.lst bs),some (.al,r.d),some (.fr,dS (sets r))] [4]=[some (.al,r.d)] from rfl,ex,oq,gG (by rw [ln];omega),oq]
   simp -implicitDefEqProofs only [mq,mn,oq]
   rw [show (l.map fun q=>D.bl (gE (sets r) q))=l.map (D.bl∘gE (sets r)) from rfl,Bf]
   simp -implicitDefEqProofs only [oq,xM,dZ,if_true,jR,own,gz,gy,s1,tz,tq])]
  have jc:∀ kv∈putD nm (nK (sets r)) (bI (dX l (sets r)) l.length),kv.2=bI (dX l (ml kv.1)) l.length:=fun kv bU=>by
   rcases Dy bU with ⟨z,_⟩|rfl
   ·exact hn kv z
   ·show _=bI (dX l (ml (nK (sets r)))) l.length
    rw [Ez]
  exact ⟨.fr,_,_,fin .fr _ jc putD_has,.inr rfl,jc,xK _ _ _⟩
theorem Oy {rs:List Row} (hl:rs.length≤300):sO [.lst (rs.map Row.d)]=some (.un,.lst (rs.map fun r=>bI (dX (kn rs) (sets r)) (kn rs).length)):=by
 have hk:=lS rs
 have hr:=yc (rs:=rs) (by omega)
 obtain ⟨e',l1,m1,nm,o4,o5,he,_,_,_⟩:=cP (g:=gN 4) (b:=sv) (m:=.al) (ds:=rs.map Row.d) (e:=[some (.al,.lst (rs.map Row.d)),some (.bo,.lst ((kn rs).map aq)),some (.bo,.dk []),some (.bo,.lst []),none,none])
  (fun i e=>∃ (m1:M) (nm:List (Key×D)) (o4 o5:Option (M×D)),e=[some (.al,.lst (rs.map Row.d)),some (m1,.lst ((kn rs).map aq)),some (.bo,.dk nm),some (.bo,.lst ((rs.take i).map fun r=>bI (dX (kn rs) (sets r)) (kn rs).length)),o4,o5]∧(m1=.bo∨m1=.fr)∧(∀ kv∈nm,kv.2=bI (dX (kn rs) (ml kv.1)) (kn rs).length)∧nm.length≤i)
  ⟨.bo,[],none,none,rfl,.inl rfl,(fun kv h=>nomatch h),Nat.le_refl _⟩
  (fun i d e hd aZ=>by
   obtain ⟨m1,nm,o4,o5,he,h1,h2,h3⟩:=aZ
   subst he
   obtain ⟨r,hr,rfl⟩:=yb hd
   have hi:i < rs.length:=(List.getElem?_eq_some_iff.mp hr).1
   obtain ⟨se,hV,dC,q,g1,g2,g3⟩:=Wr (l:=kn rs) (by omega) h1 (some (.al,.lst (rs.map Row.d))) h2 (by omega) (bs:=(rs.take i).map fun r=>bI (dX (kn rs) (sets r)) (kn rs).length) (by rw [ln,List.length_take];omega) r o5
   refine ⟨_,_,rfl,q,se,hV,some (.al,r.d),dC,?_,g1,g2,by omega⟩
   rw [List.take_add_one,hr,Option.toList_some,List.map_append]
   rfl)
 subst he
 rw [ln,List.take_length] at l1
 unfold sO fn Bu
 simp only [ck,bq,bw]
 rw [av (e':=[some (.al,.lst (rs.map Row.d)),some (.bo,.lst ((kn rs).map aq)),none,none,none,none]) (by
  simp -implicitDefEqProofs only [ao,ax,ag,ah,jV,gz,gy,id_eq,oq,mq,mn,hr,fO,tz,tq])]
 rw [av (e':=[some (.al,.lst (rs.map Row.d)),some (.bo,.lst ((kn rs).map aq)),some (.bo,.dk []),none,none,none]) rfl]
 rw [av (e':=[some (.al,.lst (rs.map Row.d)),some (.bo,.lst ((kn rs).map aq)),some (.bo,.dk []),some (.bo,.lst []),none,none]) rfl]
 rw [av (e':=[some (.al,.lst (rs.map Row.d)),some (m1,.lst ((kn rs).map aq)),some (.bo,.dk nm),some (.bo,.lst (rs.map fun r=>bI (dX (kn rs) (sets r)) (kn rs).length)),o4,o5]) (by
  rw [cN,show aW 0 [some (.al,.lst (rs.map Row.d)),some (.bo,.lst ((kn rs).map aq)),some (.bo,.dk []),some (.bo,.lst []),none,none]=[some (.al,.lst (rs.map Row.d)),some (.bo,.lst ((kn rs).map aq)),some (.bo,.dk []),some (.bo,.lst []),none,none] from rfl]
  simp -implicitDefEqProofs only [aY,bO,jV,gz,gy,id_eq,oq,bX,oy]
  exact l1)]
 rfl
theorem DF {c:Ev→Option Bool}{b:Ev→Option Fl} (Iv:Nat→Ev→Prop) (Rt:M→D→Prop)
    (hs:∀ n e,Iv n e→c e=some false∨(c e=some true∧((∃ e2 n2,(b e=some (.nx e2)∨b e=some (.ct e2))∧Iv n2 e2∧n2 < n)∨∃ e2 m d,b e=some (.rt e2 m d)∧Rt m d))) {n:Nat}{e:Ev} (h0:Iv n e) :
    (∃ e' n',gk c b e=some (.nx e')∧Iv n' e'∧c e'=some false)∨∃ e' m d,gk c b e=some (.rt e' m d)∧Rt m d:=by
  have:∀ (k n:Nat) e,n≤k→Iv n e→(∃ e' n',cK c b (k+1) e=some (.nx e')∧Iv n' e'∧c e'=some false)∨∃ e' m d,cK c b (k+1) e=some (.rt e' m d)∧Rt m d:=by
    intro k
    induction k with
    |zero =>
      intro n e hn hi
      rcases hs n e hi with h|⟨h,⟨e2,n2,_,_,z⟩|⟨e2,m,d,h1,h2⟩⟩
      · exact .inl ⟨e,n,by simp [cK,h],hi,h⟩
      · omega
      · exact .inr ⟨e2,m,d,by rw [cK,h,oq,if_pos rfl,h1,oq],h2⟩
    |succ k ih =>
      intro n e hn hi
      rcases hs n e hi with h|⟨h,⟨e2,n2,h1,h2,h3⟩|⟨e2,m,d,h1,h2⟩⟩
      · exact .inl ⟨e,n,by simp [cK,h],hi,h⟩
      · have w:cK c b (k+1+1) e=cK c b (k+1) e2:=by
          rw [cK,h,oq,if_pos rfl]
          rcases h1 with h1|h1<;>rw [h1,oq]
        rw [w]
        exact ih n2 e2 (by omega) h2
      · exact .inr ⟨e2,m,d,by rw [cK,h,oq,if_pos rfl,h1,oq],h2⟩
  rcases this n n e (Nat.le_refl _) h0 with ⟨e',n',h1,h2,h3⟩|⟨e',m,d,h1,h2⟩
  · exact .inl ⟨e',n',xu h1,h2,h3⟩
  · exact .inr ⟨e',m,d,xu h1,h2⟩
noncomputable def aC (P:Nat→Nat→Bool) (N K:Nat):List D:=(List.range N).map fun n=>bI (P n) K
theorem qa (P:Nat→Nat→Bool) (N K:Nat):(aC P N K).length=N:=by simp [aC]
theorem nL {P:Nat→Nat→Bool}{N K m:Nat} (h:m < N):L2.bt (aC P N K) (m:Int)=some (bI (P m) K):=by
 rw [lE (by rw [qa];exact h)]
 simp [aC]
theorem DG:∀ {ds:List D},(∀ d∈ds,d.bQ=true)→D.cw ds=true
 |[],_=>by simp only [D.cw]
 |d::ds,h=>by simp only [D.cw,h d List.mem_cons_self,DG fun x hx=>h x (List.mem_cons_of_mem _ hx),Bool.and_self]
theorem Q0 (P:Nat→Nat→Bool) (N K:Nat):D.cw (aC P N K)=true:=DG fun d hd=>by
 obtain ⟨n,_,rfl⟩:=List.mem_map.mp hd;exact Uu
noncomputable def dG (P:Nat→Nat→Bool) (m:Nat) (q:Nat→Bool):Nat→Nat→Bool:=fun n=>if n=m then q else P n
theorem qb (P:Nat→Nat→Bool) (N K m:Nat) (q:Nat→Bool):(aC P N K).set m (bI q K)=aC (dG P m q) N K:=by
 refine List.ext_getElem (by simp [aC]) fun i h1 h2=>?_
 rw [List.getElem_set]
 simp only [aC,List.getElem_map,List.getElem_range,dG]
 by_cases e:m=i
 ·rw [if_pos e,if_pos e.symm]
 ·rw [if_neg e,if_neg fun z=>e z.symm]
noncomputable def cz (p:Nat→Bool):Nat→Nat
 |0=>0
 |k+1=>cz p k+(if p k=true then 0 else 1)
theorem Gy (p:Nat→Bool):∀ k,cz p k≤k
 |0=>Nat.le_refl _
 |k+1=>by have:=Gy p k;rw [cz];split<;>omega
theorem EA {p q:Nat→Bool}:∀ {k:Nat},(∀ j,j < k→p j=true→q j=true)→cz q k≤cz p k∧(cz q k=cz p k→∀ j,j < k→p j=q j)
 |0,_=>⟨Nat.le_refl _,fun _ j h=>absurd h (Nat.not_lt_zero j)⟩
 |k+1,h=>by
  obtain ⟨h1,h2⟩:=EA (k:=k) fun j hj=>h j (by omega)
  have hk:=h k (by omega)
  rw [cz,cz]
  cases hp:p k with
  |true =>
   rw [hk hp]
   simp only [if_true,Nat.add_zero]
   refine ⟨h1,fun e j hj=>?_⟩
   by_cases z:j=k
   ·subst z;rw [hp,hk hp]
   ·exact h2 e j (by omega)
  |false =>
   cases hq:q k with
   |true=>simp;exact ⟨by omega,fun e=>by omega⟩
   |false =>
    simp
    refine ⟨h1,fun e j hj=>?_⟩
    by_cases z:j=k
    ·subst z;rw [hp,hq]
    ·exact h2 e j (by omega)
noncomputable def cj (P:Nat→Nat→Bool) (K:Nat):Nat→Nat
 |0=>0
 |n+1=>cj P K n+cz (P n) K
theorem FH (P:Nat→Nat→Bool) (K:Nat):∀ N,cj P K N≤N*K
 |0=>by simp [cj]
 |n+1=>by have:=FH P K n;have:=Gy (P n) K;rw [cj,Nat.succ_mul];omega
theorem EB {P:Nat→Nat→Bool}{K m:Nat}{q:Nat→Bool}:∀ {N:Nat},N≤m→cj (dG P m q) K N=cj P K N
 |0,_=>rfl
 |n+1,h=>by
  rw [cj,cj,EB (by omega)]
  have:dG P m q n=P n:=if_neg (by omega)
  rw [this]
theorem FI {P:Nat→Nat→Bool}{K m:Nat}{q:Nat→Bool} (h:cz q K < cz (P m) K):∀ {N:Nat},m < N→cj (dG P m q) K N < cj P K N
 |0,hm=>absurd hm (Nat.not_lt_zero m)
 |n+1,hm=>by
  rw [cj,cj]
  by_cases e:m=n
  ·subst e
   rw [EB (Nat.le_refl m)]
   have:dG P m q m=q:=if_pos rfl
   rw [this]
   omega
  ·have ih:=FI h (N:=n) (by omega)
   have:dG P m q n=P n:=if_neg fun z=>e z.symm
   rw [this];omega
def Cl (Bk:List (List Nat)) (pass P:Nat→Nat→Bool) (K n:Nat):Prop:=∀ m∈Bk.getD n [],∀ j,j < K→P n j=true→pass m j=true→P m j=true
structure SI (Bk:List (List Nat)) (pass P0:Nat→Nat→Bool) (N K:Nat) (P:Nat→Nat→Bool):Prop where
 up:∀ n j,n < N→j < K→P0 n j=true→P n j=true
 sd:∀ Q:Nat→Nat→Prop,(∀ n j,n < N→j < K→P0 n j=true→Q n j)→(∀ n m j,n < N→m∈Bk.getD n []→j < K→Q n j→pass m j=true→Q m j)→∀ n j,n < N→j < K→P n j=true→Q n j
theorem Oz {Bk:List (List Nat)}{pass P0:Nat→Nat→Bool}{N K:Nat} (A1:Option (M×D)) (hN:N≤400) {n:Nat} (hn:n < N) {P:Nat→Nat→Bool} (si:SI Bk pass P0 N K P) {m:Nat} (hm:m < N) (rV:m∈Bk.getD n []) {ws:List Nat} (hw:ws.length≤1000000) (o7:Option (M×D)) :
  ∃ P' bh bC,pO [some (.al,.lst (aX Bk)),A1,some (.al,.lst (aC pass N K)),some (.bo,.lst (aC P N K)),some (.bo,.lst (au ws)),some (.fr,.int (n:Int)),some (.al,.int (m:Int)),o7]=some (.nx [some (.al,.lst (aX Bk)),A1,some (.al,.lst (aC pass N K)),some (.bo,.lst (aC P' N K)),some (.bo,.lst (au bh)),some (.fr,.int (n:Int)),some (.al,.int (m:Int)),bC]) ∧
   SI Bk pass P0 N K P'∧(∀ j,j < K→P' n j=P n j)∧(∀ x j,j < K→P x j=true→P' x j=true)∧(∀ j,j < K→P n j=true→pass m j=true→P' m j=true)∧(∀ x∈ws,x∈bh)∧(∀ x,x∉bh→∀ j,P' x j=P x j)∧2*cj P' K N+bh.length≤2*cj P K N+ws.length∧(∀ x∈bh,x∈ws∨x=m):=by
 have s1:ws.length < sizeLine:=Nat.lt_of_le_of_lt hw (by decide)
 let q:Nat→Bool:=fun j=>P m j||(P n j&&pass m j)
 have hq:q=fun j=>P m j||(P n j&&pass m j):=rfl
 unfold pO
 rw [av (e':=[some (.al,.lst (aX Bk)),A1,some (.al,.lst (aC pass N K)),some (.bo,.lst (aC P N K)),some (.bo,.lst (au ws)),some (.fr,.int (n:Int)),some (.al,.int (m:Int)),some (.fr,bI q K)]) (by
  simp -implicitDefEqProofs only [ao,ae,jV,gz,gy,id_eq,oq,cL,nL hm,nL hn,oy,jz,cQ,Ut,yX,fA,tz,tq,hq])]
 have hc:(jB (ae ft (jV 7) (ae ak (jV 3) (jV 6)))) [some (.al,.lst (aX Bk)),A1,some (.al,.lst (aC pass N K)),some (.bo,.lst (aC P N K)),some (.bo,.lst (au ws)),some (.fr,.int (n:Int)),some (.al,.int (m:Int)),some (.fr,bI q K)]=some (!decide (((bu q K:Nat):Int)=((bu (P m) K:Nat):Int))):=by
  simp -implicitDefEqProofs only [jB,ae,jV,gz,gy,id_eq,oq,cL,nL hm,oy,jz]
  unfold bI
  rw [uO]
  rfl
 by_cases he:bu q K=bu (P m) K
 ·rw [bH (by rw [hc,he];simp)]
  refine ⟨P,ws,_,rfl,si,fun _ _=>rfl,fun _ _ _ h=>h,fun j hj h1 h2=>?_,fun _ h=>h,fun _ _ _=>rfl,Nat.le_refl _,fun _ h=>.inl h⟩
  have:=QT he j hj
  rw [←this,hq]
  simp [h1,h2]
 ·have aS:cz q K < cz (P m) K:=by
   obtain ⟨h1,h2⟩:=EA (p:=P m) (q:=q) (k:=K) fun j _ h=>by rw [hq];simp [h]
   rcases Nat.lt_or_eq_of_le h1 with z|z
   ·exact z
   ·exact absurd (p9 fun j hj=>(h2 z j hj).symm) he
  have eO:n≠m:=fun e=>he (p9 fun j _=>by
   show (P m j||(P n j&&pass m j))=P m j
   rw [e]
   by_cases h:P m j=true<;>simp [h])
  rw [bp (by rw [hc,decide_eq_false (fun z=>he (by omega))];rfl)]
  have kh:cT (aC P N K).length (m:Int)=some m:=by
   unfold cT
   rw [qa,if_pos (by omega),if_pos (by omega)];simp
  have um:dG P m q m=q:=if_pos rfl
  have ux:∀ x,x≠m→dG P m q x=P x:=fun x h=>if_neg h
  refine ⟨dG P m q,ws++[m],some (.fr,bI q K),?_,⟨fun x j hx hj h=>?_,fun Q h1 h2 x j hx hj h=>?_⟩,fun j _=>by rw [ux n eO],fun x j _ h=>?_,fun j _ h1 h2=>by rw [um,hq];simp [h1,h2],fun x h=>List.mem_append_left _ h,fun x hx j=>by rw [ux x fun e=>hx (by rw [e];simp)],?_,fun x hx=>by simpa using hx⟩
  ·simp -implicitDefEqProofs only [aj,c9,cE,jV,gz,gy,id_eq,oq,ig,dZ,if_true,dE,own,kh,qb,tz,tq,yr,qK,dn,s1,Dq]
  ·by_cases e:x=m
   ·subst e;rw [um,hq];simp [si.up x j hx hj h]
   ·rw [ux x e];exact si.up x j hx hj h
  ·by_cases e:x=m
   ·subst e
    rw [um,hq] at h
    simp only [Bool.or_eq_true,Bool.and_eq_true] at h
    rcases h with h|⟨h,h'⟩
    ·exact si.sd Q h1 h2 x j hx hj h
    ·exact h2 n x j hn rV hj (si.sd Q h1 h2 n j hn hj h) h'
   ·rw [ux x e] at h;exact si.sd Q h1 h2 x j hx hj h
  ·by_cases e:x=m
   ·subst e;rw [um,hq];simp [h]
   ·rw [ux x e];exact h
  ·have:=FI aS hm
   rw [List.length_append];simp only [List.length_cons,List.length_nil];omega
theorem M0 {Bk:List (List Nat)}{pass P0:Nat→Nat→Bool}{N K:Nat} (A1:Option (M×D)) (hN:N≤400) {n:Nat} (hn:n < N) {P:Nat→Nat→Bool} (si:SI Bk pass P0 N K P) (hm:∀ m∈Bk.getD n [],m < N) {ws:List Nat} (hw:2*cj P K N+ws.length≤900000) (o6 o7:Option (M×D)) :
  ∃ P' bh cg bC,forL (gN 6) pO .al (au (Bk.getD n [])) [some (.al,.lst (aX Bk)),A1,some (.al,.lst (aC pass N K)),some (.bo,.lst (aC P N K)),some (.bo,.lst (au ws)),some (.fr,.int (n:Int)),o6,o7]=some (.nx [some (.al,.lst (aX Bk)),A1,some (.al,.lst (aC pass N K)),some (.bo,.lst (aC P' N K)),some (.bo,.lst (au bh)),some (.fr,.int (n:Int)),cg,bC]) ∧
   SI Bk pass P0 N K P'∧(∀ j,j < K→P' n j=P n j)∧(∀ x j,j < K→P x j=true→P' x j=true)∧(∀ m∈Bk.getD n [],∀ j,j < K→P n j=true→pass m j=true→P' m j=true)∧(∀ x∈ws,x∈bh)∧(∀ x,x∉bh→∀ j,P' x j=P x j)∧2*cj P' K N+bh.length≤2*cj P K N+ws.length∧∀ x∈bh,x∈ws∨x < N:=by
 generalize ZG:Bk.getD n []=ms at hm
 obtain ⟨e',l1,P',bh,cg,bC,he,a1,a2,a3,a4,a5,a6,a7,a8⟩:=cP (g:=gN 6) (b:=pO) (m:=.al) (ds:=au ms) (e:=[some (.al,.lst (aX Bk)),A1,some (.al,.lst (aC pass N K)),some (.bo,.lst (aC P N K)),some (.bo,.lst (au ws)),some (.fr,.int (n:Int)),o6,o7])
  (fun i e=>∃ (P':Nat→Nat→Bool) (bh:List Nat) (o6 o7:Option (M×D)),e=[some (.al,.lst (aX Bk)),A1,some (.al,.lst (aC pass N K)),some (.bo,.lst (aC P' N K)),some (.bo,.lst (au bh)),some (.fr,.int (n:Int)),o6,o7] ∧
   SI Bk pass P0 N K P'∧(∀ j,j < K→P' n j=P n j)∧(∀ x j,j < K→P x j=true→P' x j=true)∧(∀ m∈ms.take i,∀ j,j < K→P n j=true→pass m j=true→P' m j=true)∧(∀ x∈ws,x∈bh)∧(∀ x,x∉bh→∀ j,P' x j=P x j)∧2*cj P' K N+bh.length≤2*cj P K N+ws.length∧∀ x∈bh,x∈ws∨x < N)
  ⟨P,ws,o6,o7,rfl,si,(fun _ _=>rfl),(fun _ _ _ h=>h),(fun m h=>by simp at h),(fun _ h=>h),(fun _ _ _=>rfl),Nat.le_refl _,fun _ h=>.inl h⟩
  (fun i d e hd aZ=>by
   obtain ⟨P1,ZH,o6,o7,he,a1,a2,a3,a4,a5,a6,a7,a8⟩:=aZ
   subst he
   obtain ⟨m,jo,rfl⟩:∃ m,ms[i]?=some m∧d=.int (m:Int):=by
    unfold au at hd
    rw [List.getElem?_map] at hd
    cases e:ms[i]? with
    |none=>rw [e] at hd;cases hd
    |some r=>rw [e] at hd;cases hd;exact ⟨r,rfl,rfl⟩
   have zQ:=List.mem_of_getElem? jo
   obtain ⟨P2,xh,bC,q,b1,b2,b3,b4,b5,b6,b7,b8⟩:=Oz A1 hN hn a1 (hm m zQ) (by rw [ZG];exact zQ) (ws:=ZH) (by omega) o7
   refine ⟨_,_,rfl,q,P2,xh,_,bC,rfl,b1,fun j hj=>by rw [b2 j hj,a2 j hj],fun x j hj h=>b3 x j hj (a3 x j hj h),fun x hx j hj h1 h2=>?_,fun x h=>b5 x (a5 x h),fun x hx j=>?_,by omega,fun x hx=>?_⟩
   ·rw [List.take_add_one,jo] at hx
    rcases List.mem_append.mp hx with z|z
    ·exact b3 x j hj (a4 x z j hj h1 h2)
    ·have:x=m:=by simpa using z
     subst this
     exact b4 j hj (by rw [a2 j hj];exact h1) h2
   ·rw [b6 x hx j,a6 x (fun z=>hx (b5 x z)) j]
   ·rcases b8 x hx with z|z
    ·exact a8 x z
    ·exact .inr (z▸hm m zQ))
 subst he
 rw [dn,List.take_length] at a4
 exact ⟨P',bh,cg,bC,l1,a1,a2,a3,a4,a5,a6,a7,a8⟩
theorem M3 {Bk:List (List Nat)}{pass P0:Nat→Nat→Bool}{N K:Nat} (hB:Bk.length=N) (hN:N≤400) (hK:K≤400) (hm:∀ n,∀ m∈Bk.getD n [],m < N) :
  ∃ P,tZ [.lst (aX Bk),.lst (aC P0 N K),.lst (aC pass N K)]=some (.un,.lst (aC P N K))∧SI Bk pass P0 N K P∧∀ n,n < N→Cl Bk pass P K n:=by
 have hNK:N*K≤160000:=Nat.mul_le_mul hN hK
 obtain ⟨e',n',l1,⟨P,ws,o5,o6,o7,he,si,hw,ZI,Bg⟩,hc⟩|⟨_,_,_,_,hf⟩:=DF (c:=pP) (b:=xq)
  (fun mu e=>∃ (P:Nat→Nat→Bool) (ws:List Nat) (o5 o6 o7:Option (M×D)),e=[some (.al,.lst (aX Bk)),some (.al,.lst (aC P0 N K)),some (.al,.lst (aC pass N K)),some (.bo,.lst (aC P N K)),some (.bo,.lst (au ws)),o5,o6,o7]∧SI Bk pass P0 N K P∧(∀ x∈ws,x < N)∧(2*cj P K N+ws.length=mu∧mu≤900000)∧∀ n,n < N→n∉ws→Cl Bk pass P K n)
  (fun _ _=>False)
  (fun mu e aZ=>by
   obtain ⟨P,ws,o5,o6,o7,he,si,hw,ZI,Bg⟩:=aZ
   subst he
   have hC:pP [some (.al,.lst (aX Bk)),some (.al,.lst (aC P0 N K)),some (.al,.lst (aC pass N K)),some (.bo,.lst (aC P N K)),some (.bo,.lst (au ws)),o5,o6,o7]=some (decide ((0:Int) < (ws.length:Int))):=by
    unfold pP
    simp -implicitDefEqProofs only [jB,ae,aJ,ag,ah,jV,jC,gz,gy,id_eq,oq,cW,dn,nU,bj]
   rw [hC]
   rcases List.eq_nil_or_concat ws with rfl|⟨bh,n,rfl⟩
   ·exact .inl rfl
   rw [List.concat_eq_append] at *
   have sf:n < N:=hw n (by simp)
   refine .inr ⟨by rw [decide_eq_true (by rw [List.length_append];simp only [List.length_cons,List.length_nil];omega)],.inl ?_⟩
   have hl:(bh++[n]).length=bh.length+1:=by simp
   obtain ⟨P',xh,cg,bC,q,a1,a2,a3,a4,a5,a6,a7,a8⟩:=M0 (pass:=pass) (P0:=P0) (some (.al,.lst (aC P0 N K))) hN sf si (hm n) (ws:=bh) (by omega) o6 o7
   refine ⟨_,2*cj P' K N+xh.length,.inl ?_,⟨P',xh,some (.fr,.int (n:Int)),cg,bC,rfl,a1,fun x hx=>?_,⟨rfl,by omega⟩,fun x hx KR=>?_⟩,by omega⟩
   ·unfold xq
    have zR:kR 5 4 [some (.al,.lst (aX Bk)),some (.al,.lst (aC P0 N K)),some (.al,.lst (aC pass N K)),some (.bo,.lst (aC P N K)),some (.bo,.lst (au (bh++[n]))),o5,o6,o7]=some (.nx [some (.al,.lst (aX Bk)),some (.al,.lst (aC P0 N K)),some (.al,.lst (aC pass N K)),some (.bo,.lst (aC P N K)),some (.bo,.lst (au bh)),some (.fr,.int (n:Int)),o6,o7]):=by
     have e1:(au (bh++[n]))[(au (bh++[n])).length-1]?=some (.int (n:Int)):=by simp [au]
     have e2:(au (bh++[n])).dropLast=au bh:=by simp [au]
     simp -implicitDefEqProofs only [kR,dE,own,if_true,gz,gy,oq,e1,e2,tz,tq]
    rw [av zR]
    have sg:n < Bk.length:=by omega
    have oW:L2.bt (aX Bk) (n:Int)=some (.lst (au (Bk.getD n []))):=by
     rw [J.lE (by simpa [aX] using sg)]
     simp only [aX,List.getElem_map]
     rw [List.getD_eq_getElem?_getD,List.getElem?_eq_getElem sg];rfl
    simp -implicitDefEqProofs only [aY,bO,ae,jV,gz,gy,id_eq,oq,cL,oW,oy,cQ,bX]
    exact q
   ·rcases a8 x hx with z|z
    ·exact hw x (List.mem_append_left _ z)
    ·exact z
   ·by_cases KS:x=n
    ·subst KS
     exact fun m mS j hj h1 h2=>a4 m mS j hj (by rw [←a2 j hj];exact h1) h2
    ·have Xp:x∉bh++[n]:=fun z=>by
      rcases List.mem_append.mp z with y|y
      ·exact KR (a5 x y)
      ·exact KS (by simpa using y)
     exact fun m mS j hj h1 h2=>a3 m j hj (Bg x hx Xp m mS j hj (by rw [←a6 x KR j];exact h1) h2))
  (n:=2*cj P0 K N+N) (e:=[some (.al,.lst (aX Bk)),some (.al,.lst (aC P0 N K)),some (.al,.lst (aC pass N K)),some (.bo,.lst (aC P0 N K)),some (.bo,.lst (au (List.range N))),none,none,none])
  ⟨P0,List.range N,none,none,none,rfl,⟨fun _ _ _ _ h=>h,fun Q h1 _=>h1⟩,(fun x h=>List.mem_range.mp h),⟨by rw [List.length_range],by have:=FH P0 K N;omega⟩,fun n h1 h2=>absurd (List.mem_range.mpr h1) h2⟩
 ·subst he
  have hz:ws=[]:=by
   unfold pP at hc
   simp -implicitDefEqProofs only [jB,ae,aJ,ag,ah,jV,jC,gz,gy,id_eq,oq,cW,dn,nU,bj] at hc
   have:=Option.some.inj hc
   rw [decide_eq_false_iff_not] at this
   exact List.length_eq_zero_iff.mp (by omega)
  subst hz
  refine ⟨P,?_,si,fun n hn=>Bg n hn (fun z=>nomatch z)⟩
  have bY:-4611686018427387904≤(N:Int)∧(N:Int)≤16777216:=by omega
  have ht:(N:Int).toNat=N:=by omega
  unfold tZ fn Dp
  simp only [ck,bq,bw]
  rw [av (e':=[some (.al,.lst (aX Bk)),some (.al,.lst (aC P0 N K)),some (.al,.lst (aC pass N K)),some (.bo,.lst (aC P0 N K)),none,none,none,none]) (by
   simp -implicitDefEqProofs only [ao,aJ,ag,ah,jV,lM,Fc (Q0 P0 N K),gz,gy,id_eq,oq,fO,tz,tq])]
  rw [av (e':=[some (.al,.lst (aX Bk)),some (.al,.lst (aC P0 N K)),some (.al,.lst (aC pass N K)),some (.bo,.lst (aC P0 N K)),some (.bo,.lst (au (List.range N))),none,none,none]) (by
   simp -implicitDefEqProofs only [ao,vU,aJ,ag,ah,jV,gz,gy,id_eq,oq,cW,qa,bY,and_self,if_true,ht,fO,ur,tz,tq])]
  rw [av l1]
  rfl
 ·exact hf.elim
noncomputable def lift (rs:List Row) (g:Row→Nat→Bool) (n j:Nat):Bool:=match rs[n]? with
 |some r=>g r j
 |none=>false
theorem iS {rs:List Row}{g:Row→Nat→Bool}{n:Nat}{r:Row} (h:rs[n]?=some r) (j:Nat):lift rs g n j=g r j:=by unfold lift;rw [h]
theorem DH (rs:List Row) (g:Row→Nat→Bool) (K:Nat):(rs.map fun r=>bI (g r) K)=aC (lift rs g) rs.length K:=by
 refine List.ext_getElem (by simp [aC]) fun i h1 h2=>?_
 simp only [aC,List.getElem_map,List.getElem_range]
 have hi:i < rs.length:=by simpa using h1
 exact ky fun j _=>(iS (by simp) j).symm
noncomputable def dm (l:List De) (r:Row) (j:Nat):Bool:=true&&!gx l r j
theorem Cr {α:Type}{fe:Ev→Option (M×D)}{m m':M}{fr:Ev}{g f:α→D}:∀ rs:List α,(∀ r∈rs,fe (some (m,g r)::fr)=some (m',f r))→cV dA fe m fr (rs.map g)=some ((rs.map f).map fun y=>(m',y))
 |[],_=>rfl
 |r::rs,h=>by
  have ih:=Cr (fe:=fe) (m:=m) (m':=m') (fr:=fr) (g:=g) (f:=f) rs fun x hx=>h x (List.mem_cons_of_mem _ hx)
  rw [mq,cV,show dA (some (m,g r)::fr)=some true from rfl,oq,if_pos rfl,h r List.mem_cons_self,oq,ih,oq];rfl
noncomputable def cO (l:List De) (r:Row) (j:Nat):Bool:=dX l (sets r) j
inductive fU (rs:List Row) (j:Nat):Nat→Prop
 |chg {n:Nat}{r:Row}:rs[n]?=some r→cO (kn rs) r j=true→fU rs j n
 |start {n:Nat}{r:Row}:rs[n]?=some r→n=0→dm (kn rs) r j=true→fU rs j n
 |step {n m:Nat}{r:Row}:rs[m]?=some r→dm (kn rs) r j=true→aM rs n m→fU rs j n→fU rs j m
theorem EC (rs:List Row) {n:Nat} (h:n < rs.length):((List.range rs.length).map (fm rs)).getD n []=fm rs n:=by
 rw [List.getD_eq_getElem?_getD,List.getElem?_map,List.getElem?_range h];rfl
theorem DI {rs:List Row}{n m:Nat} (h:m∈((List.range rs.length).map (fm rs)).getD n []):n < rs.length∧m∈fm rs n:=by
 by_cases z:n < rs.length
 ·rw [EC rs z] at h;exact ⟨z,h⟩
 ·rw [List.getD_eq_getElem?_getD,List.getElem?_eq_none (by simpa using z)] at h;cases h
theorem Q5 {rs:List Row} (g:Good rs) (hl:rs.length≤300):∃ P,sr [.lst (rs.map Row.d)]=some (.un,.lst (aC P rs.length (kn rs).length))∧∀ n j,n < rs.length→j < (kn rs).length→(P n j=true↔fU rs j n):=by
 have hk:=lS rs
 have hp:=g.pos
 have e1:=DB (rs:=rs) (by omega)
 have e2:=Ox (rs:=rs) (by omega)
 have e3:=Oy (rs:=rs) (by omega)
 have e4:=Ck (rs:=rs) (by omega)
 rw [QL g] at e4
 generalize hK:(kn rs).length=K at e1 e2 e3 hk
 obtain ⟨P,e6,si,cl⟩:=M3 (Bk:=(List.range rs.length).map (fm rs)) (pass:=lift rs (dm (kn rs))) (P0:=dG (lift rs (cO (kn rs))) 0 fun j=>lift rs (cO (kn rs)) 0 j||lift rs (dm (kn rs)) 0 j) (N:=rs.length) (K:=K) (by simp) (by omega) (by omega) (fun n m hm=>by obtain ⟨_,_,_,z⟩:=ua g (DI hm).2;exact z)
 refine ⟨P,?_,fun n j hn hj=>⟨fun h=>?_,fun h=>?_⟩⟩
 ·have ex:=Cr (fe:=ae iW (jV 1) (bN kU (jV 0))) (m:=.fr) (m':=.fr) (fr:=[some (.fr,bI (fun _=>true) K)]) (g:=fun r=>bI (gx (kn rs) r) K) (f:=fun r=>bI (dm (kn rs) r) K) rs (fun r _=>by
   simp -implicitDefEqProofs only [ae,bN,jV,gz,gy,id_eq,oq]
   exact FE)
  unfold sr fn Bj
  simp only [ck,bq,bw]
  rw [av (e':=[some (.al,.lst (rs.map Row.d)),some (.fr,bI (fun _=>true) K),none,none]) (by
   simp -implicitDefEqProofs only [ao,ax,ag,ah,jV,gz,gy,id_eq,oq,mq,mn,e1,fA,tz,tq])]
  rw [av (e':=[some (.al,.lst (rs.map Row.d)),some (.fr,bI (fun _=>true) K),some (.bo,.lst (aC (lift rs (dm (kn rs))) rs.length K)),none]) (by
   simp -implicitDefEqProofs only [ao,cf,bO,ax,ag,ah,jV,gz,gy,id_eq,oq,mq,mn,e2,bX,oy]
   rw [show eW [some (M.al,D.lst (rs.map Row.d)),some (.fr,bI (fun _=>true) K),none,none] [1]=[some (.fr,bI (fun _=>true) K)] from rfl,ex,oq,gG (by rw [ln];omega),oq,DH]
   rfl)]
  rw [av (e':=[some (.al,.lst (rs.map Row.d)),some (.fr,bI (fun _=>true) K),some (.bo,.lst (aC (lift rs (dm (kn rs))) rs.length K)),some (.bo,.lst (aC (lift rs (cO (kn rs))) rs.length K))]) (by
   rw [←DH rs (cO (kn rs))]
   simp -implicitDefEqProofs only [ao,ax,ag,ah,jV,gz,gy,id_eq,oq,mq,mn,e3,fO,tz,tq]
   rfl)]
  have kh:cT (aC (lift rs (cO (kn rs))) rs.length K).length 0=some 0:=by
   unfold cT
   rw [qa,if_pos (by omega),if_pos (by omega)];rfl
  have a0:∀ P:Nat→Nat→Bool,L2.bt (aC P rs.length K) 0=some (bI (P 0) K):=fun P=>nL (m:=0) hp
  rw [av (e':=[some (.al,.lst (rs.map Row.d)),some (.fr,bI (fun _=>true) K),some (.bo,.lst (aC (lift rs (dm (kn rs))) rs.length K)),some (.bo,.lst (aC (dG (lift rs (cO (kn rs))) 0 fun j=>lift rs (cO (kn rs)) 0 j||lift rs (dm (kn rs)) 0 j) rs.length K))]) (by
   simp -implicitDefEqProofs only [c9,ae,jV,jC,gz,gy,id_eq,oq,cL,a0,oy,jz,yX,ig,dZ,if_true,dE,own,kh,qb,tz,tq])]
  simp -implicitDefEqProofs only [aG,ax,ag,ah,jV,gz,gy,id_eq,oq,mq,mn,e4,e6,yp]
 ·refine si.sd (fun n j=>fU rs j n) (fun n j hn hj h=>?_) (fun n m j hn hm hj h hp=>?_) n j hn hj h
  ·have hr:rs[n]?=some (rs[n]'hn):=by simp
   by_cases z:n=0
   ·have e:dG (lift rs (cO (kn rs))) 0 (fun j=>lift rs (cO (kn rs)) 0 j||lift rs (dm (kn rs)) 0 j) n j=(lift rs (cO (kn rs)) n j||lift rs (dm (kn rs)) n j):=by unfold dG;rw [if_pos z,z]
    rw [e,iS hr,iS hr,Bool.or_eq_true] at h
    rcases h with h|h
    ·exact .chg hr h
    ·exact .start hr z h
   ·have e:dG (lift rs (cO (kn rs))) 0 (fun j=>lift rs (cO (kn rs)) 0 j||lift rs (dm (kn rs)) 0 j) n j=lift rs (cO (kn rs)) n j:=by unfold dG;rw [if_neg z]
    rw [e,iS hr] at h
    exact .chg hr h
  ·have hs:=ua g (DI hm).2
   obtain ⟨_,_,_,ZJ⟩:=id hs
   have hr:rs[m]?=some (rs[m]'ZJ):=by simp
   rw [iS hr] at hp
   exact .step hr hp hs h
 ·induction h with
  |@chg n r hr hd =>
   refine si.up n j hn hj ?_
   unfold dG
   split
   ·rename_i z;subst z;show (lift rs (cO (kn rs)) 0 j||lift rs (dm (kn rs)) 0 j)=true;rw [iS hr,hd];rfl
   ·rw [iS hr];exact hd
  |@start n r hr hz hd =>
   refine si.up n j hn hj ?_
   unfold dG
   rw [if_pos hz]
   subst hz
   show (lift rs (cO (kn rs)) 0 j||lift rs (dm (kn rs)) 0 j)=true
   rw [iS hr,iS hr,hd,Bool.or_true]
  |@step n m r hr hp hs _ ih =>
   obtain ⟨rn,ZK,_⟩:=id hs
   have jc:=(List.getElem?_eq_some_iff.mp ZK).1
   exact cl n jc m (by rw [EC rs jc];exact Og hs) j hj (ih jc) (by rw [iS hr];exact hp)
noncomputable def pK (q:Int×Int):List Key:=[.inl q.1,.inl q.2]
theorem yE (q:Int×Int):mj (hU q)=some (pK q):=rfl
noncomputable def cA (l:List (Int×Int)) (f:Int→D):List (List Key×D):=l.foldl (fun d q=>putD d (pK q) (f q.1)) []
theorem xN (l:List (Int×Int)) (q:Int×Int) (f:Int→D):cA (l++[q]) f=putD (cA l f) (pK q) (f q.1):=by
 unfold cA;rw [List.foldl_append];rfl
theorem ye (f:Int→D) (l:List (Int×Int)):∀ i,(cA (l.take i) f).length≤i
 |0=>by simp [cA]
 |i+1=>by
  have ih:=ye f l i
  cases h:l[i]? with
  |none=>rw [List.take_add_one,h];simp;omega
  |some q =>
   rw [List.take_add_one,h,Option.toList_some,xN]
   have:=xK (cA (l.take i) f) (pK q) (f q.1)
   omega
theorem Q6 {f g:Int→D}{l:List (Int×Int)} (h:∀ q∈l,f q.1=g q.1):cA l f=cA l g:=by
 unfold cA
 have go:∀ (l:List (Int×Int)) (acc:List (List Key×D)),(∀ q∈l,f q.1=g q.1)→l.foldl (fun d q=>putD d (pK q) (f q.1)) acc=l.foldl (fun d q=>putD d (pK q) (g q.1)) acc:=by
  intro l
  induction l with
  |nil=>intro acc _;rfl
  |cons q l ih=>intro acc h;rw [List.foldl_cons,List.foldl_cons,h q List.mem_cons_self,ih _ fun x hx=>h x (List.mem_cons_of_mem _ hx)]
 exact go l [] h
noncomputable def kj:List Key→Int
 |[.inl m,_]=>m
 |_=>0
theorem Q7 {f:Int→D} (l:List (Int×Int)):∀ kv∈cA l f,kv.2=f (kj kv.1):=by
 have go:∀ (l:List (Int×Int)) (acc:List (List Key×D)),(∀ kv∈acc,kv.2=f (kj kv.1))→∀ kv∈l.foldl (fun d q=>putD d (pK q) (f q.1)) acc,kv.2=f (kj kv.1):=by
  intro l
  induction l with
  |nil=>intro acc h;exact h
  |cons q l ih =>
   intro acc h
   rw [List.foldl_cons]
   refine ih _ fun kv bU=>?_
   rcases Dy bU with ⟨z,_⟩|rfl
   ·exact h kv z
   ·rfl
 exact go l [] (fun kv h=>nomatch h)
theorem yf {rs:List Row}{k:Nat}{q:Int×Int} (h:q∈a9 rs k):q.1=-1∨(0≤q.1∧q.1 < k):=by
 unfold a9 at h
 rcases List.mem_cons.mp h with rfl|h
 ·exact .inl rfl
 ·obtain ⟨n,hn,hm⟩:=List.mem_flatMap.mp h
  obtain ⟨m,rZ,rfl⟩:=List.mem_map.mp hm
  have:=List.mem_range.mp hn
  exact .inr (by simp;omega)
theorem yF {l:List (Int×Int)}{i:Nat}{d:D} (h:(bR l)[i]?=some d):∃ q,l[i]?=some q∧d=hU q:=by
 unfold bR at h
 rw [List.getElem?_map] at h
 cases e:l[i]? with
 |none=>rw [e] at h;cases h
 |some r=>rw [e] at h;cases h;exact ⟨r,rfl,rfl⟩
theorem p0 (m n:M) (q:Int×Int):ak (m,hU q) (n,.int 0)=some (aV m,.int q.1):=rfl
theorem ED {P:Nat→Nat→Bool}{N K:Nat}{m:Int} (h0:0≤m) (h1:m < N):L2.bt (aC P N K) m=some (bI (P m.toNat) K):=by
 have:=nL (P:=P) (N:=N) (K:=K) (m:=m.toNat) (by omega)
 rw [Int.toNat_of_nonneg h0] at this;exact this
noncomputable def gi (P:Nat→Nat→Bool) (K:Nat) (n:Int):D:=if n=-1 then .int 0 else bI (fun j=>true&&!P n.toNat j) K
theorem Lx {rs:List Row} (g:Good rs) (hl:rs.length≤300):∃ P:Nat→Nat→Bool,lz [.lst (rs.map Row.d)]=some (.un,.dt (cA (a9 rs rs.length) (gi P (kn rs).length)))∧∀ n j,n < rs.length→j < (kn rs).length→(P n j=true↔fU rs j n):=by
 have hk:=lS rs
 have e1:=DB (rs:=rs) (by omega)
 obtain ⟨P,e2,hP⟩:=Q5 g hl
 have e3:=MX (rs:=rs) (by omega)
 refine ⟨P,?_,hP⟩
 have jf:=nh rs rs.length
 obtain ⟨e',l1,o4,he⟩:=cP (g:=gN 4) (b:=tE) (m:=.fr) (ds:=bR (a9 rs rs.length)) (e:=[some (.al,.lst (rs.map Row.d)),some (.fr,bI (fun _=>true) (kn rs).length),some (.bo,.lst (aC P rs.length (kn rs).length)),some (.bo,.dt []),none])
  (fun i e=>∃ o4,e=[some (.al,.lst (rs.map Row.d)),some (.fr,bI (fun _=>true) (kn rs).length),some (.bo,.lst (aC P rs.length (kn rs).length)),some (.bo,.dt (cA ((a9 rs rs.length).take i) (gi P (kn rs).length))),o4]) ⟨none,rfl⟩
  (fun i d e hd aZ=>by
   obtain ⟨o4,he⟩:=aZ
   subst he
   obtain ⟨q,hq,rfl⟩:=yF hd
   have hi:i < (a9 rs rs.length).length:=(List.getElem?_eq_some_iff.mp hq).1
   have Bh:=yf (List.mem_of_getElem? hq)
   have xa:=ye (gi P (kn rs).length) (a9 rs rs.length) i
   have s1:(cA ((a9 rs rs.length).take i) (gi P (kn rs).length)).length < sizeLine:=Nat.lt_of_le_of_lt (show _≤700 by omega) (by decide)
   refine ⟨_,[some (.al,.lst (rs.map Row.d)),some (.fr,bI (fun _=>true) (kn rs).length),some (.bo,.lst (aC P rs.length (kn rs).length)),some (.bo,.dt (cA ((a9 rs rs.length).take (i+1)) (gi P (kn rs).length))),some (.fr,hU q)],rfl,?_,_,rfl⟩
   show tE [some (.al,.lst (rs.map Row.d)),some (.fr,bI (fun _=>true) (kn rs).length),some (.bo,.lst (aC P rs.length (kn rs).length)),some (.bo,.dt (cA ((a9 rs rs.length).take i) (gi P (kn rs).length))),some (.fr,hU q)]=_
   have hx:(oh (jB (ae aN (ae ak (jV 4) (jC (.int 0))) (bN df (jC (.int 1))))) (jC (.int 0)) (ae iW (jV 1) (bN kU (ae ak (jV 2) (ae ak (jV 4) (jC (.int 0))))))) [some (.al,.lst (rs.map Row.d)),some (.fr,bI (fun _=>true) (kn rs).length),some (.bo,.lst (aC P rs.length (kn rs).length)),some (.bo,.dt (cA ((a9 rs rs.length).take i) (gi P (kn rs).length))),some (.fr,hU q)]=some (.fr,gi P (kn rs).length q.1):=by
    simp -implicitDefEqProofs only [oh,jB,ae,bN,jV,jC,gz,gy,id_eq,oq,p0,iX,jG,bj]
    unfold gi
    by_cases z:q.1=-1
    ·rw [if_pos z,decide_eq_true z,if_pos rfl]
    ·obtain ⟨q0,q1⟩:=Bh.resolve_left z
     rw [if_neg z,decide_eq_false z,if_neg Bool.false_ne_true]
     simp -implicitDefEqProofs only [cL,ED q0 q1,oy,jz,oq]
     exact FE
   have hs:cG .fr (gi P (kn rs).length q.1)=true:=rfl
   unfold tE
   simp -implicitDefEqProofs only [gM,hx,jV,gz,gy,id_eq,oq,yE,hs,if_true,iC,own,s1,tz,tq]
   rw [List.take_add_one,hq,Option.toList_some,xN])
 subst he
 rw [ng,List.take_length] at l1
 unfold lz fn Cd
 simp only [ck,bq,bw]
 rw [av (e':=[some (.al,.lst (rs.map Row.d)),some (.fr,bI (fun _=>true) (kn rs).length),none,none,none]) (by
  simp -implicitDefEqProofs only [ao,ax,ag,ah,jV,gz,gy,id_eq,oq,mq,mn,e1,fA,tz,tq])]
 rw [av (e':=[some (.al,.lst (rs.map Row.d)),some (.fr,bI (fun _=>true) (kn rs).length),some (.bo,.lst (aC P rs.length (kn rs).length)),none,none]) (by
  simp -implicitDefEqProofs only [ao,ax,ag,ah,jV,gz,gy,id_eq,oq,mq,mn,e2,fO,tz,tq])]
 rw [av (e':=[some (.al,.lst (rs.map Row.d)),some (.fr,bI (fun _=>true) (kn rs).length),some (.bo,.lst (aC P rs.length (kn rs).length)),some (.bo,.dt []),none]) rfl]
 rw [av (e':=[some (.al,.lst (rs.map Row.d)),some (.fr,bI (fun _=>true) (kn rs).length),some (.bo,.lst (aC P rs.length (kn rs).length)),some (.bo,.dt (cA (a9 rs rs.length) (gi P (kn rs).length))),o4]) (by
  simp -implicitDefEqProofs only [aY,bO,ax,ag,ah,jV,gz,gy,id_eq,oq,mq,mn,e3,bX,oy]
  exact l1)]
 rfl
theorem Uv (a b:Ko):PyData.eqv (toPy (kD a)) (toPy (kD b))=decide (a=b):=by
 cases a<;>cases b<;>simp [kD,toPy,PyData.eqv]<;>(rw [Bool.eq_iff_iff];simp)
theorem yG (p q:De):PyData.eqv (toPy (aq p)) (toPy (aq q))=decide (p=q):=by
 obtain ⟨s,a,b⟩:=p;obtain ⟨s',a',b'⟩:=q
 simp only [aq,toPy,cM,PyData.eqv,PyData.eqvAll,Uv]
 by_cases h1:s=s'<;>by_cases h2:a=a'<;>by_cases h3:b=b'<;>simp [h1,h2,h3]
theorem xO (q:De):J.plain (aq q)=true:=by
 have k:∀ a:Ko,J.plain (kD a)=true:=fun a=>by cases a<;>simp [kD,J.plain]
 simp [aq,J.plain,J.eC,k]
theorem xP (q:De):(toPy (aq q)).depth≤10:=by
 have k:∀ a:Ko,(toPy (kD a)).depth=0:=fun a=>by cases a<;>simp [kD,toPy,PyData.depth]
 simp [aq,toPy,cM,PyData.depth,PyData.depthAll,k]
theorem tS:∀ ds:List D,cM ds=ds.map toPy
 |[]=>rfl
 |d::ds=>by rw [cM,tS ds];rfl
theorem y0 (m:M) (x s:Str) (a b:Ko):f9 (m,Row.d (.rk x s a b)) (some 2) none=some (aV m,aq (s,a,b)):=rfl
theorem Uw (r:Row) (q:De):m7 [r.d,aq q]=some (.fr,.bl (decide (dF r=some q))):=by
 unfold m7 fn CQ
 walk_at "ev"
 simp -implicitDefEqProofs only [cU,oq,cQ,de,bj,zP]
 cases r with
 |rk x s a b =>
  have ok:i5 (aq (s,a,b)) (aq q)=true:=by
   have h1:=xP q
   have h2:=xP (s,a,b)
   have hl:lN (aq (s,a,b)) (aq q)=true:=rfl
   simp only [i5,xO,hl,Bool.and_self,Bool.true_and]
   exact decide_eq_true (by omega)
  simp -implicitDefEqProofs only [dF,Option.isSome_some,if_true,y0,cQ,oq,gu,ok,yG,nG,Option.some.injEq]
 |_=>simp [dF,out]
theorem Xq (r:Row):dH (.str r.word) [.str "reckon",.str "copy"]=(sets r).isSome:=by
 cases r with
 |rk x s a b=>exact (by decide +kernel:dH (.str ("reckon" : Str)) [.str "reckon",.str "copy"]=true)
 |cp x a=>exact (by decide +kernel:dH (.str ("copy" : Str)) [.str "reckon",.str "copy"]=true)
 |sy a=>exact (by decide +kernel:dH (.str ("say" : Str)) [.str "reckon",.str "copy"]=false)
 |go t=>exact (by decide +kernel:dH (.str ("go" : Str)) [.str "reckon",.str "copy"]=false)
 |pt a t=>exact (by decide +kernel:dH (.str ("part" : Str)) [.str "reckon",.str "copy"]=false)
 |en=>exact (by decide +kernel:dH (.str ("end" : Str)) [.str "reckon",.str "copy"]=false)
theorem Ws (m n:M) (r:Row):dN false (m,.str r.word) (n,.tup [.str "reckon",.str "copy"])=some (.fr,.bl (sets r).isSome):=by
 rw [←Xq r];rfl
theorem Xr (x y:Str):(y==x)=decide (x=y):=by
 rw [Bool.eq_iff_iff,decide_eq_true_eq,beq_iff_eq]
 exact eq_comm
theorem Gz (m n:M) (x:Str) (a b:Ko):dN false (m,.str x) (n,.tup [kD a,kD b])=some (.fr,.bl (isNm a x||isNm b x)):=by
 cases a<;>cases b<;>simp [dN,dB,vh,vg,kD,dH,isNm,jZ,Xr]
theorem zS (m:M) (q:De):f9 (m,aq q) (some 1) none=some (aV m,.tup [kD q.2.1,kD q.2.2]):=rfl
theorem Q8 (r:Row) (q:De):pE [r.d,aq q]=some (.fr,.bl (gE (sets r) q)):=by
 unfold pE fn BE
 simp -implicitDefEqProofs only [aG,kO,ae,aQ,ag,ah,fu,dM,gS,jV,jC,mq,mn,List.length_cons,List.length_nil,List.replicate,List.cons_append,List.nil_append,Nat.reduceAdd,Nat.sub_self,List.append_nil,gz,gy,id_eq,oq,cU,cQ]
 rw [show jF [(M.fr,D.str "reckon"),(.fr,.str "copy")]=some (.fr,.tup [.str "reckon",.str "copy"]) from rfl,oq,Ws,oq]
 simp -implicitDefEqProofs only [bj,ig,oq,zS,cQ]
 cases r with
 |rk x s a b =>
  rw [show ak (.al,Row.d (.rk x s a b)) (.fr,.int 1)=some (.al,.str x) from rfl]
  simp -implicitDefEqProofs only [sets,Option.isSome_some,if_true,oq,oy,zS,cQ,Gz,nG,gE]
 |cp x a =>
  rw [show ak (.al,Row.d (.cp x a)) (.fr,.int 1)=some (.al,.str x) from rfl]
  simp -implicitDefEqProofs only [sets,Option.isSome_some,if_true,oq,oy,zS,cQ,Gz,nG,gE]
 |_=>simp [sets,out,gE]
theorem Ux {m n:M} (q:De) (l:List De):mh true (m,aq q) (n,.lst (l.map aq))=some (.fr,.bl (!decide (q∈l))):=by
 have h1:J.eC (l.map aq)=true:=pQ fun d hd=>by obtain ⟨x,_,rfl⟩:=List.mem_map.mp hd;exact xO x
 have h2:=xP q
 have h3:(toPy (aq q)).depth≤50:=by omega
 simp only [mh,xO,h1,h3,and_self,if_true,tS,List.any_map]
 congr 4
 rw [Bool.eq_iff_iff,List.any_eq_true,decide_eq_true_eq]
 constructor
 ·rintro ⟨y,hy,e⟩
  have e':PyData.eqv (toPy (aq y)) (toPy (aq q))=true:=e
  rw [yG,decide_eq_true_eq] at e'
  rw [←e'];exact hy
 ·intro hq
  exact ⟨q,hq,by show PyData.eqv (toPy (aq q)) (toPy (aq q))=true;rw [yG];simp⟩
theorem Q9 {r:Row}{l:List De} (hl:l.length≤500) (A0:Option (M×D)):tf [A0,some (.bo,.lst (l.map aq)),some (.al,r.d)]=some (.nx [A0,some (.bo,.lst ((iM l r).map aq)),some (.al,r.d)]):=by
 have s1:l.length < sizeLine:=Nat.lt_of_le_of_lt hl (by decide)
 have c1:(jB (ae aN (ae ak (jV 2) (jC (.int 0))) (jC (.str "reckon")))) [A0,some (.bo,.lst (l.map aq)),some (.al,r.d)]=some (dF r).isSome:=by
  simp -implicitDefEqProofs only [jB,ae,jV,jC,gz,gy,id_eq,oq,cU,de,bj,zP]
 unfold tf
 unfold iM
 cases r with
 |rk x s a b =>
  have c2:(cX (jB (ae aN (ae ak (jV 2) (jC (.int 0))) (jC (.str "reckon")))) (jB (ae (mh true) (fu f9 (jV 2) (dM (jC (.int 2))) gS) (jV 1)))) [A0,some (.bo,.lst (l.map aq)),some (.al,Row.d (.rk x s a b))]=some (!decide ((s,a,b)∈l)):=by
   unfold cX
   rw [c1,show (some (dF (.rk x s a b)).isSome:Option Bool)=some true from rfl,oq,if_pos rfl]
   simp -implicitDefEqProofs only [jB,ae,fu,dM,gS,jV,jC,gz,gy,id_eq,oq,ig,oy,y0,Ux,bj]
  by_cases hm:(s,a,b)∈l
  ·rw [bH (by rw [c2,decide_eq_true hm];rfl)]
   simp only [dF,if_pos hm]
   rfl
  ·rw [bp (by rw [c2,decide_eq_false hm];rfl)]
   simp only [dF,if_neg hm]
   simp -implicitDefEqProofs only [cE,fu,dM,gS,jV,jC,gz,gy,id_eq,oq,ig,oy,y0,cQ,yr,Ud,if_true,dE,own,ln,s1,tz,tq,List.map_append,mq,mn]
 |_ =>
  rw [bH (by unfold cX;rw [c1];rfl)]
  rfl
theorem OB {rs:List Row} (hl:rs.length≤400):tK [.lst (rs.map Row.d)]=some (.un,.lst ((kn rs).map aq)):=by
 obtain ⟨e',l1,o2,he⟩:=cP (g:=gN 2) (b:=tf) (m:=.al) (ds:=rs.map Row.d) (e:=[some (.al,.lst (rs.map Row.d)),some (.bo,.lst ([].map aq)),none])
  (fun i e=>∃ o2,e=[some (.al,.lst (rs.map Row.d)),some (.bo,.lst ((kn (rs.take i)).map aq)),o2]) ⟨none,rfl⟩
  (fun i d e hd aZ=>by
   obtain ⟨o2,he⟩:=aZ
   subst he
   obtain ⟨r,hr,rfl⟩:=yb hd
   have hi:i < rs.length:=(List.getElem?_eq_some_iff.mp hr).1
   have xg:=uE rs i
   have q:=Q9 (r:=r) (l:=kn (rs.take i)) (by omega) (some (.al,.lst (rs.map Row.d)))
   rw [←nr rs i r hr] at q
   exact ⟨_,_,rfl,q,_,rfl⟩)
 subst he
 rw [ln,r9] at l1
 unfold tK fn BZ
 simp only [ck,bq,bw]
 rw [av (e':=[some (.al,.lst (rs.map Row.d)),some (.bo,.lst ([].map aq)),none]) rfl]
 rw [av (e':=[some (.al,.lst (rs.map Row.d)),some (.bo,.lst ((kn rs).map aq)),o2]) (by
  rw [cN,show aW 0 [some (.al,.lst (rs.map Row.d)),some (.bo,.lst ([].map aq)),none]=[some (.al,.lst (rs.map Row.d)),some (.bo,.lst ([].map aq)),none] from rfl]
  simp -implicitDefEqProofs only [aY,bO,jV,gz,gy,id_eq,oq,bX,oy]
  exact l1)]
 rfl
theorem FJ {A0:Option (M×D)}{n:Int}:∀ (ms:List Int) (l:List (Int×Int)) (o3:Option (M×D)),l.length+ms.length≤5000→∃ dW,forL (gN 3) sR .fr (ms.map D.int) [A0,some (.bo,.lst (bR l)),some (.fr,.int n),o3]=some (.nx [A0,some (.bo,.lst (bR (l++ms.map fun m=>(n,m)))),some (.fr,.int n),dW])
 |[],l,o3,_=>⟨o3,by simp [forL]⟩
 |m::ms,l,o3,hl=>by
  rw [List.length_cons] at hl
  obtain ⟨dW,q⟩:=FJ (A0:=A0) (n:=n) ms (l++[(n,m)]) (some (.fr,.int m)) (by rw [List.length_append];simp only [List.length_cons,List.length_nil];omega)
  refine ⟨dW,?_⟩
  have hs:l.length < sizeLine:=Nat.lt_of_le_of_lt (show l.length≤5000 by omega) (by decide)
  rw [mq,forL,show gN 3 (M.fr,D.int m) [A0,some (.bo,.lst (bR l)),some (.fr,.int n),o3]=some [A0,some (.bo,.lst (bR l)),some (.fr,.int n),some (.fr,.int m)] from rfl,oq]
  have hb:sR [A0,some (.bo,.lst (bR l)),some (.fr,.int n),some (.fr,.int m)]=some (.nx [A0,some (.bo,.lst (bR (l++[(n,m)]))),some (.fr,.int n),some (.fr,.int m)]):=by
   unfold sR
   walk_at "ev"
   rw [ng,if_pos hs,Dt]
  rw [hb,oq]
  simpa using q
theorem FK {rs:List Row} (hl:rs.length≤800):pG [.lst (rs.map Row.d)]=some (.un,.lst (bR (a9 rs rs.length))):=by
 have bY:-4611686018427387904≤(rs.length:Int)∧(rs.length:Int) < 4611686018427387904:=by omega
 have ht:(rs.length:Int).toNat=rs.length:=by omega
 obtain ⟨e',l1,o2,o3,he⟩:=cP (g:=gN 2) (b:=sU) (m:=.fr) (ds:=bT 0 rs.length) (e:=[some (.al,.lst (rs.map Row.d)),some (.bo,.lst (bR (a9 rs 0))),none,none])
  (fun i e=>∃ (o2 o3:Option (M×D)),e=[some (.al,.lst (rs.map Row.d)),some (.bo,.lst (bR (a9 rs i))),o2,o3])
  ⟨none,none,rfl⟩
  (fun i d e hd aZ=>by
   obtain ⟨o2,o3,he⟩:=aZ
   subst he
   obtain ⟨hi,rfl⟩:=jA hd
   rw [show (0:Int)+(i:Int)=(i:Int) by omega]
   have h1:=nh rs i
   have h2:=xJ rs i
   have hr:rs[i]?=some (rs[i]'hi):=by simp
   have ef:=Eg rs i _ hr
   have er:bf i (rs[i]'hi)=cF rs i:=by unfold cF;rw [hr]
   rw [er] at ef
   obtain ⟨dW,q⟩:=FJ (A0:=some (.al,.lst (rs.map Row.d))) (n:=(i:Int)) (cF rs i) (a9 rs i) o3 (by omega)
   refine ⟨_,[some (.al,.lst (rs.map Row.d)),some (.bo,.lst (bR (a9 rs (i+1)))),some (.fr,.int (i:Int)),dW],rfl,?_,_,_,rfl⟩
   show sU [some (.al,.lst (rs.map Row.d)),some (.bo,.lst (bR (a9 rs i))),some (.fr,.int (i:Int)),o3]=_
   unfold sU
   simp -implicitDefEqProofs only [aY,bO,ax,ag,ah,jV,gz,gy,id_eq,oq,mq,mn,ef,bX,oy]
   rw [xI]
   exact q)
 subst he
 rw [iQ] at l1
 unfold pG fn BK
 simp only [ck,bq,bw]
 rw [av (e':=[some (.al,.lst (rs.map Row.d)),some (.bo,.lst (bR (a9 rs 0))),none,none]) rfl]
 rw [av (e':=[some (.al,.lst (rs.map Row.d)),some (.bo,.lst (bR (a9 rs rs.length))),o2,o3]) (by
  simp -implicitDefEqProofs only [aY,bP,aJ,ag,ah,jV,gz,gy,id_eq,oq,cW,ln,bY,and_self,if_true,ht]
  exact l1)]
 rfl
theorem Ra {A0:Option (M×D)}{Bk:List (List Nat)}{n m:Nat} (hm:m < Bk.length) (hl:(Bk.getD m []).length≤5000) :
  qw 1 (jV 3) (jV 2) [A0,some (.nb,fJ Bk),some (.fr,.int (n:Int)),some (.fr,.int (m:Int))]=some (.nx [A0,some (.nb,fJ (Bk.set m (Bk.getD m []++[n]))),some (.fr,.int (n:Int)),some (.fr,.int (m:Int))]):=by
 have kh:cT (Bk.map au).length (m:Int)=some m:=by
  unfold cT
  rw [ln,if_pos (by omega),if_pos (by omega)];simp
 have hd:(Bk.map au)[m]?=some (au (Bk.getD m [])):=by
  rw [List.getElem?_map,List.getElem?_eq_getElem hm,List.getD_eq_getElem?_getD,List.getElem?_eq_getElem hm];rfl
 have hs:(au (Bk.getD m [])).length < sizeLine:=by rw [dn];exact Nat.lt_of_le_of_lt hl (by decide)
 have e1:(Bk.map au).set m (au (Bk.getD m []++[n]))=(Bk.set m (Bk.getD m []++[n])).map au:=by rw [List.map_set]
 unfold fJ
 simp -implicitDefEqProofs only [qw,jV,gz,gy,id_eq,oq,ig,dZ,if_true,vR,Di,kh,hd,hs,Dq,e1,tz,tq]
theorem Rb {rs:List Row} (g:Good rs) {q:Int×Int} (h:q∈a9 rs rs.length) (hq:q.1≠-1):∃ n m:Nat,q=((n:Int),(m:Int))∧aM rs n m:=by
 unfold a9 at h
 rcases List.mem_cons.mp h with rfl|h
 ·exact absurd rfl hq
 ·obtain ⟨n,hn,hm⟩:=List.mem_flatMap.mp h
  obtain ⟨m,rZ,rfl⟩:=List.mem_map.mp hm
  obtain ⟨m0,m1⟩:=xG g rZ
  exact ⟨n,m.toNat,by rw [Int.toNat_of_nonneg m0],ua g (List.mem_map.mpr ⟨m,rZ,rfl⟩)⟩
theorem Rc {rs:List Row}{n m:Nat} (h:aM rs n m):((n:Int),(m:Int))∈a9 rs rs.length:=by
 obtain ⟨r,hr,hm,_⟩:=h
 unfold a9
 refine List.mem_cons_of_mem _ (List.mem_flatMap.mpr ⟨n,List.mem_range.mpr (List.getElem?_eq_some_iff.mp hr).1,List.mem_map.mpr ⟨(m:Int),?_,rfl⟩⟩)
 unfold cF;rw [hr];exact hm
theorem Rf {rs:List Row} (g:Good rs) (hl:rs.length≤800):∃ Bk:List (List Nat),tR [.lst (rs.map Row.d)]=some (.fr,.lst (aX Bk))∧Bk.length=rs.length∧(∀ j,(Bk.getD j []).length≤2*rs.length+1)∧(∀ n m,aM rs n m→n∈Bk.getD m [])∧∀ n m,n∈Bk.getD m []→aM rs n m:=by
 have r0:∀ j,(List.replicate rs.length ([]:List Nat)).getD j []=[]:=fun j=>by
  rw [List.getD_eq_getElem?_getD,List.getElem?_replicate];split<;>rfl
 have jf:=nh rs rs.length
 have e1:=FK (rs:=rs) hl
 obtain ⟨e',l1,Bk,o2,o3,he,b1,b2,b3,b4⟩:=cP (g:=gT 2 (bJ (gN 2) (bJ (gN 3) du))) (b:=mY) (m:=.fr) (ds:=bR (a9 rs rs.length)) (e:=[some (.al,.lst (rs.map Row.d)),some (.nb,fJ (List.replicate rs.length [])),none,none])
  (fun i e=>∃ (Bk:List (List Nat)) (o2 o3:Option (M×D)),e=[some (.al,.lst (rs.map Row.d)),some (.nb,fJ Bk),o2,o3]∧Bk.length=rs.length∧(∀ j,(Bk.getD j []).length≤i)∧(∀ n m:Nat,((n:Int),(m:Int))∈(a9 rs rs.length).take i→n∈Bk.getD m [])∧∀ j x,x∈Bk.getD j []→aM rs x j)
  ⟨List.replicate rs.length [],none,none,rfl,by simp,fun j=>by rw [r0];simp,fun n m h=>by simp at h,fun j x h=>by rw [r0] at h;cases h⟩
  (fun i d e hd aZ=>by
   obtain ⟨Bk,o2,o3,he,b1,b2,b3,b4⟩:=aZ
   subst he
   obtain ⟨q,hq,rfl⟩:=yF hd
   have hi:i < (a9 rs rs.length).length:=(List.getElem?_eq_some_iff.mp hq).1
   have hc:(jB (ae ft (jV 2) (bN df (jC (.int 1))))) [some (.al,.lst (rs.map Row.d)),some (.nb,fJ Bk),some (.fr,.int q.1),some (.fr,.int q.2)]=some (!decide (q.1=-1)):=by
    simp -implicitDefEqProofs only [jB,ae,bN,jV,jC,gz,gy,id_eq,oq,iX,uO,bj]
   have tk:∀ n m:Nat,((n:Int),(m:Int))∈(a9 rs rs.length).take (i+1)→((n:Int),(m:Int))∈(a9 rs rs.length).take i∨((n:Int),(m:Int))=q:=fun n m h=>by
    rw [List.take_add_one,hq,Option.toList_some,List.mem_append] at h
    rcases h with h|h
    ·exact .inl h
    ·exact .inr (by simpa using h)
   by_cases z:q.1=-1
   ·refine ⟨_,[some (.al,.lst (rs.map Row.d)),some (.nb,fJ Bk),some (.fr,.int q.1),some (.fr,.int q.2)],rfl,?_,Bk,_,_,rfl,b1,fun j=>Nat.le_trans (b2 j) (Nat.le_succ i),fun n m h=>?_,b4⟩
    ·show mY [some (.al,.lst (rs.map Row.d)),some (.nb,fJ Bk),some (.fr,.int q.1),some (.fr,.int q.2)]=_
     unfold mY
     rw [bH (by rw [hc,decide_eq_true z];rfl)]
     rfl
    ·rcases tk n m h with h|h
     ·exact b3 n m h
     ·rw [←h] at z
      exact absurd z (by show ¬ ((n:Int)=-1);omega)
   ·obtain ⟨n,m,rfl,hs⟩:=Rb g (List.mem_of_getElem? hq) z
    obtain ⟨_,_,_,hm⟩:=id hs
    have oQ:m < Bk.length:=by omega
    have KW:=b2 m
    refine ⟨_,[some (.al,.lst (rs.map Row.d)),some (.nb,fJ (Bk.set m (Bk.getD m []++[n]))),some (.fr,.int (n:Int)),some (.fr,.int (m:Int))],rfl,?_,Bk.set m (Bk.getD m []++[n]),_,_,rfl,by rw [List.length_set];exact b1,fun j=>?_,fun n' m' h=>?_,fun j x hx=>?_⟩
    ·show mY [some (.al,.lst (rs.map Row.d)),some (.nb,fJ Bk),some (.fr,.int (n:Int)),some (.fr,.int (m:Int))]=_
     unfold mY
     rw [bp (by rw [hc,decide_eq_false z];rfl)]
     exact Ra oQ (by omega)
    ·rw [xH oQ]
     split
     ·rw [List.length_append];simp only [List.length_cons,List.length_nil];omega
     ·exact Nat.le_trans (b2 j) (Nat.le_succ i)
    ·rw [xH oQ]
     rcases tk n' m' h with h|h
     ·split
      ·rename_i y;subst y;exact List.mem_append_left _ (b3 n' m' h)
      ·exact b3 n' m' h
     ·have h1:(n':Int)=n:=congrArg Prod.fst h
      have h2:(m':Int)=m:=congrArg Prod.snd h
      rw [if_pos (by omega)]
      have:n'=n:=by omega
      subst this
      simp
    ·rw [xH oQ] at hx
     split at hx
     ·rename_i y;subst y
      rcases List.mem_append.mp hx with y|y
      ·exact b4 _ _ y
      ·have:x=n:=by simpa using y
       subst this;exact hs
     ·exact b4 _ _ hx)
 subst he
 rw [ng,List.take_length] at b3
 rw [ng] at b2
 refine ⟨Bk,?_,b1,fun j=>Nat.le_trans (b2 j) jf,fun n m hs=>b3 n m (Rc hs),fun n m h=>b4 m n h⟩
 have n0:((rs.map Row.d).map fun _=>([]:List D))=(List.replicate rs.length ([]:List Nat)).map au:=List.ext_getElem (by simp) fun i h1 h2=>by simp [au]
 have ZL:zE 1 [some (.al,.lst (rs.map Row.d)),none,none,none]=true:=rfl
 have hs:(rs.map Row.d).length < sizeLine:=by rw [ln];exact Nat.lt_of_le_of_lt hl (by decide)
 unfold tR fn Cj
 simp only [ck,bq,bw]
 rw [av (e':=[some (.al,.lst (rs.map Row.d)),some (.nb,fJ (List.replicate rs.length [])),none,none]) (by
  rw [cN,show aW 0 [some (.al,.lst (rs.map Row.d)),none,none,none]=[some (.al,.lst (rs.map Row.d)),none,none,none] from rfl]
  simp -implicitDefEqProofs only [uP,bO,jV,gz,id_eq,oq,bX,oy,ZL,hs,and_self,if_true,n0,tz,tq,fJ])]
 rw [av (e':=[some (.al,.lst (rs.map Row.d)),some (.nb,fJ Bk),o2,o3]) (by
  simp -implicitDefEqProofs only [aY,bO,ax,ag,jV,ah,gz,gy,oq,id_eq,mq,mn,e1,bX,oy]
  exact l1)]
 rw [←QK]
 rfl
theorem Uy {t c b w:Nat} (hb:b < c):t*c+(w+b) < (t+1)*c+(w+1):=by
 rw [Nat.succ_mul];omega
theorem Uz {t N c:Nat} (h:t≤N) (hN:N≤300) (hc:c≤602):t*c≤180600:=Nat.mul_le_mul (Nat.le_trans h hN) hc
theorem M4 {rs:List Row} (g:Good rs) (hl:rs.length≤300) {Bk:List (List Nat)} (c1:Bk.length=rs.length) (c2:∀ j,(Bk.getD j []).length≤2*rs.length+1) (c3:∀ n m,aM rs n m→n∈Bk.getD m []) (c4:∀ n m,n∈Bk.getD m []→aM rs n m)
    {j:Nat}{q:De} (hq:(kn rs)[j]?=some q) {m:Nat} (hm:m < rs.length):∃ b,pH [.lst (rs.map Row.d),.lst (aX Bk),aq q,.int (m:Int)]=some (.fr,.bl b)∧(b=true↔fU rs j m):=by
  have Xs:∀ r:Row,gx (kn rs) r j=decide (dF r=some q):=fun r=>by
    unfold gx
    rw [hq]
    cases dF r<;>simp
  have Xt:∀ r:Row,cO (kn rs) r j=gE (sets r) q:=fun r=>by unfold cO dX;rw [hq]
  generalize hc:2*rs.length+2=c
  have W:=DF (c:=pA) (b:=xk)
    (fun mu e=>∃ (ks ws:List Nat) (o6:Option (M×D)),e=[some (.al,.lst (rs.map Row.d)),some (.al,.lst (aX Bk)),some (.al,aq q),some (.al,.int (m:Int)),some (.bo,.dk (aO ks)),some (.bo,.lst (au ws)),o6]∧ks.Nodup∧(∀ x∈ks,x < rs.length)∧(∀ x∈ws,x < rs.length)∧((rs.length-ks.length)*c+ws.length=mu∧mu≤190000) ∧
      (∀ x∈ks,∃ r,rs[x]?=some r∧dm (kn rs) r j=true∧cO (kn rs) r j=false∧x≠0∧∀ f,aM rs f x→f∈ks∨f∈ws∨∃ r,rs[f]?=some r∧dm (kn rs) r j=false∧cO (kn rs) r j=false) ∧
      (m∈ks∨m∈ws∨∃ r,rs[m]?=some r∧dm (kn rs) r j=false∧cO (kn rs) r j=false)∧∀ x∈ws,fU rs j x→fU rs j m)
    (fun m' d=>m'=.fr∧d=.bl true∧fU rs j m)
    (fun mu e aZ=>by
      obtain ⟨ks,ws,o6,he,h1,h2,h3,h4,h5,h6,h7⟩:=aZ
      subst he
      have xg:=lB _ _ h1 h2
      have hC:pA [some (.al,.lst (rs.map Row.d)),some (.al,.lst (aX Bk)),some (.al,aq q),some (.al,.int (m:Int)),some (.bo,.dk (aO ks)),some (.bo,.lst (au ws)),o6]=some (decide ((0:Int) < (ws.length:Int))):=by
        unfold pA
        simp -implicitDefEqProofs only [jB,ae,aJ,ag,ah,jV,jC,gz,gy,id_eq,oq,cW,dn,nU,bj]
      rw [hC]
      rcases List.eq_nil_or_concat ws with rfl|⟨bh,n,rfl⟩
      · exact .inl rfl
      rw [List.concat_eq_append] at *
      have oF:(bh++[n]).length=bh.length+1:=by simp
      have sf:n < rs.length:=h3 n (by simp)
      have hr:rs[n]?=some (rs[n]'sf):=by simp
      generalize rs[n]'sf=r at hr
      have ar:=jE hr
      refine .inr ⟨by rw [decide_eq_true (by rw [oF];omega)],?_⟩
      generalize hE:[some (.al,.lst (rs.map Row.d)),some (.al,.lst (aX Bk)),some (.al,aq q),some (.al,.int (m:Int)),some (.bo,.dk (aO ks)),some (.bo,.lst (au bh)),some (M.fr,D.int (n:Int))]=E
      have zR:kR 6 5 [some (.al,.lst (rs.map Row.d)),some (.al,.lst (aX Bk)),some (.al,aq q),some (.al,.int (m:Int)),some (.bo,.dk (aO ks)),some (.bo,.lst (au (bh++[n]))),o6]=some (.nx E):=by
        have e1:(au (bh++[n]))[(au (bh++[n])).length-1]?=some (.int (n:Int)):=by simp [au]
        have e2:(au (bh++[n])).dropLast=au bh:=by simp [au]
        simp -implicitDefEqProofs only [kR,dE,own,if_true,gz,gy,oq,e1,e2,tz,tq,hE]
      have d1:(jB (ax pE (ag (ae ak (jV 0) (jV 6)) (ag (jV 2) ah)))) E=some (cO (kn rs) r j):=by
        rw [←hE]
        simp -implicitDefEqProofs only [jB,ax,ag,ah,ae,jV,gz,gy,id_eq,oq,cL,ar,oy,mq,mn,Q8,bj,Xt]
      have d2:(cY (jB (dO false (jV 6) (jV 4))) (jB (ax m7 (ag (ae ak (jV 0) (jV 6)) (ag (jV 2) ah))))) E=some (decide (n∈ks)||gx (kn rs) r j):=by
        rw [←hE]
        unfold cY
        rw [show (jB (dO false (jV 6) (jV 4))) [some (.al,.lst (rs.map Row.d)),some (.al,.lst (aX Bk)),some (.al,aq q),some (.al,.int (m:Int)),some (.bo,.dk (aO ks)),some (.bo,.lst (au bh)),some (.fr,.int (n:Int))]=some (decide (n∈ks)) by
          simp -implicitDefEqProofs only [jB,dO,jV,jQ,keyOf,gz,gy,id_eq,oq,uV,bj,Bool.false_eq_true,if_false],oq,
          show (jB (ax m7 (ag (ae ak (jV 0) (jV 6)) (ag (jV 2) ah)))) [some (.al,.lst (rs.map Row.d)),some (.al,.lst (aX Bk)),some (.al,aq q),some (.al,.int (m:Int)),some (.bo,.dk (aO ks)),some (.bo,.lst (au bh)),some (.fr,.int (n:Int))]=some (gx (kn rs) r j) by
          simp -implicitDefEqProofs only [jB,ax,ag,ah,ae,jV,gz,gy,id_eq,oq,cL,ar,oy,mq,mn,Uw,bj,Xs]]
        cases decide (n∈ks)<;>rfl
      have d3:(jB (ae aN (jV 6) (jC (.int 0)))) E=some (decide ((n:Int)=0)):=by
        rw [←hE]
        simp -implicitDefEqProofs only [jB,ae,jV,jC,gz,gy,id_eq,oq,jG,bj]
      unfold xk
      rw [av zR]
      cases sj:cO (kn rs) r j with
      |true =>
        exact .inr ⟨E,.fr,.bl true,dq (by rw [bp (by rw [d1,sj])];rfl),rfl,rfl,h7 n (by simp) (.chg hr sj)⟩
      |false =>
      rw [dJ (by rw [d1,sj])]
      cases xi:(decide (n∈ks)||gx (kn rs) r j) with
      |true =>
        have sub:∀ f,f∈bh++[n]→f∈ks∨f∈bh∨∃ r,rs[f]?=some r∧dm (kn rs) r j=false∧cO (kn rs) r j=false:=fun f hf=>by
          rcases List.mem_append.mp hf with z|z
          · exact .inr (.inl z)
          · have e:f=n:=by simpa using z
            subst e
            rcases Bool.or_eq_true _ _▸xi with z|z
            · exact .inl (of_decide_eq_true z)
            · exact .inr (.inr ⟨r,hr,by unfold dm;rw [z];rfl,sj⟩)
        refine .inl ⟨E,(rs.length-ks.length)*c+bh.length,.inr ?_,⟨ks,bh,_,hE.symm,h1,h2,fun x hx=>h3 x (List.mem_append_left _ hx),⟨rfl,by omega⟩,fun x hx=>?_,?_,fun x hx=>h7 x (List.mem_append_left _ hx)⟩,by omega⟩
        · unfold aj
          rw [bp (by rw [d2,xi])];rfl
        · obtain ⟨rx,a1,a2,a3,a4,a5⟩:=h5 x hx
          refine ⟨rx,a1,a2,a3,a4,fun f hf=>?_⟩
          rcases a5 f hf with z|z|z
          · exact .inl z
          · exact sub f z
          · exact .inr (.inr z)
        · rcases h6 with z|z|z
          · exact .inl z
          · exact sub m z
          · exact .inr (.inr z)
      |false =>
      obtain ⟨KY,ZM⟩:n∉ks∧gx (kn rs) r j=false:=by simpa using xi
      have Bi:dm (kn rs) r j=true:=by unfold dm;rw [ZM];rfl
      rw [dJ (by rw [d2,xi])]
      by_cases KZ:n=0
      · exact .inr ⟨E,.fr,.bl true,dq (by rw [bp (by rw [d3,decide_eq_true (by omega)])];rfl),rfl,rfl,h7 n (by simp) (.start hr KZ Bi)⟩
      rw [dJ (by rw [d3,decide_eq_false (by omega)])]
      have s1:ks.length < sizeLine:=Nat.lt_of_le_of_lt (show ks.length≤300 by omega) (by decide)
      rw [av (e':=[some (.al,.lst (rs.map Row.d)),some (.al,.lst (aX Bk)),some (.al,aq q),some (.al,.int (m:Int)),some (.bo,.dk (aO (ks++[n]))),some (.bo,.lst (au bh)),some (.fr,.int (n:Int))]) (by
        rw [←hE]
        simp -implicitDefEqProofs only [iY,jV,jC,keyOf,gz,gy,id_eq,oq,dZ,if_true,jR,own,ql,s1,yB KY,tz,tq])]
      have sg:n < Bk.length:=by omega
      have oW:L2.bt (aX Bk) (n:Int)=some (.lst (au (Bk.getD n []))):=by
        rw [J.lE (by simpa [aX] using sg)]
        simp only [aX,List.getElem_map]
        rw [List.getD_eq_getElem?_getD,List.getElem?_eq_getElem sg];rfl
      have fl:=c2 n
      obtain ⟨n1,n2⟩:=x5 h1 h2 KY sf
      have HX:=lB _ _ n1 n2
      rw [List.length_append] at HX
      simp only [List.length_cons,List.length_nil] at HX
      obtain ⟨t,ht⟩:∃ t,rs.length-ks.length=t+1:=⟨rs.length-ks.length-1,by omega⟩
      have ZN:rs.length-(ks++[n]).length=t:=by simp only [List.length_append,List.length_cons,List.length_nil];omega
      have aS:t*c+(bh++Bk.getD n []).length < mu:=by
        rw [List.length_append,←h4.1,ht,oF]
        exact Uy (by omega)
      have hz:=h4.2
      have ZO:bh.length+(Bk.getD n []).length≤190000:=by
        rw [List.length_append] at aS;omega
      refine .inl ⟨[some (.al,.lst (rs.map Row.d)),some (.al,.lst (aX Bk)),some (.al,aq q),some (.al,.int (m:Int)),some (.bo,.dk (aO (ks++[n]))),some (.bo,.lst (au (bh++Bk.getD n []))),some (.fr,.int (n:Int))],t*c+(bh++Bk.getD n []).length,.inl ?_,⟨ks++[n],bh++Bk.getD n [],_,rfl,n1,n2,fun x hx=>?_,⟨by rw [ZN],by omega⟩,fun x hx=>?_,?_,fun x hx jo=>?_⟩,aS⟩
      · simp -implicitDefEqProofs only [ao,ae,jV,gz,gy,id_eq,oq,cL,oW,oy,cQ]
        rw [ym (by decide) (by decide) (by rw [dn,dn];exact Nat.le_trans ZO (by decide)),show mJ .bo .al=.al from rfl,show au bh++au (Bk.getD n [])=au (bh++Bk.getD n []) by simp [au],Fc (Eh _),oq,fO,oq]
        rfl
      · rcases List.mem_append.mp hx with z|z
        · exact h3 x (List.mem_append_left _ z)
        · obtain ⟨_,y,_⟩:=c4 x n z;exact (List.getElem?_eq_some_iff.mp y).1
      · rcases List.mem_append.mp hx with z|z
        · obtain ⟨rx,a1,a2,a3,a4,a5⟩:=h5 x z
          refine ⟨rx,a1,a2,a3,a4,fun f hf=>?_⟩
          rcases a5 f hf with y|y|y
          · exact .inl (List.mem_append_left _ y)
          · rcases List.mem_append.mp y with w|w
            · exact .inr (.inl (List.mem_append_left _ w))
            · exact .inl (List.mem_append_right _ w)
          · exact .inr (.inr y)
        · have e:x=n:=by simpa using z
          subst e
          exact ⟨r,hr,Bi,sj,KZ,fun f hf=>.inr (.inl (List.mem_append_right _ (c3 f x hf)))⟩
      · rcases h6 with z|z|z
        · exact .inl (List.mem_append_left _ z)
        · rcases List.mem_append.mp z with w|w
          · exact .inr (.inl (List.mem_append_left _ w))
          · exact .inl (List.mem_append_right _ w)
        · exact .inr (.inr z)
      · rcases List.mem_append.mp hx with z|z
        · exact h7 x (List.mem_append_left _ z) jo
        · exact h7 n (by simp) (.step hr Bi (c4 x n z) jo))
    (n:=rs.length*c+1) (e:=[some (.al,.lst (rs.map Row.d)),some (.al,.lst (aX Bk)),some (.al,aq q),some (.al,.int (m:Int)),some (.bo,.dk (aO [])),some (.bo,.lst (au [m])),none])
    ⟨[],[m],none,rfl,List.nodup_nil,(fun x h=>nomatch h),(fun x h=>(show x=m by simpa using h)▸hm),⟨by simp,by have:=Uz (Nat.le_refl rs.length) hl (c:=c) (by omega);omega⟩,(fun x h=>nomatch h),.inr (.inl (by simp)),fun x hx h=>by
      have:x=m:=by simpa using hx
      exact this▸h⟩
  unfold pH fn BL
  simp only [ck,bq,bw]
  rw [av (e':=[some (.al,.lst (rs.map Row.d)),some (.al,.lst (aX Bk)),some (.al,aq q),some (.al,.int (m:Int)),some (.bo,.dk (aO [])),none,none]) rfl]
  rw [av (e':=[some (.al,.lst (rs.map Row.d)),some (.al,.lst (aX Bk)),some (.al,aq q),some (.al,.int (m:Int)),some (.bo,.dk (aO [])),some (.bo,.lst (au [m])),none]) (by
    simp -implicitDefEqProofs only [ao,bE,ag,ah,jV,gz,gy,id_eq,oq]
    rw [show fP [(M.al,D.int (m:Int))]=some (.un,.lst (au [m])) from by simp [fP,cG,D.bQ,au,IL]]
    rfl)]
  rcases W with ⟨e',n',l1,⟨ks,ws,o6,he,h1,h2,h3,h4,h5,h6,h7⟩,hc⟩|⟨e',m',d,l1,rfl,rfl,jo⟩
  · subst he
    have hz:ws=[]:=by
      unfold pA at hc
      simp -implicitDefEqProofs only [jB,ae,aJ,ag,ah,jV,jC,gz,gy,id_eq,oq,cW,dn,nU,bj] at hc
      have:=Option.some.inj hc
      rw [decide_eq_false_iff_not] at this
      exact List.length_eq_zero_iff.mp (by omega)
    subst hz
    refine ⟨false,by rw [av l1];rfl,(fun z=>nomatch z),fun jo=>?_⟩
    have key:∀ n,fU rs j n→n∉ks∧¬ ∃ r,rs[n]?=some r∧dm (kn rs) r j=false∧cO (kn rs) r j=false:=fun n hn=>by
      induction hn with
      |@chg n r hr hd =>
        refine ⟨fun hk=>?_,fun ⟨rx,a1,a2,a3⟩=>?_⟩
        · obtain ⟨rx,a1,a2,a3,a4⟩:=h5 n hk
          rw [hr] at a1;cases a1
          rw [hd] at a3;cases a3
        · rw [hr] at a1;cases a1
          rw [hd] at a3;cases a3
      |@start n r hr hz hd =>
        refine ⟨fun hk=>?_,fun ⟨rx,a1,a2,a3⟩=>?_⟩
        · obtain ⟨rx,a1,a2,a3,a4,_⟩:=h5 n hk
          exact a4 hz
        · rw [hr] at a1;cases a1
          rw [hd] at a2;cases a2
      |@step f n r hr hp hs hmf ih =>
        refine ⟨fun hk=>?_,fun ⟨rx,a1,a2,a3⟩=>?_⟩
        · obtain ⟨rx,a1,a2,a3,a4,a5⟩:=h5 n hk
          rcases a5 f hs with z|z|z
          · exact ih.1 z
          · cases z
          · exact ih.2 z
        · rw [hr] at a1;cases a1
          rw [hp] at a2;cases a2
    rcases h6 with z|z|z
    · exact absurd z (key m jo).1
    · cases z
    · exact absurd z (key m jo).2
  · exact ⟨true,by rw [dq l1];rfl,fun _=>jo,fun _=>rfl⟩
noncomputable def mB (rs:List Row) (n j:Nat):Bool:=@decide (fU rs j n) (Classical.propDecidable _)
theorem yH {rs:List Row}{n j:Nat}:mB rs n j=true↔fU rs j n:=by unfold mB;simp
noncomputable def bV (rs:List Row) (mb:Nat→Nat→Bool) (k i n j:Nat):Bool:=(decide (j < k)||(decide (j=k)&&decide (n < i)))&&!mb n j
theorem Wt {rs:List Row} (g:Good rs) (hl:rs.length≤300) {Bk:List (List Nat)} (c1:Bk.length=rs.length) (c2:∀ j,(Bk.getD j []).length≤2*rs.length+1) (c3:∀ n m,aM rs n m→n∈Bk.getD m []) (c4:∀ n m,n∈Bk.getD m []→aM rs n m) {k:Nat}{q:De} (hq:(kn rs)[k]?=some q) {i:Nat} (hi:i < rs.length) (o5 o6:Option (M×D)) :
  tL [some (.al,.lst (rs.map Row.d)),some (.bo,.lst (aC (bV rs (mB rs) k i) rs.length (kn rs).length)),some (.fr,.lst (aX Bk)),some (.fr,.int (k:Int)),some (.fr,aq q),some (.fr,.int (i:Int)),o5,o6]=some (.nx [some (.al,.lst (rs.map Row.d)),some (.bo,.lst (aC (bV rs (mB rs) k (i+1)) rs.length (kn rs).length)),some (.fr,.lst (aX Bk)),some (.fr,.int (k:Int)),some (.fr,aq q),some (.fr,.int (i:Int)),o5,o6]):=by
 have ZP:k < (kn rs).length:=(List.getElem?_eq_some_iff.mp hq).1
 have hk:=lS rs
 obtain ⟨b,eb,hb⟩:=M4 g hl c1 c2 c3 c4 hq hi
 have KW:b=mB rs i k:=by
  cases b with
  |true=>exact (yH.mpr (hb.mp rfl)).symm
  |false =>
   cases h:mB rs i k with
   |false=>rfl
   |true=>exact absurd (hb.mpr (yH.mp h)) Bool.false_ne_true
 have hc:(fC (jB (ax pH (ag (jV 0) (ag (jV 2) (ag (jV 4) (ag (jV 5) ah))))))) [some (.al,.lst (rs.map Row.d)),some (.bo,.lst (aC (bV rs (mB rs) k i) rs.length (kn rs).length)),some (.fr,.lst (aX Bk)),some (.fr,.int (k:Int)),some (.fr,aq q),some (.fr,.int (i:Int)),o5,o6]=some (!mB rs i k):=by
  simp -implicitDefEqProofs only [fC,jB,ax,ag,ah,jV,gz,gy,id_eq,oq,mq,mn,eb,bj,KW,oy]
 have UA:∀ n,n≠i→bV rs (mB rs) k (i+1) n=bV rs (mB rs) k i n:=fun n hn=>funext fun j=>by
  have:decide (n < i+1)=decide (n < i):=by
   rw [Bool.eq_iff_iff,decide_eq_true_eq,decide_eq_true_eq];omega
  simp only [bV,this]
 have FL:aC (dG (bV rs (mB rs) k i) i (bV rs (mB rs) k (i+1) i)) rs.length (kn rs).length=aC (bV rs (mB rs) k (i+1)) rs.length (kn rs).length:=by
  congr 1
  funext n
  by_cases e:n=i
  ·subst e;exact if_pos rfl
  ·rw [UA n e];exact if_neg e
 unfold tL
 cases hm:mB rs i k with
 |true =>
  rw [bH (by rw [hc,hm];rfl)]
  have:aC (bV rs (mB rs) k i) rs.length (kn rs).length=aC (bV rs (mB rs) k (i+1)) rs.length (kn rs).length:=by
   rw [←FL,←qb]
   have e:bI (bV rs (mB rs) k (i+1) i) (kn rs).length=bI (bV rs (mB rs) k i i) (kn rs).length:=ky fun j _=>by
    unfold bV
    by_cases z:j=k
    ·subst z;simp [hm]
    ·simp [z]
   rw [e,qb]
   congr 1
   funext n
   unfold dG
   split
   ·rename_i e;rw [e]
   ·rfl
  rw [this];rfl
 |false =>
  rw [bp (by rw [hc,hm];rfl)]
  have kh:cT (aC (bV rs (mB rs) k i) rs.length (kn rs).length).length (i:Int)=some i:=by
   unfold cT
   rw [qa,if_pos (by omega),if_pos (by omega)];simp
  have e1:(.int ((2 ^ k:Nat):Int):D)=bI (fun j=>decide (j=k)) (kn rs).length:=by
   unfold bI
   rw [x6 ZP fun j _=>by simp]
  have e2:bI (fun j=>bV rs (mB rs) k i i j||decide (j=k)) (kn rs).length=bI (bV rs (mB rs) k (i+1) i) (kn rs).length:=ky fun j _=>by
   unfold bV
   by_cases z:j=k
   ·subst z;simp [hm]
   ·simp [z]
  simp -implicitDefEqProofs only [c9,ae,jV,jC,gz,gy,id_eq,oq,cL,nL hi,oy,jz,x8 (show k≤1000 by omega),e1,yX,e2,ig,dZ,if_true,dE,own,kh,qb,FL,tz,tq]
theorem L8 {κ:Type} [DecidableEq κ] (ks:List (κ×D)) (k:κ) (a b:D):putD (putD ks k a) k b=putD ks k b:=by
 by_cases h:(ks.any fun kv=>decide (kv.1=k))=true
 ·have e:putD ks k a=ks.map (fun kv=>if kv.1=k then (kv.1,a) else kv):=by unfold putD;rw [if_pos h]
  have h2:((ks.map (fun kv=>if kv.1=k then (kv.1,a) else kv)).any fun kv=>decide (kv.1=k))=true:=by
   rw [List.any_eq_true] at h ⊢
   obtain ⟨x,hx,hk⟩:=h
   have hk:=of_decide_eq_true hk
   exact ⟨(x.1,a),List.mem_map.mpr ⟨x,hx,if_pos hk⟩,decide_eq_true hk⟩
  rw [e]
  unfold putD
  rw [if_pos h2,if_pos h,List.map_map]
  refine List.map_congr_left fun x _=>?_
  show (if (if x.1=k then (x.1,a) else x).1=k then ((if x.1=k then (x.1,a) else x).1,b) else (if x.1=k then (x.1,a) else x))=_
  by_cases z:x.1=k
  ·simp [z]
  ·simp [z]
 ·have e:putD ks k a=ks++[(k,a)]:=by unfold putD;rw [if_neg h]
  rw [e]
  unfold putD
  rw [if_neg h,if_pos (by simp),List.map_append]
  have:ks.map (fun kv=>if kv.1=k then (kv.1,b) else kv)=ks:=by
   rw [List.any_eq_true] at h
   have hx:∀ x∈ks,(fun kv=>if kv.1=k then (kv.1,b) else kv) x=id x:=fun x hx=>if_neg fun z=>h ⟨x,hx,decide_eq_true z⟩
   rw [List.map_congr_left hx,List.map_id]
  rw [this]
  simp
noncomputable def fM (rs:List Row) (n:Int):D:=if n=-1 then .int 0 else bI (fun j=>!mB rs n.toNat j) (kn rs).length
theorem UB {rs:List Row} (g:Good rs) (hl:rs.length≤300):m8 [.lst (rs.map Row.d)]=some (.un,.dt (cA (a9 rs rs.length) (fM rs))):=by
 have bY:-4611686018427387904≤(rs.length:Int)∧(rs.length:Int) < 4611686018427387904:=by omega
 have ht:(rs.length:Int).toNat=rs.length:=by omega
 have hk:=lS rs
 have e1:=OB (rs:=rs) (by omega)
 have e3:=FK (rs:=rs) (by omega)
 obtain ⟨Bk,e4,c1,c2,c3,c4⟩:=Rf g (by omega)
 have jf:=nh rs rs.length
 have t0:List.replicate (rs.map Row.d).length (D.int 0)=aC (bV rs (mB rs) 0 0) rs.length (kn rs).length:=by
  rw [ln]
  refine List.ext_getElem (by simp [aC]) fun i h1 h2=>?_
  simp only [aC,List.getElem_map,List.getElem_range,List.getElem_replicate]
  unfold bI
  rw [Dw fun j _=>by simp [bV]]
  rfl
 obtain ⟨e',l1,o3,o4,o5,he⟩:=cP (g:=gT 2 (bJ (gN 3) (bJ (gN 4) du))) (b:=tM) (m:=.fr) (ds:=bS ((kn rs).map aq)) (e:=[some (.al,.lst (rs.map Row.d)),some (.bo,.lst (aC (bV rs (mB rs) 0 0) rs.length (kn rs).length)),some (.fr,.lst (aX Bk)),none,none,none,none,none])
  (fun k e=>∃ (o3 o4 o5:Option (M×D)),e=[some (.al,.lst (rs.map Row.d)),some (.bo,.lst (aC (bV rs (mB rs) k 0) rs.length (kn rs).length)),some (.fr,.lst (aX Bk)),o3,o4,o5,none,none])
  ⟨none,none,none,rfl⟩
  (fun k d e hd aZ=>by
   obtain ⟨o3,o4,o5,he⟩:=aZ
   subst he
   obtain ⟨q,hq,rfl⟩:=DC hd
   obtain ⟨e2,l2,dC,Aq⟩:=cP (g:=gN 5) (b:=tL) (m:=.fr) (ds:=bT 0 rs.length) (e:=[some (.al,.lst (rs.map Row.d)),some (.bo,.lst (aC (bV rs (mB rs) k 0) rs.length (kn rs).length)),some (.fr,.lst (aX Bk)),some (.fr,.int (k:Int)),some (.fr,aq q),o5,none,none])
    (fun i e=>∃ o5,e=[some (.al,.lst (rs.map Row.d)),some (.bo,.lst (aC (bV rs (mB rs) k i) rs.length (kn rs).length)),some (.fr,.lst (aX Bk)),some (.fr,.int (k:Int)),some (.fr,aq q),o5,none,none]) ⟨o5,rfl⟩
    (fun i d e hd aZ=>by
     obtain ⟨o5,he⟩:=aZ
     subst he
     obtain ⟨hi,rfl⟩:=jA hd
     rw [show (0:Int)+(i:Int)=(i:Int) by omega]
     exact ⟨_,_,rfl,Wt g hl c1 c2 c3 c4 hq hi none none,_,rfl⟩)
   subst Aq
   rw [iQ] at l2
   have et:aC (bV rs (mB rs) k rs.length) rs.length (kn rs).length=aC (bV rs (mB rs) (k+1) 0) rs.length (kn rs).length:=by
    unfold aC
    refine List.map_congr_left fun n hn=>ky fun j _=>?_
    have hn:=List.mem_range.mp hn
    unfold bV
    refine congrArg (fun b=>b&&!mB rs n j) ?_
    rw [Bool.eq_iff_iff]
    simp only [Bool.or_eq_true,Bool.and_eq_true,decide_eq_true_eq]
    omega
   rw [et] at l2
   refine ⟨_,[some (.al,.lst (rs.map Row.d)),some (.bo,.lst (aC (bV rs (mB rs) (k+1) 0) rs.length (kn rs).length)),some (.fr,.lst (aX Bk)),some (.fr,.int (k:Int)),some (.fr,aq q),dC,none,none],rfl,?_,_,_,_,rfl⟩
   show tM [some (.al,.lst (rs.map Row.d)),some (.bo,.lst (aC (bV rs (mB rs) k 0) rs.length (kn rs).length)),some (.fr,.lst (aX Bk)),some (.fr,.int (k:Int)),some (.fr,aq q),o5,none,none]=_
   unfold tM
   simp -implicitDefEqProofs only [aY,bP,aJ,ag,ah,jV,gz,gy,id_eq,oq,cW,ln,bY,and_self,if_true,ht]
   exact l2)
 subst he
 have hE:(bS ((kn rs).map aq)).length=(kn rs).length:=by simp [bS]
 rw [hE] at l1
 have et:aC (bV rs (mB rs) (kn rs).length 0) rs.length (kn rs).length=aC (fun n j=>!mB rs n j) rs.length (kn rs).length:=by
  unfold aC
  refine List.map_congr_left fun n hn=>ky fun j hj=>?_
  unfold bV
  simp [hj]
 rw [et] at l1
 obtain ⟨e'',l2,o7,he⟩:=cP (g:=gN 7) (b:=tN) (m:=.fr) (ds:=bR (a9 rs rs.length)) (e:=[some (.al,.lst (rs.map Row.d)),some (.bo,.lst (aC (fun n j=>!mB rs n j) rs.length (kn rs).length)),some (.fr,.lst (aX Bk)),o3,o4,o5,some (.bo,.dt []),none])
  (fun i e=>∃ o7,e=[some (.al,.lst (rs.map Row.d)),some (.bo,.lst (aC (fun n j=>!mB rs n j) rs.length (kn rs).length)),some (.fr,.lst (aX Bk)),o3,o4,o5,some (.bo,.dt (cA ((a9 rs rs.length).take i) (fM rs))),o7]) ⟨none,rfl⟩
  (fun i d e hd aZ=>by
   obtain ⟨o7,he⟩:=aZ
   subst he
   obtain ⟨q,hq,rfl⟩:=yF hd
   have hi:i < (a9 rs rs.length).length:=(List.getElem?_eq_some_iff.mp hq).1
   have Bh:=yf (List.mem_of_getElem? hq)
   have xa:=ye (fM rs) (a9 rs rs.length) i
   have hdp:=xK (cA ((a9 rs rs.length).take i) (fM rs)) (pK q) (.int 0)
   have s1:(cA ((a9 rs rs.length).take i) (fM rs)).length < sizeLine:=Nat.lt_of_le_of_lt (show _≤700 by omega) (by decide)
   have s2:(putD (cA ((a9 rs rs.length).take i) (fM rs)) (pK q) (.int 0)).length < sizeLine:=Nat.lt_of_le_of_lt (show _≤700 by omega) (by decide)
   refine ⟨_,[some (.al,.lst (rs.map Row.d)),some (.bo,.lst (aC (fun n j=>!mB rs n j) rs.length (kn rs).length)),some (.fr,.lst (aX Bk)),o3,o4,o5,some (.bo,.dt (cA ((a9 rs rs.length).take (i+1)) (fM rs))),some (.fr,hU q)],rfl,?_,_,rfl⟩
   show tN [some (.al,.lst (rs.map Row.d)),some (.bo,.lst (aC (fun n j=>!mB rs n j) rs.length (kn rs).length)),some (.fr,.lst (aX Bk)),o3,o4,o5,some (.bo,.dt (cA ((a9 rs rs.length).take i) (fM rs))),some (.fr,hU q)]=_
   unfold tN
   rw [av (e':=[some (.al,.lst (rs.map Row.d)),some (.bo,.lst (aC (fun n j=>!mB rs n j) rs.length (kn rs).length)),some (.fr,.lst (aX Bk)),o3,o4,o5,some (.bo,.dt (putD (cA ((a9 rs rs.length).take i) (fM rs)) (pK q) (.int 0))),some (.fr,hU q)]) (by
    simp -implicitDefEqProofs only [gM,jV,jC,gz,gy,id_eq,oq,yE,dZ,if_true,iC,own,s1,tz,tq])]
   have hc:(jB (ae ft (ae ak (jV 7) (jC (.int 0))) (bN df (jC (.int 1))))) [some (.al,.lst (rs.map Row.d)),some (.bo,.lst (aC (fun n j=>!mB rs n j) rs.length (kn rs).length)),some (.fr,.lst (aX Bk)),o3,o4,o5,some (.bo,.dt (putD (cA ((a9 rs rs.length).take i) (fM rs)) (pK q) (.int 0))),some (.fr,hU q)]=some (!decide (q.1=-1)):=by
    simp -implicitDefEqProofs only [jB,ae,bN,jV,jC,gz,gy,id_eq,oq,p0,iX,uO,bj]
   rw [List.take_add_one,hq,Option.toList_some,xN]
   by_cases z:q.1=-1
   ·rw [bH (by rw [hc,decide_eq_true z];rfl),show fM rs q.1=.int 0 from if_pos z]
    rfl
   ·obtain ⟨q0,q1⟩:=Bh.resolve_left z
    rw [bp (by rw [hc,decide_eq_false z];rfl),show fM rs q.1=bI (fun j=>!mB rs q.1.toNat j) (kn rs).length from if_neg z]
    simp -implicitDefEqProofs only [gM,ae,jV,jC,gz,gy,id_eq,oq,p0,cL,ED q0 q1,oy,jz,yE,dZ,if_true,iC,own,s2,L8,tz,tq])
 subst he
 rw [ng,List.take_length] at l2
 unfold m8 fn CT
 simp only [ck,bq,bw]
 rw [av (e':=[some (.al,.lst (rs.map Row.d)),some (.bo,.lst (aC (bV rs (mB rs) 0 0) rs.length (kn rs).length)),none,none,none,none,none,none]) (by
  rw [cN,show aW 0 [some (.al,.lst (rs.map Row.d)),none,none,none,none,none,none,none]=[some (.al,.lst (rs.map Row.d)),none,none,none,none,none,none,none] from rfl]
  simp -implicitDefEqProofs only [ao,cf,bO,jV,gz,gy,id_eq,oq,bX,oy]
  rw [xC (x:=.int 0) (fun d=>rfl),oq,gG (by rw [List.length_replicate,ln];omega),oq,t0]
  rfl)]
 rw [av (e':=[some (.al,.lst (rs.map Row.d)),some (.bo,.lst (aC (bV rs (mB rs) 0 0) rs.length (kn rs).length)),some (.fr,.lst (aX Bk)),none,none,none,none,none]) (by
  simp -implicitDefEqProofs only [ao,ax,ag,ah,jV,gz,gy,id_eq,oq,mq,mn,e4,fA,tz,tq])]
 rw [av (e':=[some (.al,.lst (rs.map Row.d)),some (.bo,.lst (aC (fun n j=>!mB rs n j) rs.length (kn rs).length)),some (.fr,.lst (aX Bk)),o3,o4,o5,none,none]) (by
  simp -implicitDefEqProofs only [aY,gb,ax,ag,jV,ah,gz,gy,oq,id_eq,mq,mn,e1,bX,oy]
  exact l1)]
 rw [av (e':=[some (.al,.lst (rs.map Row.d)),some (.bo,.lst (aC (fun n j=>!mB rs n j) rs.length (kn rs).length)),some (.fr,.lst (aX Bk)),o3,o4,o5,some (.bo,.dt []),none]) rfl]
 rw [av (e':=[some (.al,.lst (rs.map Row.d)),some (.bo,.lst (aC (fun n j=>!mB rs n j) rs.length (kn rs).length)),some (.fr,.lst (aX Bk)),o3,o4,o5,some (.bo,.dt (cA (a9 rs rs.length) (fM rs))),o7]) (by
  simp -implicitDefEqProofs only [aY,bO,ax,ag,ah,jV,gz,gy,id_eq,oq,mq,mn,e3,bX,oy]
  exact l2)]
 rfl
theorem UC {m n:M}{ks:List (List Key×D)}:jO [(m,.dt ks),(n,.ty "dict")]=some (.fr,.bl true):=rfl
theorem C1 {f:Int→Int}{ls:List (List Key×D)} (hl:∀ kv∈ls,kv.2=.int (f (kj kv.1))):∀ ks:List (List Key×D),(∀ kv∈ks,kv∈ls)→lO ls ks=true
  |[],_=>rfl
  | (k,d)::r,h=>by
    have h1:=h (k,d) List.mem_cons_self
    have hd:d=.int (f (kj k)):=hl _ h1
    have hv:cS ls k=some (.int (f (kj k))):=xB (fun kv bU e=>by rw [hl kv bU,e]) ⟨(k,d),h1,rfl⟩
    subst hd
    simp only [lO,hv,beq_self_eq_true,Bool.true_and]
    exact C1 hl r fun kv bU=>h kv (List.mem_cons_of_mem _ bU)
theorem OD {f:Int→Int}{ls:List (List Key×D)} (hl:∀ kv∈ls,kv.2=.int (f (kj kv.1))):ly [.dt ls,.dt ls]=some (.fr,.bl true):=by
 have iv:i6 ls=true:=List.all_eq_true.mpr fun kv bU=>by rw [hl kv bU]
 have ne:ou (.al,.dt ls) (.al,.dt ls)=some (.fr,.bl false):=by
  simp only [ou,iv,and_self,if_true,C1 hl ls fun _ h=>h,beq_self_eq_true,Bool.and_self,Bool.not_true]
 unfold ly fn B1
 simp only [ck,bq,bw]
 rw [av (e':=[some (.al,.dt ls),some (.al,.dt ls),none]) (by
  rw [bH (by
   simp -implicitDefEqProofs only [cY,fC,jB,aJ,ag,ah,ae,jV,jC,gz,gy,id_eq,oq,UC,bj,oy,Bool.not_true,Bool.false_eq_true,if_false,ne])]
  rfl)]
 obtain ⟨e',l1,o2,he⟩:=cP (g:=gN 2) (b:=tm) (m:=.al) (ds:=ls.map (·.2)) (e:=[some (.al,.dt ls),some (.al,.dt ls),none])
  (fun _ e=>∃ o2,e=[some (.al,.dt ls),some (.al,.dt ls),o2]) ⟨none,rfl⟩
  (fun i d e hd aZ=>by
   obtain ⟨o2,he⟩:=aZ
   subst he
   obtain ⟨kv,bU,rfl⟩:=List.mem_map.mp (List.mem_of_getElem? hd)
   rw [hl kv bU]
   refine ⟨_,[some (.al,.dt ls),some (.al,.dt ls),some (.al,.int (f (kj kv.1)))],rfl,?_,_,rfl⟩
   show tm [some (.al,.dt ls),some (.al,.dt ls),some (.al,.int (f (kj kv.1)))]=_
   unfold tm
   rw [bH (by walk_at "ev")]
   rfl)
 subst he
 rw [av (e':=[some (.al,.dt ls),some (.al,.dt ls),o2]) (by
  simp -implicitDefEqProofs only [qx,gz,eJ,if_true,AF,oq]
  exact l1)]
 rfl
theorem EE {rs:List Row} (g:Good rs) (hl:rs.length≤300):∃ ls:List (List Key×D),lz [.lst (rs.map Row.d)]=some (.un,.dt ls)∧m8 [.lst (rs.map Row.d)]=some (.un,.dt ls)∧ly [.dt ls,.dt ls]=some (.fr,.bl true):=by
 obtain ⟨P,e1,hP⟩:=Lx g hl
 have e2:=UB g hl
 refine ⟨_,e1,?_,OD (f:=fun m=>if m=-1 then 0 else ((bu (fun j=>true&&!P m.toNat j) (kn rs).length:Nat):Int)) fun kv bU=>by
  rw [Q7 _ kv bU]
  unfold gi
  split<;>rfl⟩
 rw [e2,Q6 (f:=fM rs) (g:=gi P (kn rs).length)]
 intro q hq
 unfold fM gi
 by_cases z:q.1=-1
 ·rw [if_pos z,if_pos z]
 obtain ⟨q0,q1⟩:=(yf hq).resolve_left z
 rw [if_neg z,if_neg z]
 refine ky fun j hj=>?_
 have h:=hP q.1.toNat j (by omega) hj
 have:P q.1.toNat j=mB rs q.1.toNat j:=by rw [Bool.eq_iff_iff,h,yH]
 rw [this];rfl
theorem Wu (ns:List Int):(J.cut ns (some 2) (some 22)).length≤40:=by
 unfold J.cut
 rw [List.length_take]
 refine Nat.le_trans (Nat.min_le_left _ _) ?_
 have h1:HT.aU ns.length ns.length (some 22)≤22:=by
  unfold HT.aU;simp;omega
 omega
theorem M5 {m:M} (ws:List Int):Gj (m,.lst (ws.map .int))=some (.un,.lst (ws.reverse.map .int)):=by
 show eR m (ws.map D.int).reverse=_
 rw [←List.map_reverse,Du]
theorem OG (ns:List Int) (hn:ns.length≤63):∃ m,uU [.lst (ns.map .int)]=some (m,.bl true):=by
 have hc:=Wu ns
 obtain ⟨rs,e1,g1,l1⟩:=Cm ns (J.cut ns (some 2) (some 22)) hc
 obtain ⟨ro,e2,g2,l2⟩:=Cm ns (J.cut ns (some 2) (some 22)).reverse (by rw [List.length_reverse];exact hc)
 obtain ⟨ls,w1,d1,r1⟩:=EE g1 (by omega)
 obtain ⟨lo,w2,d2,r2⟩:=EE g2 (by omega)
 unfold uU fn Gq
 simp only [ck,bq,bw]
 rw [av (e':=[some (.al,.lst (ns.map .int)),some (.bo,.lst (rs.map Row.d)),none,none,none,none]) (by
  simp -implicitDefEqProofs only [ao,ax,ag,ah,fu,dM,jV,jC,gz,gy,id_eq,oq,ig,oy,xZ,mq,mn,e1,fO,tz,tq])]
 rw [av (e':=[some (.al,.lst (ns.map .int)),some (.bo,.lst (rs.map Row.d)),some (.bo,.lst (ro.map Row.d)),none,none,none]) (by
  simp -implicitDefEqProofs only [ao,ax,ag,ah,fu,uQ,dM,bN,jV,jC,gz,gy,id_eq,oq,ig,iX,oy,xZ,if_true,M5,mq,mn,e2,fO,tz,tq])]
 rw [av (e':=[some (.al,.lst (ns.map .int)),some (.bo,.lst (rs.map Row.d)),some (.bo,.lst (ro.map Row.d)),some (.bo,.dt ls),none,none]) (by
  simp -implicitDefEqProofs only [ao,ax,ag,ah,jV,gz,gy,id_eq,oq,mq,mn,d1,fO,tz,tq])]
 rw [av (e':=[some (.al,.lst (ns.map .int)),some (.bo,.lst (rs.map Row.d)),some (.bo,.lst (ro.map Row.d)),some (.bo,.dt ls),some (.bo,.lst (rs.map Row.d)),none]) (by
  simp -implicitDefEqProofs only [ao,aJ,ag,ah,jV,lM,Td,gz,gy,id_eq,oq,fO,tz,tq])]
 rw [av (e':=[some (.al,.lst (ns.map .int)),some (.bo,.lst (rs.map Row.d)),some (.bo,.lst (ro.map Row.d)),some (.bo,.dt ls),some (.bo,.lst (rs.map Row.d)),some (.bo,.dt ls)]) (by
  simp -implicitDefEqProofs only [ao,ax,ag,ah,jV,gz,gy,id_eq,oq,mq,mn,w1,fO,tz,tq])]
 rw [av (e':=[some (.al,.lst (ns.map .int)),some (.bo,.lst (rs.map Row.d)),some (.bo,.lst (ro.map Row.d)),some (.bo,.dt ls),some (.bo,.lst (rs.map Row.d)),some (.bo,.dt ls)]) (by
  rw [bH (by
   simp -implicitDefEqProofs only [cY,fC,jB,ax,ag,ah,ae,jV,gz,gy,id_eq,oq,mq,mn,r1,bj,oy,Bool.not_true,Bool.false_eq_true,if_false,Uh (L4 rs) (L5 rs)])]
  rfl)]
 rw [av (e':=[some (.al,.lst (ns.map .int)),some (.bo,.lst (rs.map Row.d)),some (.bo,.lst (ro.map Row.d)),some (.bo,.dt ls),some (.bo,.lst (rs.map Row.d)),some (.bo,.dt [])]) rfl]
 rw [av (e':=[some (.al,.lst (ns.map .int)),some (.bo,.lst (rs.map Row.d)),some (.bo,.lst (ro.map Row.d)),some (.bo,.dt ls),some (.bo,.lst []),some (.bo,.dt [])]) rfl]
 rw [av (e':=[some (.al,.lst (ns.map .int)),some (.bo,.lst (rs.map Row.d)),some (.bo,.lst (ro.map Row.d)),some (.bo,.dt ls),some (.bo,.lst []),some (.bo,.dt [])]) (by
  rw [bH (by
   simp -implicitDefEqProofs only [fC,jB,ax,ag,ah,jV,gz,gy,id_eq,oq,mq,mn,w2,d2,r2,bj,oy,Bool.not_true])]
  rfl)]
 refine ⟨.fr,?_⟩
 simp -implicitDefEqProofs only [aG,ax,ag,ah,jV,gz,gy,id_eq,oq,mq,mn,w1,r1,nG]
end aL
namespace aL
open PySem PySem.Spec L2 My J
theorem walk {l:PySem.W.OpenLaw}{q:Program}{loose:List Str}{XP:(Str→Option Value)→Heap→Prop}{YP:World→Heap→Prop}{d:DefRec}{K:Params→PySem.W.Frag} (hn:l.most=some 63) (rj:d.params.defaults=[]) (hd:d.name = "law")
  (hY:∀ (w:World) (h:Heap),YP w h→(K w.params).In h) (F:∀ (w:World),C.wd (K w.params) vp∧C.wg (K w.params) bs∧C.wj (K w.params) gs) :
  PySem.W.WalkO q loose XP YP l.row.toRowW d [] (fun f vs=>PySem.call f vs) :=
 L2.Pn (n:=63) (k:=6) (x := "_law_script") (CX:=fun _=>j4) (sp:=fun w=>mG (K w.params) 1 uU) hn (by decide) rj ⟨rfl,by decide,by decide⟩ hY (fun w mg fa h X G A5=>C.Vy X G (hd▸A5) (F w).2.1 (F w).2.2 (F w).1 ba ok Zk fun _ _ _ _ _ _ _ _=>.of_eq rfl) (fun _ _ a ns hl _ hS=>Ta hS (OG ns hl)) fun _ _ _ _ _ z=>z
end aL
namespace PySem.W.Fast
def tw15966433720390804333:=0
def tw15911031875045057298:=0
def tw9827548293016205544:=0
def tw3288287865362085350:=0
def tw17880327245040873634:=0
def tw17239350300630286116:=0
def tw8387201926818827032:=0
def tw12990967324455087954:=0
def tw10921787006618234327:=0
def tw12598620357925140780:=0
def tw14893576852680025715:=0
def tw4528457559960076588:=0
def tw10043646011690300657:=0
def tw3841945089005253039:=0
def tw8142321519058799704:=0
def tw32258360522432498:=0
def tw15798672397083312479:=0
def tw693944232382544759:=0
def tw17301187743351041588:=0
def tw17372899743623885737:=0
def tw2861911933512634999:=0
def tw12124103921917575487:=0
def tw15414975626879855096:=0
def tw4867187677974911784:=0
def tw7079249461400948976:=0
def tw9827113973561116715:=0
def tw10227556142616504288:=0
def tw4221531297307004841:=0
def tw286258005355047825:=0
def tw8182126665796395493:=0
def tw5822433286351433350:=0
def tw6605571312046291928:=0
def tw1014964146264605539:=0
def tw8233225800261975862:=0
def tw5112720751474180824:=0
def tw12399016336719133350:=0
def tw1519429482950652401:=0
def tw12181566955796206060:=0
def tw10702830918478223545:=0
def tw12479749503080570576:=0
def tw14771253604445890401:=0
def tw2369174170717242058:=0
def tw953886503224882064:=0
def tw6090085086593091782:=0
def tw8578211874353837548:=0
def tw7262600965769392099:=0
def tw511160024943377473:=0
def tw1880862151044998880:=0
def tw11812980953785469937:=0
def tw18235354010666441257:=0
def tw17322317793410146768:=0
def tw5978633214586154879:=0
def tw5197021516917557197:=0
def tw8665451410121423825:=0
def tw8445442712117674027:=0
def tw10304164700477276910:=0
def tw13820538466127471608:=0
def tw1058764035131745496:=0
def tw9287013585291385981:=0
def tw3281298571429381414:=0
def tw4523033789147423262:=0
def tw13848403292634873241:=0
def tw10093012277955650371:=0
def tw7079837629752946089:=0
def tw1242605651729362519:=0
def tw13709532347849891384:=0
def tw10596494230579864472:=0
def tw5701246745844361197:=0
def tw13619127223050950734:=0
def tw9318578680510467517:=0
def tw12243886106133054369:=0
def tw14226387943606421664:=0
def tw4210478765766231355:=0
def tw5001308761672418214:=0
def tw3351772971376009692:=0
def tw7488599202085535875:=0
def tw17359148135121367562:=0
def tw14002521127591069951:=0
def tw4278345495572796404:=0
def tw6073153345529385191:=0
def tw5127426551913507334:=0
def tw17574374092241541294:=0
def tw7098154403516381912:=0
def tw6990322259036124290:=0
def tw14957492017477456222:=0
def tw16502028775824487849:=0
def tw17168416511160915193:=0
def tw16232073905751682901:=0
def tw12474407364295389727:=0
def tw15136950789598528179:=0
def tw17472121915678361946:=0
def tw578349394283662105:=0
def tw3019772631390698566:=0
def tw8538701724827071294:=0
def tw3139610052390735068:=0
def tw2550600934048047023:=0
def tw8311059775386902816:=0
def tw11282093546910825981:=0
def tw2415261937497611097:=0
def tw14183391709892904644:=0
def tw6140040089483203369:=0
def tw13380766005413819441:=0
def tw5759231971456651791:=0
def tw5104775458163576053:=0
def tw4124262008825986693:=0
def tw4674131723363260833:=0
def tw10261907426336041469:=0
def tw12600997595885193656:=0
def tw13787985125289969837:=0
def tw12278687265868795776:=0
def tw18183884713986395573:=0
def tw5066041971247026048:=0
def tw2740736930260799091:=0
def tw15310990752759705466:=0
def tw14210008842125729025:=0
def tw1130322937543325177:=0
def tw14994086368740392682:=0
def tw10372961542807352141:=0
def tw8944159119655260152:=0
def tw359572066201645554:=0
def tw14307088657253218241:=0
def tw14553542415387623940:=0
def tw15025334431346797375:=0
def tw2770234303867898315:=0
def tw14991203977648379045:=0
def tw11634005912906849023:=0
def tw4321640077158985223:=0
def tw11184928917300535429:=0
def tw11025990728041115596:=0
def tw10685964993036491916:=0
def tw5496040053828323254:=0
def tw3655993331992571041:=0
def tw13691660039574908987:=0
def tw2970993762333626096:=0
def tw6923946867943129198:=0
def tw824985743544549330:=0
def tw1788963335186409475:=0
def tw1423800062694478351:=0
def tw10785332969760154992:=0
def tw15247955390645856802:=0
def tw14578997633950663154:=0
def tw3866108171784795105:=0
def tw13965395047942266348:=0
def tw7601262190885692233:=0
def tw18044825918857332574:=0
def tw668359467139964967:=0
def tw15267316855432808919:=0
def tw12531832336060389497:=0
def tw2277898135123115046:=0
def tw3048762565668674736:=0
def tw17406036264410201843:=0
def tw1270154987916855333:=0
def tw7162161249371921336:=0
def tw15952507717022984789:=0
def tw11522075508963592162:=0
def tw16678977604066517126:=0
def tw9512177883006187374:=0
def tw11683021640469232094:=0
def tw914412409548236935:=0
def tw8043067778262674778:=0
def tw8978281468779676394:=0
def tw9356635375445585751:=0
def tw4345153631293953499:=0
def tw7353644948692159948:=0
def tw15266471167997743559:=0
end PySem.W.Fast
open PySem PySem.W PyProof.Rows
set_option maxRecDepth 100000 in
set_option maxHeartbeats 0 in
theorem PySem.Challenge.cw_lazyhoist_k32_standing_holds : PySem.Challenge.rw_lazyhoist_k32_standing.Holds := by
  w_on; o_law; k_head; (case hw => w_witness2)
  k_fill
  refine aL.walk (l := PySem.Challenge.rw_lazyhoist_k32_standing) rfl rfl rfl (fun w h Y => PySem.W.kIn_of Y) ?F
  case F =>
    intro w
    refine ⟨⟨(?_:C.DE _ "law" (aL.top 47)), (?_:C.DE _ "_law_due" (aL.top 46)), (?_:C.DE _ "_law_missed" (aL.top 45)), (?_:C.DE _ "_law_came" (aL.top 44)), (?_:C.DE _ "_law_right" (aL.top 43)), (?_:C.DE _ "_law_known" (aL.top 42)), (?_:C.DE _ "_law_changes" (aL.top 41)), (?_:C.DE _ "_law_has" (aL.top 40)), (?_:C.DE _ "_law_places" (aL.top 39)), (?_:C.DE _ "_law_program" (aL.top 37)), (?_:C.DE _ "_law_any_program" (aL.top 36)), (?_:C.DE _ "_law_mended" (aL.top 35)), (?_:C.DE _ "_law_comes_to" (aL.top 34)), (?_:C.DE _ "_law_followers" (aL.top 38)), (?_:C.DE _ "_law_any_row" (aL.top 33)), (?_:C.DE _ "_law_stairs" (aL.top 32)), (?_:C.DE _ "_law_with_else" (aL.top 31)), (?_:C.DE _ "_law_with_while" (aL.top 30)), (?_:C.DE _ "_law_goal" (aL.top 29)), (?_:C.DE _ "_law_rough" (aL.top 27)), (?_:C.DE _ "_law_number" (aL.top 28)), (?_:C.DE _ "_law_last" (aL.top 26)), (?_:C.DE _ "_law_row" (aL.top 25)), (?_:C.DE _ "_law_deeds" (aL.top 24)), (?_:C.DE _ "_law_operand" (aL.top 23)), (?_:C.DE _ "_law_names" (aL.top 22)), (?_:C.DE _ "_law_is_free" (aL.top 21)), (?_:C.DE _ "_law_mixed" (aL.top 20)), (?_:C.DE _ "_law_cell" (aL.top 19)), (?_:C.DE _ "standing" (aL.top 16)), (?_:C.DE _ "unstanding_bits" (aL.top 17)), (?_:C.DE _ "spread" (aL.top 14)), (?_:C.DE _ "changed_bits" (aL.top 13)), (?_:C.DE _ "reckoned_bits" (aL.top 12)), (?_:C.DE _ "every_bit" (aL.top 11)), (?_:C.DE _ "bits_of" (aL.top 10)), (?_:C.DE _ "reckonings" (aL.top 8)), (?_:C.DE _ "places" (aL.top 7)), (?_:C.DE _ "all_followers" (aL.top 6)), (?_:C.DE _ "followers" (aL.top 5)), (?_:C.DE _ "changes" (aL.top 3)), (?_:C.DE _ "sets" (aL.top 2)), (?_:C.DE _ "reckoning_of" (aL.top 1)), trivial⟩, ⟨?ZQ, ?ZR, ?ZS, ?ZT, ?ZU, ?ZV, ?ZW, ?ZX, ?ZY, ?ZZ, trivial⟩, trivial⟩
    iterate 43 (refine' C.Xb ?a ?l ?c ?k; (case a => k_is); (case l => k_is); (case c => k_is); (case k => k_is))
    case ZQ => (show PySem.W.nsIn _ mainGlobals "bool" = some none); k_is
    case ZR => (show PySem.W.nsIn _ mainGlobals "dict" = some none); k_is
    case ZS => (show PySem.W.nsIn _ mainGlobals "enumerate" = some none); k_is
    case ZT => (show PySem.W.nsIn _ mainGlobals "int" = some none); k_is
    case ZU => (show PySem.W.nsIn _ mainGlobals "isinstance" = some none); k_is
    case ZV => (show PySem.W.nsIn _ mainGlobals "len" = some none); k_is
    case ZW => (show PySem.W.nsIn _ mainGlobals "list" = some none); k_is
    case ZX => (show PySem.W.nsIn _ mainGlobals "max" = some none); k_is
    case ZY => (show PySem.W.nsIn _ mainGlobals "range" = some none); k_is
    case ZZ => (show PySem.W.nsIn _ mainGlobals "sum" = some none); k_is
