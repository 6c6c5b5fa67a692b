import PyProof.Rows.All
import Wide.All
import OpenK.AllK
import Wide.FinOn
import Lean
import PyProof.EqAt
import PyProof.EqKinds
import PyProof.TupleCall
import PySem.Challenge.RW_lazyhoist_k40_first_places
set_option Elab.async false
set_option linter.all false
set_option maxRecDepth 100000
def ao:=@PySem.wpAny_bind
def aC:=@PySem.wpAny_pure
def aX:=@Bool.false_ne_true
def bf:=@Nat.le_refl
def bB:=@List.getElem?_eq_some_iff
def bC:=@of_decide_eq_true
def bZ:=@List.mem_map
def cg:=@PySem.Heap.lt_size
def cv:=@List.mem_cons_self
def cV:=@List.getElem?_map
def cW:=@PySem.SeqAt.room_here
def df:=@List.mem_cons_of_mem
def dz:=@PySem.Heap.get?_push_of_some
def dC:=@Nat.lt_of_le_of_lt
def dO:=@List.mem_of_getElem?
def dU:=@List.getElem?_eq_getElem
def fw:=@Nat.lt_of_lt_of_le
def fA:=@List.getElem?_set_ne
def fL:=@PySem.Heap.get?_push_size
def hU:=@List.getD_eq_getElem?_getD
namespace L2
open PySem PySem.Spec PyProof.Rows
inductive Key where|inl (i:Int)|inr (x:Str)|non
 deriving DecidableEq
noncomputable def GL:Value→Bool
 |.none=>true
 |_=>false
theorem Oi{v:Value}(h:GL v=true):v=.none:=by cases v<;>first|rfl|cases h
noncomputable def oP:Key→Value→Bool
 |.inl k,v=>Value.isInt k v
 |.inr x,v=>Value.isStrOf x v
 |.non,v=>GL v
noncomputable def Xv(w:World):Key→Int
 |.inl k=>hashInt k
 |.inr x=>hashStr w x
 |.non=>4238894112
theorem kc:∀{k:Key}{v:Value},oP k v=true→(∃i t,k=.inl i∧v=Value.int i t)∨(∃x t,k=.inr x∧v=Value.str x t)∨(k=.non∧v=.none)
 |.inl i,v,h=>by
  obtain⟨t,e⟩:=Value.isInt_shape (k:=i) (v:=v) h
  exact .inl ⟨i,t,rfl,e⟩
 |.inr x,v,h=>by
  obtain⟨t,e⟩:=Value.isStrOf_shape (x:=x) (v:=v) h
  exact .inr (.inl ⟨x,t,rfl,e⟩)
 |.non,v,h=>.inr (.inr ⟨rfl,Oi h⟩)
theorem Nj(i:Int)(t:Tok):oP (.inl i) (.int i t)=true:=by simp[oP,Value.isInt]
theorem Nk(x:Str)(t:Tok):oP (.inr x) (.str x t)=true:=by simp[oP,Value.isStrOf]
theorem Sr(a b:Int):decide ((Key.inl a:Key)=.inl b)=(a==b):=by
 by_cases e:a=b
 ·subst e;simp
 ·rw[decide_eq_false fun q=>e (Key.inl.inj q)]
  exact(beq_eq_false_iff_ne.mpr e).symm
theorem Ss(a b:Str):decide ((Key.inr a:Key)=.inr b)=decide (a=b):=by
 by_cases e:a=b
 ·subst e;simp
 ·rw[decide_eq_false fun q=>e (Key.inr.inj q),decide_eq_false e]
theorem Dv{prog:Program}{w:World}{A:Around}{E:Value→Shared→Prop}{s:Shared}{Q:Int→Shared→Prop}(h:Q 4238894112 { s with toks:=s.toks+1 }):wpAny (model prog w) A (PySem.pyHash .none) Q E s:=by
 unfold PySem.pyHash
 have hv:[Value.none].any Value.onHeap=false:=rfl
 refine ao ?_
 rw[cRoomFor,if_neg (by rw[hv];exact aX)];refine aC ?_
 refine ao (wpAny_specialOf (typeIs_none s) PySem.F.slot_NoneType_hash.lookup ?_)
 show wpAny _ _ (if (some (Value.builtin "NoneType.__hash__")==some Value.none)=true then _ else _) Q E s
 rw[if_neg (by rw[beq_builtin_none];exact aX)]
 refine ao (wpAny_specialOf (typeIs_none s) PySem.F.slot_NoneType_hash.lookup ?_)
 show wpAny _ _ (callSpecialIfBoundUnlessNone? .none "__hash__" _ >>= _) Q E s
 refine ao (wpAny_callSpecialIfBoundUnlessNone?_slot (typeIs_none s) PySem.F.slot_NoneType_hash
  (wpAny_call_entry PySem.F.slot_NoneType_hash (typeIs_none s) PySem.F.entry_NoneType_hash
   (show wpAny _ _ (do ret (←mkInt 4238894112)) _ _ s from wpAny_ret_mkInt ?_) (PySem.F.args_NoneType_hash_1 _)))
 exact aC h
noncomputable def cL(prog:Program)(w:World):PySem.KeyKind prog w Key where
 is:=oP
 hash:=Xv w
 inj:=fun v a b ha hb=>by
  rcases kc ha with⟨i,t,rfl,rfl⟩|⟨x,t,rfl,rfl⟩|⟨rfl,rfl⟩<;>rcases kc hb with⟨j,u,rfl,e⟩|⟨y,u,rfl,e⟩|⟨rfl,e⟩<;>first|rfl | (injection e with e1 _;rw[e1];done) | (cases e;done)
 byValue:=fun k v h=>by
  rcases kc h with⟨i,t,rfl,rfl⟩|⟨x,t,rfl,rfl⟩|⟨rfl,rfl⟩<;>rfl
 pyHash:=fun hv h=>by
  rcases kc hv with⟨i,t,rfl,rfl⟩|⟨x,t,rfl,rfl⟩|⟨rfl,rfl⟩
  ·exact wpAny_pyHash_int h
  ·exact wpAny_pyHash_str h
  ·exact Dv h
 eqBool:=fun hu hv h=>by
  rcases kc hu with⟨i,t,rfl,rfl⟩|⟨x,t,rfl,rfl⟩|⟨rfl,rfl⟩
  ·rcases kc hv with⟨j,u,rfl,rfl⟩|⟨y,u,rfl,rfl⟩|⟨rfl,rfl⟩
   ·rw[Sr]at h;exact wpAny_eqBool_int h
   ·exact SeqAt.EqAt.int_str i t y u _ _ _ _ h
   ·exact SeqAt.EqAt.int_none i t _ _ _ _ h
  ·rcases kc hv with⟨j,u,rfl,rfl⟩|⟨y,u,rfl,rfl⟩|⟨rfl,rfl⟩
   ·exact SeqAt.EqAt.str_int x t j u _ _ _ _ h
   ·rw[Ss]at h;exact wpAny_eqBool_str h
   ·exact SeqAt.EqAt.str_none x t _ _ _ _ h
  ·rcases kc hv with⟨j,u,rfl,rfl⟩|⟨y,u,rfl,rfl⟩|⟨rfl,rfl⟩
   ·exact SeqAt.EqAt.none_int j u _ _ _ _ h
   ·exact SeqAt.EqAt.none_str y u _ _ _ _ h
   ·exact SeqAt.EqAt.same .none _ _ _ _ h
 «strs»:=fun k x t v h=>by
  rcases kc h with⟨i,u,rfl,e⟩|⟨y,u,rfl,e⟩|⟨rfl,e⟩
  ·exact nomatch e
  ·injection e with e1 _
   subst e1
   cases v<;>rfl
  ·exact nomatch e
theorem Mt(prog:Program)(w:World)(i:Int)(t:Tok):(cL prog w).is (.inl i) (.int i t)=true:=Nj i t
theorem Mu(prog:Program)(w:World)(x:Str)(t:Tok):(cL prog w).is (.inr x) (.str x t)=true:=Nk x t
theorem Mv(prog:Program)(w:World):(cL prog w).is .non .none=true:=rfl
inductive V where
 |non|bl (b:Bool)|int (i:Int)|str (x:Str)|gk (b:Array UInt8)|r6 (b:UInt64)|ref (a:Addr)|ty (n:String)
 deriving DecidableEq
noncomputable def RelV:V→Value→Prop
 |.non,u=>u=Value.none
 |.bl b,u=>u=Value.bool b
 |.int i,u=>∃t,u=Value.int i t
 |.str x,u=>∃t,u=Value.str x t
 |.gk b,u=>∃t,u=Value.bytes b t
 |.r6 b,u=>∃t,u=Value.float b t
 |.ref a,u=>u=Value.ref a
 |.ty n,u=>u=Value.type n
abbrev Vals:List V→List Value→Prop:=Paired RelV
theorem Vals.length{xs:List V}{us:List Value}(r:Vals xs us):xs.length=us.length:=Paired.length r
theorem Vals.get:∀{xs:List V}{us:List Value}{i:Nat}{x:V},Vals xs us→xs[i]?=some x→∃u,us[i]?=some u∧RelV x u
 |_,_,_,_,.nil,e=>by simp at e
 |_,_,0,_,.cons r _,e=>by simp at e;subst e;exact⟨_,rfl,r⟩
 |_,_,i+1,x,.cons _ t,e=>by
  obtain⟨u,h1,h2⟩:=Vals.get (i:=i) (x:=x) t (by simpa using e)
  exact⟨u,by simpa using h1,h2⟩
theorem Vals.set{x:V}{u:Value}(r:RelV x u):∀{xs:List V}{us:List Value} (i:Nat),Vals xs us→Vals (xs.set i x) (us.set i u)
 |_,_,_,.nil=>.nil
 |_,_,0,.cons _ t=>.cons r t
 |_,_,i+1,.cons q t=>.cons q (Vals.set r i t)
theorem Vals.append:∀{xs ys:List V}{us ws:List Value},Vals xs us→Vals ys ws→Vals (xs++ys) (us++ws)
 |_,_,_,_,.nil,s=>s
 |_,_,_,_,.cons r t,s=>.cons r (Vals.append t s)
theorem Vals.take:∀{xs:List V}{us:List Value} (n:Nat),Vals xs us→Vals (xs.take n) (us.take n)
 |_,_,0,_=>.nil
 |_,_,_+1,.nil=>.nil
 |_,_,n+1,.cons r t=>.cons r (Vals.take n t)
theorem Vals.drop:∀{xs:List V}{us:List Value} (n:Nat),Vals xs us→Vals (xs.drop n) (us.drop n)
 |_,_,0,r=>r
 |_,_,_+1,.nil=>.nil
 |_,_,n+1,.cons _ t=>Vals.drop n t
noncomputable def iD:Option V→Option Value→Prop
 |some v,some u=>RelV v u
 |none,none=>True
 |_,_=>False
def KV{κ:Type}:List (κ×V)→List (κ×Value)→Prop:=Paired fun(p:κ×V) (q:κ×Value)=>p.1=q.1∧RelV p.2 q.2
noncomputable def kV:Key→V
 |.inl i=>.int i
 |.inr x=>.str x
 |.non=>.non
inductive HO where
 |lst (xs:List V)
 |tup (xs:List V)
 |dK (ai:List (Key×V))|dT (ai:List (List Key×V))
 |set (S:Int→Bool) (n:Nat)
 |ins (C dx:Addr) (fs:List (Str×V))
 |own (x:Addr)
 |xd (fs:List (Str×V))
 |met (f x:Addr)
 |b0 (lo hi:Int)
 |bj (o:Obj) (u:HO)
 |kK (ps:Array Value)
 |ext (φ:Heap→Prop)
noncomputable abbrev Hp:=Addr→Option HO
noncomputable def upd(H:Hp)(a:Addr)(o:HO):Hp:=fun b=>if b=a then some o else H b
theorem bS{H:Hp}{a:Addr}{o:HO}:upd H a o a=some o:=by unfold upd;rw[if_pos rfl]
theorem aK{H:Hp}{a b:Addr}{o:HO}(h:b≠a):upd H a o b=H b:=by unfold upd;rw[if_neg h]
theorem vv{H:Hp}{a b:Addr}{o u:HO}(h:H a=some o)(h':H b=some u)(d:o≠u):a≠b:=by
 intro e;subst e;rw[h]at h';exact d (Option.some.inj h')
theorem fF{H:Hp}{a b:Addr}{o:HO}(h:H a=some o)(h':H b=none):a≠b:=by
 intro e;subst e;rw[h]at h';cases h'
section
variable (P:Program)(w:World)
noncomputable def cE(H:Hp)(h:Heap)(a:Addr):HO→Prop
 |.lst xs=>xs.length≤sizeLine∧∃(its:List Value) (n:Nat),Vals xs its∧h.get? a=some { cls:=.type "list",data:=.seq its.toArray n }
 |.tup xs=>xs.length≤sizeLine∧∃its:List Value,Vals xs its∧IsTup h a its.toArray
 |.dK ai=>ai.length≤sizeLine∧(a==sysModules)=false∧∃vs,KV ai vs∧h.DictOf (cL P w) a vs
 |.dT ai=>ai.length≤sizeLine∧(a==sysModules)=false∧∃xs:List (List Key×Addr×Value),
  Paired (fun(p:List Key×V) (q:List Key×Addr×Value)=>p.1=q.1∧H q.2.1=some (.tup (p.1.map kV))∧RelV p.2 q.2.2) ai xs ∧
  ∃o es ep,h.get? a=some o∧o.ExactDict∧o.data=.dict es ep∧es.toList=xs.map (entryOfKey (tupleKind (cL P w)))∧(xs.map (·.1)).Nodup
 |.set S n=>h.SetOf (intKind P w) a S n
 |.ins C dx fs=>H dx=some (.own a)∧fs.length≤1000∧dx≠a∧h.get? a=some (PySem.W.instObj C dx) ∧
  ∃mA,h.Ns1 dx mA∧(∀f,iD (fs.lookup f) (mA f))∧PySem.Within mA (fs.map (·.1))
 |.own _=>∃o,h.get? a=some o
 |.xd fs=>∃mA,h.Ns1 a mA∧∀f,iD (fs.lookup f) (mA f)
 |.b0 lo hi=>∃t u v,h.get? a=some { cls:=.type "range",data:=.fields #[.int lo t,.int hi u,.int 1 v] }
 |.bj o u=>h.get? a=some o∧cE H h a u
 |.kK ps=>h.get? a=some { cls:=.none,data:=.fields ps }
 |.met f x=>h.get? a=some (PySem.W.methodObj (.ref f) (.ref x))
 |.ext φ=>φ h∧(∃o,h.get? a=some o)∧∀h1 h2:Heap,φ h1→(∀o,h1.get? a=some o→h2.get? a=some o)→φ h2
def cO(H:Hp)(h:Heap):Prop:=∀a o,H a=some o→cE P w H h a o
end
section
variable {P:Program}{w:World}{H H':Hp}{h h':Heap}{a:Addr}{o:HO}
theorem cE.lt(x:cE P w H h a o):a<h.objs.size:=by
 cases o with
 |lst xs=>obtain⟨_,_,_,_,e⟩:=x;exact cg e
 |tup xs=>obtain⟨_,_,_,p⟩:=x;exact p.lt
 |dK ai=>obtain⟨_,_,_,_,o,_,_,e,_⟩:=x;exact cg e
 |dT ai=>obtain⟨_,_,_,_,o,_,_,e,_⟩:=x;exact cg e
 |set S n=>obtain⟨o,_,_,_,e,_⟩:=x;exact cg e
 |ins C dx fs=>obtain⟨_,_,_,e,_⟩:=x;exact cg e
 |own y=>obtain⟨_,e⟩:=x;exact cg e
 |xd fs=>obtain⟨_,⟨_,_,_,e,_⟩,_⟩:=x;exact cg e
 |b0 lo hi=>obtain⟨_,_,_,e⟩:=x;exact cg e
 |bj ob u=>obtain⟨e,_⟩:=x;exact cg e
 |kK ps=>exact cg (show h.get? a=some _ from x)
 |met f y=>exact cg (show h.get? a=some _ from x)
 |ext φ=>obtain⟨_,⟨_,e⟩,_⟩:=x;exact cg e
theorem Paired.vM{α β:Type}{F G:α→β→Prop}:∀{l₁:List α}{l₂:List β},Paired F l₁ l₂→(∀a b,F a b→G a b)→Paired G l₁ l₂
 |_,_,.nil,_=>.nil
 |_,_,.cons r t,f=>.cons (f _ _ r) (Paired.vM t f)
theorem cE.lE(x:cE P w H h a o)(k:∀b u,(b=a∨H b=some (.own a))→h.get? b=some u→h'.get? b=some u)
  (ho:∀b,H b=some (.own a)→H' b=some (.own a)) (ht:∀b xs,H b=some (.tup xs)→H' b=some (.tup xs)):cE P w H' h' a o:=by
 induction o with
 |lst xs=>obtain⟨z,its,n,r,e⟩:=x;exact⟨z,its,n,r,k _ _ (.inl rfl) e⟩
 |tup xs=>obtain⟨z,its,r,ob,e,c⟩:=x;exact⟨z,its,r,ob,k _ _ (.inl rfl) e,c⟩
 |dK ai=>obtain⟨z,y,vs,r,ob,es,ep,e,c⟩:=x;exact⟨z,y,vs,r,ob,es,ep,k _ _ (.inl rfl) e,c⟩
 |dT ai =>
  obtain⟨z,y,xs,r,ob,es,ep,e,c⟩:=x
  exact⟨z,y,xs,Paired.vM r fun p q z=>⟨z.1,ht _ _ z.2.1,z.2.2⟩,ob,es,ep,k _ _ (.inl rfl) e,c⟩
 |set S n=>obtain⟨ob,es,ep,t,e,c⟩:=x;exact⟨ob,es,ep,t,k _ _ (.inl rfl) e,c⟩
 |ins C dx fs =>
  obtain⟨d,z,ne,e,mA,⟨od,es,ep,e2,c⟩,r⟩:=x
  exact⟨ho _ d,z,ne,k _ _ (.inl rfl) e,mA,⟨od,es,ep,k _ _ (.inr d) e2,c⟩,r⟩
 |own y=>obtain⟨ob,e⟩:=x;exact⟨ob,k _ _ (.inl rfl) e⟩
 |xd fs=>obtain⟨mA,⟨od,es,ep,e,c⟩,r⟩:=x;exact⟨mA,⟨od,es,ep,k _ _ (.inl rfl) e,c⟩,r⟩
 |b0 lo hi=>obtain⟨t,u,v,e⟩:=x;exact⟨t,u,v,k _ _ (.inl rfl) e⟩
 |bj ob u ih=>obtain⟨e,q⟩:=x;exact⟨k _ _ (.inl rfl) e,ih q⟩
 |kK ps =>
  have e:h.get? a=some { cls:=.none,data:=.fields ps }:=x
  show h'.get? a=some { cls:=.none,data:=.fields ps }
  exact k a _ (.inl rfl) e
 |met f y =>
  have e:h.get? a=some (PySem.W.methodObj (.ref f) (.ref y)):=x
  show h'.get? a=some (PySem.W.methodObj (.ref f) (.ref y))
  exact k a _ (.inl rfl) e
 |ext φ=>obtain⟨p,⟨o,e⟩,st⟩:=x;exact⟨st _ _ p fun o q=>k _ _ (.inl rfl) q,⟨o,k _ _ (.inl rfl) e⟩,st⟩
theorem cO.lt(x:cO P w H h)(e:H a=some o):a<h.objs.size:=(x a o e).lt
theorem cO.fresh(x:cO P w H h)(e:h.objs.size≤a):H a=none:=by
 cases q:H a with
 |none=>rfl
 |some u=>exact absurd (fw (x.lt q) e) (Nat.lt_irrefl _)
theorem cO.kept(x:cO P w H h)(k:∀b u,h.get? b=some u→h'.get? b=some u):cO P w H h':=fun a o e =>
 (x a o e).lE (fun b u _ q=>k b u q) (fun _ q=>q) fun _ _ q=>q
theorem cO.laid(x:cO P w H h)(k:∀b u,h.get? b=some u→h'.get? b=some u)(hp:h.objs.size≤a)(new:cE P w (upd H a o) h' a o):cO P w (upd H a o) h':=fun b u e=>by
 have hn:=x.fresh hp
 by_cases hb:b=a
 ·subst hb;rw[bS]at e;cases e;exact new
 ·rw[aK hb]at e
  exact(x b u e).lE (fun c v _ q=>k c v q) (fun c q=>by rw[aK (fF q hn)];exact q) fun c xs q=>by rw[aK (fF q hn)];exact q
end
def Rd(H:Hp)(a:Addr)(u:HO):Prop:=H a=some u∨∃o,H a=some (.bj o u)
theorem Rd.ok{P:Program}{w:World}{H:Hp}{h:Heap}{a:Addr}{u:HO}(r:Rd H a u)(x:cO P w H h):cE P w H h a u:=by
 rcases r with r|⟨o,r⟩
 ·exact x a u r
 ·obtain⟨_,q⟩:=x a _ r
  exact q
noncomputable def r9:Option HO→Prop
 |some (.lst _)=>True
 |some (.dK _)=>True
 |some (.dT _)=>True
 |some (.set _ _)=>True
 |some (.ins _ _ _)=>True
 |some (.ext _)=>True
 |_=>False
section
variable {P:Program}{w:World}{H:Hp}{h h':Heap}{x e:Addr}{o':HO}
theorem cO.write(ok:cO P w H h)(mu:r9 (H x))(he:e=x∨H e=some (.own x))(k:∀b u,b≠e→h.get? b=some u→h'.get? b=some u)(pE:∃u,h'.get? e=some u)
  (new:cE P w (upd H x o') h' x o'):cO P w (upd H x o') h':=fun b u q=>by
 have HB:∀c y,H c=some (.own y)→c≠x:=fun c y r z=>by subst z;rw[r]at mu;exact mu
 have Xw:∀c xs,H c=some (.tup xs)→c≠x:=fun c xs r z=>by subst z;rw[r]at mu;exact mu
 by_cases hb:b=x
 ·subst hb;rw[bS]at q;cases q;exact new
 ·rw[aK hb]at q
  by_cases jm:b=e
  ·have q':H b=some (.own x):=by
    rcases he with z|z
    ·exact absurd (jm.trans z) hb
    ·rw[jm];exact z
   rw[q]at q';cases q'
   obtain⟨v,hv⟩:=pE
   exact⟨v,by rw[jm];exact hv⟩
  ·refine(ok b u q).lE (fun c v hc r=>k c v ?_ r) (fun c r=>by rw[aK (HB c b r)];exact r) fun c xs r=>by rw[aK (Xw c xs r)];exact r
   rcases hc with rfl|hc
   ·exact jm
   ·rintro rfl
    rcases he with z|z
    ·exact HB c b hc z
    ·rw[hc]at z;cases z;exact hb rfl
end
structure Un (fs ex:List Addr)(H H':Hp)(h h':Heap):Prop where
 keep:∀b o,h.get? b=some o→H b=none→b∉fs→b∉ex→h'.get? b=some o
 slot:∀b o,h.get? b=some o→H b=none→b∈fs→b∉ex→∃sl,h'.get? b=some { o with slots:=sl }
 free:∀b o,h.get? b=some o→H b=none→b∉ex→H' b=none
 there:∀b o,h.get? b=some o→b∉ex→∃o',h'.get? b=some o'
 ko:∀b xs,H b=some (.tup xs)→H' b=some (.tup xs)
 i6:∀b o u,H b=some (.bj o u)→H' b=some (.bj o u)
 kr:∀b ps,H b=some (.kK ps)→∃more,H' b=some (.kK (ps++more))
section
variable {fs Yu ex ex':List Addr}{H H1 H2:Hp}{h h1 h2 h':Heap}{a x e:Addr}{o:HO}
theorem Un.any(u:Un fs ex H H1 h h1){b:Addr}{ob:Obj}(q:h.get? b=some ob)(n:H b=none)(hx:b∉ex):∃sl,h1.get? b=some { ob with slots:=sl }:=by
 by_cases hb:b∈fs
 ·exact u.slot b ob q n hb hx
 ·exact⟨ob.slots,u.keep b ob q n hb hx⟩
theorem Un.kept(k:∀b u,h.get? b=some u→h'.get? b=some u):Un fs ex H H h h' :=
 ⟨fun b ob q _ _ _=>k b ob q,fun b ob q _ _ _=>⟨ob.slots,k b ob q⟩,fun _ _ _ n _=>n,fun b ob q _=>⟨ob,k b ob q⟩,fun _ _ q=>q,fun _ _ _ q=>q,fun _ ps q=>⟨#[],by rw[q];simp⟩⟩
theorem Un.refl:Un fs ex H H h h:=Un.kept fun _ _ q=>q
theorem Un.laid(k:∀b u,h.get? b=some u→h'.get? b=some u)(hp:h.objs.size≤a)(hn:H a=none):Un fs ex H (upd H a o) h h' where
 keep:=fun b u q _ _ _=>k b u q
 slot:=fun b u q _ _ _=>⟨u.slots,k b u q⟩
 free:=fun b u q n _=>by rw[aK (Nat.ne_of_lt (fw (cg q) hp))];exact n
 there:=fun b u q _=>⟨u,k b u q⟩
 ko:=fun b xs q=>by rw[aK (fF q hn)];exact q
 i6:=fun b u xs q=>by rw[aK (fF q hn)];exact q
 kr:=fun b ps q=>⟨#[],by rw[aK (fF q hn),q];simp⟩
theorem Un.write(mu:r9 (H x))(he:e=x∨H e=some (.own x))(k:∀b u,b≠e→h.get? b=some u→h'.get? b=some u)(pE:∃u,h'.get? e=some u):Un fs ex H (upd H x o) h h':=by
 have hx:∀b,H b=none→b≠x:=fun b n z=>by subst z;rw[n]at mu;exact mu
 have hb:∀b,H b=none→b≠e:=fun b n z=>by
  subst z
  rcases he with r|r
  ·exact hx b n r
  ·rw[n]at r;cases r
 have hm:∀b u,H b=some u→¬r9 (some u)→b≠x:=fun b u q nm z=>by subst z;rw[q]at mu;exact nm mu
 refine⟨fun b u q n _ _=>k b u (hb b n) q,fun b u q n _ _=>⟨u.slots,k b u (hb b n) q⟩,fun b u q n _=>by rw[aK (hx b n)];exact n,fun b u q _=>?_,
  fun b xs q=>by rw[aK (hm b _ q fun z=>z)];exact q,fun b u xs q=>by rw[aK (hm b _ q fun z=>z)];exact q,fun b ps q=>⟨#[],by rw[aK (hm b _ q fun z=>z),q];simp⟩⟩
 by_cases jm:b=e
 ·subst jm;exact pE
 ·exact⟨u,k b u jm q⟩
end
noncomputable def wd(h:Heap)(H:Hp):List Addr:=(List.range h.objs.size).filter fun a=>(H a).isSome
noncomputable def ku(h:Heap)(H:Hp):Heap:=PySem.W.hideAll h (wd h H)
theorem Nm(h:Heap)(H:Hp):(ku h H).objs.size=h.objs.size:=PySem.W.hideAll_size _ _
theorem Oj{h:Heap}{H:Hp}{b:Addr}{o:Obj}(e:h.get? b=some o)(n:H b=none):(ku h H).get? b=some o :=
 PySem.W.hideAll_get _ e fun hm=>by
  have q:(H b).isSome=true:=(List.mem_filter.mp hm).2
  rw[n]at q;simp at q
theorem Qb{h:Heap}{H:Hp}{b:Addr}{o:Obj}(e:(ku h H).get? b=some o):h.get? b=some o∧H b=none:=by
 have e':h.get? b=some o:=PySem.W.of_hideAll (wd h H) e
 refine⟨e',?_⟩
 cases q:H b with
 |none=>rfl
 |some x =>
  have hm:b∈wd h H:=List.mem_filter.mpr ⟨List.mem_range.mpr (cg e'),by simp[q]⟩
  have z:(ku h H).get? b=none:=PySem.W.hideAll_none (wd h H) hm
  rw[z]at e;cases e
noncomputable def Qc(g h:Heap)(L:Addr):List (Addr×Obj):=(List.range h.objs.size).filterMap fun a=>if a=L∨(g.get? a).isSome=true then none else (h.get? a).map fun o=>(a,o)
noncomputable def rest(g h:Heap)(L d:Addr):List (Addr×Obj):=(Qc g h L).filter fun p=>decide (p.1≠d)
structure Mod (K:PySem.W.Frag)(mg:Str→Option Value)(base:Heap):Prop where
 AQ:K.In base
 glob:base.Ns mainGlobals mg
 blt:∃mb,base.Ns builtinsNs mb∧∀x:Str,x ≠ "__name__" → mb x=bootBuiltins x
 nolimit:base.NoLimit
structure Cx where
 prog:Program
 w:World
 K:PySem.W.Frag
 mg:Str→Option Value
 base:Heap
 A:Around
 N:List Str
 s₀:Shared
 H₀:Hp
 env:Env
 outer:List Env
 stack:List Env
 ex:List Addr
 fn:Str→Bool
 calm:Bool
 pn:List (Addr×Obj)
 xe:Value→Shared→Prop
noncomputable def iK(l:List Env):List Addr:=l.filterMap (·.frame)
noncomputable abbrev Cx.fs(X:Cx):List Addr:=iK X.outer
def wg(sc:Scope)(x:Str):Prop:=sc.names.lookup x=some .local∨sc.names.lookup x=some .cell∨sc.names.lookup x=some .free
def Loc(sc:Scope)(x:Str):Prop:=sc.names.lookup x=some .local∨sc.names.lookup x=some .cell
def Look(env:Env)(h:Heap)(m:Str→Option Value)(x:Str)(u:Value):Prop :=
 (env.kindOf x=some .local∧m x=some u)∨((env.kindOf x=some .cell∨env.kindOf x=some .free)∧∃c,env.cells.lookup x=some c∧h.IsCell c (some u))
structure Cx.Ok (X:Cx):Prop where
 mod:Mod X.K X.mg X.base
 kind:X.env.scope.kind=.function
 glob:X.env.globals=mainGlobals
 blt:X.env.builtins=builtinsNs
 above:X.s₀.heap.objs.size≤X.env.locals
 inj:∀x y c,X.env.cells.lookup x=some c→X.env.cells.lookup y=some c→x=y
 has:∀x,(X.env.kindOf x=some .cell∨X.env.kindOf x=some .free)→∃c,X.env.cells.lookup x=some c
 se:∀x c,X.fn x=true→X.env.cells.lookup x=some c→X.s₀.heap.objs.size≤c
 hd:X.calm=true→X.A.handled=none
 frames:X.A.frames=some X.stack
 wj:X.stack=X.outer∨(X.stack=X.env::X.outer∧X.env.frame=some X.env.locals)
 Jp:∀b∈X.ex,b≠X.env.locals∧∀x c,X.env.cells.lookup x=some c→c≠b
 bs:∀b o,X.base.get? b=some o→X.s₀.heap.get? b=some o∧X.H₀ b=none
 kM:X.base.objs.size≤X.s₀.heap.objs.size
 rH:∀b o,X.base.get? b=some o→b∉X.ex
 vN:∀b∈X.ex,b∉X.fs
 i7:X.s₀.heap.FunFrames X.base X.outer
 pF:∀b∈X.fs,X.H₀ b=none
structure Inv (X:Cx)(pins:List (Addr×Obj))(σ:List (Option V))(H:Hp)(s:Shared):Prop where
 ok:X.Ok
 os:s.os=X.s₀.os
 bare:AllBare s.gens
 base:Un X.fs X.ex X.H₀ H X.s₀.heap s.heap
 loc:∃m,s.heap.Ns X.env.locals m∧∀(i:Nat) (x:Str) (v:V),X.N[i]?=some x→σ[i]?=some (some v)→wg X.env.scope x→∃u,RelV v u∧Look X.env s.heap m x u
 cell:∀x c,X.env.cells.lookup x=some c→∃v,s.heap.IsCell c v
 free:H X.env.locals=none
 gW:∀x c,X.env.cells.lookup x=some c→H c=none
 pin:∀p∈X.pn++pins,s.heap.get? p.1=some p.2∧H p.1=none∧p.1≠X.env.locals∧p.1∉X.fs∧∀v,p.2.data≠.cell v
 aG:cO X.prog X.w H s.heap
 len:σ.length=X.N.length
section
variable {X:Cx}{pins:List (Addr×Obj)}{σ:List (Option V)}{H H':Hp}{s:Shared}{h':Heap}
theorem Cx.Ok.Xx(ok:X.Ok){b:Addr}{o:Obj}(e:X.base.get? b=some o):b∉X.fs:=fun hb=>by
 have:=(ok.i7.mem hb).1
 rw[e]at this;cases this
theorem Inv.bs(I:Inv X pins σ H s):∀b o,X.base.get? b=some o→s.heap.get? b=some o∧H b=none:=fun b o e =>
 ⟨I.base.keep b o (I.ok.bs b o e).1 (I.ok.bs b o e).2 (I.ok.Xx e) (I.ok.rH b o e),I.base.free b o (I.ok.bs b o e).1 (I.ok.bs b o e).2 (I.ok.rH b o e)⟩
theorem Inv.bk(I:Inv X pins σ H s):∀b o,X.base.get? b=some o→s.heap.get? b=some o:=fun b o e=>(I.bs b o e).1
theorem Inv.mod(I:Inv X pins σ H s):Mod X.K X.mg X.base:=I.ok.mod
theorem Inv.gG(I:Inv X pins σ H s):X.K.In s.heap:=I.ok.mod.AQ.keeps I.bk
theorem Inv.fr(I:Inv X pins σ H s):∃m,Fr X.base X.env.locals s.heap m :=
 let ⟨m,hn,_⟩:=I.loc
 ⟨m,hn,I.bk,Nat.le_trans I.ok.kM I.ok.above⟩
theorem Inv.lt(I:Inv X pins σ H s):X.env.locals<s.heap.objs.size:=let ⟨_,hn,_⟩:=I.loc;hn.lt
theorem Inv.sz(I:Inv X pins σ H s):X.s₀.heap.objs.size≤s.heap.objs.size:=Nat.le_trans I.ok.above (Nat.le_of_lt I.lt)
theorem Inv.Xy(I:Inv X pins σ H s){a:Addr}(h:s.heap.objs.size≤a):a∉X.fs:=fun hb=>by
 obtain⟨_,o,ho,_⟩:=I.ok.i7.mem hb
 exact absurd (fw (cg ho) (Nat.le_trans I.sz h)) (Nat.lt_irrefl _)
theorem Inv.ng(I:Inv X pins σ H s):∀x c,X.env.cells.lookup x=some c→c≠X.env.locals:=fun x c e z=>by
 obtain⟨v,o,ho,hd⟩:=I.cell x c e
 obtain⟨m,⟨o',es,ep,gn,wm,_⟩,_⟩:=I.loc
 rw[z,gn]at ho;cases ho;rw[wm]at hd;cases hd
theorem Inv.i7(I:Inv X pins σ H s):s.heap.FunFrames X.base X.outer:=by
 have all:∀(l:List Env),(∀b∈iK l,b∈X.fs)→X.s₀.heap.FunFrames X.base l→s.heap.FunFrames X.base l:=by
  intro l
  induction l with
  |nil=>intro _ _;trivial
  |cons env r ih =>
   intro hs hl
   obtain⟨hk,⟨L,o,hf,hn,ho,hd⟩,hr⟩:=hl
   have hL:L∈X.fs:=hs L (by unfold iK;rw[List.filterMap_cons,hf];exact cv)
   obtain⟨sl,e⟩:=I.base.slot L o ho (I.ok.pF L hL) hL fun z=>I.ok.vN L z hL
   exact⟨hk,⟨L,_,hf,hn,e,hd⟩,ih (fun b hb=>hs b (by unfold iK;rw[List.filterMap_cons,hf];exact df _ hb)) hr⟩
 exact all X.outer (fun _ hb=>hb) I.ok.i7
theorem Inv.stack(I:Inv X pins σ H s):s.heap.FunFrames X.base X.stack:=by
 rcases I.ok.wj with e|⟨e,hf⟩
 ·rw[e];exact I.i7
 ·rw[e]
  obtain⟨m,hn,_⟩:=I.loc
  refine .cons (by rw[I.ok.kind];decide) hf hn ?_ I.i7
  exact Heap.get?_none_of_le (Nat.le_trans I.ok.kM I.ok.above)
theorem Inv.zc(I:Inv X pins σ H s):∀b∈iK X.stack,b∈X.env.locals::X.fs:=fun b hb=>by
 rcases I.ok.wj with e|⟨e,hf⟩
 ·rw[e]at hb;exact df _ hb
 ·rw[e]at hb
  unfold iK at hb
  rw[List.filterMap_cons,hf]at hb
  exact hb
theorem Inv.Ey(I:Inv X pins σ H s):∀b∈iK X.stack,H b=none:=fun b hb=>by
 rcases List.mem_cons.mp (I.zc b hb)with e|hb
 ·rw[e];exact I.free
 ·obtain⟨_,o,ho,_⟩:=I.ok.i7.mem hb
  exact I.base.free b o ho (I.ok.pF b hb) fun z=>I.ok.vN b z hb
theorem Inv.step{g':Array GenState}{t':Nat}{d':Drawn}{ch:List Addr}(I:Inv X pins σ H s)
  (jY:∀b∈ch,(b∈X.ex∨X.s₀.heap.objs.size≤b)∧b≠X.env.locals∧(∀x c,X.env.cells.lookup x=some c→c≠b)∧∀p∈X.pn++pins,p.1≠b)
  (keep:∀b o,b≠X.env.locals→b∉X.fs→b∉ch→s.heap.get? b=some o→H b=none→h'.get? b=some o)
  (slot:∀b o,b≠X.env.locals→b∈X.fs→b∉ch→s.heap.get? b=some o→H b=none→∃sl,h'.get? b=some { o with slots:=sl }) (free:∀b o,b∉ch→s.heap.get? b=some o→H b=none→H' b=none)
  (there:∀b o,b∉ch→s.heap.get? b=some o→∃o',h'.get? b=some o')
  (ko:∀b xs,H b=some (.tup xs)→H' b=some (.tup xs)) (i6:∀b o u,H b=some (.bj o u)→H' b=some (.bj o u)) (kr:∀b ps,H b=some (.kK ps)→∃more,H' b=some (.kK (ps++more)))
  (ns:∀m,s.heap.Ns X.env.locals m→h'.Ns X.env.locals m) (aG:cO X.prog X.w H' h') (hg:AllBare g') :
  Inv X pins σ H' { s with heap:=h',gens:=g',drawn:=d',toks:=t' }:=by
 have nh:∀b o,X.s₀.heap.get? b=some o→b≠X.env.locals:=fun b o e=>Nat.ne_of_lt (fw (cg e) I.ok.above)
 have kN:∀b o,X.s₀.heap.get? b=some o→b∉X.ex→b∉ch:=fun b o e hx hb=>by
  rcases (jY b hb).1 with z|z
  ·exact hx z
  ·exact absurd (fw (cg e) z) (Nat.lt_irrefl _)
 have cellK:∀x c,X.env.cells.lookup x=some c→∀v,s.heap.IsCell c v→h'.IsCell c v:=fun x c e v ⟨o,ho,hd⟩=>by
  have sf:c∉ch:=fun z=>(jY c z).2.2.1 x c e rfl
  by_cases hc:c∈X.fs
  ·obtain⟨sl,q⟩:=slot c o (I.ng x c e) hc sf ho (I.gW x c e)
   exact⟨_,q,hd⟩
  ·exact⟨o,keep c o (I.ng x c e) hc sf ho (I.gW x c e),hd⟩
 refine⟨I.ok,I.os,hg,⟨fun b o e n hb hx=>?_,fun b o e n hb hx=>?_,fun b o e n hx=>?_,fun b o e hx=>?_,fun b xs e=>ko b xs (I.base.ko b xs e),fun b o xs e=>i6 b o xs (I.base.i6 b o xs e),fun b ps e=>?_⟩,?_,fun x c e=>?_,?_,fun x c e=>?_,fun p hp=>?_,aG,I.len⟩
 ·exact keep b o (nh b o e) hb (kN b o e hx) (I.base.keep b o e n hb hx) (I.base.free b o e n hx)
 ·obtain⟨sl,e1⟩:=I.base.slot b o e n hb hx
  obtain⟨Yv,e2⟩:=slot b _ (nh b o e) hb (kN b o e hx) e1 (I.base.free b o e n hx)
  exact⟨Yv,e2⟩
 ·obtain⟨o',e1⟩:=I.base.there b o e hx
  exact free b o' (kN b o e hx) e1 (I.base.free b o e n hx)
 ·obtain⟨o',e1⟩:=I.base.there b o e hx
  exact there b o' (kN b o e hx) e1
 ·obtain⟨m1,e1⟩:=I.base.kr b ps e
  obtain⟨m2,e2⟩:=kr b _ e1
  exact⟨m1++m2,by rw[e2,Array.append_assoc]⟩
 ·obtain⟨m,hn,hl⟩:=I.loc
  refine⟨m,ns m hn,fun i x v e1 e2 e3=>?_⟩
  obtain⟨u,r,l⟩:=hl i x v e1 e2 e3
  refine⟨u,r,?_⟩
  rcases l with l|⟨k,c,e,z⟩
  ·exact .inl l
  ·exact .inr ⟨k,c,e,cellK x c e _ z⟩
 ·obtain⟨v,z⟩:=I.cell x c e
  exact⟨v,cellK x c e v z⟩
 ·obtain⟨m,⟨o,_,_,ho,_⟩,_⟩:=I.loc
  exact free _ o (fun z=>(jY _ z).2.1 rfl) ho I.free
 ·obtain⟨v,o,ho,hd⟩:=I.cell x c e
  exact free c o (fun z=>(jY c z).2.2.1 x c e rfl) ho (I.gW x c e)
 ·obtain⟨e,n,ne,nf,d⟩:=I.pin p hp
  have sf:p.1∉ch:=fun z=>(jY p.1 z).2.2.2 p hp rfl
  exact⟨keep p.1 p.2 ne nf sf e n,free p.1 p.2 sf e n,ne,nf,d⟩
theorem Inv.un{t':Nat}(I:Inv X pins σ H s)(u:Un X.fs [] H H' s.heap h')(aG:cO X.prog X.w H' h'):Inv X pins σ H' { s with heap:=h',toks:=t' }:=by
 obtain⟨m,⟨o,es,ep,ho,r⟩,_⟩:=id I.loc
 obtain⟨sl,hL⟩:=u.any ho I.free (by simp)
 exact I.step (g':=s.gens) (d':=s.drawn) (ch:=[]) (fun _ z=>nomatch z) (fun b o _ hb _ e n=>u.keep b o e n hb (by simp)) (fun b o _ hb _ e n=>u.slot b o e n hb (by simp)) (fun b o _ e n=>u.free b o e n (by simp)) (fun b o _ e=>u.there b o e (by simp)) u.ko u.i6 u.kr (fun m' hm=>by
  obtain⟨o',lP,sg,gn,r'⟩:=hm
  rw[ho]at gn;cases gn
  exact⟨_,lP,sg,hL,r'⟩) aG I.bare
theorem Inv.call{g':Array GenState}{t':Nat}{d':Drawn}{ch:List Addr}(I:Inv X pins σ H s)(u:Un (iK X.stack) ch H H' s.heap h')(aG:cO X.prog X.w H' h')(hg:AllBare g')
  (jY:∀b∈ch,(b∈X.ex∨X.s₀.heap.objs.size≤b)∧b≠X.env.locals∧(∀x c,X.env.cells.lookup x=some c→c≠b)∧∀p∈X.pn++pins,p.1≠b) :
  Inv X pins σ H' { s with heap:=h',gens:=g',drawn:=d',toks:=t' }:=by
 obtain⟨m,⟨o,es,ep,ho,r⟩,_⟩:=id I.loc
 obtain⟨sl,hL⟩:=u.any ho I.free fun z=>(jY _ z).2.1 rfl
 exact I.step (ch:=ch) jY (fun b o hL hb hc e n=>u.keep b o e n (fun z=>(List.mem_cons.mp (I.zc b z)).elim hL hb) hc) (fun b o _ _ hc e n=>u.any e n hc) (fun b o hc e n=>u.free b o e n hc) (fun b o hc e=>u.there b o e hc) u.ko u.i6 u.kr (fun m' hm=>by
  obtain⟨o',lP,sg,gn,r'⟩:=hm
  rw[ho]at gn;cases gn
  exact⟨_,lP,sg,hL,r'⟩) aG hg
theorem Inv.turned{t':Nat}{it:Addr}(I:Inv X pins σ H s)(k:∀b o,b≠it→s.heap.get? b=some o→h'.get? b=some o)(hn:H it=none)(hL:it≠X.env.locals)
  (h1:it∈X.ex∨X.s₀.heap.objs.size≤it) (h2:∀x c,X.env.cells.lookup x=some c→c≠it) (h3:∀p∈X.pn++pins,p.1≠it):Inv X pins σ H { s with heap:=h',toks:=t' }:=by
 have lQ:∀b u,H b=some u→b≠it:=fun b u e z=>by rw[z,hn]at e;cases e
 refine I.step (g':=s.gens) (d':=s.drawn) (ch:=[it]) (fun b hb=>?_) (fun b o _ _ hc e _=>k b o (fun z=>hc (by simp[z])) e) (fun b o _ _ hc e _=>⟨o.slots,k b o (fun z=>hc (by simp[z])) e⟩) (fun _ _ _ _ n=>n)
  (fun b o hc e=>⟨o,k b o (fun z=>hc (by simp[z])) e⟩) (fun _ _ e=>e) (fun _ _ _ e=>e) (fun b ps e=>⟨#[],by rw[e];simp⟩) (fun m hm=>?_) (fun b u e=>?_) I.bare
 ·have e:b=it:=by simpa using hb
  subst e
  exact⟨h1,hL,h2,h3⟩
 ·obtain⟨o,es,ep,ho,r⟩:=hm
  exact⟨o,es,ep,k _ o (Ne.symm hL) ho,r⟩
 ·refine(I.aG b u e).lE (fun c v hc q=>k c v ?_ q) (fun _ q=>q) fun _ _ q=>q
  rcases hc with z|z
  ·rw[z];exact lQ b u e
  ·exact lQ c _ z
theorem Inv.tok(I:Inv X pins σ H s)(t:Nat):Inv X pins σ H { s with toks:=t }:=I.un (h':=s.heap) (t':=t) Un.refl I.aG
theorem Inv.kept{t':Nat}(I:Inv X pins σ H s)(k:∀b u,s.heap.get? b=some u→h'.get? b=some u):Inv X pins σ H { s with heap:=h',toks:=t' }:=I.un (Un.kept k) (I.aG.kept k)
theorem Inv.laid{a:Addr}{o:HO}{t':Nat}(I:Inv X pins σ H s)(k:∀b u,s.heap.get? b=some u→h'.get? b=some u)(hp:s.heap.objs.size≤a)(new:cE X.prog X.w (upd H a o) h' a o) :
 Inv X pins σ (upd H a o) { s with heap:=h',toks:=t' }:=I.un (Un.laid k hp (I.aG.fresh hp)) (I.aG.laid k hp new)
theorem Inv.write{x e:Addr}{o:HO}{t':Nat}(I:Inv X pins σ H s)(mu:r9 (H x))(he:e=x∨H e=some (.own x))(k:∀b u,b≠e→s.heap.get? b=some u→h'.get? b=some u)(pE:∃u,h'.get? e=some u)
 (new:cE X.prog X.w (upd H x o) h' x o):Inv X pins σ (upd H x o) { s with heap:=h',toks:=t' }:=I.un (Un.write mu he k pE) (I.aG.write mu he k pE new)
theorem Inv.weak{σ':List (Option V)}(I:Inv X pins σ H s)(hl:σ'.length=σ.length)(w:∀(i:Nat) v,σ'[i]?=some (some v)→σ[i]?=some (some v)):Inv X pins σ' H s :=
 ⟨I.ok,I.os,I.bare,I.base,let ⟨m,hn,Yw⟩:=I.loc;⟨m,hn,fun i x v e1 e2 e3=>Yw i x v e1 (w i v e2) e3⟩,I.cell,I.free,I.gW,I.pin,I.aG,hl.trans I.len⟩
theorem Inv.Ez{GN:List (Addr×Obj)}(I:Inv X pins σ H s)(h:∀p∈GN,s.heap.get? p.1=some p.2∧H p.1=none∧p.1≠X.env.locals∧p.1∉X.fs∧∀v,p.2.data≠.cell v):Inv X GN σ H s :=
 ⟨I.ok,I.os,I.bare,I.base,I.loc,I.cell,I.free,I.gW,fun p hp=>(List.mem_append.mp hp).elim (fun z=>I.pin p (List.mem_append_left _ z)) (h p),I.aG,I.len⟩
theorem qC{N:List Str}(hN:N.Nodup){i j:Nat}{x:Str}(a:N[i]?=some x)(b:N[j]?=some x):i=j:=by
 obtain⟨h1,e1⟩:=bB.mp a
 obtain⟨h2,e2⟩:=bB.mp b
 exact(List.getElem_inj hN).mp (e1.trans e2.symm)
theorem Dw{M:Model}{A:Around}{E:Value→Shared→Prop}{i:Nat}{x:Str}{v:V}{u:Value}{Q:Unit→Shared→Prop}(I:Inv X pins σ H s)(hN:X.N.Nodup)(hi:X.N[i]?=some x)(hx:Loc X.env.scope x)(r:RelV v u)
  (h:∀s',Inv X pins (σ.set i (some v)) H s'→(∃a,Heap.SameBut a s.heap s'.heap∧(a=X.env.locals∨X.env.cells.lookup x=some a))→Q () s') (hf:X.fn x=true∨X.env.scope.names.lookup x=some .local:=by first|exact .inl rfl|exact .inr rfl|assumption):wpAny M A (storeName X.env x u) Q E s:=by
 obtain⟨m,hn,hl⟩:=id I.loc
 have Xz:(X.env.scope.kind==.class||(X.env.scope.kind==.module&&X.env.locals != X.env.globals))=false:=by rw[I.ok.kind];rfl
 have HC:i<σ.length:=by rw[I.len];exact(bB.mp hi).1
 have ng:=I.ng
 have tracked:∀{a:Addr}{h':Heap},(∃o,s.heap.get? a=some o∧H a=none)→Heap.SameBut a s.heap h'→cO X.prog X.w H h':=fun {a h'} ha hs b ob e=>by
  obtain⟨_,_,vw⟩:=ha
  refine(I.aG b ob e).lE (fun c w' hc q=>(hs.2 c ?_).trans q) (fun _ q=>q) fun _ _ q=>q
  rintro rfl
  rcases hc with rfl|hc
  ·rw[vw]at e;cases e
  ·rw[vw]at hc;cases hc
 rcases hx with hk|hk
 ·refine wpAny_storeName_local hk hn (fun h' pG hs=>?_) Xz
  obtain⟨oL,_,_,Yx,_⟩:=id hn
  refine h _ ⟨I.ok,I.os,I.bare,⟨fun b o e n hb hx=>?_,fun b o e n hb hx=>?_,I.base.free,fun b o e hx=>?_,I.base.ko,I.base.i6,I.base.kr⟩,⟨_,pG,fun j y v' e1 e2 e3=>?_⟩,fun y c e=>?_,I.free,I.gW,fun p hp=>?_,tracked ⟨oL,Yx,I.free⟩ hs,by simpa using I.len⟩ ⟨_,hs,.inl rfl⟩
  ·exact(hs.2 b (Nat.ne_of_lt (fw (cg e) I.ok.above))).trans (I.base.keep b o e n hb hx)
  ·obtain⟨sl,e1⟩:=I.base.slot b o e n hb hx
   exact⟨sl,(hs.2 b (Nat.ne_of_lt (fw (cg e) I.ok.above))).trans e1⟩
  ·obtain⟨o',e1⟩:=I.base.there b o e hx
   exact⟨o',(hs.2 b (Nat.ne_of_lt (fw (cg e) I.ok.above))).trans e1⟩
  ·by_cases hj:j=i
   ·subst hj
    rw[hi]at e1;cases e1
    rw[List.getElem?_set_self HC]at e2
    cases e2
    exact⟨u,r,.inl ⟨hk,by simp⟩⟩
   ·rw[fA (Ne.symm hj)]at e2
    obtain⟨u',r',q⟩:=hl j y v' e1 e2 e3
    refine⟨u',r',?_⟩
    rcases q with⟨k,e⟩|⟨k,c,e,z⟩
    ·refine .inl ⟨k,?_⟩
     have:y≠x:=fun e=>hj (qC hN e1 (e▸hi))
     simp[this,e]
    ·exact .inr ⟨k,c,e,z.sameBut hs (ng y c e)⟩
  ·obtain⟨w',z⟩:=I.cell y c e
   exact⟨w',z.sameBut hs (ng y c e)⟩
  ·obtain⟨e,n,ne,nf,d⟩:=I.pin p hp
   exact⟨(hs.2 p.1 ne).trans e,n,ne,nf,d⟩
 ·have AU:X.fn x=true:=by
   rcases hf with z|z
   ·exact z
   ·rw[z]at hk;cases hk
  obtain⟨c,hc⟩:=I.ok.has x (.inl hk)
  obtain⟨w',z⟩:=I.cell x c hc
  refine wpAny_storeName_cell I.ok.kind hk hc z (fun h' Jq hs=>?_)
  obtain⟨oc,Jr,XA⟩:=id z
  refine h { s with heap:=h' } ⟨I.ok,I.os,I.bare,⟨fun b o e n hb hx=>?_,fun b o e n hb hx=>?_,I.base.free,fun b o e hx=>?_,I.base.ko,I.base.i6,I.base.kr⟩,⟨m,hn.sameBut hs (Ne.symm (ng x c hc)),fun j y v' e1 e2 e3=>?_⟩,fun y c' e=>?_,I.free,I.gW,fun p hp=>?_,tracked ⟨oc,Jr,I.gW x c hc⟩ hs,by simpa using I.len⟩ ⟨c,hs,.inr hc⟩
  ·exact(hs.2 b (Nat.ne_of_lt (fw (cg e) (I.ok.se x c AU hc)))).trans (I.base.keep b o e n hb hx)
  ·obtain⟨sl,e1⟩:=I.base.slot b o e n hb hx
   exact⟨sl,(hs.2 b (Nat.ne_of_lt (fw (cg e) (I.ok.se x c AU hc)))).trans e1⟩
  ·obtain⟨o',e1⟩:=I.base.there b o e hx
   exact⟨o',(hs.2 b (Nat.ne_of_lt (fw (cg e) (I.ok.se x c AU hc)))).trans e1⟩
  ·by_cases hj:j=i
   ·subst hj
    rw[hi]at e1;cases e1
    rw[List.getElem?_set_self HC]at e2
    cases e2
    exact⟨u,r,.inr ⟨.inl hk,c,hc,Jq⟩⟩
   ·rw[fA (Ne.symm hj)]at e2
    obtain⟨u',r',q⟩:=hl j y v' e1 e2 e3
    refine⟨u',r',?_⟩
    rcases q with q|⟨k,c',e,z'⟩
    ·exact .inl q
    ·refine .inr ⟨k,c',e,z'.sameBut hs ?_⟩
     rintro rfl
     exact hj (qC hN e1 (I.ok.inj _ _ _ e hc▸hi))
  ·by_cases wo:c'=c
   ·subst wo;exact⟨_,Jq⟩
   ·obtain⟨w2,z2⟩:=I.cell y c' e
    exact⟨w2,z2.sameBut hs wo⟩
  ·obtain⟨e,n,ne,nf,d⟩:=I.pin p hp
   refine⟨(hs.2 p.1 ?_).trans e,n,ne,nf,d⟩
   intro q
   rw[q,Jr]at e
   have q':oc=p.2:=Option.some.inj e
   exact d w' (by rw[←q'];exact XA)
theorem D1{M:Model}{A:Around}{E:Value→Shared→Prop}{i:Nat}{x:Str}{v:V}{u:Value}{Q:Unit→Shared→Prop}(I:Inv X pins σ H s)(hN:X.N.Nodup)(hi:X.N[i]?=some x)(hx:Loc X.env.scope x)(r:RelV v u)
  (h:∀s',Inv X pins (σ.set i (some v)) H s'→Q () s') (hf:X.fn x=true∨X.env.scope.names.lookup x=some .local:=by first|exact .inl rfl|exact .inr rfl|assumption):wpAny M A (storeName X.env x u) Q E s :=
 Dw I hN hi hx r (fun s' I' _=>h s' I') hf
theorem Inv.Vv{s':Shared}{ch:List Addr}(I:Inv X pins σ H s)(ho:s'.os=s.os)(u:Un (iK X.stack) ch H H' s.heap s'.heap)(aG:cO X.prog X.w H' s'.heap)(hg:AllBare s'.gens)
  (jY:∀b∈ch,(b∈X.ex∨X.s₀.heap.objs.size≤b)∧b≠X.env.locals∧(∀x c,X.env.cells.lookup x=some c→c≠b)∧∀p∈X.pn++pins,p.1≠b):Inv X pins σ H' s':=by
 obtain⟨h',g',d',t',o'⟩:=s'
 have e:o'=s.os:=ho
 subst e
 exact I.call (g':=g') (t':=t') (d':=d') u aG hg jY
end
noncomputable abbrev XK:=Value→Option Addr→Hp→Prop
noncomputable abbrev St:=List (Option V)
noncomputable abbrev VK:=V→Hp→Prop
noncomputable abbrev TE:=St→Hp→VK→Prop
noncomputable abbrev TT:=St→Hp→(Bool→Hp→Prop)→Prop
noncomputable abbrev TA:=St→Hp→(List V→Hp→Prop)→Prop
structure Ends where
 nx:St→Hp→Prop
 rt:VK
 bk:St→Hp→Prop:=fun _ _=>False
 ct:St→Hp→Prop:=fun _ _=>False
noncomputable abbrev TS:=Ends→St→Hp→Prop
def EP(X:Cx)(pins:List (Addr×Obj))(σ:St)(Q:VK)(u:Value)(s':Shared):Prop:=∃v H',Inv X pins σ H' s'∧RelV v u∧Q v H'
def TP(X:Cx)(pins:List (Addr×Obj))(σ:St)(Q:Bool→Hp→Prop)(b:Bool)(s':Shared):Prop:=∃H',Inv X pins σ H' s'∧Q b H'
def AP(X:Cx)(pins:List (Addr×Obj))(σ:St)(Q:List V→Hp→Prop)(us:List Value)(s':Shared):Prop:=∃vs H',Inv X pins σ H' s'∧Vals vs us∧Q vs H'
def SP(X:Cx)(pins:List (Addr×Obj))(D:Ends)(f:Flow)(s':Shared):Prop :=
 match f with
 |.next=>∃σ' H',Inv X pins σ' H' s'∧D.nx σ' H'
 |.brk=>∃σ' H',Inv X pins σ' H' s'∧D.bk σ' H'
 |.cont=>∃σ' H',Inv X pins σ' H' s'∧D.ct σ' H'
 |.ret u=>∃v σ' H',Inv X pins σ' H' s'∧RelV v u∧D.rt v H'
def PE(X:Cx)(e:Expr)(t:TE):Prop :=
 ∀(pins:List (Addr×Obj)) (s:Shared) (σ:St) (H:Hp) (Q:VK),Inv X pins σ H s→t σ H Q→wpAny (model X.prog X.w) X.A (eval e X.env) (EP X pins σ Q) X.xe s
def PT(X:Cx)(e:Expr)(t:TT):Prop :=
 ∀(pins:List (Addr×Obj)) (s:Shared) (σ:St) (H:Hp) (Q:Bool→Hp→Prop),Inv X pins σ H s→t σ H Q→wpAny (model X.prog X.w) X.A (isTrue e X.env (eval e X.env)) (TP X pins σ Q) X.xe s
def PW(X:Cx)(e:Expr)(t:TT):Prop :=
 ∀(whole:Sem Value) (pins:List (Addr×Obj)) (s:Shared) (σ:St) (H:Hp) (Q:Bool→Hp→Prop),Inv X pins σ H s→t σ H Q→wpAny (model X.prog X.w) X.A (isTrue e X.env whole) (TP X pins σ Q) X.xe s
theorem PW.pt{X:Cx}{e:Expr}{t:TT}(h:PW X e t):PT X e t:=h _
def PA(X:Cx)(es:List Expr)(t:TA):Prop :=
 ∀(pos:Pos) (pins:List (Addr×Obj)) (s:Shared) (σ:St) (H:Hp) (Q:List V→Hp→Prop),Inv X pins σ H s→t σ H Q→wpAny (model X.prog X.w) X.A (spliced (backTo pos (starEach es X.env))) (AP X pins σ Q) X.xe s
def PS(X:Cx)(st:Stmt)(t:TS):Prop :=
 ∀(pins:List (Addr×Obj)) (s:Shared) (σ:St) (H:Hp) (D:Ends),Inv X pins σ H s→t D σ H→wpAny (model X.prog X.w) X.A (exec st X.env) (SP X pins D) X.xe s
def gp(X:Cx)(st:List Stmt)(t:TS):Prop :=
 ∀(pins:List (Addr×Obj)) (s:Shared) (σ:St) (H:Hp) (D:Ends),Inv X pins σ H s→t D σ H→wpAny (model X.prog X.w) X.A (execs st X.env) (SP X pins D) X.xe s
theorem aI{α:Type}{t:Sem α}{Q Q':α→Shared→Prop}{M:Model}{A:Around}{E:Value→Shared→Prop}{s:Shared}(h:wpAny M A t Q E s)(hQ:∀a s,Q a s→Q' a s):wpAny M A t Q' E s:=wpAny_mono h hQ fun _ _ x=>x
section
variable {X:Cx}
noncomputable def gD(i:Nat):TE:=fun σ H Q=>∃v,σ[i]?=some (some v)∧Q v H
noncomputable def tC(v:V):TE:=fun _ H Q=>Q v H
theorem FK {i:Nat}{x:Str}{pos:Pos} (hN:X.N[i]?=some x) (hv:wg X.env.scope x) (hd:(x==("__debug__" : Str))=false:=by decide) (hV:(x==("__classdict__" : Str))=false:=by decide):PE X (.Name x pos) (gD i):=by
 intro pins s σ H Q I h
 obtain⟨v,e,h⟩:=h
 obtain⟨m,hn,hl⟩:=I.loc
 obtain⟨u,r,l⟩:=hl i x v hN e hv
 have fin:EP X pins σ Q u s:=⟨v,H,I,r,h⟩
 rcases l with⟨hk,hm⟩|⟨hk,c,hc,GO⟩
 ·exact wpAny_Name (wpAny_loadName_local I.ok.kind hk hn hm fin) hd
 ·rcases hk with hk|hk
  ·exact wpAny_Name (wpAny_loadName_cell I.ok.kind hk hc GO fin) hd
  ·exact wpAny_Name (wpAny_loadName_free I.ok.kind hk hc GO fin hV) hd
theorem Sv{i j pos}:PE X (.Constant (.int i) j pos) (tC (.int i)):=fun _ _ _ H _ I h=>wpAny_Constant_int ⟨.int i,H,I.tok _,⟨_,rfl⟩,h⟩
theorem Vw{b j pos}:PE X (.Constant (.bool b) j pos) (tC (.bl b)):=fun _ _ _ H _ I h=>Constant_bool ⟨.bl b,H,I,rfl,h⟩
theorem Sw{j pos}:PE X (.Constant .none j pos) (tC .non):=fun _ _ _ H _ I h=>Constant_none ⟨.non,H,I,rfl,h⟩
theorem Sx{x j pos}:PE X (.Constant (.str x) j pos) (tC (.str x)):=fun _ _ _ H _ I h=>Calls.Constant_str ⟨.str x,H,I.tok _,⟨_,rfl⟩,h⟩
def Gl(X:Cx)(x:Str):Prop:=X.env.kindOf x=some .globalImplicit
theorem Qe{E:Value→Shared→Prop}{pins:List (Addr×Obj)}{s:Shared}{σ:St}{H:Hp}{x:Str}{u:Value}{pos:Pos}{Q:Value→Shared→Prop}(I:Inv X pins σ H s)(hg:Gl X x)(hm:X.mg x=some u)(h:Q u s)
  (hd:(x==("__debug__" : Str))=false:=by decide):wpAny (model X.prog X.w) X.A (eval (.Name x pos) X.env) Q E s :=
 Calls.Name_function_global I.ok.kind hg (Calls.loadGlobal_global (by rw[I.ok.glob];exact I.mod.glob.keeps I.bk) hm h) hd
theorem ll{E:Value→Shared→Prop}{pins:List (Addr×Obj)}{s:Shared}{σ:St}{H:Hp}{x:Str}{u:Value}{pos:Pos}{Q:Value→Shared→Prop}(I:Inv X pins σ H s)(hg:Gl X x)(hm:X.mg x=none)(hv:bootBuiltins x=some u)(h:Q u s)
  (hn:x ≠ "__name__" := by decide) (hd:(x==("__debug__" : Str))=false:=by decide):wpAny (model X.prog X.w) X.A (eval (.Name x pos) X.env) Q E s:=by
 obtain⟨mb,h1,h2⟩:=I.mod.blt
 exact Calls.Name_function_global I.ok.kind hg (Calls.loadGlobal_builtin (by rw[I.ok.glob];exact I.mod.glob.keeps I.bk) hm (by rw[I.ok.blt];exact h1.keeps I.bk) ((h2 x hn).trans hv) h) hd
theorem Qf {x:Str}{v:V}{u:Value}{pos:Pos} (hg:Gl X x) (hm:X.mg x=none) (hv:bootBuiltins x=some u) (r:RelV v u) (hn:x ≠ "__name__" := by decide) (hd:(x==("__debug__" : Str))=false:=by decide):PE X (.Name x pos) (tC v) :=
 fun _ _ _ H _ I h=>ll I hg hm hv ⟨v,H,I,r,h⟩ hn hd
variable {a b:Expr}{ta tb:TE}{pos:Pos}
def PC(X:Cx)(op:CmpOp)(a b:Expr)(t:TE):Prop :=
 ∀(pins:List (Addr×Obj)) (s:Shared) (σ:St) (H:Hp) (Q:VK),Inv X pins σ H s→t σ H Q →
  wpAny (model X.prog X.w) X.A (eval a X.env) (fun v s₁=>wpAny (model X.prog X.w) X.A (eval b X.env) (fun u s₂=>wpAny (model X.prog X.w) X.A (compareOp op v u) (EP X pins σ Q) X.xe s₂) X.xe s₁) X.xe s
noncomputable def tB(t:TE):TT:=fun σ H Q=>t σ H fun x H1=>∃c,x=.bl c∧Q c H1
theorem FL{op:CmpOp}{t:TE}(h:PC X op a b t)(h1:behindInMarks op b=false:=by first|exact aac _ (by decide) (by decide)|rfl):PT X (.Compare a [op] [b] pos) (tB t):=by
 intro pins s σ H Q I hw
 refine wpAny_isTrue_Compare1 (aI (h pins s σ H _ I hw) fun v s1 h1=>aI h1 fun u s2 h2=>aI h2 fun c s3 ⟨x,H1,I1,r1,q1⟩=>?_) h1
 obtain⟨d,rfl,q⟩:=q1
 cases r1
 exact wpAny_truthy_bool ⟨H1,I1,q⟩
variable {tA wq:TT}{rest:List Expr}
noncomputable def HD(t u:TT):TT:=fun σ H Q=>t σ H fun c H1=>if c=true then u σ H1 Q else Q false H1
noncomputable def Js(t u:TT):TT:=fun σ H Q=>t σ H fun c H1=>if c=true then Q true H1 else u σ H1 Q
noncomputable def HF(t:TT):TT:=fun σ H Q=>t σ H fun c H1=>Q (!c) H1
theorem Qg(ha:PT X a tA):PW X (.BoolOp .And [a] pos) tA:=by
 intro wh pins s σ H Q I h
 refine isTrue_and (aI (ha pins s σ H Q I h) fun c s1 e=>?_)
 cases c with
 |true=>exact isTrue_and_nil e
 |false=>exact e
theorem Sy(ha:PT X a tA):PW X (.BoolOp .Or [a] pos) tA:=by
 intro wh pins s σ H Q I h
 refine isTrue_or (aI (ha pins s σ H Q I h) fun c s1 e=>?_)
 cases c with
 |false=>exact isTrue_or_nil e
 |true=>exact e
theorem Sz(ha:PT X a tA)(hb:PW X (.BoolOp .And (b::rest) pos) wq):PW X (.BoolOp .And (a::b::rest) pos) (HD tA wq):=by
 intro wh pins s σ H Q I h
 refine isTrue_and (aI (ha pins s σ H _ I h) fun c s1 ⟨H1,I1,q1⟩=>?_)
 cases c with
 |true=>exact hb wh pins s1 σ H1 Q I1 q1
 |false=>exact⟨H1,I1,q1⟩
theorem Vx(ha:PT X a tA)(hb:PW X (.BoolOp .Or (b::rest) pos) wq):PW X (.BoolOp .Or (a::b::rest) pos) (Js tA wq):=by
 intro wh pins s σ H Q I h
 refine isTrue_or (aI (ha pins s σ H _ I h) fun c s1 ⟨H1,I1,q1⟩=>?_)
 cases c with
 |true=>exact⟨H1,I1,q1⟩
 |false=>exact hb wh pins s1 σ H1 Q I1 q1
theorem SD(ha:PT X a tA):PT X (.UnaryOp .Not a pos) (HF tA):=by
 intro pins s σ H Q I h
 exact isTrue_not (ha pins s σ H (fun c H1=>Q (!c) H1) I h)
noncomputable def GP(ta tb:TE):TE:=fun σ H Q=>ta σ H fun x H1=>∃c,x=.bl c∧if c=true then tb σ H1 Q else Q (.bl false) H1
noncomputable def HG(ta tb:TE):TE:=fun σ H Q=>ta σ H fun x H1=>∃c,x=.bl c∧if c=true then Q (.bl true) H1 else tb σ H1 Q
noncomputable def GQ(ta:TE):TE:=fun σ H Q=>ta σ H fun x H1=>∃c,x=.bl c∧Q (.bl (!c)) H1
theorem FN{op}{t:TE}(h:PE X a t):PE X (.BoolOp op [a] pos) t:=fun pins s σ H Q I hw=>BoolOp_one (h pins s σ H Q I hw)
theorem SF(ha:PE X a ta)(hb:PE X (.BoolOp .And (b::rest) pos) tb):PE X (.BoolOp .And (a::b::rest) pos) (GP ta tb):=by
 intro pins s σ H Q I h
 refine BoolOp_and (aI (ha pins s σ H _ I h) fun v s1 ⟨x,H1,I1,r1,q1⟩=>?_)
 obtain⟨c,rfl,q1⟩:=q1
 cases r1
 refine wpAny_truthy_bool ?_
 cases c with
 |true=>exact hb pins s1 σ H1 Q I1 q1
 |false=>exact⟨.bl false,H1,I1,rfl,q1⟩
theorem Vy(ha:PE X a ta)(hb:PE X (.BoolOp .Or (b::rest) pos) tb):PE X (.BoolOp .Or (a::b::rest) pos) (HG ta tb):=by
 intro pins s σ H Q I h
 refine BoolOp_or (aI (ha pins s σ H _ I h) fun v s1 ⟨x,H1,I1,r1,q1⟩=>?_)
 obtain⟨c,rfl,q1⟩:=q1
 cases r1
 refine wpAny_truthy_bool ?_
 cases c with
 |false=>exact hb pins s1 σ H1 Q I1 q1
 |true=>exact⟨.bl true,H1,I1,rfl,q1⟩
theorem SG(ha:PE X a ta):PE X (.UnaryOp .Not a pos) (GQ ta):=by
 intro pins s σ H Q I h
 refine UnaryOp_ (aI (ha pins s σ H _ I h) fun v s1 ⟨x,H1,I1,r1,q1⟩=>?_)
 obtain⟨c,rfl,q1⟩:=q1
 cases r1
 exact not_of (wpAny_truthy_bool ⟨.bl (!c),H1,I1,rfl,q1⟩)
noncomputable def Jt(t:TT)(ta tb:TE):TE:=fun σ H Q=>t σ H fun c H1=>if c=true then ta σ H1 Q else tb σ H1 Q
theorem Ol{c:Expr}(hc:PT X c tA)(ha:PE X a ta)(hb:PE X b tb):PE X (.IfExp c a b pos) (Jt tA ta tb):=by
 intro pins s σ H Q I h
 refine wpAny_IfExp (aI (hc pins s σ H _ I h) fun d s1 ⟨H1,I1,q1⟩=>?_)
 cases d with
 |true=>exact ha pins s1 σ H1 Q I1 q1
 |false=>exact hb pins s1 σ H1 Q I1 q1
end
def bV(K:PySem.W.Frag)(H:Hp)(a:Addr)(xs:List V):Prop :=
 Rd H a (.lst xs) ∨
  ∃(o:Obj) (its:Array Value) (n:Nat),K.lookup a=some o∧o.cls=.type "list" ∧ o.dict=none∧o.data=.seq its n∧its.size≤sizeLine∧Vals xs its.toList
def bJ(K:PySem.W.Frag)(H:Hp)(a:Addr)(xs:List V):Prop :=
 H a=some (.tup xs) ∨
  ∃(o:Obj) (its:Array Value) (n:Nat),K.lookup a=some o∧o.cls=.type "tuple" ∧ o.data=.seq its n∧its.size≤sizeLine∧4≤its.size∧Vals xs its.toList
theorem bJ.own{K:PySem.W.Frag}{H:Hp}{a:Addr}{xs:List V}(h:bJ K H a xs)(hl:xs.length<4):H a=some (.tup xs):=by
 rcases h with h|⟨_,its,_,_,_,_,_,h4,r⟩
 ·exact h
 ·have:=r.length
  simp only[Array.length_toList]at this
  omega
noncomputable def oW:Value→Option V
 |.none=>some .non
 |.bool b=>some (.bl b)
 |.int i _=>some (.int i)
 |.str x _=>some (.str x)
 |.bytes b _=>some (.gk b)
 |.float b _=>some (.r6 b)
 |.ref a=>some (.ref a)
 |.type n=>some (.ty n)
 |_=>none
theorem RelV.abs{x:V}{u:Value}(r:RelV x u):oW u=some x:=by
 cases x with
 |non=>cases r;rfl
 |bl _=>cases r;rfl
 |int _=>obtain⟨t,rfl⟩:=r;rfl
 |str _=>obtain⟨t,rfl⟩:=r;rfl
 |gk _=>obtain⟨t,rfl⟩:=r;rfl
 |r6 _=>obtain⟨t,rfl⟩:=r;rfl
 |ref _=>cases r;rfl
 |ty _=>cases r;rfl
theorem RelV.inj{x y:V}{u:Value}(r:RelV x u)(q:RelV y u):x=y:=Option.some.inj (r.abs.symm.trans q.abs)
theorem Vals.inj:∀{xs ys:List V}{us:List Value},Vals xs us→Vals ys us→xs=ys
 |_,_,_,.nil,.nil=>rfl
 |_,_,_,.cons r t,.cons r' t'=>by rw[r.inj r',Vals.inj t t']
section
variable {X:Cx}{pins:List (Addr×Obj)}{σ:St}{H:Hp}{s:Shared}{a:Addr}{xs ys:List V}
theorem bJ.of{K:PySem.W.Frag}(h:H a=some (.tup xs)):bJ K H a xs:=.inl h
theorem Inv.list(I:Inv X pins σ H s)(h:bV X.K H a xs):∃its:List Value,Vals xs its∧PlainL s.heap a its.toArray∧xs.length≤sizeLine:=by
 rcases h with h|⟨o,its,n,hk,hc,hd,hs,hz,r⟩
 ·obtain⟨z,its,n,r,e⟩:=h.ok I.aG
  exact⟨its,r,⟨_,n,e,rfl,rfl,rfl⟩,z⟩
 ·refine⟨its.toList,r,⟨o,n,I.gG a o hk,hc,hd,by simpa using hs⟩,?_⟩
  have e:=r.length
  simp only[Array.length_toList]at e
  omega
theorem Inv.tuple(I:Inv X pins σ H s)(h:bJ X.K H a xs):∃its:List Value,Vals xs its∧IsTup s.heap a its.toArray∧xs.length≤sizeLine:=by
 rcases h with h|⟨o,its,n,hk,hc,hs,hz,_,r⟩
 ·obtain⟨z,its,r,p⟩:=I.aG _ _ h
  exact⟨its,r,p,z⟩
 ·refine⟨its.toList,r,⟨o,I.gG a o hk,hc,n,by simpa using hs⟩,?_⟩
  have e:=r.length
  simp only[Array.length_toList]at e
  omega
theorem Inv.uM(I:Inv X pins σ H s)(h:bV X.K H a xs)(h':bV X.K H a ys):xs=ys:=by
 obtain⟨its,r,⟨o,n,e,_,_,d⟩,_⟩:=I.list h
 obtain⟨its',r',⟨o',n',e',_,_,d'⟩,_⟩:=I.list h'
 rw[e]at e';cases e'
 rw[d]at d'
 injection d' with d1 _
 have:its=its':=by simpa using congrArg Array.toList d1
 subst this
 exact r.inj r'
theorem Inv.ym(I:Inv X pins σ H s)(h:bJ X.K H a xs)(h':bJ X.K H a ys):xs=ys:=by
 obtain⟨its,r,⟨o,e,_,n,d⟩,_⟩:=I.tuple h
 obtain⟨its',r',⟨o',e',_,n',d'⟩,_⟩:=I.tuple h'
 rw[e]at e';cases e'
 rw[d]at d'
 injection d' with d1 _
 have:its=its':=by simpa using congrArg Array.toList d1
 subst this
 exact r.inj r'
end
noncomputable abbrev Cx.wish(X:Cx)(E:Value→Shared→Prop):Cx:={ X with xe:=E }
noncomputable abbrev Cx.nr(X:Cx):Cx:=X.wish fun _ _=>False
theorem Cx.Ok.wish{X:Cx}(ok:X.Ok)(E:Value→Shared→Prop):(X.wish E).Ok :=
 ⟨ok.mod,ok.kind,ok.glob,ok.blt,ok.above,ok.inj,ok.has,ok.se,ok.hd,ok.frames,ok.wj,ok.Jp,ok.bs,ok.kM,ok.rH,ok.vN,ok.i7,ok.pF⟩
theorem Cx.Ok.lq{X:Cx}{E:Value→Shared→Prop}(ok:(X.wish E).Ok):X.Ok :=
 ⟨ok.mod,ok.kind,ok.glob,ok.blt,ok.above,ok.inj,ok.has,ok.se,ok.hd,ok.frames,ok.wj,ok.Jp,ok.bs,ok.kM,ok.rH,ok.vN,ok.i7,ok.pF⟩
section
variable {X:Cx}{pins:List (Addr×Obj)}{σ:St}{H:Hp}{s:Shared}{E:Value→Shared→Prop}
theorem Inv.wish(I:Inv X pins σ H s)(E:Value→Shared→Prop):Inv (X.wish E) pins σ H s:=⟨I.ok.wish E,I.os,I.bare,I.base,I.loc,I.cell,I.free,I.gW,I.pin,I.aG,I.len⟩
theorem Inv.lq(I:Inv (X.wish E) pins σ H s):Inv X pins σ H s:=⟨I.ok.lq,I.os,I.bare,I.base,I.loc,I.cell,I.free,I.gW,I.pin,I.aG,I.len⟩
theorem SP.lq{D:Ends}{f:Flow}{s':Shared}(h:SP (X.wish E) pins D f s'):SP X pins D f s':=by
 cases f with
 |next=>obtain⟨σ',H',I,q⟩:=h;exact⟨σ',H',I.lq,q⟩
 |brk=>obtain⟨σ',H',I,q⟩:=h;exact⟨σ',H',I.lq,q⟩
 |cont=>obtain⟨σ',H',I,q⟩:=h;exact⟨σ',H',I.lq,q⟩
 |ret u=>obtain⟨v,σ',H',I,r,q⟩:=h;exact⟨v,σ',H',I.lq,r,q⟩
theorem gp.nr{st:List Stmt}{t:TS}(h:gp X.nr st t):gp X st t:=fun pins s σ H D I hw =>
 wpAny_mono (h pins s σ H D (I.wish _) hw) (fun _ _ q=>q.lq) fun _ _ z=>False.elim z
end
section
variable {X:Cx}{st:Stmt}{rest:List Stmt}{t u:TS}{e:Expr}{te:TE}{pos:Pos}
noncomputable def zE:TS:=fun D σ H=>D.nx σ H
noncomputable def zV(t u:TS):TS:=fun D σ H=>t { D with nx:=u D } σ H
theorem Qh:gp X [] zE:=fun _ _ σ H _ I h=>wpAny_execs_nil ⟨σ,H,I,h⟩
theorem Om(h1:PS X st t)(h2:gp X rest u):gp X (st::rest) (zV t u):=by
 intro pins s σ H D I h
 refine wpAny_execs_cons (aI (h1 pins s σ H { D with nx:=u D } I h) fun f s1 q=>?_)
 cases f with
 |next =>
  obtain⟨σ',H',I',q⟩:=q
  exact h2 pins s1 σ' H' D I' q
 |ret v=>exact q
 |brk=>exact q
 |cont=>exact q
theorem Qi(h1:PS X st t):gp X [st] t:=by
 intro pins s σ H D I h
 refine wpAny_execs_cons (aI (h1 pins s σ H D I h) fun f s1 q=>?_)
 cases f with
 |next=>exact wpAny_execs_nil q
 |ret v=>exact q
 |brk=>exact q
 |cont=>exact q
theorem Inv.quiet{pins:List (Addr×Obj)}{σ:St}{H:Hp}{s:Shared}(I:Inv X pins σ H s):interactive X.env=false:=by simp[interactive,I.ok.kind]
noncomputable def oQ(te:TE):TS:=fun D σ H=>te σ H fun _ H1=>D.nx σ H1
theorem Qj(he:PE X e te)(hs:swapsWith e none pos.line X.env=pure false:=by rfl):PS X (.Expr e pos) (oQ te):=by
 intro pins s σ H D I h
 exact wpAny_Expr_any (aI (he pins s σ H _ I h) fun v s1 ⟨x,H1,I1,r1,q1⟩=>⟨σ,H1,I1,q1⟩) I.quiet hs
noncomputable def vO(te:TE):TS:=fun D σ H=>te σ H D.rt
theorem SJ(he:PE X e te):PS X (.Return (some e) pos) (vO te):=by
 intro pins s σ H D I h
 exact wpAny_Return_some (aI (he pins s σ H _ I h) fun v s1 ⟨x,H1,I1,r1,q1⟩=>⟨x,σ,H1,I1,r1,q1⟩)
noncomputable def zW(c:TT)(t u:TS):TS:=fun D σ H=>c σ H fun b H1=>if b=true then t D σ H1 else u D σ H1
theorem Vz{c:Expr}{a b:List Stmt}{tc:TT}(hc:PT X c tc)(ha:gp X a t)(hb:gp X b u):PS X (.If c a b pos) (zW tc t u):=by
 intro pins s σ H D I h
 refine wpAny_If (aI (hc pins s σ H _ I h) fun d s1 ⟨H1,I1,q1⟩=>?_)
 cases d with
 |true=>exact ha pins s1 σ H1 D I1 q1
 |false=>exact hb pins s1 σ H1 D I1 q1
end
noncomputable abbrev TG:=V→St→Hp→(St→Hp→Prop)→Prop
noncomputable abbrev hX:=List V→St→Hp→(St→Hp→Prop)→Prop
def PG(X:Cx)(target:Expr)(t:TG):Prop :=
 ∀(pins:List (Addr×Obj)) (s:Shared) (σ:St) (H:Hp) (v:V) (u:Value) (Q:St→Hp→Prop),Inv X pins σ H s→RelV v u→t v σ H Q →
  wpAny (model X.prog X.w) X.A (assign target X.env u) (fun _ s'=>∃σ' H',Inv X pins σ' H' s'∧Q σ' H') X.xe s
def pH(X:Cx)(ts:List Expr)(t:hX):Prop :=
 ∀(pins:List (Addr×Obj)) (s:Shared) (σ:St) (H:Hp) (vs:List V) (us:List Value) (Q:St→Hp→Prop),Inv X pins σ H s→Vals vs us→t vs σ H Q →
  wpAny (model X.prog X.w) X.A (assignInOrder ((assignEach ts X.env).map (·.2)) us) (fun _ s'=>∃σ' H',Inv X pins σ' H' s'∧Q σ' H') X.xe s
noncomputable abbrev zX:=V→V→V→Hp→(Hp→Prop)→Prop
def HJ(X:Cx)(t:zX):Prop :=
 ∀(pins:List (Addr×Obj)) (s:Shared) (σ:St) (H:Hp) (o i v:V) (ov iv u:Value) (Q:Hp→Prop),Inv X pins σ H s→RelV o ov→RelV i iv→RelV v u→t o i v H Q →
  wpAny (model X.prog X.w) X.A (setItem ov iv u) (fun _ s'=>∃H',Inv X pins σ H' s'∧Q H') X.xe s
section
variable {X:Cx}{pos:Pos}
noncomputable def jK(i:Nat):TG:=fun v σ H Q=>Q (σ.set i (some v)) H
theorem EA{i:Nat}{x:Str}(hN:X.N.Nodup)(hi:X.N[i]?=some x)(hx:Loc X.env.scope x)(hf:X.fn x=true∨X.env.scope.names.lookup x=some .local:=by first|exact .inl rfl|exact .inr rfl|assumption):PG X (.Name x pos) (jK i):=by
 intro pins s σ H v u Q I r h
 exact wpAny_assign_Name (D1 I hN hi hx r (fun s' I'=>⟨_,H,I',h⟩) hf)
noncomputable def HK:hX:=fun vs σ H Q=>vs=[]∧Q σ H
noncomputable def GR(t:TG)(u:hX):hX:=fun vs σ H Q=>∃v r,vs=v::r∧t v σ H fun σ' H'=>u r σ' H' Q
theorem Qk:pH X [] HK:=by
 intro pins s σ H vs us Q I r h
 obtain⟨e,h⟩:=h
 subst e
 cases r
 exact assignInOrder_nil ⟨σ,H,I,h⟩
theorem Oo{e:Expr}{es:List Expr}{t:TG}{u:hX}(h1:PG X e t)(h2:pH X es u)
  (hs:(assignEach (e::es) X.env).map (·.2)=assign e X.env::(assignEach es X.env).map (·.2):=by rfl):pH X (e::es) (GR t u):=by
 intro pins s σ H vs us Q I r h
 obtain⟨v,vr,e1,h⟩:=h
 subst e1
 cases r with
 |cons r rr =>
  rw[hs]
  refine assignInOrder_cons (aI (h1 pins s σ H _ _ _ I r h) fun _ s1 ⟨σ1,H1,I1,q1⟩=>?_)
  exact h2 pins s1 σ1 H1 _ _ Q I1 rr q1
noncomputable def HL(K:PySem.W.Frag)(n:Nat)(t:hX):TG:=fun v σ H Q=>∃a xs,v=.ref a∧bJ K H a xs∧xs.length=n∧t xs σ H Q
theorem SK{es:List Expr}{k:Nat}{t:hX}{n:Nat}(hc:X.calm=true)(h:pH X es t)
  (hn:(assignEach es X.env).length=n:=by rfl) (lR:(assignEach es X.env).findIdx? (·.1)=none:=by rfl):PG X (.Tuple es k pos) (HL X.K n t):=by
 intro pins s σ H v u Q I r hw
 obtain⟨a,xs,e1,hq,hl,hw⟩:=hw
 subst e1
 cases r
 obtain⟨its,rv,ht,hz⟩:=I.tuple hq
 refine assign_Tuple_tuple (I.ok.hd hc) ht (by simp[hn,←hl,rv.length]) lR fun h' hx=>?_
 have I1:Inv X pins σ H { s with heap:=h' }:=I.kept (t':=s.toks) fun b o e=>hx b o (Nat.ne_of_lt (cg e)) e
 exact h pins _ σ H xs _ Q I1 (by simpa using rv) hw
noncomputable def HM(to ti:TE)(t:zX):TG:=fun v σ H Q=>to σ H fun o H1=>ti σ H1 fun i H2=>t o i v H2 fun H3=>Q σ H3
theorem SM{o i:Expr}{to ti:TE}{t:zX}(ho:PE X o to)(hi:PE X i ti)(hs:HJ X t)
  (ha:∀v,assign (.Subscript o i pos) X.env v=(do
   let ov ←holding [v] (eval o X.env)
   let iv ←holding [v,ov] (eval i X.env)
   standAt pos
   holding [v,ov,iv] (setItem ov iv v)
   release [v,ov,iv] []):=by intro _;rfl):PG X (.Subscript o i pos) (HM to ti t):=by
 intro pins s σ H v u Q I r h
 rw[ha]
 refine ao (wpAny_holding (aI (ho pins s σ H _ I h) fun ov s1 ⟨x,H1,I1,r1,q1⟩=>?_))
 refine ao (wpAny_holding (aI (hi pins s1 σ H1 _ I1 q1) fun iv s2 ⟨y,H2,I2,r2,q2⟩=>?_))
 refine ao (wpAny_standAt (ao (wpAny_holding (aI (hs pins s2 σ H2 x y v ov iv u _ I2 r1 r2 r q2) fun _ s3 ⟨H3,I3,q3⟩=>?_))))
 exact wpAny_release ⟨σ,H3,I3,q3⟩
noncomputable def iE(te:TE)(g:TG):TS:=fun D σ H=>te σ H fun x H1=>g x σ H1 D.nx
theorem SN{tg e:Expr}{te:TE}{g:TG}(he:PE X e te)(hg:PG X tg g)(hs:swapsWithSole [tg] e pos.line X.env=pure false:=by rfl)(hw:swappedStores [tg] e X.env=pure none:=by rfl)
  (h1:(assignEach [tg] X.env).map (·.2)=[assign tg X.env]:=by rfl):PS X (.Assign [tg] e pos) (iE te g):=by
 intro pins s σ H D I h
 refine wpAny_Assign_stores (aI (he pins s σ H _ I h) fun v s1 ⟨x,H1,I1,r1,q1⟩=>?_) hs hw
 rw[h1]
 exact aI (hg pins s1 σ H1 x v _ I1 r1 q1) fun _ s2 q=>q
theorem SQ{i:Nat}{x:Str}{e:Expr}{te:TE}{pos':Pos}(hN:X.N.Nodup)(hi:X.N[i]?=some x)(hx:Loc X.env.scope x)(he:PE X e te)(hs:swapsWith e (some (.Name x pos')) pos.line X.env=pure false:=by rfl)(hf:X.fn x=true∨X.env.scope.names.lookup x=some .local:=by first|exact .inl rfl|exact .inr rfl|assumption) :
  PS X (.Assign [.Name x pos'] e pos) (iE te (jK i)):=by
 intro pins s σ H D I h
 refine wpAny_Assign_Name (aI (he pins s σ H _ I h) fun v s1 ⟨y,H1,I1,r1,q1⟩=>?_) hs
 exact D1 I1 hN hi hx r1 (fun s2 I2=>⟨_,H1,I2,q1⟩) hf
end
section
variable {X:Cx}{pos:Pos}
noncomputable def zf(c:TT)(tb:TS):TS:=fun D σ H=>∃W:Nat→St→Hp→Prop,(∃m,W m σ H)∧∀m σ H,W m σ H →
 c σ H fun b H1=>if b=true then ∃N:St→Hp→Prop,(∀σ' H',N σ' H'→∃m',m'<m∧W m' σ' H')∧tb { D with nx:=N,ct:=N,bk:=D.nx } σ H1 else D.nx σ H1
theorem Oq{c:Expr}{body:List Stmt}{tc:TT}{tb:TS}(hp:PassesOwn (model X.prog X.w) X.A X.env X.xe)(hc:PT X c tc)(hb:gp X body tb):PS X (.While c body [] pos) (zf tc tb):=by
 intro pins s σ H D I h
 obtain⟨W,⟨m0,w0⟩,turn⟩:=h
 refine wpAny_While (codeAny_whileLoop (fun n s'=>∃σ' H',Inv X pins σ' H' s'∧W n σ' H') ?_ m0 ⟨σ,H,I,w0⟩)
 rintro n s1 ⟨σ1,H1,I1,w1⟩
 refine wpAny_passesOwn hp (aI (hc pins s1 σ1 H1 _ I1 (turn n σ1 H1 w1)) fun b s2 ⟨H2,I2,q2⟩=>?_)
 cases b with
 |true =>
  obtain⟨N,hN,q2⟩:=q2
  rw[if_pos rfl]
  refine wpAny_passesOwn hp (aI (hb pins s2 σ1 H2 _ I2 q2) fun f s3 q3=>?_)
  cases f with
  |next =>
   obtain⟨σ3,H3,I3,n3⟩:=q3
   obtain⟨m',hm,w3⟩:=hN σ3 H3 n3
   exact⟨m',hm,σ3,H3,I3,w3⟩
  |cont =>
   obtain⟨σ3,H3,I3,n3⟩:=q3
   obtain⟨m',hm,w3⟩:=hN σ3 H3 n3
   exact⟨m',hm,σ3,H3,I3,w3⟩
  |brk=>exact q3
  |ret v=>exact q3
 |false =>
  rw[if_neg aX]
  exact wpAny_execs_nil ⟨σ1,H2,I2,q2⟩
end
structure It where
 go:Nat→Hp→Prop
 jn:Nat→Hp→V→Hp→Prop
 stop:Nat→Hp→Prop
def jQ(X:Cx)(pins:List (Addr×Obj))(H:Hp)(b:Addr):Prop :=
 H b=none∧b≠X.env.locals∧b∉X.fs∧(b∈X.ex∨X.s₀.heap.objs.size≤b)∧(∀x c,X.env.cells.lookup x=some c→c≠b)∧∀p∈X.pn++pins,p.1≠b
theorem Inv.oX{X:Cx}{pins:List (Addr×Obj)}{σ:St}{H H':Hp}{s:Shared}{b:Addr}(I:Inv X pins σ H s)(hb:s.heap.objs.size≤b)(hn:H' b=none):jQ X pins H' b:=by
 refine⟨hn,Nat.ne_of_gt (fw I.lt hb),I.Xy hb,.inr (Nat.le_trans I.sz hb),fun x c e z=>?_,fun p hp z=>?_⟩
 ·obtain⟨v,q⟩:=I.cell x c e
  exact absurd (fw q.lt (by rw[z];exact hb)) (Nat.lt_irrefl _)
 ·exact absurd (fw (cg (I.pin p hp).1) (by rw[z];exact hb)) (Nat.lt_irrefl _)
structure Turn (P:Program)(w:World)(K:PySem.W.Frag)(tg:Expr)(J:It)(fp:List Addr)(it:Addr)(tn:Nat→Heap→Prop):Prop where
 mem:it∈fp
 obj:∀i h,tn i h→∀b∈fp,∃o,h.get? b=some o∧∀v,o.data≠.cell v
 keep:∀i h h',tn i h→(∀b∈fp,∀o,h.get? b=some o→h'.get? b=some o)→tn i h'
 item:∀(X:Cx),X.prog=P→X.w=w→X.K=K→X.calm=true→∀(i:Nat) (pins:List (Addr×Obj)) (s:Shared) (σ:St) (H:Hp) (E:Value→Shared→Prop),Inv X pins σ H s→(∀b∈fp,jQ X pins H b)→tn i s.heap→J.go i H →
  wpAny (model P w) X.A (pyNext (.ref it)) (fun r s1=>∃u,r=some u ∧
   wpAny (model P w) X.A (letOwnedTupleGo tg (.ref it) u) (fun _ s2=>∃x H',Inv X pins σ H' s2∧RelV x u∧J.jn i H x H'∧tn (i+1) s2.heap∧∀b∈fp,H' b=none) E s1) E s
 done:∀(X:Cx),X.prog=P→X.w=w→X.K=K→X.calm=true→∀(i:Nat) (pins:List (Addr×Obj)) (s:Shared) (σ:St) (H:Hp) (E:Value→Shared→Prop),Inv X pins σ H s→(∀b∈fp,jQ X pins H b)→tn i s.heap→J.stop i H →
  wpAny (model P w) X.A (pyNext (.ref it)) (fun r s1=>r=none∧Inv X pins σ H s1) E s
 self:∀(A:Around) (i:Nat) (s:Shared) (Q:Value→Shared→Prop) (E:Value→Shared→Prop),tn i s.heap→Q (.ref it) s→wpAny (model P w) A (pyIter (.ref it)) Q E s
noncomputable abbrev TI:=St→Hp→(It→Hp→Prop)→Prop
def Ju(X:Cx)(pins:List (Addr×Obj))(σ:St)(tg:Expr)(R:It→Hp→Prop)(wt:Value)(s2:Shared):Prop :=
 ∃(it:Addr) (fp:List Addr) (tn:Nat→Heap→Prop) (J:It) (H':Hp),wt=.ref it∧Inv X pins σ H' s2∧Turn X.prog X.w X.K tg J fp it tn∧tn 0 s2.heap∧(∀b∈fp,jQ X pins H' b)∧R J H'
def PI(X:Cx)(tg iter:Expr)(wi:TI):Prop :=
 ∀(pins:List (Addr×Obj)) (s:Shared) (σ:St) (H:Hp) (R:It→Hp→Prop),Inv X pins σ H s→wi σ H R →
  wpAny (model X.prog X.w) X.A (eval iter X.env) (fun v s1=>wpAny (model X.prog X.w) X.A (pyIter v) (Ju X pins σ tg R) X.xe s1) X.xe s
theorem rj{M:Model}{A:Around}{E:Value→Shared→Prop}{s:Shared}{tg:Expr}{it:Addr}{u:Value}{o:Obj}{n:String}{vs:Array Value}{Q:Unit→Shared→Prop}(ho:s.heap.get? it=some o)(hc:o.cls=.type n)(hd:o.data=.fields vs)
    (hn:["enumerate", "zip", "dict_itemiterator", "dict_reverseitemiterator", "odict_iterator", "itertools.zip_longest", "itertools.pairwise"].contains n=false) (hQ:Q () s):wpAny M A (letOwnedTupleGo tg (.ref it) u) Q E s:=by
  unfold letOwnedTupleGo
  cases tg<;>first
    |exact aC hQ
    | (cases u<;>first
        |exact aC hQ
        | (refine ao (wpAny_load ho ?_)
           rw[hc,hd]
           show wpAny M A (if (["enumerate", "zip", "dict_itemiterator", "dict_reverseitemiterator", "odict_iterator", "itertools.zip_longest", "itertools.pairwise"].contains n&&vs[0]?==some (rawInt _))=true then _ else _) Q E s
           rw[if_neg (by intro h;rw[hn,Bool.false_and]at h;cases h)]
           exact aC hQ))
noncomputable def AV(K:PySem.W.Frag)(a:Addr):It :=
 ⟨fun i H=>∃xs x,bV K H a xs∧xs[i]?=some x,fun i H x H'=>H'=H∧∀xs,bV K H a xs→xs[i]?=some x,fun i H=>∃xs,bV K H a xs∧xs.length≤i⟩
noncomputable def AW(K:PySem.W.Frag)(a:Addr):It :=
 ⟨fun i H=>∃xs x,bJ K H a xs∧xs[i]?=some x,fun i H x H'=>H'=H∧∀xs,bJ K H a xs→xs[i]?=some x,fun i H=>∃xs,bJ K H a xs∧xs.length≤i⟩
noncomputable def sj(lo:Int)(n:Nat):It:=⟨fun i _=>i<n,fun i H x H'=>H'=H∧x=.int (lo+i),fun i _=>n≤i⟩
theorem Nn{P:Program}{w:World}{K:PySem.W.Frag}{tg:Expr}(a it:Addr):Turn P w K tg (AV K a) [it] it (fun i h=>h.IsListIter it a i) where
 mem:=by simp
 obj:=fun i h st b hb=>by
  have e:b=it:=by simpa using hb
  subst e
  obtain⟨o,e,c,d⟩:=st
  exact⟨o,e,fun v z=>by rw[d]at z;cases z⟩
 keep:=fun i h h' st k=>st.at fun o e=>k it (by simp) o e
 item:=by
  intro X hP hw hK hc i pins s σ H E I hf st hg
  subst hP hw hK
  obtain⟨xs,x,hq,hx⟩:=hg
  obtain⟨its,rv,p,hz⟩:=I.list hq
  obtain⟨u,hu,ru⟩:=rv.get hx
  obtain⟨f0,f1,f2,f3,f4,f5⟩:=hf it (by simp)
  refine wpAny_pyNext_list_item st p.isList (x:=u) (by simpa using hu) fun h' gH sb=>?_
  have I1:Inv X pins σ H { s with heap:=h' }:=I.turned (t':=s.toks) (fun b o hb e=>(sb.2 b hb).trans e) f0 f1 f3 f4 f5
  obtain⟨o,e,c,d⟩:=id gH
  exact⟨u,rfl,rj (s:={ s with heap:=h' }) e c d (by decide) ⟨x,H,I1,ru,⟨rfl,fun ys hy=>by rw[I.uM hy hq];exact hx⟩,gH,fun b hb=>(hf b hb).1⟩⟩
 done:=by
  intro X hP hw hK hc i pins s σ H E I hf st hg
  subst hP hw hK
  obtain⟨xs,hq,hx⟩:=hg
  obtain⟨its,rv,p,hz⟩:=I.list hq
  obtain⟨f0,f1,f2,f3,f4,f5⟩:=hf it (by simp)
  have hl:=rv.length
  exact wpAny_pyNext_list_end (I.ok.hd hc) st p.isList (by simp;omega) fun h' eb=>⟨rfl,I.turned (t':=s.toks) (fun b o hb e=>eb b o hb e) f0 f1 f3 f4 f5⟩
 self:=fun _ _ _ _ _ st h=>wpAny_pyIter_listiter st h
theorem MN{P:Program}{w:World}{K:PySem.W.Frag}{tg:Expr}(a it:Addr):Turn P w K tg (AW K a) [it] it (fun i h=>h.IsTupleIter it a i) where
 mem:=by simp
 obj:=fun i h st b hb=>by
  have e:b=it:=by simpa using hb
  subst e
  obtain⟨o,e,c,d⟩:=st
  exact⟨o,e,fun v z=>by rw[d]at z;cases z⟩
 keep:=fun i h h' st k=>st.at fun o e=>k it (by simp) o e
 item:=by
  intro X hP hw hK hc i pins s σ H E I hf st hg
  subst hP hw hK
  obtain⟨xs,x,hq,hx⟩:=hg
  obtain⟨its,rv,p,hz⟩:=I.tuple hq
  obtain⟨u,hu,ru⟩:=rv.get hx
  obtain⟨f0,f1,f2,f3,f4,f5⟩:=hf it (by simp)
  refine wpAny_pyNext_tuple_item st (show s.heap.IsTuple a its.toArray from p) (x:=u) (by simpa using hu) fun h' gH sb=>?_
  have I1:Inv X pins σ H { s with heap:=h' }:=I.turned (t':=s.toks) (fun b o hb e=>(sb.2 b hb).trans e) f0 f1 f3 f4 f5
  obtain⟨o,e,c,d⟩:=id gH
  exact⟨u,rfl,rj (s:={ s with heap:=h' }) e c d (by decide) ⟨x,H,I1,ru,⟨rfl,fun ys hy=>by rw[I.ym hy hq];exact hx⟩,gH,fun b hb=>(hf b hb).1⟩⟩
 done:=by
  intro X hP hw hK hc i pins s σ H E I hf st hg
  subst hP hw hK
  obtain⟨xs,hq,hx⟩:=hg
  obtain⟨its,rv,p,hz⟩:=I.tuple hq
  obtain⟨f0,f1,f2,f3,f4,f5⟩:=hf it (by simp)
  have hl:=rv.length
  exact wpAny_pyNext_tuple_end (I.ok.hd hc) st (show s.heap.IsTuple a its.toArray from p) (by simp;omega) fun h' eb=>⟨rfl,I.turned (t':=s.toks) (fun b o hb e=>eb b o hb e) f0 f1 f3 f4 f5⟩
 self:=fun _ _ _ _ _ st h=>wpAny_pyIter_tupleiter st h
theorem MP{P:Program}{w:World}{K:PySem.W.Frag}{tg:Expr}(it:Addr)(lo:Int)(n:Nat):Turn P w K tg (sj lo n) [it] it (fun i h=>IsRangeIter h it (lo+(i:Nat)*1) ((n:Int)-(i:Nat)) 1) where
 mem:=by simp
 obj:=fun i h st b hb=>by
  have e:b=it:=by simpa using hb
  subst e
  exact⟨_,st,fun v z=>by
   have z':Data.fields _=Data.cell v:=z
   cases z'⟩
 keep:=fun i h h' st k=>k it (by simp) _ st
 item:=by
  intro X hP hw hK hc i pins s σ H E I hf st hg
  subst hP hw hK
  obtain⟨f0,f1,f2,f3,f4,f5⟩:=hf it (by simp)
  have W:=Walks.range (prog:=X.prog) (w:=X.w) (I.ok.hd hc) it lo 1 n
  refine W.item i s _ _ hg st fun v h' tk hv gH kk=>?_
  obtain⟨t,rfl⟩:=hv
  have I1:Inv X pins σ H { s with heap:=h',toks:=tk }:=I.turned (fun b o hb e=>kk b o (by simpa using hb) e) f0 f1 f3 f4 f5
  refine⟨_,rfl,rj (s:={ s with heap:=h',toks:=tk }) (n := "range_iterator") gH rfl rfl (by decide) ⟨.int (lo+i),H,I1,⟨t,?_⟩,⟨rfl,rfl⟩,gH,fun b hb=>(hf b hb).1⟩⟩
  rw[Int.mul_one]
 done:=by
  intro X hP hw hK hc i pins s σ H E I hf st hg
  subst hP hw hK
  obtain⟨f0,f1,f2,f3,f4,f5⟩:=hf it (by simp)
  exact wpAny_pyNext_range_end (I.ok.hd hc) st (by have:n≤i:=hg;omega) fun h' eb=>⟨rfl,I.turned (t':=s.toks) (fun b o hb e=>eb b o hb e) f0 f1 f3 f4 f5⟩
 self:=fun _ _ _ _ _ st h=>wpAny_pyIter_rangeiter st h
section
variable {X:Cx}{tg:Expr}
noncomputable def zF(K:PySem.W.Frag)(tl:TE):TI:=fun σ H R=>tl σ H fun x H1=>∃a,x=.ref a∧(∃xs,bV K H1 a xs)∧R (AV K a) H1
noncomputable def zY(K:PySem.W.Frag)(tl:TE):TI:=fun σ H R=>tl σ H fun x H1=>∃a,x=.ref a∧(∃xs,bJ K H1 a xs)∧R (AW K a) H1
theorem Ql{l:Expr}{tl:TE}(hl:PE X l tl):PI X tg l (zF X.K tl):=by
 intro pins s σ H R I h
 refine aI (hl pins s σ H _ I h) fun v s1 ⟨x,H1,I1,r1,q1⟩=>?_
 obtain⟨a,e,⟨xs,hq⟩,q⟩:=q1
 subst e
 cases r1
 obtain⟨its,rv,p,hz⟩:=I1.list hq
 refine wpAny_pyIter_list p.isList ?_
 refine⟨s1.heap.objs.size,[s1.heap.objs.size],_,_,H1,rfl,I1.kept (t':=s1.toks) fun b o e=>dz _ e,Nn a _,⟨_,fL _ rfl,rfl,rfl⟩,fun b hb=>?_,q⟩
 have e:b=s1.heap.objs.size:=by simpa using hb
 subst e
 exact I1.oX (bf _) (I1.aG.fresh (bf _))
theorem SR{l:Expr}{tl:TE}(hl:PE X l tl):PI X tg l (zY X.K tl):=by
 intro pins s σ H R I h
 refine aI (hl pins s σ H _ I h) fun v s1 ⟨x,H1,I1,r1,q1⟩=>?_
 obtain⟨a,e,⟨xs,hq⟩,q⟩:=q1
 subst e
 cases r1
 obtain⟨its,rv,p,hz⟩:=I1.tuple hq
 refine wpAny_pyIter_tuple (show s1.heap.IsTuple a its.toArray from p) ?_
 refine⟨s1.heap.objs.size,[s1.heap.objs.size],_,_,H1,rfl,I1.kept (t':=s1.toks) fun b o e=>dz _ e,MN a _,⟨_,fL _ rfl,rfl,rfl⟩,fun b hb=>?_,q⟩
 have e:b=s1.heap.objs.size:=by simpa using hb
 subst e
 exact I1.oX (bf _) (I1.aG.fresh (bf _))
theorem D2{pins:List (Addr×Obj)}{σ:St}{H:Hp}{s:Shared}{R:It→Hp→Prop}{E:Value→Shared→Prop}{lo hi:Int}{t u v:Tok}{tk:Nat}(I:Inv X pins σ H s)(h1:-(2^62)≤lo)(h2:lo<2^62)(h3:-(2^62)≤hi)(h4:hi<2^62)
  (q:R (sj lo (hi-lo).toNat) H):wpAny (model X.prog X.w) X.A (pyIter (.ref s.heap.objs.size)) (Ju X pins σ tg R) E { s with heap:=s.heap.push { cls:=.type "range",data:=.fields #[.int lo t,.int hi u,.int 1 v] },toks:=tk }:=by
 refine wpAny_pyIter_range (IsRange.new ..) (small_one h1 h2 h3 h4) ?_
 have I1:Inv X pins σ H { s with heap:=s.heap.push { cls:=.type "range",data:=.fields #[.int lo t,.int hi u,.int 1 v] },toks:=tk }:=I.kept fun b o e=>dz _ e
 refine⟨(s.heap.push { cls:=.type "range",data:=.fields #[.int lo t,.int hi u,.int 1 v] }).objs.size,[(s.heap.push { cls:=.type "range",data:=.fields #[.int lo t,.int hi u,.int 1 v] }).objs.size],_,_,H,rfl,
  I1.kept (t':=tk) fun b o e=>dz _ e,MP _ lo (hi-lo).toNat,?_,fun b hb=>?_,q⟩
 ·have e1:lo+((0:Nat):Int)*1=lo:=by simp
  have e2:(((hi-lo).toNat:Nat):Int)-((0:Nat):Int)=Builtin.Range.rangeSize lo hi 1:=by rw[rangeSize_one];split<;>omega
  show IsRangeIter _ _ (lo+((0:Nat):Int)*1) ((((hi-lo).toNat:Nat):Int)-((0:Nat):Int)) 1
  rw[e1,e2]
  exact fL _ rfl
 ·have e:b=(s.heap.push { cls:=.type "range",data:=.fields #[.int lo t,.int hi u,.int 1 v] }).objs.size:=by simpa using hb
  subst e
  exact I1.oX (bf _) (I1.aG.fresh (bf _))
noncomputable def GU(ta:TA):TI:=fun σ H R=>ta σ H fun vs H1=>∃j:Int,vs=[.int j]∧-(2^62)≤j∧j<2^62∧R (sj 0 j.toNat) H1
noncomputable def GW(ta:TA):TI:=fun σ H R=>ta σ H fun vs H1=>∃i j:Int,vs=[.int i,.int j]∧(-(2^62)≤i∧i<2^62∧-(2^62)≤j∧j<2^62)∧R (sj i (j-i).toNat) H1
theorem Np {a:Expr}{ta:TA}{p pos:Pos} (hg:Gl X "range") (hm:X.mg "range" = none) (ha:PA X [a] ta) (hs:starEach [a] X.env=[(false,eval a X.env)]:=by rfl):PI X tg (.Call (.Name "range" p) [a] [] pos) (GU ta):=by
 intro pins s σ H R I h
 refine Call_ (ll I hg hm boot_range (PyProof.Rows.callWith_type1 (aI (ha pos pins s σ H _ I h) fun us s1 ⟨vs,H1,I1,r1,q1⟩=>?_) hs rfl))
 obtain⟨j,e,q1,q2,q⟩:=q1
 subst e
 cases r1 with
 |cons r rr =>
  cases rr
  obtain⟨t,rfl⟩:=r
  exact call_range_1 (D2 I1 (by omega) (by omega) q1 q2 (by simpa using q))
theorem Nq {a b:Expr}{ta:TA}{p pos:Pos} (hg:Gl X "range") (hm:X.mg "range" = none) (ha:PA X [a,b] ta) (hs:starEach [a,b] X.env=[(false,eval a X.env),(false,eval b X.env)]:=by rfl) (Jv:starEach [b] X.env=[(false,eval b X.env)]:=by rfl) :
  PI X tg (.Call (.Name "range" p) [a,b] [] pos) (GW ta):=by
 intro pins s σ H R I h
 refine Call_ (ll I hg hm boot_range (PyProof.Rows.callWith_type1 (aI (ha pos pins s σ H _ I h) fun us s1 ⟨vs,H1,I1,r1,q1⟩=>?_) (by rw[hs,Jv]) (by rw[Jv];rfl)))
 obtain⟨i,j,e,⟨q1,q2,q3,q4⟩,q⟩:=q1
 subst e
 cases r1 with
 |cons r rr =>
  cases rr with
  |cons r' rr =>
   cases rr
   obtain⟨t,rfl⟩:=r
   obtain⟨t',rfl⟩:=r'
   exact call_range_2 (D2 I1 q1 q2 q3 q4 q)
noncomputable def oY(wi:TI)(g:TG)(tb:TS):TS:=fun D σ H=>wi σ H fun J H1=>∃W:Nat→Nat→St→Hp→Prop,(∃m,W 0 m σ H1)∧∀i m σ H,W i m σ H →
 (J.stop i H∧D.nx σ H)∨(J.go i H∧∃N:St→Hp→Prop,(∀σ' H',N σ' H'→∃m',m'<m∧W (i+1) m' σ' H')∧∀x H',J.jn i H x H'→g x σ H' fun σ2 H2=>tb { D with nx:=N,ct:=N,bk:=D.nx } σ2 H2)
noncomputable def qS(fp:List Addr)(h:Heap):List (Addr×Obj):=fp.filterMap fun b=>(h.get? b).map fun o=>(b,o)
theorem uG{fp:List Addr}{h:Heap}{b:Addr}{o:Obj}(hb:b∈fp)(e:h.get? b=some o):(b,o)∈qS fp h:=List.mem_filterMap.mpr ⟨b,hb,by rw[e];rfl⟩
theorem Nr{fp:List Addr}{h:Heap}{p:Addr×Obj}(hp:p∈qS fp h):p.1∈fp∧h.get? p.1=some p.2:=by
 obtain⟨b,hb,e⟩:=List.mem_filterMap.mp hp
 cases q:h.get? b with
 |none=>rw[q]at e;cases e
 |some o =>
  rw[q]at e
  have e':(b,o)=p:=Option.some.inj e
  subst e'
  exact⟨hb,q⟩
theorem Inv.pinned{pins:List (Addr×Obj)}{σ:St}{H:Hp}{s:Shared}{fp:List Addr}(I:Inv X pins σ H s)(hf:∀b∈fp,jQ X pins H b)(ho:∀b∈fp,∃o,s.heap.get? b=some o∧∀v,o.data≠.cell v):Inv X (pins++qS fp s.heap) σ H s :=
 I.Ez fun p hp=>(List.mem_append.mp hp).elim (fun z=>I.pin p (List.mem_append_right _ z)) fun z=>by
  obtain⟨hb,e⟩:=Nr z
  obtain⟨f0,f1,f2,_⟩:=hf p.1 hb
  obtain⟨o,e',d⟩:=ho p.1 hb
  rw[e]at e';cases e'
  exact⟨e,f0,f1,f2,d⟩
theorem Inv.uN{pins pl:List (Addr×Obj)}{σ:St}{H:Hp}{s:Shared}(I:Inv X (pins++pl) σ H s):Inv X pins σ H s:=I.Ez fun p hp=>I.pin p (List.mem_append_right _ (List.mem_append_left _ hp))
theorem SV{iter:Expr}{body:List Stmt}{wi:TI}{g:TG}{tb:TS}{pos:Pos}(hp:PassesOwn (model X.prog X.w) X.A X.env X.xe)(hc:X.calm=true)(hi:PI X tg iter wi)(hg:PG X tg g)(hb:gp X body tb)
  (hs:∀x,foldedSetIterable iter X.env x=pure x:=by intro _;rfl):PS X (.For tg iter body [] pos) (oY wi g tb):=by
 intro pins s σ H D I h
 refine wpAny_For (aI (hi pins s σ H _ I h) fun v s1 h1=>aI h1 fun wt s2 h2=>?_) hs
 obtain⟨it,fp,tn,J,H2,e,I2,T,bw,f2,W,⟨m0,w0⟩,turn⟩:=h2
 subst e
 have stat:∀{H':Hp},(∀b∈fp,H' b=none)→∀b∈fp,jQ X pins H' b:=fun hn b hb=>⟨hn b hb,(f2 b hb).2⟩
 refine codeAny_forLoop_any (fun n s'=>∃i σ' H',Inv X pins σ' H' s'∧tn i s'.heap∧(∀b∈fp,H' b=none)∧W i n σ' H') ?_ m0 ⟨0,σ,H2,I2,bw,fun b hb=>(f2 b hb).1,w0⟩
 rintro n s3 ⟨i,σ3,H3,I3,bA,sk,w3⟩
 rcases turn i n σ3 H3 w3 with⟨stop,qn⟩|⟨go,N,hN,step⟩
 ·refine wpAny_passesOwn hp (aI (T.done X rfl rfl rfl hc i pins s3 σ3 H3 X.xe I3 (stat sk) bA stop) fun r s4 ⟨hr,I4⟩=>?_)
  subst hr
  exact wpAny_execs_nil ⟨σ3,H3,I4,qn⟩
 ·refine wpAny_passesOwn hp (aI (T.item X rfl rfl rfl hc i pins s3 σ3 H3 X.xe I3 (stat sk) bA go) fun r s4 ⟨u,hr,h4⟩=>?_)
  subst hr
  refine wpAny_passesOwn hp (aI h4 fun _ s5 ⟨x,H5,I5,r5,y5,fB,AX⟩=>?_)
  have AY:=I5.pinned (stat AX) (T.obj _ _ fB)
  refine wpAny_passesOwn hp (aI (hg _ s5 σ3 H5 x u _ AY r5 (step x H5 y5)) fun _ s6 ⟨σ6,H6,I6,q6⟩=>?_)
  refine wpAny_passesOwn hp (aI (hb _ s6 σ6 H6 _ I6 q6) fun f s7 q7=>?_)
  have again:∀{σ7:St}{H7:Hp},Inv X (pins++qS fp s5.heap) σ7 H7 s7→N σ7 H7→∃m,m<n∧∃i σ' H',Inv X pins σ' H' s7∧tn i s7.heap∧(∀b∈fp,H' b=none)∧W i m σ' H':=fun {σ7 H7} I7 n7=>by
   obtain⟨m',hm,w7⟩:=hN σ7 H7 n7
   refine⟨m',hm,i+1,σ7,H7,I7.uN,T.keep _ _ _ fB fun b hb o e=>(I7.pin (b,o) (List.mem_append_right _ (List.mem_append_right _ (uG hb e)))).1,fun b hb=>?_,w7⟩
   obtain⟨o,e,d⟩:=T.obj _ _ fB b hb
   exact(I7.pin (b,o) (List.mem_append_right _ (List.mem_append_right _ (uG hb e)))).2.1
  cases f with
  |next=>obtain⟨σ7,H7,I7,n7⟩:=q7;exact again I7 n7
  |cont=>obtain⟨σ7,H7,I7,n7⟩:=q7;exact again I7 n7
  |brk=>obtain⟨σ7,H7,I7,q7⟩:=q7;exact⟨σ7,H7,I7.uN,q7⟩
  |ret v=>obtain⟨x7,σ7,H7,I7,r7,q7⟩:=q7;exact⟨x7,σ7,H7,I7.uN,r7,q7⟩
end
noncomputable abbrev R2:=V→V→Hp→VK→Prop
def bD(X:Cx)(f:Value→Value→Sem Value)(r:R2):Prop :=
 ∀(pins:List (Addr×Obj)) (s:Shared) (σ:St) (H:Hp) (x y:V) (v u:Value) (Q:VK),Inv X pins σ H s→RelV x v→RelV y u→r x y H Q →
  wpAny (model X.prog X.w) X.A (f v u) (EP X pins σ Q) X.xe s
def sr(X:Cx)(f:Value→Sem Value)(r:V→Hp→VK→Prop):Prop :=
 ∀(pins:List (Addr×Obj)) (s:Shared) (σ:St) (H:Hp) (x:V) (v:Value) (Q:VK),Inv X pins σ H s→RelV x v→r x H Q →
  wpAny (model X.prog X.w) X.A (f v) (EP X pins σ Q) X.xe s
def iy(X:Cx)(f:Value)(r:List V→Hp→VK→Prop):Prop :=
 ∀(pins:List (Addr×Obj)) (s:Shared) (σ:St) (H:Hp) (xs:List V) (us:List Value) (Q:VK),Inv X pins σ H s→Vals xs us→r xs H Q →
  wpAny (model X.prog X.w) X.A (call f us) (EP X pins σ Q) X.xe s
def XB(X:Cx)(r:V→Hp→(Bool→Hp→Prop)→Prop):Prop :=
 ∀(pins:List (Addr×Obj)) (s:Shared) (σ:St) (H:Hp) (x:V) (v:Value) (Q:Bool→Hp→Prop),Inv X pins σ H s→RelV x v→r x H Q →
  wpAny (model X.prog X.w) X.A (truthy v) (TP X pins σ Q) X.xe s
noncomputable def pI(r:R2)(ta tb:TE):TE:=fun σ H Q=>ta σ H fun x H1=>tb σ H1 fun y H2=>r x y H2 Q
noncomputable def Jw(r:V→Hp→VK→Prop)(ta:TE):TE:=fun σ H Q=>ta σ H fun x H1=>r x H1 Q
noncomputable def rI(C:Int→Int→Prop)(g:Int→Int→V):R2:=fun x y H Q=>∃i j,x=.int i∧y=.int j∧C i j∧Q (g i j) H
noncomputable def fC(g:Int→Int→V):R2:=fun x y H Q=>∃i j,x=.int i∧y=.int j∧Q (g i j) H
def rU(g:Int→V):V→Hp→VK→Prop:=fun x H Q=>∃i,x=.int i∧Q (g i) H
section
variable {X:Cx}{a b c:Expr}{ta tb tc:TE}{pos:Pos}
theorem zZ(ha:PE X a ta)(hb:PE X b tb){pins:List (Addr×Obj)}{s:Shared}{σ:St}{H:Hp}{R:V→V→Hp→Prop}(I:Inv X pins σ H s)
  (h:ta σ H fun x H1=>tb σ H1 fun y H2=>R x y H2) {Q:Value→Shared→Prop}{f:Value→Value→Sem Value}
  (hf:∀v u s2 x y H2,Inv X pins σ H2 s2→RelV x v→RelV y u→R x y H2→wpAny (model X.prog X.w) X.A (f v u) Q X.xe s2) :
  wpAny (model X.prog X.w) X.A (eval a X.env) (fun v s₁=>wpAny (model X.prog X.w) X.A (eval b X.env) (fun u s₂=>wpAny (model X.prog X.w) X.A (f v u) Q X.xe s₂) X.xe s₁) X.xe s:=by
 refine aI (ha pins s σ H _ I h) fun v s1 ⟨x,H1,I1,r1,q1⟩=>?_
 refine aI (hb pins s1 σ H1 _ I1 q1) fun u s2 ⟨y,H2,I2,r2,q2⟩=>?_
 exact hf v u s2 x y H2 I2 r1 r2 q2
theorem VA{op:Operator}{r:R2}(ho:bD X (binaryOp op) r)(ha:PE X a ta)(hb:PE X b tb):PE X (.BinOp a op b pos) (pI r ta tb):=by
 intro pins s σ H Q I h
 exact wpAny_BinOp (zZ ha hb I h fun v u s2 x y H2 I2 rx ry q=>ho pins s2 σ H2 x y v u Q I2 rx ry q)
theorem VB{op:UnaryOp}{r:V→Hp→VK→Prop}(ho:sr X (unaryOp op) r)(ha:PE X a ta):PE X (.UnaryOp op a pos) (Jw r ta):=by
 intro pins s σ H Q I h
 exact UnaryOp_ (aI (ha pins s σ H _ I h) fun v s1 ⟨x,H1,I1,r1,q1⟩=>ho pins s1 σ H1 x v Q I1 r1 q1)
theorem pJ{f:Value→Value→Sem Value}{C:Int→Int→Prop}{g:Int→Int→Int}
  (rule:∀(i j:Int) (t u:Tok) (s:Shared) (Q:Value→Shared→Prop) (E:Value→Shared→Prop),C i j→Q (.int (g i j) s.toks) { s with toks:=s.toks+1 }→wpAny (model X.prog X.w) X.A (f (.int i t) (.int j u)) Q E s) :
  bD X f (rI C fun i j=>.int (g i j)):=by
 intro pins s σ H x y v u Q I rx ry h
 obtain⟨i,j,rfl,rfl,hc,q⟩:=h
 obtain⟨t,rfl⟩:=rx
 obtain⟨t',rfl⟩:=ry
 exact rule i j t t' s _ _ hc ⟨.int (g i j),H,I.tok _,⟨_,rfl⟩,q⟩
theorem vP{f:Value→Value→Sem Value}{g:Int→Int→Int}
  (rule:∀(i j:Int) (t u:Tok) (s:Shared) (Q:Value→Shared→Prop) (E:Value→Shared→Prop),Q (.int (g i j) s.toks) { s with toks:=s.toks+1 }→wpAny (model X.prog X.w) X.A (f (.int i t) (.int j u)) Q E s) :
  bD X f (fC fun i j=>.int (g i j)):=by
 intro pins s σ H x y v u Q I rx ry h
 obtain⟨i,j,rfl,rfl,q⟩:=h
 obtain⟨t,rfl⟩:=rx
 obtain⟨t',rfl⟩:=ry
 exact rule i j t t' s _ _ ⟨.int (g i j),H,I.tok _,⟨_,rfl⟩,q⟩
theorem z4{f:Value→Value→Sem Value}{g:Int→Int→Bool}
  (rule:∀(i j:Int) (t u:Tok) (s:Shared) (Q:Value→Shared→Prop) (E:Value→Shared→Prop),Q (.bool (g i j)) s→wpAny (model X.prog X.w) X.A (f (.int i t) (.int j u)) Q E s) :
  bD X f (fC fun i j=>.bl (g i j)):=by
 intro pins s σ H x y v u Q I rx ry h
 obtain⟨i,j,rfl,rfl,q⟩:=h
 obtain⟨t,rfl⟩:=rx
 obtain⟨t',rfl⟩:=ry
 exact rule i j t t' s _ _ ⟨.bl (g i j),H,I,rfl,q⟩
def vQ(i j:Int):Prop:=0≤j∧j≤1000000∧i.natAbs<2^64
def rJ(i j:Int):Prop:=(-(2^64)<i∧i<2^64)∨(-(2^64)<j∧j<2^64)
theorem rJ.ok{i j:Int}(h:rJ i j):IntMulOk i j:=by
 rcases h with⟨h1,h2⟩|⟨h1,h2⟩
 ·exact .of_left (intBits_le_64 h1 h2)
 ·exact .of_right (intBits_le_64 h1 h2)
theorem MQ(k:Nat):(0:Int)≤2^k:=by
 rw[two_pow_cast]
 exact Int.natCast_nonneg _
theorem SW:bD X (binaryOp .Add) (fC fun i j=>.int (i+j)):=vP fun _ _ _ _ _ _ _ q=>add_int q
theorem SX:bD X (binaryOp .Sub) (fC fun i j=>.int (i-j)):=vP fun _ _ _ _ _ _ _ q=>sub_int q
theorem SY:bD X (binaryOp .Mult) (rI rJ fun i j=>.int (i*j)):=pJ fun _ _ _ _ _ _ _ hc q=>mul_int q hc.ok
theorem S0:bD X (binaryOp .Mod) (rI (fun _ j=>0<j) fun i j=>.int (i%j)):=pJ fun i j _ _ _ _ _ hc q=>by
 have h1:(0:Int)<j:=hc
 exact mod_int' (by omega) (by rw[Int.fmod_eq_emod_of_nonneg i (by omega)];exact q)
theorem S1:bD X (binaryOp .Pow) (rI vQ fun i j=>.int (i^j.toNat)):=pJ fun _ _ _ _ _ _ _ hc q=>pow_int_small hc.1 hc.2.1 hc.2.2 q
theorem S2:bD X (binaryOp .LShift) (rI vQ fun i j=>.int (i*2^j.toNat)):=pJ fun _ _ _ _ _ _ _ hc q=>lshift_int_small hc.1 hc.2.1 hc.2.2 q
theorem S3:bD X (binaryOp .RShift) (rI (fun _ j=>0≤j) fun i j=>.int (i/2^j.toNat)):=pJ fun i j _ _ _ _ _ hc q =>
 rshift_int hc (by rw[Int.fdiv_eq_ediv_of_nonneg i (MQ _)];exact q)
theorem S4:bD X (binaryOp .BitAnd) (fC fun i j=>.int (Builtin.bitAnd i j)):=vP fun _ _ _ _ _ _ _ q=>and_int q
theorem VC:bD X (binaryOp .BitOr) (fC fun i j=>.int (Builtin.bitOr i j)):=vP fun _ _ _ _ _ _ _ q=>or_int q
theorem Jx{f:Value→Sem Value}{g:Int→Int}
  (rule:∀(i:Int) (t:Tok) (s:Shared) (Q:Value→Shared→Prop) (E:Value→Shared→Prop),Q (.int (g i) s.toks) { s with toks:=s.toks+1 }→wpAny (model X.prog X.w) X.A (f (.int i t)) Q E s) :
  sr X f (rU fun i=>.int (g i)):=by
 intro pins s σ H x v Q I rx h
 obtain⟨i,rfl,q⟩:=h
 obtain⟨t,rfl⟩:=rx
 exact rule i t s _ _ ⟨.int (g i),H,I.tok _,⟨_,rfl⟩,q⟩
theorem S5:sr X (unaryOp .USub) (rU fun i=>.int (-i)):=Jx fun _ _ _ _ _ q=>neg_int q
theorem S6:sr X (unaryOp .Invert) (rU fun i=>.int (Builtin.bitNot i)):=Jx fun _ _ _ _ _ q=>invert_int q
end
noncomputable def kx:V→V→Bool
 |.non,.non=>true|.non,.int _=>true|.int _,.non=>true|.non,.bl _=>true|.bl _,.non=>true|.non,.str _=>true|.str _,.non=>true
 |.int _,.int _=>true|.bl _,.bl _=>true|.str _,.str _=>true|.gk _,.gk _=>true
 |.int _,.str _=>true|.str _,.int _=>true|.bl _,.str _=>true|.str _,.bl _=>true
 |_,_=>false
noncomputable def Jy:R2:=fun x y H Q=>kx x y=true∧Q (.bl (decide (x=y))) H
noncomputable def Jz:R2:=fun x y H Q=>kx x y=true∧Q (.bl (!decide (x=y))) H
theorem EB{i j:Int}:decide (V.int i=V.int j)=(i==j):=by
 rw[Bool.eq_iff_iff]
 simp
theorem FP{i j:Bool}:decide (V.bl i=V.bl j)=(i==j):=by
 rw[Bool.eq_iff_iff]
 simp
theorem EC{i j:Str}:decide (V.str i=V.str j)=(i==j):=by
 rw[Bool.eq_iff_iff]
 simp
theorem ED{i j:Array UInt8}:decide (V.gk i=V.gk j)=(i.toList==j.toList):=by
 rw[Bool.eq_iff_iff]
 cases i
 cases j
 simp
section
variable {X:Cx}{a b c:Expr}{ta tb tc:TE}{pos:Pos}
theorem cC{pins:List (Addr×Obj)}{σ:St}{H:Hp}{s:Shared}{Q:VK}{k k':Bool}(I:Inv X pins σ H s)(q:Q (.bl k) H)(e:k=k'):EP X pins σ Q (.bool k') s:=by
 subst e
 exact⟨.bl k,H,I,rfl,q⟩
theorem VD:bD X (compareOp .Eq) Jy:=by
 intro pins s σ H x y v u Q I rx ry h
 obtain⟨hs,q⟩:=h
 cases x with
 |non =>
  cases rx
  cases y with
  |non=>cases ry;exact PySem.EqNone.eq_none_none (cC I q (by simp))
  |bl j=>cases ry;exact PySem.EqNone.eq_none_bool (cC I q (by simp))
  |int j=>obtain⟨t',rfl⟩:=ry;exact PySem.EqNone.eq_none_int (cC I q (by simp))
  |str j=>obtain⟨t',rfl⟩:=ry;exact PySem.EqNone.eq_none_str (cC I q (by simp))
  |_=>exact absurd (show false=true from hs) aX
 |bl i =>
  cases rx
  cases y with
  |non=>cases ry;exact PySem.EqNone.eq_bool_none (cC I q (by simp))
  |bl j=>cases ry;exact eq_bool (cC I q FP)
  |str j=>obtain⟨t',rfl⟩:=ry;exact PySem.EqMixed.eq_bool_str (cC I q (by simp))
  |_=>exact absurd (show false=true from hs) aX
 |int i =>
  obtain⟨t,rfl⟩:=rx
  cases y with
  |non=>cases ry;exact PySem.EqNone.eq_int_none (cC I q (by simp))
  |int j=>obtain⟨t',rfl⟩:=ry;exact eq_int (cC I q EB)
  |str j=>obtain⟨t',rfl⟩:=ry;exact PySem.EqMixed.eq_int_str (cC I q (by simp))
  |_=>exact absurd (show false=true from hs) aX
 |str i =>
  obtain⟨t,rfl⟩:=rx
  cases y with
  |non=>cases ry;exact PySem.EqNone.eq_str_none (cC I q (by simp))
  |bl j=>cases ry;exact PySem.EqMixed.eq_str_bool (cC I q (by simp))
  |int j=>obtain⟨t',rfl⟩:=ry;exact PySem.EqMixed.eq_str_int (cC I q (by simp))
  |str j=>obtain⟨t',rfl⟩:=ry;exact eq_str (cC I q EC)
  |_=>exact absurd (show false=true from hs) aX
 |gk i =>
  obtain⟨t,rfl⟩:=rx
  cases y with
  |gk j=>obtain⟨t',rfl⟩:=ry;exact PySem.W.eq_bytes (cC I q ED)
  |_=>exact absurd (show false=true from hs) aX
 |_=>cases y<;>exact absurd (show false=true from hs) aX
theorem VF:bD X (compareOp .NotEq) Jz:=by
 intro pins s σ H x y v u Q I rx ry h
 obtain⟨hs,q⟩:=h
 cases x with
 |non =>
  cases rx
  cases y with
  |non=>cases ry;exact PySem.EqNone.ne_none_none (cC I q (by simp))
  |bl j=>cases ry;exact PySem.EqNone.ne_none_bool (cC I q (by simp))
  |int j=>obtain⟨t',rfl⟩:=ry;exact PySem.EqNone.ne_none_int (cC I q (by simp))
  |str j=>obtain⟨t',rfl⟩:=ry;exact PySem.EqNone.ne_none_str (cC I q (by simp))
  |_=>exact absurd (show false=true from hs) aX
 |bl i =>
  cases rx
  cases y with
  |non=>cases ry;exact PySem.EqNone.ne_bool_none (cC I q (by simp))
  |bl j=>cases ry;exact ne_bool (cC I q (congrArg not FP))
  |str j=>obtain⟨t',rfl⟩:=ry;exact PySem.EqMixed.ne_bool_str (cC I q (by simp))
  |_=>exact absurd (show false=true from hs) aX
 |int i =>
  obtain⟨t,rfl⟩:=rx
  cases y with
  |non=>cases ry;exact PySem.EqNone.ne_int_none (cC I q (by simp))
  |int j=>obtain⟨t',rfl⟩:=ry;exact ne_int (cC I q (congrArg not EB))
  |str j=>obtain⟨t',rfl⟩:=ry;exact PySem.EqMixed.ne_int_str (cC I q (by simp))
  |_=>exact absurd (show false=true from hs) aX
 |str i =>
  obtain⟨t,rfl⟩:=rx
  cases y with
  |non=>cases ry;exact PySem.EqNone.ne_str_none (cC I q (by simp))
  |bl j=>cases ry;exact PySem.EqMixed.ne_str_bool (cC I q (by simp))
  |int j=>obtain⟨t',rfl⟩:=ry;exact PySem.EqMixed.ne_str_int (cC I q (by simp))
  |str j=>obtain⟨t',rfl⟩:=ry;exact ne_str (cC I q (congrArg not EC))
  |_=>exact absurd (show false=true from hs) aX
 |gk i =>
  obtain⟨t,rfl⟩:=rx
  cases y with
  |gk j=>obtain⟨t',rfl⟩:=ry;exact PySem.W.ne_bytes (cC I q (congrArg not ED))
  |_=>exact absurd (show false=true from hs) aX
 |_=>cases y<;>exact absurd (show false=true from hs) aX
theorem VG:bD X (compareOp .Lt) (fC fun i j=>.bl (decide (i<j))):=z4 fun _ _ _ _ _ _ _ q=>lt_int q
theorem VH:bD X (compareOp .LtE) (fC fun i j=>.bl (decide (i≤j))):=z4 fun _ _ _ _ _ _ _ q=>le_int q
theorem VJ:bD X (compareOp .Gt) (fC fun i j=>.bl (decide (j<i))):=z4 fun _ _ _ _ _ _ _ q=>gt_int q
theorem Qm:bD X (compareOp .IsNot) (fun x y H Q=>y=.non∧Q (.bl (!decide (x=.non))) H):=by
 intro pins s σ H x y v u Q I rx ry h
 obtain⟨rfl,q⟩:=h
 cases ry
 refine isnot_none_gen (cC I q ?_)
 cases x<;>first
  | (cases rx;rfl)
  | (obtain⟨t,rfl⟩:=rx;rfl)
theorem Qn{op:CmpOp}{r:R2}(ho:bD X (compareOp op) r)(ha:PE X a ta)(hb:PE X b tb)(hm:behindInMarks op b=false):PE X (.Compare a [op] [b] pos) (pI r ta tb):=by
 intro pins s σ H Q I h
 exact wpAny_Compare1 (zZ ha hb I h fun v u s2 x y H2 I2 rx ry q=>ho pins s2 σ H2 x y v u Q I2 rx ry q) hm
noncomputable def zG(t:TE):TT:=fun σ H Q=>t σ H fun x H'=>∃k,x=.bl k∧Q k H'
theorem Qo{op:CmpOp}{r:R2}(ho:bD X (compareOp op) r)(ha:PE X a ta)(hb:PE X b tb)(hm:behindInMarks op b=false):PT X (.Compare a [op] [b] pos) (zG (pI r ta tb)):=by
 intro pins s σ H Q I h
 refine wpAny_isTrue_Compare1 (aI (ha pins s σ H _ I h) fun v s1 ⟨x,H1,I1,r1,q1⟩=>aI (hb pins s1 σ H1 _ I1 q1) fun u s2 ⟨y,H2,I2,r2,q2⟩ =>
  aI (ho pins s2 σ H2 x y v u _ I2 r1 r2 q2) fun c s3 ⟨z,H3,I3,r3,k,e,q3⟩=>?_) hm
 subst e
 cases r3
 exact wpAny_truthy_bool ⟨H3,I3,q3⟩
noncomputable def FQ(r r':R2)(ta tb tc:TE):TE:=fun σ H Q=>ta σ H fun x H1=>tb σ H1 fun y H2=>r x y H2 fun z H3=>∃k,z=.bl k ∧
 (if k=true then tc σ H3 fun w' H4=>r' y w' H4 Q else Q (.bl false) H3)
theorem Ot{op op':CmpOp}{r r':R2}(ho:bD X (compareOp op) r)(gn:bD X (compareOp op') r')(ha:PE X a ta)(hb:PE X b tb)(hc:PE X c tc)
  (hm:lastMarks [op,op'] [b,c]=false:=by with_unfolding_all rfl):PT X (.Compare a [op,op'] [b,c] pos) (zG (FQ r r' ta tb tc)):=by
 intro pins s σ H Q I h
 refine isTrue_chain (aI (ha pins s σ H _ I h) fun v s1 ⟨x,H1,I1,r1,q1⟩=>test_link (aI (hb pins s1 σ H1 _ I1 q1) fun u s2 ⟨y,H2,I2,r2,q2⟩ =>
  aI (ho pins s2 σ H2 x y v u _ I2 r1 r2 q2) fun d s3 ⟨z,H3,I3,r3,k,e,q3⟩=>?_)) hm
 subst e
 cases r3
 refine wpAny_truthy_bool ?_
 cases k with
 |false =>
  obtain⟨k',e',q'⟩:=q3
  cases e'
  exact ite_ff ⟨H3,I3,q'⟩
 |true =>
  refine ite_tt (test_last (aI (hc pins s3 σ H3 _ I3 q3) fun w' s4 ⟨z',H4,I4,r4,q4⟩=>aI (gn pins s4 σ H4 y z' u w' _ I4 r2 r4 q4) fun d' s5 ⟨z2,H5,I5,r5,k2,e2,q5⟩=>?_))
  subst e2
  cases r5
  exact wpAny_truthy_bool ⟨H5,I5,q5⟩
def vR(K:PySem.W.Frag)(x:V)(H:Hp)(k:Bool):Prop :=
 match x with
 |.non=>k=false
 |.bl b=>k=b
 |.int i=>k=(i != 0)
 |.str y=>y.length≤sizeLine∧k=((y.length:Int) != 0)
 |.gk y=>y.size≤sizeLine∧k=((y.size:Int) != 0)
 |.ref p=>(∃xs,bV K H p xs∧k=!xs.isEmpty)∨(∃xs,bJ K H p xs∧k=!xs.isEmpty)∨∃ai,H p=some (.dK ai)∧k=!ai.isEmpty
 |_=>False
theorem MR{κ:Type}{ai:List (κ×V)}{vs:List (κ×Value)}(r:KV ai vs):(!vs.isEmpty)=!ai.isEmpty:=by
 cases r<;>rfl
theorem C5{xs:List V}{its:List Value}(r:Vals xs its):(!its.toArray.isEmpty)=!xs.isEmpty:=by
 cases r<;>simp
theorem oD:(sizeLine:Nat)<2^63:=by rw[sizeLine_eq];decide
theorem S7:XB X (fun x H Q=>∃k,vR X.K x H k∧Q k H):=by
 intro pins s σ H x v Q I rx h
 obtain⟨k,e,q⟩:=h
 have hl:=oD
 have hs:sizeLine=16777216:=sizeLine_eq
 cases x with
 |non =>
  cases rx
  have e':k=false:=e
  subst e'
  exact truthy_none ⟨H,I,q⟩
 |bl b =>
  cases rx
  have e':k=b:=e
  subst e'
  exact wpAny_truthy_bool ⟨H,I,q⟩
 |int i =>
  obtain⟨t,rfl⟩:=rx
  have e':k=(i != 0):=e
  subst e'
  exact PySem.P.truthy_int ⟨H,I,q⟩
 |str y =>
  obtain⟨t,rfl⟩:=rx
  obtain⟨hy,e'⟩:y.length≤sizeLine∧k=((y.length:Int) != 0):=e
  subst e'
  exact PySem.P.truthy_str (by omega) ⟨H,I.tok _,q⟩
 |gk y =>
  obtain⟨t,rfl⟩:=rx
  obtain⟨hy,e'⟩:y.size≤sizeLine∧k=((y.size:Int) != 0):=e
  subst e'
  exact PySem.W.truthy_bytes (by omega) ⟨H,I.tok _,q⟩
 |ref p =>
  cases rx
  have e':(∃xs,bV X.K H p xs∧k=!xs.isEmpty)∨(∃xs,bJ X.K H p xs∧k=!xs.isEmpty)∨∃ai,H p=some (.dK ai)∧k=!ai.isEmpty:=e
  rcases e' with⟨xs,hx,e'⟩|⟨xs,hx,e'⟩|⟨ai,hx,e'⟩
  ·subst e'
   obtain⟨its,r,pl,hz⟩:=I.list hx
   have hlen:=r.length
   exact wpAny_truthy_list pl.isList (by simp only[List.size_toArray];omega) ⟨H,I.tok _,by rw[C5 r];exact q⟩
  ·subst e'
   obtain⟨its,r,pl,hz⟩:=I.tuple hx
   have hlen:=r.length
   exact truthy_tuple pl (by simp only[List.size_toArray];omega) ⟨H,I.tok _,by rw[C5 r];exact q⟩
  ·subst e'
   obtain⟨hz,hS,vs,r,m⟩:ai.length≤sizeLine∧(p==sysModules)=false∧∃vs,KV ai vs∧s.heap.DictOf (cL X.prog X.w) p vs:=I.aG p _ hx
   have hlen:ai.length=vs.length:=Paired.length r
   exact wpAny_truthy_dict hS m (by omega) ⟨H,I.tok _,by rw[MR r];exact q⟩
 |_=>exact(show False from e).elim
theorem Ou(ha:PE X a ta)(he:∀whole,isTrue a X.env whole=(do let v ←whole;standAt a.pos;holding [v] (truthy v))) :
  PT X a (fun σ H Q=>ta σ H fun x H'=>∃k,vR X.K x H' k∧Q k H'):=by
 intro pins s σ H Q I h
 exact isTrue_plain (aI (ha pins s σ H _ I h) fun v s1 ⟨x,H1,I1,r1,q1⟩=>S7 pins s1 σ H1 x v Q I1 r1 q1) (he _)
theorem MS:bD X (binaryOp .Add) (fun x y H Q=>∃i j,x=.str i∧y=.str j∧i.length+j.length≤sizeLine∧Q (.str (i++j)) H):=by
 intro pins s σ H x y v u Q I rx ry h
 obtain⟨i,j,rfl,rfl,hz,q⟩:=h
 obtain⟨t,rfl⟩:=rx
 obtain⟨t',rfl⟩:=ry
 exact add_str (fun t' tk=>⟨.str (i++j),H,I.tok _,⟨_,rfl⟩,q⟩) hz
theorem vals1{x:V}{us:List Value}(r:Vals [x] us):∃u,us=[u]∧RelV x u:=by
 cases r with
 |cons r1 r2=>cases r2;exact⟨_,rfl,r1⟩
theorem vals2{x y:V}{us:List Value}(r:Vals [x,y] us):∃u w',us=[u,w']∧RelV x u∧RelV y w':=by
 cases r with
 |cons r1 r2 =>
  cases r2 with
  |cons r3 r4=>cases r4;exact⟨_,_,rfl,r1,r3⟩
theorem Nt(hc:X.calm=true):iy X (.builtin "max") (fun xs H Q=>∃i j,xs=[.int i,.int j]∧Q (.int (if j>i then j else i)) H):=by
 intro pins s σ H xs us Q I r h
 obtain⟨i,j,rfl,q⟩:=h
 obtain⟨u,w',rfl,⟨t,rfl⟩,⟨t',rfl⟩⟩:=vals2 r
 refine max_two_ints (I.ok.hd hc) fun h' tk k=>⟨_,H,I.kept k,?_,q⟩
 by_cases hj:j>i
 ·rw[if_pos hj,if_pos hj];exact⟨_,rfl⟩
 ·rw[if_neg hj,if_neg hj];exact⟨_,rfl⟩
theorem Nu:iy X (.type "int") (fun xs H Q=>(∃i,xs=[.int i]∧Q (.int i) H)∨∃k,xs=[.bl k]∧Q (.int (if k then 1 else 0)) H):=by
 intro pins s σ H xs us Q I r h
 rcases h with⟨i,rfl,q⟩|⟨k,rfl,q⟩
 ·obtain⟨u,rfl,t,rfl⟩:=vals1 r
  exact call_int_int ⟨.int i,H,I,⟨_,rfl⟩,q⟩
 ·obtain⟨u,rfl,r1⟩:=vals1 r
  cases r1
  exact call_int_bool ⟨.int (if k then 1 else 0),H,I.tok _,⟨_,rfl⟩,q⟩
def z5(K:PySem.W.Frag)(x:V)(H:Hp)(n:Nat):Prop :=
 match x with
 |.str y=>y.length≤sizeLine∧n=y.length
 |.gk y=>y.size≤sizeLine∧n=y.size
 |.ref p=>(∃xs,bV K H p xs∧n=xs.length)∨∃xs,bJ K H p xs∧n=xs.length
 |_=>False
theorem Ov:iy X (.builtin "len") (fun xs H Q=>∃x n,xs=[x]∧z5 X.K x H n∧Q (.int n) H):=by
 intro pins s σ H xs us Q I r h
 obtain⟨x,n,rfl,e,q⟩:=h
 obtain⟨u,rfl,rx⟩:=vals1 r
 have hl:=oD
 have hs:sizeLine=16777216:=sizeLine_eq
 cases x with
 |str y =>
  obtain⟨t,rfl⟩:=rx
  obtain⟨hy,e'⟩:y.length≤sizeLine∧n=y.length:=e
  subst e'
  exact len_str (by omega) ⟨.int _,H,I.tok _,⟨_,rfl⟩,q⟩
 |gk y =>
  obtain⟨t,rfl⟩:=rx
  obtain⟨hy,e'⟩:y.size≤sizeLine∧n=y.size:=e
  subst e'
  exact PySem.W.len_bytes (by omega) ⟨.int _,H,I.tok _,⟨_,rfl⟩,q⟩
 |ref p =>
  cases rx
  have e':(∃xs,bV X.K H p xs∧n=xs.length)∨∃xs,bJ X.K H p xs∧n=xs.length:=e
  rcases e' with⟨xs,hx,e'⟩|⟨xs,hx,e'⟩
  ·subst e'
   obtain⟨its,r',pl,hz⟩:=I.list hx
   have hlen:=r'.length
   exact Calls.call_len_list pl.isList (by simp only[List.size_toArray];omega) ⟨.int xs.length,H,I.tok _,⟨_,by simp only[List.size_toArray];rw[hlen]⟩,q⟩
  ·subst e'
   obtain⟨its,r',pl,hz⟩:=I.tuple hx
   have hlen:=r'.length
   exact len_tuple pl (by simp only[List.size_toArray];omega) ⟨.int xs.length,H,I.tok _,⟨_,by simp only[List.size_toArray];rw[hlen]⟩,q⟩
 |_=>exact(show False from e).elim
end
structure aah (h:Heap)(x dx C:Addr)(mA:Str→Option Value):Prop where
 obj:h.get? x=some (PySem.W.instObj C dx)
 ns:h.Ns1 dx mA
 ne:dx≠x
section
variable {prog:Program}{w:World}{A:Around}{E:Value→Shared→Prop}{s:Shared}{K:PySem.W.Frag}{x dx C f:Addr}{mA:Str→Option Value}{name:Str}{v:Value}
end
theorem iD.some_of{v:V}{o:Option Value}(r:iD (some v) o):∃u,o=some u∧RelV v u:=by
 cases o with
 |none=>exact(show False from r).elim
 |some u=>exact⟨u,rfl,r⟩
section
variable {P:Program}{w:World}{H H':Hp}{h h':Heap}{a C dx:Addr}{fs Yu:List (Str×V)}
end
structure Yy (K:PySem.W.Frag)(C:Addr):Prop where
 pg:PySem.W.plainGet K C Str.empty=true
 hd:PySem.W.hasDictIn K C=true
 po:PySem.W.plainOver K C=true
 sa:PySem.W.findIn K (.ref C) "__setattr__" = some (some (.builtin "object.__setattr__"))
structure Con (K:PySem.W.Frag)(C:Addr)(f:Str)(v:V)(u:Value):Prop where
 at_:PySem.W.findIn K (.ref C) f=some (some u)
 rel:RelV v u
 get:PySem.W.specialIn K u "__get__" = some none
 cp:PySem.W.copiedNames.contains f=false
structure Meth (K:PySem.W.Frag)(C:Addr)(m:Str)(f:Addr):Prop where
 at_:PySem.W.findIn K (.ref C) m=some (some (.ref f))
 fn:PySem.W.isFn K (.ref f)=true
 kp:PySem.W.keepIn K (.ref f)=true
section
variable {X:Cx}{pins:List (Addr×Obj)}{σ:St}{H:Hp}{s:Shared}{a C dx:Addr}{fs:List (Str×V)}{f:Str}{v:V}{A:Around}{E:Value→Shared→Prop}
end
section
variable {X:Cx}{o e value:Expr}{f:Str}{pos pos' XC:Pos}{ta tv:TE}
def z6:V→V→Hp→VK→Prop:=fun x y H Q=>∃i j,x=.int i∧y=.int j∧Q (.int (i+j)) H
end
section
variable {X:Cx}{pins:List (Addr×Obj)}{σ:St}{H:Hp}{s:Shared}{A:Around}{E:Value→Shared→Prop}{Q:Value→Shared→Prop}{c:Value}{b:Bool}
inductive i9 (K:PySem.W.Frag)(H:Hp):V→Value→Prop where
 |non:i9 K H .non (.type "NoneType")
 |bl (x:Bool):i9 K H (.bl x) (.type "bool")
 |int (i:Int):i9 K H (.int i) (.type "int")
 |str (x:Str):i9 K H (.str x) (.type "str")
 |r6 (x:UInt64):i9 K H (.r6 x) (.type "float")
 |lst {a:Addr}{xs:List V} (e:H a=some (.lst xs)):i9 K H (.ref a) (.type "list")
 |bj {a:Addr}{o:Obj}{xs:List V} (e:H a=some (.bj o (.lst xs))):i9 K H (.ref a) (.type "list")
 |tup {a:Addr}{xs:List V} (e:H a=some (.tup xs)):i9 K H (.ref a) (.type "tuple")
 |dK {a:Addr}{ai:List (Key×V)} (e:H a=some (.dK ai)):i9 K H (.ref a) (.type "dict")
 |dT {a:Addr}{ai:List (List Key×V)} (e:H a=some (.dT ai)):i9 K H (.ref a) (.type "dict")
 |ins {a C dx:Addr}{fs:List (Str×V)} (e:H a=some (.ins C dx fs)) (cl:Yy K C) (ha:PySem.W.findIn K (.ref C) "__class__" = some (some (.builtin "object.__class__")))
  (hn:PySem.W.specialIn K (.builtin "object.__class__") "__get__" = some (some (.builtin "getset_descriptor.__get__"))) (htk:PySem.W.takesIn K (.builtin "object.__class__")=some true)
  (hm:PySem.W.mroIn K C (.type "object")=some true):i9 K H (.ref a) (.ref C)
end
structure eC (k:Nat)(A:Around):Prop where
 hd:A.handled=none
 dp:A.depth+3*k+5<recursionLimit
 un:A.units+16*k+200<cLine
theorem eC.mono{j k:Nat}{A:Around}(r:eC k A)(h:j≤k):eC j A:=⟨r.hd,by have:=r.dp;omega,by have:=r.un;omega⟩
theorem eC.deeper{k:Nat}{A:Around}(r:eC (k+1) A)(env:Env):eC k (A.deeper env) :=
 ⟨r.hd,by have:=r.dp;show A.depth+1+3*k+5<_;omega,by have:=r.un;show A.units+3+16*k+200<_;omega⟩
theorem eC.depth{k:Nat}{A:Around}(r:eC k A):A.depth<recursionLimit:=by have:=r.dp;omega
theorem eC.units{k:Nat}{A:Around}(r:eC k A):A.units+64<cLine:=by have:=r.un;omega
noncomputable def lF:TA:=fun _ H Q=>Q [] H
noncomputable def mM(ta:TE)(tr:TA):TA:=fun σ H Q=>ta σ H fun x H1=>tr σ H1 fun xs H2=>Q (x::xs) H2
section
variable {X:Cx}{e:Expr}{es:List Expr}{te:TE}{t:TA}{pos:Pos}
theorem qT:PA X [] lF:=fun _ _ _ _ H Q I h=>Calls.spliced_nil ⟨[],H,I,.nil,h⟩
theorem uT(ha:PE X e te)(hr:PA X es t)(hs:starEach (e::es) X.env=(false,eval e X.env)::starEach es X.env:=by rfl):PA X (e::es) (mM te t):=by
 intro pos pins s σ H Q I h
 rw[hs]
 show wpAny _ _ (spliced ((false,eval e X.env)::backTo pos (starEach es X.env))) _ _ s
 refine Calls.spliced_cons (aI (ha pins s σ H _ I h) fun u s1 ⟨x,H1,I1,r1,q1⟩=>?_)
 exact aI (hr pos pins s1 σ H1 _ I1 q1) fun us s2 ⟨xs,H2,I2,r2,q2⟩=>⟨x::xs,H2,I2,.cons r1 r2,q2⟩
noncomputable def HN(t:TA):TE:=fun σ H Q=>t σ H fun xs H1=>xs.length≤sizeLine∧∀p,H1 p=none→Q (.ref p) (upd H1 p (.tup xs))
noncomputable def vT(t:TA):TE:=fun σ H Q=>t σ H fun xs H1=>xs.length≤sizeLine∧∀p,H1 p=none→Q (.ref p) (upd H1 p (.lst xs))
theorem S8{x1}(h:PA X es t):PE X (.Tuple es x1 pos) (HN t):=by
 intro pins s σ H Q I hq
 refine wpAny_Tuple_spliced (aI (h pos pins s σ H _ I hq) fun us s1 ⟨xs,H1,I1,r,z,q⟩=>⟨by rw[←r.length];exact z,?_⟩)
 have hf:H1 s1.heap.objs.size=none:=I1.aG.fresh (bf _)
 refine⟨.ref s1.heap.objs.size,upd H1 s1.heap.objs.size (.tup xs),I1.laid (t':=s1.toks) (fun b u e=>dz _ e) (bf _) ?_,rfl,q _ hf⟩
 exact⟨z,us,r,⟨_,fL _ rfl,rfl,_,rfl⟩⟩
theorem zg(h:PA X es t):PE X (.List es pos) (vT t):=by
 intro pins s σ H Q I hq
 refine wpAny_List_spliced (aI (h pos pins s σ H _ I hq) fun us s1 ⟨xs,H1,I1,r,z,q⟩=>⟨by rw[←r.length];exact z,?_⟩)
 have hf:H1 s1.heap.objs.size=none:=I1.aG.fresh (bf _)
 refine⟨.ref s1.heap.objs.size,upd H1 s1.heap.objs.size (.lst xs),I1.laid (t':=s1.toks) (fun b u e=>dz _ e) (bf _) ?_,rfl,q _ hf⟩
 exact⟨z,us,0,r,fL _ rfl⟩
end
noncomputable abbrev Sp:=List V→Hp→VK→XK→Prop
noncomputable abbrev jo:=List Env→Hp→Shared→XK→Value→Shared→Prop
structure vU (P:Program)(w:World)(K:PySem.W.Frag)(mg:Str→Option Value)(base:Heap)(A:Around)(outer:List Env)(s:Shared)(H:Hp):Prop where
 frames:A.frames=some outer
 mod:Mod K mg base
 bs:∀b o,base.get? b=some o→s.heap.get? b=some o∧H b=none
 kM:base.objs.size≤s.heap.objs.size
 i7:s.heap.FunFrames base outer
 pF:∀b∈iK outer,H b=none
 aG:cO P w H s.heap
 bare:AllBare s.gens
def CE(outer:List Env)(P:Program)(w:World)(H:Hp)(s:Shared)(Q:VK)(u:Value)(s':Shared):Prop :=
 ∃v H',s'.os=s.os∧AllBare s'.gens∧Un (iK outer) [] H H' s.heap s'.heap∧cO P w H' s'.heap∧RelV v u∧Q v H'
def CR(CX:jo)(outer:List Env)(P:Program)(w:World)(H:Hp)(s:Shared)(Q:VK)(E:XK)(r:Result)(s':Shared):Prop :=
 match r with
 |.ok (.ret u)=>CE outer P w H s Q u s'
 |.ok _=>False
 |.error e=>CX outer H s E e s'
structure ky (P:Program)(w:World)(K:PySem.W.Frag)(mg:Str→Option Value)(base:Heap)(CX:jo)(k:Nat)(f:Addr)(fd:FuncData)(ps:List Str)(sp:Sp):Prop where
 len:∀vs H Q E,sp vs H Q E→vs.length=ps.length
 run:∀(A:Around) (outer:List Env) (s:Shared) (H:Hp) (args:Args) (us:List Value) (vs:List V) (Q:VK) (E:XK),eC k A→vU P w K mg base A outer s H→BindsTo s fd args (ps.zip us)→Vals vs us→sp vs H Q E →
  codeAny (model P w) A (.call (.ref f) args) (CR CX outer P w H s Q E) s
section
variable {X:Cx}{pins:List (Addr×Obj)}{σ:St}{H:Hp}{s s':Shared}
theorem Inv.XD(I:Inv X pins σ H s):vU X.prog X.w X.K X.mg X.base X.A X.stack s H :=
 ⟨I.ok.frames,I.ok.mod,I.bs,Nat.le_trans I.ok.kM I.sz,I.stack,I.Ey,I.aG,I.bare⟩
theorem Inv.after{Q:VK}{u:Value}(I:Inv X pins σ H s)(h:CE X.stack X.prog X.w H s Q u s'):EP X pins σ Q u s':=by
 obtain⟨v,H',os,bare,un,aG,r,q⟩:=h
 obtain⟨hh,g,d,t,Yz⟩:=s'
 obtain rfl:Yz=s.os:=os
 exact⟨v,H',I.call (h':=hh) (g':=g) (d':=d) (t':=t) (ch:=[]) un aG bare (fun b z=>absurd z (by simp)),r,q⟩
end
noncomputable def rn(sp:Sp)(lS:List V)(E:XK)(t:TA):TE:=fun σ H Q=>t σ H fun vs H1=>sp (vs++lS) H1 Q E
def Binds(K:PySem.W.Frag)(fd:FuncData)(ps:List Str)(ds:List Value):Prop :=
 ∀(s:Shared) (us:List Value),K.In s.heap→(us++ds).length=ps.length→BindsTo s fd ⟨us,[]⟩ (ps.zip (us++ds))
theorem Binds.all{K:PySem.W.Frag}{fd:FuncData}{ps:List Str}(h:∀us:List Value,us.length=ps.length→bindArgs fd ⟨us,[]⟩=pure (ps.zip us)):Binds K fd ps []:=fun s us _ hl=>by
 rw[List.append_nil]at hl ⊢
 exact .of_eq (h us hl)
def Passes(CX:jo)(X:Cx)(E:XK):Prop:=∀(pins:List (Addr×Obj)) (σ:St) (H:Hp) (s:Shared) (e:Value) (s':Shared),Inv X pins σ H s→CX X.stack H s E e s'→X.xe e s'
section
variable {X:Cx}{CX:jo}{k:Nat}{f C:Addr}{fd:FuncData}{ps:List Str}{sp:Sp}{lS:List V}{ds:List Value}{E:XK}{x m:Str}{p pos apos:Pos}{e o:Expr}{es:List Expr}{ta:TE}{t:TA}
theorem S9{pins:List (Addr×Obj)}{σ:St}{H:Hp}{s:Shared}{Q:VK}{us:List Value}{vs:List V}(F:ky X.prog X.w X.K X.mg X.base CX k f fd ps sp)(hr:eC k X.A)(hb:Binds X.K fd ps ds)(hd:Vals lS ds)(hx:Passes CX X E)
  (I:Inv X pins σ H s) (r:Vals vs us) (h:sp (vs++lS) H Q E):wpAny (model X.prog X.w) X.A (call (.ref f) us) (EP X pins σ Q) X.xe s:=by
 have r2:Vals (vs++lS) (us++ds):=r.append hd
 have hl:(us++ds).length=ps.length:=by rw[←r2.length];exact F.len _ _ _ _ h
 refine wpAny_call (codeAny_mono (F.run X.A X.stack s H ⟨us,[]⟩ (us++ds) (vs++lS) Q E hr I.XD (hb s us I.gG hl) r2 h) fun r s' hq=>?_)
 cases r with
 |error e=>exact hx pins σ H s e s' I hq
 |ok fl =>
  cases fl with
  |ret u=>exact I.after hq
  |next=>exact False.elim hq
  |brk=>exact False.elim hq
  |cont=>exact False.elim hq
theorem EE(F:ky X.prog X.w X.K X.mg X.base CX k f fd ps sp)(hr:eC k X.A)(hg:Gl X x)(hm:X.mg x=some (.ref f))(hk:PySem.W.keepIn X.K (.ref f)=true)(hb:Binds X.K fd ps ds)(hd:Vals lS ds)(hx:Passes CX X E)
  (ha:PA X (e::es) t) (kO:(x==("__debug__" : Str))=false:=by decide) (he:starEach (e::es) X.env=(false,eval e X.env)::starEach es X.env:=by rfl) (jZ:(backTo pos (starEach es X.env)).any (·.1)=false:=by rfl) :
  PE X (.Call (.Name x p) (e::es) [] pos) (rn sp lS E t):=by
 intro pins s σ H Q I h
 refine wpAny_Call_Name_kw (Qe I hg hm ?_ kO)
 refine PySem.W.callWith_K (h₀:=X.base) I.ok.mod.AQ hk (aI (ha pos pins s σ H _ I h) fun us s1 ⟨vs,H1,I1,r,q⟩=>⟨I1.gG,?_⟩) he jZ
 exact S9 F hr hb hd hx I1 r q
structure Mk (K:PySem.W.Frag)(C f:Addr):Prop where
 makes:PySem.W.makesIn K C=true
 init:PySem.W.findIn K (.ref C) "__init__" = some (some (.ref f))
 fn:PySem.W.isFn K (.ref f)=true
 kp:PySem.W.keepIn K (.ref C)=true
end
section
variable {X:Cx}{CX:jo}{k:Nat}{f C:Addr}{fd:FuncData}{ps ks:List Str}{sp:Sp}{E:XK}{x m:Str}{p pos apos aai:Pos}{e o:Expr}{es:List Expr}{kws:List Keyword}{te ta:TE}{t tk:TA}{nm:Option Str}
structure aad (K:PySem.W.Frag)(fd:FuncData)(ps ks:List Str)(g:List Value→List Value→List Value)(gV:List V→List V→List V):Prop where
 to:∀(s:Shared) (us ws:List Value),K.In s.heap→(g us ws).length=ps.length→BindsTo s fd ⟨us,ks.zip ws⟩ (ps.zip (g us ws))
 rel:∀{vs:List V}{us:List Value}{zs:List V}{ws:List Value},Vals vs us→Vals zs ws→Vals (gV vs zs) (g us ws)
variable {g:List Value→List Value→List Value}{gV:List V→List V→List V}
end
structure qJ (N P:List Str)(sc:Scope):Prop where
 kind:sc.kind=.function
 co:sc.isCoroutine=false
 gen:sc.isGenerator=false
 nd:N.Nodup
 pre:N.take P.length=P
 par:∀x∈P,sc.names.lookup x=some .local∨sc.names.lookup x=some .cell
 Ta:∀y∈sc.names,y.2≠.free
theorem Dx{kindOf:Str→Option NameKind}{x:Str}:∀{binds:List (Str×Value)}{m:Str→Option Value},(∀v,(x,v)∉binds)→bindL kindOf binds m x=m x
  |[],_,_=>rfl
  | (n,v)::r,m,h=>by
    unfold bindL
    rw[Dx fun w hw=>h w (df _ hw)]
    split
    · have:x≠n:=by rintro rfl;exact h v cv
      simp[this]
    · rfl
theorem Dy{kindOf:Str→Option NameKind}{x:Str}:∀{binds:List (Str×Value)}{m:Str→Option Value},(∀v,(x,v)∉binds)→bindC kindOf binds m x=m x
  |[],_,_=>rfl
  | (n,v)::r,m,h=>by
    unfold bindC
    rw[Dy fun w hw=>h w (df _ hw)]
    split
    · rfl
    · have:x≠n:=by rintro rfl;exact h v cv
      simp[this]
theorem Dz{kindOf:Str→Option NameKind}{x:Str}{v:Value}:∀{P:List Str}{vs:List Value}{i:Nat}{m:Str→Option Value},P.Nodup→P[i]?=some x→vs[i]?=some v→kindOf x=some .local →
  bindL kindOf (P.zip vs) m x=some v
 |[],_,_,_,_,h,_,_=>by simp at h
 |_::_,[],_,_,_,_,h,_=>by simp at h
 |p::P,w::vs,0,m,nd,h1,h2,hk=>by
  simp at h1 h2;subst h1;subst h2
  show bindL kindOf ((p,w)::P.zip vs) m p=_
  unfold bindL
  rw[Dx fun v hv=>(List.nodup_cons.mp nd).1 (List.of_mem_zip hv).1,if_pos hk]
  simp
 |p::P,w::vs,i+1,m,nd,h1,h2,hk=>by
  show bindL kindOf ((p,w)::P.zip vs) m x=_
  unfold bindL
  exact Dz (i:=i) (List.nodup_cons.mp nd).2 (by simpa using h1) (by simpa using h2) hk
theorem DB{kindOf:Str→Option NameKind}{x:Str}{v:Value}:∀{P:List Str}{vs:List Value}{i:Nat}{m:Str→Option Value},P.Nodup→P[i]?=some x→vs[i]?=some v→kindOf x≠some .local →
  bindC kindOf (P.zip vs) m x=some v
 |[],_,_,_,_,h,_,_=>by simp at h
 |_::_,[],_,_,_,_,h,_=>by simp at h
 |p::P,w::vs,0,m,nd,h1,h2,hk=>by
  simp at h1 h2;subst h1;subst h2
  show bindC kindOf ((p,w)::P.zip vs) m p=_
  unfold bindC
  rw[Dy fun v hv=>(List.nodup_cons.mp nd).1 (List.of_mem_zip hv).1,if_neg hk]
  simp
 |p::P,w::vs,i+1,m,nd,h1,h2,hk=>by
  show bindC kindOf ((p,w)::P.zip vs) m x=_
  unfold bindC
  exact DB (i:=i) (List.nodup_cons.mp nd).2 (by simpa using h1) (by simpa using h2) hk
noncomputable def start(N:List Str)(vs:List V):St:=vs.map some++List.replicate (N.length-vs.length) none
noncomputable def lG(CX:jo)(P:Program)(w:World)(K:PySem.W.Frag)(mg:Str→Option Value)(base:Heap)(N:List Str)(qual:Str)(scope:Scope)(f:Addr)(cd:Value)(A:Around)(outer:List Env)(s:Shared)(H:Hp)(E:XK):Cx where
 prog:=P
 w:=w
 K:=K
 mg:=mg
 base:=base
 A:=A.deeper (envOfC qual scope s.heap.objs.size f cd)
 N:=N
 s₀:=s
 H₀:=H
 env:=envOfC qual scope s.heap.objs.size f cd
 outer:=outer
 stack:=envOfC qual scope s.heap.objs.size f cd::outer
 ex:=[]
 calm:=true
 fn:=fun _=>true
 pn:=[]
 xe:=fun e s'=>wpAny (model P w) (A.deeper (envOfC qual scope s.heap.objs.size f cd)) (leaving (envOfC qual scope s.heap.objs.size f cd) e) (fun _ AZ=>CX outer H s E e AZ) (fun e' AZ=>CX outer H s E e' AZ) s'
theorem D3{sc:Scope}{n:Nat}{x:Str}(h:sc.names.lookup x=some .cell):∃c,(cellsFrom n sc.names []).lookup x=some c:=by
 have q:=PySem.W.cellsFrom_some sc.names n [] (.inl h)
 exact Option.isSome_iff_exists.mp q
theorem Nv{CX:jo}{P:Program}{w:World}{K:PySem.W.Frag}{mg:Str→Option Value}{base:Heap}{N ps:List Str}{qual:Str}{scope:Scope}{f:Addr}{cd:Value}{A:Around}{outer:List Env}{s s1:Shared}{H:Hp}{E:XK}{us:List Value}{vs:List V}
  (S:qJ N ps scope) (hd:A.handled=none) (e0:vU P w K mg base A outer s H) (hl:vs.length=ps.length) (r:Vals vs us)
  (x:InCallC s s.heap.objs.size (bindL (envOfC qual scope s.heap.objs.size f cd).kindOf (ps.zip us) fun _=>none) (cellsFrom (s.heap.objs.size+1) scope.names []) (bindC (envOfC qual scope s.heap.objs.size f cd).kindOf (ps.zip us) fun _=>none) s1) :
  Inv (lG CX P w K mg base N qual scope f cd A outer s H E) [] (start N vs) H s1:=by
 have jZ:ps.length≤N.length:=by have:=congrArg List.length S.pre;rw[List.length_take]at this;omega
 obtain⟨h1,tk,rfl,hk⟩:=x.done
 have su:∀b:Addr,b∉(lG CX P w K mg base N qual scope f cd A outer s H E).ex:=fun b z=>absurd (show b∈([]:List Addr)from z) (by simp)
 refine⟨⟨e0.mod,S.kind,rfl,rfl,bf _,fun y z c h1 h2=>?_,fun y hy=>?_,fun y c _ h=>?_,fun _=>hd,Around.frames_deeper e0.frames,.inr ⟨rfl,rfl⟩,fun b z=>absurd z (su b),e0.bs,e0.kM,fun b _ _=>su b,fun b z=>absurd z (su b),e0.i7,e0.pF⟩,
  rfl,e0.bare,Un.kept hk,⟨_,x.toInCall.ns,fun i y v h1 h2 h3=>?_⟩,fun y c h=>⟨_,x.cell y c h⟩,e0.aG.fresh (bf _),fun y c h=>?_,fun p hp=>absurd (show p∈([]:List (Addr×Obj))from hp) (by simp),e0.aG.kept hk,?_⟩
 ·exact name_of_addr x.apart (PySem.mem_of_lookup h1) (PySem.mem_of_lookup h2)
 ·have hy:scope.names.lookup y=some .cell∨scope.names.lookup y=some .free:=hy
  rcases hy with hy|hy
  ·exact D3 hy
  ·exact absurd rfl (S.Ta _ (PySem.mem_of_lookup hy))
 ·exact Nat.le_of_lt (x.above y c (PySem.mem_of_lookup h))
 ·have hi:i<vs.length:=by
   unfold start at h2
   by_cases hi:i<vs.length
   ·exact hi
   ·rw[List.getElem?_append_right (by simpa using hi)]at h2
    rw[List.getElem?_replicate]at h2
    split at h2<;>cases h2
  have ha:vs[i]?=some v:=by
   unfold start at h2
   rw[List.getElem?_append_left (by simpa using hi),cV]at h2
   cases e:vs[i]? with
   |none=>rw[e]at h2;cases h2
   |some a=>rw[e]at h2;cases h2;rfl
  obtain⟨u,hu,rv⟩:=r.get ha
  have hp:ps[i]?=some y:=by
   rw[←S.pre,List.getElem?_take_of_lt (by omega)];exact h1
  have JA:ps.Nodup:=by rw[←S.pre];exact S.nd.sublist (List.take_sublist _ _)
  refine⟨u,rv,?_⟩
  rcases S.par y (dO hp)with k|k
  ·exact .inl ⟨k,Dz JA hp hu k⟩
  ·obtain⟨c,e⟩:=D3 (n:=s.heap.objs.size+1) k
   refine .inr ⟨.inl k,c,e,?_⟩
   have q:=x.cell y c e
   rw[DB JA hp hu (by show scope.names.lookup y≠_;rw[k];decide)]at q
   exact q
 ·exact e0.aG.fresh (Nat.le_of_lt (x.above y c (PySem.mem_of_lookup h)))
 ·unfold start
  show _=N.length
  rw[List.length_append,List.length_map,List.length_replicate]
  omega
theorem GX{CX:jo}{P:Program}{w:World}{K:PySem.W.Frag}{mg:Str→Option Value}{base:Heap}{k:Nat}{f:Addr}{name qual:Str}{params:Arguments}{body:List Stmt}{scope:Scope}{dV kV doc pm bW ct oc:Value}{an od:Option Addr}
  {jr:Array (Option Value)}{N ps:List Str}{sp:Sp} (lk:K.lookup f=some ⟨oc,od,.func (PySem.W.fnOf name qual params body scope dV kV doc pm an bW ct),jr⟩) (hV:PySem.W.codeIn K bW qual=true) (S:qJ N ps scope)
  (len:∀vs H Q E,sp vs H Q E→vs.length=ps.length)
  (rq:∀(A:Around) (outer:List Env) (s:Shared) (H:Hp) (vs:List V) (Q:VK) (E:XK),eC k (A.deeper (envOfC qual scope s.heap.objs.size f bW))→sp vs H Q E →
   ∃t,gp (lG CX P w K mg base N qual scope f bW A outer s H E) body t∧t { nx:=fun _ H'=>Q .non H',rt:=Q } (start N vs) H) :
  ky P w K mg base CX (k+1) f (PySem.W.fnOf name qual params body scope dV kV doc pm an bW ct) ps sp:=by
 refine⟨len,fun A outer s H args us vs Q E hr e0 hb r j0=>?_⟩
 have hl:=len _ _ _ _ j0
 have KX:K.In s.heap:=e0.mod.AQ.keeps fun b o e=>(e0.bs b o e).1
 have lim:s.heap.NoLimit:=e0.mod.nolimit.keeps fun b o e=>(e0.bs b o e).1
 have VL:∀y∈ps.zip us,scope.names.lookup y.1=some .local∨(scope.names.lookup y.1=some .cell∧((cellsFrom (s.heap.objs.size+1) scope.names []).lookup y.1).isSome=true):=fun⟨n,v⟩ hy=>by
  rcases S.par n (List.of_mem_zip hy).1 with q|q
  ·exact .inl q
  ·exact .inr ⟨q,PySem.W.cellsFrom_some _ _ _ (.inl q)⟩
 refine codeAny_call_function hr.depth (KX _ _ lk) rfl S.co S.gen rfl (PySem.W.codeRec_of KX hV) (hb _ _ _ _ ?_)
 refine wpAny_newFunctionEnv_cells S.kind VL fun env he s1 x=>?_
 subst he
 refine⟨lim.keeps x.toInCall.keep,codeAny_func ?_⟩
 obtain⟨t,ht,hq⟩:=rq A outer s H vs Q E (hr.deeper _) j0
 have I:Inv (lG CX P w K mg base N qual scope f bW A outer s H E) [] (start N vs) H s1:=Nv S hr.hd e0 hl r x
 refine wpAny_mono (ht [] s1 (start N vs) H _ I hq) (fun fl s' hs=>?_) fun e s' hs=>hs
 have fin:∀{σ':St}{H':Hp}{v:V}{u:Value},Inv (lG CX P w K mg base N qual scope f bW A outer s H E) [] σ' H' s'→RelV v u→Q v H'→CE outer P w H s Q u s' :=
  fun {σ' H' v u} J rv q=>⟨v,H',J.os,J.bare,J.base,J.aG,rv,q⟩
 cases fl with
 |ret u =>
  obtain⟨v,σ',H',J,rv,q⟩:=hs
  exact fin J rv q
 |next =>
  obtain⟨σ',H',J,q⟩:=hs
  exact fin (v:=V.non) (u:=Value.none) J rfl q
 |brk =>
  obtain⟨_,_,_,q⟩:=hs
  exact False.elim q
 |cont =>
  obtain⟨_,_,_,q⟩:=hs
  exact False.elim q
section
variable {X:Cx}{x:Str}{p pos:Pos}{e:Expr}{es:List Expr}{t:TA}{id T:String}{r:List V→Hp→VK→Prop}
noncomputable def wu(r:List V→Hp→VK→Prop)(t:TA):TE:=fun σ H Q=>t σ H fun vs H1=>r vs H1 Q
theorem uO (hc:iy X (.builtin id) r) (hg:Gl X x) (hm:X.mg x=none) (hv:bootBuiltins x=some (.builtin id)) (ha:PA X (e::es) t) (hn:x ≠ "__name__" := by decide) (kO:(x==("__debug__" : Str))=false:=by decide)
  (he:starEach (e::es) X.env=(false,eval e X.env)::starEach es X.env:=by rfl) (jZ:(backTo pos (starEach es X.env)).any (·.1)=false:=by rfl):PE X (.Call (.Name x p) (e::es) [] pos) (wu r t):=by
 intro pins s σ H Q I h
 refine wpAny_Call_Name_kw (ll I hg hm hv ?_ hn kO)
 exact PyProof.Rows.callWith_builtin1 (aI (ha pos pins s σ H _ I h) fun us s1 ⟨vs,H1,I1,r1,q1⟩=>hc pins s1 σ H1 vs us Q I1 r1 q1) he jZ
theorem yn (hc:iy X (.type T) r) (hg:Gl X x) (hm:X.mg x=none) (hv:bootBuiltins x=some (.type T)) (ha:PA X (e::es) t) (hn:x ≠ "__name__" := by decide) (kO:(x==("__debug__" : Str))=false:=by decide)
  (he:starEach (e::es) X.env=(false,eval e X.env)::starEach es X.env:=by rfl) (jZ:(backTo pos (starEach es X.env)).any (·.1)=false:=by rfl):PE X (.Call (.Name x p) (e::es) [] pos) (wu r t):=by
 intro pins s σ H Q I h
 refine wpAny_Call_Name_kw (ll I hg hm hv ?_ hn kO)
 exact PyProof.Rows.callWith_type1 (aI (ha pos pins s σ H _ I h) fun us s1 ⟨vs,H1,I1,r1,q1⟩=>hc pins s1 σ H1 vs us Q I1 r1 q1) he jZ
end
end L2
namespace HT
open PySem PyProof.Rows
section
open PySem.SeqAt
open PySem.AutoSeq1 (wpAny_loadPart')
open PySem.MeetsSeq PySem.MeetsSeq2 PySem.MeetsSeq3
end
section
variable {prog:Program}{w:World}{A:Around}{E:Value→Shared→Prop}{s:Shared}
theorem Qp{t b:Addr}{vs ws:List Value}{Q:Value→Shared→Prop}(ht:IsTup s.heap t vs.toArray)(hb:IsTup s.heap b ws.toArray)(hv:vs≠[])
  (h1:ws=[]→Q (.ref t) s) (h2:ws≠[]→Q (.ref s.heap.objs.size) { s with heap:=s.heap.push { cls:=.type "tuple",data:=.seq (vs++ws).toArray } })
  (hsz:vs.length+ws.length≤sizeLine):wpAny (model prog w) A (binaryOp .Add (.ref t) (.ref b)) Q E s:=by
 obtain⟨⟨cls,dd,data,sl⟩,ho,hc,n,hd⟩:=id ht
 obtain⟨⟨XE,wx,data2,pL⟩,iL,gJ,n2,hd2⟩:=id hb
 simp only at hc hd gJ hd2
 subst hc hd gJ hd2
 have e:vs.toArray++ws.toArray=(vs++ws).toArray:=by simp
 by_cases hw:ws=[]
 ·exact concat_meets ⟨_,ho,rfl⟩ ⟨_,iL,rfl⟩ noFill_tuple_add seq_tuple_add PySem.F.slot_tuple_add PySem.F.entry_tuple_add (PySem.F.args_tuple_add_2 _ _)
   (tuple_addW1 t b vs.toArray ws.toArray n n2 dd wx sl pL (by simpa using hv) (by simp[hw])) ⟨ho,iL,h1 hw⟩
 ·refine concat_meets ⟨_,ho,rfl⟩ ⟨_,iL,rfl⟩ noFill_tuple_add seq_tuple_add PySem.F.slot_tuple_add PySem.F.entry_tuple_add (PySem.F.args_tuple_add_2 _ _)
   (tuple_addW2 t b vs.toArray ws.toArray n n2 dd wx sl pL (by simpa using hv) (by simpa using hw) (by rw[List.size_toArray,List.size_toArray];exact hsz)) ⟨ho,iL,?_⟩
  rw[e]
  exact h2 hw
noncomputable def aY(n d:Nat):Option Int→Nat
 |none=>d
 |some v=>if v<0 then (v+(n:Int)).toNat else min v.toNat n
theorem Tb(n d:Nat)(hd:d≤n)(o:Option Int):aY n d o≤n:=by
 cases o with
 |none=>exact hd
 |some v =>
  show(if v<0 then (v+(n:Int)).toNat else min v.toNat n)≤n
  by_cases hv:v<0
  ·rw[if_pos hv];omega
  ·rw[if_neg hv];exact Nat.min_le_right _ _
theorem EF(v:Int)(n d:Nat):(if v<0 then max (v+(n:Int)) 0 else min v (n:Int))=((aY n d (some v):Nat):Int):=by
 show(if v<0 then max (v+(n:Int)) 0 else min v (n:Int))=(((if v<0 then (v+(n:Int)).toNat else min v.toNat n):Nat):Int)
 by_cases hv:v<0
 ·simp only[if_pos hv];omega
 ·simp only[if_neg hv];omega
theorem MT(lo hi:Option Int)(n:Nat):Builtin.Slice.sliceAdjust lo hi 1 (n:Int)=(((aY n 0 lo:Nat):Int),((aY n n hi:Nat):Int)):=by
 have h1:¬((1:Int)<0):=by omega
 unfold Builtin.Slice.sliceAdjust
 simp only[h1,if_false]
 refine Prod.ext ?_ ?_
 ·cases lo with
  |none=>rfl
  |some v=>exact EF v n 0
 ·cases hi with
  |none=>rfl
  |some v=>exact EF v n n
theorem MV(i j:Nat):Builtin.Slice.slicePlaces (i:Int) (j:Int) 1=j-i:=by
 unfold Builtin.Slice.slicePlaces
 have h1:(1:Int)>0:=by omega
 simp only[h1,if_true,Int.ediv_one]
 split<;>omega
theorem C6{v:Value}{o:Option Int}{Q:Option Int→Shared→Prop}(p:IsPart v o)(h:Q o s):wpAny (model prog w) A (Builtin.Slice.slicePartIndex v) Q E s:=by
 cases p with
 |none=>exact slicePart_none h
 |int i t=>exact slicePart_int h
theorem Ci{sl:Addr}{vl vu:Value}{lo hi:Option Int}{n:Nat}{Q:Int×Int×Nat→Shared→Prop}(hs:s.heap.IsSliceOf sl vl vu .none)(pl:IsPart vl lo)(pu:IsPart vu hi)
  (h:Q (((aY n 0 lo:Nat):Int),1,aY n n hi-aY n 0 lo) s):wpAny (model prog w) A (Builtin.Slice.sliceApplied (.ref sl) (pure (n:Int))) Q E s:=by
 obtain⟨os,ny,iM,jt⟩:=id hs
 unfold Builtin.Slice.sliceApplied Builtin.Slice.sliceFields
 refine ao (ao (wpAny_field ny jt (x:=vl) rfl (ao (wpAny_field ny jt (x:=vu) rfl (ao (wpAny_field ny jt (x:=.none) rfl (aC ?_)))))))
 refine ao (slicePart_none ?_)
 show wpAny _ _ (if ((1:Int)==0)=true then _ else _) _ _ s
 rw[if_neg (by decide)]
 refine ao (C6 pl (ao (C6 pu (ao (aC ?_)))))
 show wpAny _ _ (match Builtin.Slice.sliceAdjust lo hi 1 (n:Int)with | (lo,hi)=>pure (lo,(1:Int),Builtin.Slice.slicePlaces lo hi 1)) _ _ s
 rw[MT lo hi n]
 show wpAny _ _ (pure (((aY n 0 lo:Nat):Int),(1:Int),Builtin.Slice.slicePlaces ((aY n 0 lo:Nat):Int) ((aY n n hi:Nat):Int) 1)) _ _ s
 rw[MV]
 exact aC h
theorem Ow(xs:Array Value)(i k:Nat):((List.range k).filterMap fun(m:Nat)=>xs[((i:Int)+(m:Int)*1).toNat]?).toArray=((xs.toList.drop i).take k).toArray:=by
 have e:(fun(m:Nat)=>xs[((i:Int)+(m:Int)*1).toNat]?)=fun m=>xs[i+m]?:=by
  funext m
  have:((i:Int)+(m:Int)*1).toNat=i+m:=by omega
  rw[this]
 rw[e]
 have:=pick_run xs i k
 rw[List.filterMap_map]at this
 have e2:((fun x=>xs[x]?)∘fun x=>i+x)=fun m=>xs[i+m]?:=rfl
 rw[e2]at this
 rw[this]
theorem Mb{t sl:Addr}{items:Array Value}{vl vu:Value}{lo hi:Option Int}{Q:Value→Shared→Prop}(ht:IsTup s.heap t items)(hs:s.heap.IsSliceOf sl vl vu .none)(pl:IsPart vl lo)(pu:IsPart vu hi)
  (hw:¬(aY items.size 0 lo=0∧aY items.size items.size hi=items.size))
  (h:Q (.ref s.heap.objs.size) { s with heap:=s.heap.push { cls:=.type "tuple",data:=.seq ((items.toList.drop (aY items.size 0 lo)).take (aY items.size items.size hi-aY items.size 0 lo)).toArray } })
  (hsz:items.size≤sizeLine):wpAny (model prog w) A (getItem (.ref t) (.ref sl)) Q E s:=by
 have vx:sizeOk (.seq ((items.toList.drop (aY items.size 0 lo)).take (aY items.size items.size hi-aY items.size 0 lo)).toArray):=by
  show((items.toList.drop (aY items.size 0 lo)).take (aY items.size items.size hi-aY items.size 0 lo)).toArray.size≤sizeLine
  rw[List.size_toArray,List.length_take,List.length_drop,Array.length_toList]
  omega
 have hj:aY items.size items.size hi≤items.size:=Tb _ _ (bf _) hi
 obtain⟨os,ny,iM,jt⟩:=id hs
 have A4:s.TypeIs (.ref sl) "slice" := ⟨os,ny,iM⟩
 unfold getItem
 try with_reducible refine wpAny_holding ?_
 first|refine ao (aC ?_)|skip
 refine ao (wpAny_sequenceKey ht.typeIs (by decide) ?_)
 refine ao (wpAny_callSpecial?_slot (name:=Str.ofString "__getitem__") ht.typeIs PyProof.Rows.slot_tuple_getitem
  (wpAny_call_entry PyProof.Rows.slot_tuple_getitem ht.typeIs entry_tuple_getitem ?_ (args_tuple_getitem _ _)))
 show wpAny _ _ (Builtin.Tuple.tupleItemsOf (.ref t) >>= _) _ _ s
 refine ao (tupleItemsOf_ ht ?_)
 refine ao (wpAny_typeOf A4 ?_)
 rw[if_pos (by decide)]
 refine ao (Ci hs pl pu ?_)
 have A5:¬((((aY items.size 0 lo:Nat):Int)==0&&(1:Int)==1&&(aY items.size items.size hi-aY items.size 0 lo)==items.size)=true):=by
  intro q
  rw[Bool.and_eq_true,Bool.and_eq_true]at q
  have q1:((aY items.size 0 lo:Nat):Int)=0:=eq_of_beq q.1.1
  have q2:aY items.size items.size hi-aY items.size 0 lo=items.size:=eq_of_beq q.2
  exact hw ⟨by omega,by omega⟩
 show wpAny _ _ (if (((aY items.size 0 lo:Nat):Int)==0&&(1:Int)==1&&(aY items.size items.size hi-aY items.size 0 lo)==items.size)=true then _ else _) _ _ s
 rw[if_neg A5,Ow]
 first
  |exact ao (m:=Builtin.Tuple.tupleExact _) (wpAny_newObj_type (aC ⟨_,rfl,aC h⟩) vx)
  |exact ao (m:=Builtin.Tuple.tupleExact _) (wpAny_newObj_type (ao (aC (aC ⟨_,rfl,aC h⟩))) vx)
  |exact ao (ao (m:=Builtin.Tuple.tupleExact _) (wpAny_newObj_type (aC (aC ⟨_,rfl,aC h⟩)) vx))
  |exact ao (ao (m:=Builtin.Tuple.tupleExact _) (wpAny_newObj_type (aC ⟨_,rfl,aC h⟩) vx))
end
end HT
namespace L2
open PySem PySem.Spec PyProof.Rows
noncomputable abbrev TO:=St→Hp→(Option Int→Hp→Prop)→Prop
def PO(X:Cx)(e:Option Expr)(t:TO):Prop :=
 ∀(pins:List (Addr×Obj)) (s:Shared) (σ:St) (H:Hp) (Q:Option Int→Hp→Prop),Inv X pins σ H s→t σ H Q →
  wpAny (model X.prog X.w) X.A (evalPart e X.env) (fun u s'=>∃o H',Inv X pins σ H' s'∧IsPart u o∧Q o H') X.xe s
noncomputable def EG:TO:=fun _ H Q=>Q none H
noncomputable def GY(t:TE):TO:=fun σ H Q=>t σ H fun x H1=>∃i,x=.int i∧Q (some i) H1
section
variable {X:Cx}{e:Expr}{te:TE}{lo hi:Option Expr}{tl th:TO}{pos p2:Pos}
theorem Qq:PO X none EG:=by
 intro pins s σ H Q I h
 rw[evalPart_none]
 exact aC ⟨none,H,I,.none,h⟩
theorem Qr(h:PE X e te):PO X (some e) (GY te):=by
 intro pins s σ H Q I hw
 rw[evalPart_some]
 refine aI (h pins s σ H _ I hw) fun u s1 ⟨x,H1,I1,r1,q1⟩=>?_
 obtain⟨i,rfl,q⟩:=q1
 obtain⟨t,rfl⟩:=r1
 exact⟨some i,H1,I1,.int i t,q⟩
def kQ(X:Cx)(r:V→Option Int→Option Int→Hp→VK→Prop):Prop :=
 ∀(pins:List (Addr×Obj)) (s:Shared) (σ:St) (H:Hp) (x:V) (v vl vu:Value) (lo hi:Option Int) (sl:Addr) (Q:VK),Inv X pins σ H s→RelV x v→s.heap.IsSliceOf sl vl vu .none→IsPart vl lo→IsPart vu hi→r x lo hi H Q →
  ∃T id,typeLookup (.type T) "__getitem__" = pure (some (.builtin id))∧s.TypeIs v T∧wpAny (model X.prog X.w) X.A (getItem v (.ref sl)) (EP X pins σ Q) X.xe s
noncomputable def JB(r:V→Option Int→Option Int→Hp→VK→Prop)(te:TE)(tl th:TO):TE:=fun σ H Q=>te σ H fun x H1=>tl σ H1 fun l H2=>th σ H2 fun u H3=>r x l u H3 Q
theorem Ox{r:V→Option Int→Option Int→Hp→VK→Prop}(hr:kQ X r)(he:PE X e te)(hl:PO X lo tl)(hu:PO X hi th):PE X (.Subscript e (.Slice lo hi none p2) pos) (JB r te tl th):=by
 intro pins s σ H Q I h
 refine Subscript_ (aI (he pins s σ H _ I h) fun v s1 ⟨x,H1,I1,r1,q1⟩=>?_)
 refine wpAny_Slice (aI (hl pins s1 σ H1 _ I1 q1) fun vl s2 ⟨l,H2,I2,pl,q2⟩=>aI (hu pins s2 σ H2 _ I2 q2) fun vu s3 ⟨u,H3,I3,pu,q3⟩=>?_)
 rw[evalPart_none]
 refine aC ?_
 have I4:Inv X pins σ H3 { s3 with heap:=s3.heap.push { cls:=.type "slice",data:=.fields #[vl,vu,.none] } }:=I3.kept (t':=s3.toks) fun b ob q=>dz _ q
 obtain⟨T,id,hT,ht,hg⟩:=hr pins { s3 with heap:=s3.heap.push { cls:=.type "slice",data:=.fields #[vl,vu,.none] } } σ H3 x v vl vu l u s3.heap.objs.size Q I4 r1 (Heap.IsSliceOf.new ..) pl pu q3
 show wpAny (model X.prog X.w) X.A (subscriptTail e (.Slice lo hi none p2) v (.ref s3.heap.objs.size)) (EP X pins σ Q) X.xe { s3 with heap:=s3.heap.push { cls:=.type "slice",data:=.fields #[vl,vu,.none] } }
 exact tail_any (ops:=[.ref s3.heap.objs.size,v]) ht hT hg (by with_unfolding_all rfl)
noncomputable def jc(xs:List V)(lo hi:Option Int):List V:=(xs.drop (HT.aY xs.length 0 lo)).take (HT.aY xs.length xs.length hi-HT.aY xs.length 0 lo)
theorem CQ(xs:List V)(lo hi:Option Int):(jc xs lo hi).length≤xs.length:=by
 unfold jc
 rw[List.length_take,List.length_drop]
 omega
def XF(K:PySem.W.Frag):V→Option Int→Option Int→Hp→VK→Prop:=fun x lo hi H Q=>∃a xs,x=.ref a∧bJ K H a xs ∧
 ¬(HT.aY xs.length 0 lo=0∧HT.aY xs.length xs.length hi=xs.length)∧∀p,H p=none→Q (.ref p) (upd H p (.tup (jc xs lo hi)))
theorem Tc:kQ X (XF X.K):=by
 intro pins s σ H x v vl vu lo hi sl Q I rx hs pl pu h
 obtain⟨a,xs,rfl,hx,hw,q⟩:=h
 cases rx
 obtain⟨its,r,ht,hz⟩:=I.tuple hx
 have hlen:its.toArray.size=xs.length:=by rw[List.size_toArray];exact r.length.symm
 refine⟨"tuple",_,PyProof.Rows.slot_tuple_getitem.lookup,ht.typeIs,?_⟩
 refine HT.Mb ht hs pl pu (by rw[hlen];exact hw) ?_ (by rw[hlen];exact hz)
 rw[hlen]
 refine⟨.ref s.heap.objs.size,_,I.laid (t':=s.toks) (o:=.tup (jc xs lo hi)) (fun b ob q=>dz _ q) (bf _) ?_,rfl,q _ (I.aG.fresh (bf _))⟩
 exact⟨Nat.le_trans (CQ xs lo hi) hz,_,(r.drop (HT.aY xs.length 0 lo)).take (HT.aY xs.length xs.length hi-HT.aY xs.length 0 lo),IsTup.new _ _⟩
noncomputable def VM(K:PySem.W.Frag):R2:=fun x y H Q=>∃a b xs ys,x=.ref a∧y=.ref b∧bJ K H a xs∧bJ K H b ys∧xs≠[]∧xs.length+ys.length≤sizeLine ∧
 (ys=[]→Q (.ref a) H)∧(ys≠[]→∀p,H p=none→Q (.ref p) (upd H p (.tup (xs++ys))))
theorem Vals.yJ{xs:List V}{us:List Value}(r:Vals xs us):us=[]↔xs=[]:=by
 cases r with
 |nil=>simp
 |cons _ _=>simp
theorem Qs:bD X (binaryOp .Add) (VM X.K):=by
 intro pins s σ H x y v u Q I rx ry h
 obtain⟨a,b,xs,ys,rfl,rfl,ha,hb,hx,hz,q1,q2⟩:=h
 cases rx
 cases ry
 obtain⟨its,r1,p1,_⟩:=I.tuple ha
 obtain⟨rK,r2,p2,_⟩:=I.tuple hb
 refine HT.Qp p1 p2 (fun z=>hx (r1.yJ.mp z)) (fun z=>⟨.ref a,H,I,rfl,q1 (r2.yJ.mp z)⟩) (fun z=>?_) (by rw[←r1.length,←r2.length];exact hz)
 refine⟨.ref s.heap.objs.size,_,I.laid (t':=s.toks) (o:=.tup (xs++ys)) (fun b ob q=>dz _ q) (bf _) ?_,rfl,q2 (fun w=>z (r2.yJ.mpr w)) _ (I.aG.fresh (bf _))⟩
 exact⟨by rw[List.length_append];exact hz,_,r1.append r2,IsTup.new _ _⟩
end
noncomputable def dW(n:Nat)(i:Int):Option Nat:=if 0≤i then (if i<n then some i.toNat else none)else if -(n:Int)≤i then some (i+n).toNat else none
noncomputable def bE{α:Type}(xs:List α)(i:Int):Option α:=(dW xs.length i).bind fun j=>xs[j]?
theorem EH{n:Nat}{i:Int}{j:Nat}(h:dW n i=some j):seqIndex? i n=some j∧j<n∧-(n:Int)≤i∧i<n:=by
 unfold dW at h
 by_cases h0:0≤i
 ·rw[if_pos h0]at h
  by_cases h1:i<n
  ·rw[if_pos h1]at h
   have e:i.toNat=j:=Option.some.inj h
   exact⟨by rw[seqIndex_of h0 h1,e],by omega,by omega,h1⟩
  ·rw[if_neg h1]at h;cases h
 ·rw[if_neg h0]at h
  by_cases h1:-(n:Int)≤i
  ·rw[if_pos h1]at h
   have e:(i+n).toNat=j:=Option.some.inj h
   exact⟨by rw[seqIndex_neg (by omega) h1,e],by omega,h1,by omega⟩
  ·rw[if_neg h1]at h;cases h
theorem ig{α:Type}{xs:List α}{i:Int}{v:α}(h:bE xs i=some v):∃j,seqIndex? i xs.length=some j∧xs[j]?=some v∧j<xs.length∧-(xs.length:Int)≤i∧i<xs.length:=by
 unfold bE at h
 cases e:dW xs.length i with
 |none=>rw[e]at h;cases h
 |some j =>
  rw[e]at h
  obtain⟨h1,h2,h3,h4⟩:=EH e
  exact⟨j,h1,h,h2,h3,h4⟩
theorem mD{α:Type}{xs:List α}{j:Nat}{v:α}(h:xs[j]?=some v):bE xs (j:Int)=some v:=by
 have hj:j<xs.length:=(bB.mp h).1
 have e:dW xs.length (j:Int)=some j:=by
  unfold dW
  rw[if_pos (by omega),if_pos (by omega)];simp
 unfold bE;rw[e];exact h
def EI(b:Expr):Prop:=∀o i,subscripted b false o i=operate [o,i] (getItem o i)
def j3(X:Cx)(r:R2):Prop :=
 ∀(value slice:Expr) (pins:List (Addr×Obj)) (s:Shared) (σ:St) (H:Hp) (x y:V) (v u:Value) (Q:VK),Inv X pins σ H s→RelV x v→RelV y u→r x y H Q →
  subscripted slice false v u=operate [v,u] (getItem v u)→wpAny (model X.prog X.w) X.A (subscriptTail value slice v u) (EP X pins σ Q) X.xe s
def wy(X:Cx)(id:String)(r:V→List V→Hp→VK→Prop):Prop :=
 ∀(pins:List (Addr×Obj)) (s:Shared) (σ:St) (H:Hp) (x:V) (xs:List V) (v:Value) (us:List Value) (Q:VK),Inv X pins σ H s→RelV x v→Vals xs us→r x xs H Q →
  wpAny (model X.prog X.w) X.A (call (.builtin id) (v::us)) (EP X pins σ Q) X.xe s
section
variable {X:Cx}{a b:Expr}{ta tb:TE}{pos:Pos}
theorem j3.or{r r':R2}(h:j3 X r)(h':j3 X r'):j3 X (fun x y H Q=>r x y H Q∨r' x y H Q):=by
 intro value slice pins s σ H x y v u Q I rx ry q hs
 rcases q with q|q
 ·exact h value slice pins s σ H x y v u Q I rx ry q hs
 ·exact h' value slice pins s σ H x y v u Q I rx ry q hs
theorem GZ{r:R2}(hr:j3 X r)(ha:PE X a ta)(hb:PE X b tb)(hs:EI b):PE X (.Subscript a b pos) (pI r ta tb):=by
 intro pins s σ H Q I h
 exact Subscript_ (zZ ha hb I h fun v u s2 x y H2 I2 rx ry q=>hr a b pins s2 σ H2 x y v u Q I2 rx ry q (hs _ _))
noncomputable def HQ(K:PySem.W.Frag):R2:=fun x y H Q=>∃p xs i v,x=.ref p∧y=.int i∧bV K H p xs∧bE xs i=some v∧Q v H
noncomputable def HR(K:PySem.W.Frag):R2:=fun x y H Q=>∃p xs i v,x=.ref p∧y=.int i∧bJ K H p xs∧bE xs i=some v∧Q v H
noncomputable def HS:R2:=fun x y H Q=>∃z i c,x=.str z∧y=.int i∧z.length≤sizeLine∧bE z.cps.toList i=some c∧Q (.str ⟨#[c]⟩) H
theorem Qt:j3 X (HQ X.K):=by
 intro value slice pins s σ H x y v u Q I rx ry h hs
 obtain⟨p,xs,i,z,rfl,rfl,hq,he,q⟩:=h
 cases rx
 obtain⟨t,rfl⟩:=ry
 obtain⟨its,r,pl,hz⟩:=I.list hq
 obtain⟨j,h1,h2,h3,h4,h5⟩:=ig he
 obtain⟨w,ew,jv⟩:=r.get h2
 have hl:=r.length
 have hn:=oD
 have fin:EP X pins σ Q w s:=⟨z,H,I,jv,q⟩
 by_cases h0:0≤i
 ·have hj:i.toNat=j:=by
   rw[seqIndex_of h0 h5]at h1
   exact Option.some.inj h1
  exact item_listR pl.isList h0 (by omega) (by rw[hj];simpa using ew) fin hs
 ·have hj:(i+(its.toArray.size:Int)).toNat=j:=by
   rw[seqIndex_neg (by omega) h4]at h1
   rw[List.size_toArray,←hl]
   exact Option.some.inj h1
  exact subscriptTail_builtinR (x:=w) pl.isList.typeIs slot_list_getitem.lookup
   (wpAny_getItem_list_neg (Q:=fun r s'=>r=w∧EP X pins σ Q r s') pl.isList (by omega) (by rw[List.size_toArray]<;>omega) (by omega) (by rw[hj];simpa using ew) ⟨rfl,fin⟩) hs
theorem Td:j3 X (HR X.K):=by
 intro value slice pins s σ H x y v u Q I rx ry h hs
 obtain⟨p,xs,i,z,rfl,rfl,hq,he,q⟩:=h
 cases rx
 obtain⟨t,rfl⟩:=ry
 obtain⟨its,r,pl,hz⟩:=I.tuple hq
 obtain⟨j,h1,h2,h3,h4,h5⟩:=ig he
 obtain⟨w,ew,jv⟩:=r.get h2
 have hl:=r.length
 have hn:=oD
 have fin:EP X pins σ Q w s:=⟨z,H,I,jv,q⟩
 exact subscriptTail_builtinR (x:=w) pl.typeIs slot_tuple_getitem.lookup
  (getItem_tuple (j:=j) (Q:=fun r s'=>r=w∧EP X pins σ Q r s') pl (by omega) (by omega) (by rw[List.size_toArray,←hl];exact h1) (by simpa using ew) ⟨rfl,fin⟩) hs
theorem Te:j3 X HS:=by
 intro value slice pins s σ H x y v u Q I rx ry h hs
 obtain⟨z,i,c,rfl,rfl,hz,he,q⟩:=h
 obtain⟨t,rfl⟩:=rx
 obtain⟨t',rfl⟩:=ry
 obtain⟨j,h1,h2,h3,h4,h5⟩:=ig he
 have hl:z.cps.toList.length=z.length:=by simp[Str.length]
 rw[hl]at h1 h4 h5
 have hn:=oD
 exact tail_any (typeIs_str s z t) slot_str_getitem.lookup (getItem_str (c:=c) (by
  have e1:decide (i < -(2^63:Int))=false:=decide_eq_false (by omega)
  have e2:decide (i≥2^63)=false:=decide_eq_false (by omega)
  rw[e1,e2,Bool.or_false]) (by rw[h1];simpa using h2) ⟨.str ⟨#[c]⟩,H,I.tok _,⟨_,rfl⟩,q⟩) hs
noncomputable def wz(K:PySem.W.Frag):R2:=fun x y H Q=>HQ K x y H Q∨HR K x y H Q∨HS x y H Q
theorem Tf:j3 X (wz X.K):=Qt.or (Td.or Te)
theorem MX(its:List Value)(n j:Nat)(u:Value):Obj.mapSeq (·.setIfInBounds j u) { cls:=.type "list",data:=.seq its.toArray n }={ cls:=.type "list",data:=.seq (its.set j u).toArray n }:=by
 simp[Obj.mapSeq]
theorem Inv.lst{pins:List (Addr×Obj)}{σ:St}{H:Hp}{s:Shared}{p:Addr}{xs:List V}(I:Inv X pins σ H s)(h:H p=some (.lst xs)) :
  ∃(its:List Value) (n:Nat),Vals xs its∧s.heap.get? p=some { cls:=.type "list",data:=.seq its.toArray n }∧xs.length≤sizeLine:=by
 obtain⟨z,its,n,r,e⟩:=I.aG p _ h
 exact⟨its,n,r,e,z⟩
theorem Inv.Ti{pins:List (Addr×Obj)}{σ:St}{H:Hp}{s:Shared}{p:Addr}{xs ys:List V}{its its':List Value}{n n':Nat}{f:Obj→Obj}(I:Inv X pins σ H s)(h:H p=some (.lst xs))
  (ho:s.heap.get? p=some { cls:=.type "list",data:=.seq its.toArray n }) (hf:f { cls:=.type "list",data:=.seq its.toArray n }={ cls:=.type "list",data:=.seq its'.toArray n' }) (r:Vals ys its') (hz:ys.length≤sizeLine) (t:Nat) :
  Inv X pins σ (upd H p (.lst ys)) { s with heap:=s.heap.update p f,toks:=t }:=by
 have e:(s.heap.update p f).get? p=some { cls:=.type "list",data:=.seq its'.toArray n' }:=by
  rw[Heap.get?_update_self f ho (by rw[hf]<;>rfl),hf]
 refine I.write (x:=p) (e:=p) (by rw[h];trivial) (.inl rfl) (fun b u hb q=>(Heap.get?_update_other _ _ (Ne.symm hb)).trans q) ⟨_,e⟩ ?_
 exact⟨hz,its',n',r,e⟩
def G0:V→V→V→Hp→(Hp→Prop)→Prop:=fun o i v H Q=>∃p xs k j,o=.ref p∧i=.int k∧H p=some (.lst xs)∧dW xs.length k=some j∧Q (upd H p (.lst (xs.set j v)))
theorem set_list:HJ X G0:=by
 intro pins s σ H o i v ov iv u Q I ro ri rv h
 obtain⟨p,xs,k,j,rfl,rfl,hp,hj,q⟩:=h
 cases ro
 obtain⟨t,rfl⟩:=ri
 obtain⟨its,n,r,ho,hz⟩:=I.lst hp
 obtain⟨h1,h2,h3,h4⟩:=EH hj
 have hl:=r.length
 have hn:=oD
 have I':Inv X pins σ (upd H p (.lst (xs.set j v))) { s with heap:=s.heap.update p (Obj.mapSeq (·.setIfInBounds j u)) } :=
  I.Ti hp ho (MX its n j u) (r.set rv j) (by rw[List.length_set];exact hz) s.toks
 by_cases h0:0≤k
 ·have hk:k.toNat=j:=by
   rw[seqIndex_of h0 h4]at h1
   exact Option.some.inj h1
  exact PySem.W.ki_setAt ho h0 (by omega) (by rw[List.size_toArray,←hl];exact h4) (by rw[hk];exact⟨_,I',q⟩)
 ·have hk:(k+(its.toArray.size:Int)).toNat=j:=by
   rw[seqIndex_neg (by omega) h3]at h1
   rw[List.size_toArray,←hl]
   exact Option.some.inj h1
  exact PySem.W.ki_setBack ho (by omega) (by rw[List.size_toArray,←hl];exact h3) (by omega) (by rw[hk];exact⟨_,I',q⟩)
theorem Ml(lo hi:Option Int)(n:Nat):(sliceBounds lo hi none n).1=((HT.aY n 0 lo:Nat):Int)∧(sliceBounds lo hi none n).2.1=((HT.aY n n hi:Nat):Int)∧(sliceBounds lo hi none n).2.2=1:=by
 refine⟨?_,?_,rfl⟩
 ·cases lo with
  |none=>simp[sliceBounds,HT.aY]
  |some i =>
   simp only[sliceBounds,HT.aY,Option.getD_none,show(1:Int)>0 by decide,if_true]
   by_cases h:i<0
   ·simp only[h,if_true]<;>omega
   ·simp only[h,if_false]<;>omega
 ·cases hi with
  |none=>simp[sliceBounds,HT.aY]
  |some i =>
   simp only[sliceBounds,HT.aY,Option.getD_none,show(1:Int)>0 by decide,if_true]
   by_cases h:i<0
   ·simp only[h,if_true]<;>omega
   ·simp only[h,if_false]<;>omega
theorem Mh(its:List Value)(lo hi:Option Int):slicePick its.toArray lo hi none=((its.drop (HT.aY its.length 0 lo)).take (HT.aY its.length its.length hi-HT.aY its.length 0 lo)).toArray:=by
 obtain⟨h1,h2,h3⟩:=Ml lo hi its.toArray.size
 unfold slicePick
 rw[h1,h2,h3]
 simp only[sliceRange_one,pick_run,List.size_toArray]<;>rfl
def z7(K:PySem.W.Frag):V→Option Int→Option Int→Hp→VK→Prop:=fun x lo hi H Q=>∃a xs,x=.ref a∧bV K H a xs∧∀p,H p=none→Q (.ref p) (upd H p (.lst (jc xs lo hi)))
theorem Qu:kQ X (z7 X.K):=by
 intro pins s σ H x v vl vu lo hi sl Q I rx hs pl pu h
 obtain⟨a,xs,rfl,hx,q⟩:=h
 cases rx
 obtain⟨its,r,ht,hz⟩:=I.list hx
 have hlen:=r.length
 refine⟨"list",_,slot_list_getitem.lookup,ht.isList.typeIs,?_⟩
 refine wpAny_getItem_list_slice ht.isList hs pl pu .none (by simp) ?_ (by rw[List.size_toArray]<;>omega)
 rw[Mh,←hlen]
 refine⟨.ref s.heap.objs.size,_,I.laid (t':=s.toks) (o:=.lst (jc xs lo hi)) (fun b ob q=>dz _ q) (bf _) ?_,rfl,q _ (I.aG.fresh (bf _))⟩
 exact⟨Nat.le_trans (CQ xs lo hi) hz,_,0,(r.drop (HT.aY xs.length 0 lo)).take (HT.aY xs.length xs.length hi-HT.aY xs.length 0 lo),fL _ rfl⟩
noncomputable def jL:V→Bool
 |.non=>true
 |.bl _=>true
 |.int _=>true
 |.str _=>true
 |_=>false
noncomputable def kR:V→V→Bool
 |.non,.non=>true
 |.bl a,.bl b=>a==b
 |.bl a,.int b=>(if a then 1 else 0)==b
 |.int a,.bl b=>a==(if b then 1 else 0)
 |.int a,.int b=>a==b
 |.str a,.str b=>a==b
 |_,_=>false
theorem Tj{A:Around}{s:Shared}{y x:V}{u v:Value}(ry:RelV y u)(rx:RelV x v)(fy:jL y=true)(fx:jL x=true):SeqAt.EqAt A s u v (kR y x):=by
 cases y with
 |non =>
  cases ry
  cases x with
  |non=>cases rx;exact SeqAt.EqAt.same _
  |bl b=>cases rx;exact SeqAt.EqAt.none_bool b
  |int b=>obtain⟨t,rfl⟩:=rx;exact SeqAt.EqAt.none_int b t
  |str b=>obtain⟨t,rfl⟩:=rx;exact SeqAt.EqAt.none_str b t
  |_=>exact absurd (show false=true from fx) aX
 |bl a =>
  cases ry
  cases x with
  |non=>cases rx;exact SeqAt.EqAt.bool_none a
  |bl b=>cases rx;exact SeqAt.EqAt.bool_bool a b
  |int b=>obtain⟨t,rfl⟩:=rx;exact SeqAt.EqAt.bool_int a b t
  |str b=>obtain⟨t,rfl⟩:=rx;exact SeqAt.EqAt.bool_str a b t
  |_=>exact absurd (show false=true from fx) aX
 |int a =>
  obtain⟨t',rfl⟩:=ry
  cases x with
  |non=>cases rx;exact SeqAt.EqAt.int_none a t'
  |bl b=>cases rx;exact SeqAt.EqAt.int_bool a t' b
  |int b=>obtain⟨t,rfl⟩:=rx;exact SeqAt.EqAt.int_int a t' b t
  |str b=>obtain⟨t,rfl⟩:=rx;exact SeqAt.EqAt.int_str a t' b t
  |_=>exact absurd (show false=true from fx) aX
 |str a =>
  obtain⟨t',rfl⟩:=ry
  cases x with
  |non=>cases rx;exact SeqAt.EqAt.str_none a t'
  |bl b=>cases rx;exact SeqAt.EqAt.str_bool a t' b
  |int b=>obtain⟨t,rfl⟩:=rx;exact SeqAt.EqAt.str_int a t' b t
  |str b=>obtain⟨t,rfl⟩:=rx;exact SeqAt.EqAt.str_str a t' b t
  |_=>exact absurd (show false=true from fx) aX
 |_=>exact absurd (show false=true from fy) aX
noncomputable def gq(x:V)(u:Value):Bool:=match u with
 |.none=>kR .non x
 |.bool b=>kR (.bl b) x
 |.int i _=>kR (.int i) x
 |.str z _=>kR (.str z) x
 |_=>false
theorem FU{x y:V}{u:Value}(r:RelV y u)(f:jL y=true):gq x u=kR y x:=by
 cases y with
 |non=>cases r;rfl
 |bl b=>cases r;rfl
 |int i=>obtain⟨t,rfl⟩:=r;rfl
 |str z=>obtain⟨t,rfl⟩:=r;rfl
 |_=>exact absurd (show false=true from f) aX
theorem qK{x:V}:∀{xs:List V}{us:List Value},Vals xs us→xs.all jL=true→us.any (gq x)=xs.any fun y=>kR y x
 |_,_,.nil,_=>rfl
 |y::xs,u::us,.cons r t,f=>by
  rw[List.all_cons,Bool.and_eq_true]at f
  rw[List.any_cons,List.any_cons,FU r f.1,qK t f.2]
theorem qD{A:Around}{s:Shared}{x:V}{v:Value}(rx:RelV x v)(fx:jL x=true):∀{xs:List V}{us:List Value},Vals xs us→xs.all jL=true→∀u∈us,SeqAt.EqAt A s u v (gq x u)
 |_,_,.nil,_=>fun u hu=>by cases hu
 |y::xs,u::us,.cons r t,f=>fun u' hu=>by
  rw[List.all_cons,Bool.and_eq_true]at f
  rcases List.mem_cons.mp hu with rfl|hu
  ·rw[FU r f.1];exact Tj r rx f.1 fx
  ·exact qD rx fx t f.2 u' hu
noncomputable def fh(x:V)(xs:List V):Bool:=xs.any fun y=>kR y x
noncomputable def sv(K:PySem.W.Frag)(neg:Bool):R2:=fun x y H Q=>∃p xs,y=.ref p∧(bV K H p xs∨bJ K H p xs)∧jL x=true∧xs.all jL=true∧Q (.bl (if neg then !fh x xs else fh x xs)) H
theorem Nw:bD X (compareOp .In) (sv X.K false):=by
 intro pins s σ H x y v u Q I rx ry h
 obtain⟨p,xs,rfl,hq,fx,fs,q⟩:=h
 cases ry
 rcases hq with hq|hq
 ·obtain⟨its,r,pl,hz⟩:=I.list hq
  refine SeqAt.in_listAt (gq x) pl.isList (fun w hw=>qD rx fx r fs w (by simpa using hw)) ⟨.bl _,H,I,rfl,?_⟩
  rw[show its.toArray.any (gq x)=its.any (gq x) by simp,qK r fs]
  exact q
 ·obtain⟨its,r,pl,hz⟩:=I.tuple hq
  refine SeqAt.in_tupleAt (gq x) pl (fun w hw=>qD rx fx r fs w (by simpa using hw)) ⟨.bl _,H,I,rfl,?_⟩
  rw[show its.toArray.any (gq x)=its.any (gq x) by simp,qK r fs]
  exact q
theorem Mm:bD X (compareOp .NotIn) (sv X.K true):=by
 intro pins s σ H x y v u Q I rx ry h
 obtain⟨p,xs,rfl,hq,fx,fs,q⟩:=h
 cases ry
 rcases hq with hq|hq
 ·obtain⟨its,r,pl,hz⟩:=I.list hq
  refine SeqAt.notIn_listAt (gq x) pl.isList (fun w hw=>qD rx fx r fs w (by simpa using hw)) ⟨.bl _,H,I,rfl,?_⟩
  rw[show its.toArray.any (gq x)=its.any (gq x) by simp,qK r fs]
  exact q
 ·obtain⟨its,r,pl,hz⟩:=I.tuple hq
  refine SeqAt.notIn_tupleAt (gq x) pl (fun w hw=>qD rx fx r fs w (by simpa using hw)) ⟨.bl _,H,I,rfl,?_⟩
  rw[show its.toArray.any (gq x)=its.any (gq x) by simp,qK r fs]
  exact q
theorem Mp:iy X (.type "list") (fun xs H Q=>∃p ys,xs=[.ref p]∧(bV X.K H p ys∨bJ X.K H p ys)∧∀l,H l=none→Q (.ref l) (upd H l (.lst ys))):=by
 intro pins s σ H xs us Q I r h
 obtain⟨p,ys,rfl,hq,q⟩:=h
 obtain⟨u,rfl,rx⟩:=vals1 r
 cases rx
 have fin:∀(its:List Value),Vals ys its→ys.length≤sizeLine→∀(h':Heap) (c':Nat),(∀b o',s.heap.get? b=some o'→h'.get? b=some o') →
   h'.get? s.heap.objs.size=some { cls:=.type "list",dict:=none,data:=.seq its.toArray c',slots:=#[] }→EP X pins σ Q (.ref s.heap.objs.size) { s with heap:=h' }:=fun its r' hz h' c' kp e =>
  ⟨.ref s.heap.objs.size,_,I.laid (t':=s.toks) kp (bf _) (show cE X.prog X.w _ h' _ (.lst ys) from⟨hz,its,c',r',e⟩),rfl,q _ (I.aG.fresh (bf _))⟩
 rcases hq with hq|hq
 ·obtain⟨its,r',pl,hz⟩:=I.list hq
  have hlen:=r'.length
  obtain⟨o,ho,hc,n,hd⟩:=pl.isList
  exact call_list_seq p (.inl rfl) ho hc hd (fun h' c' kp e=>fin its r' hz h' c' kp e) (by simp only[List.size_toArray]<;>omega)
 ·obtain⟨its,r',pl,hz⟩:=I.tuple hq
  have hlen:=r'.length
  obtain⟨o,ho,hc,n,hd⟩:=pl
  exact call_list_seq p (.inr rfl) ho hc hd (fun h' c' kp e=>fin its r' hz h' c' kp e) (by simp only[List.size_toArray]<;>omega)
def A6(K:PySem.W.Frag)(T:String)(x:V)(H:Hp):Prop:=match x with
 |.str _=>T = "str"
 |.int _=>T = "int"
 |.ref p=>(T = "list" ∧ ∃xs,bV K H p xs)∨(T = "tuple" ∧ ∃o,K.lookup p=some o∧o.cls=.type "tuple" ∧ o.dict=none) ∨
  (T = "dict" ∧ ((∃ai,H p=some (.dK ai))∨∃ai,H p=some (.dT ai)))∨(T = "set" ∧ ∃S n,H p=some (.set S n))
 |_=>False
theorem FV{pins:List (Addr×Obj)}{σ:St}{H:Hp}{s:Shared}{T:String}{x:V}{v:Value}(I:Inv X pins σ H s)(r:RelV x v)(ty:A6 X.K T x H) :
  s.TypeIs v T∧∀a,v=.ref a→∃ob,s.heap.get? a=some ob∧ob.dict=none:=by
 cases x with
 |str z =>
  obtain⟨t,rfl⟩:=r
  cases (show T = "str" from ty)
  exact⟨typeIs_str s z t,fun _ e=>nomatch e⟩
 |int i =>
  obtain⟨t,rfl⟩:=r
  cases (show T = "int" from ty)
  exact⟨typeIs_int s i t,fun _ e=>nomatch e⟩
 |ref p =>
  cases r
  rcases ty with⟨rfl,xs,hq⟩|⟨rfl,o,hk,hc,hd⟩|⟨rfl,hk⟩|⟨rfl,S,n,hk⟩
  ·obtain⟨its,_,pl,_⟩:=I.list hq
   refine⟨pl.isList.typeIs,fun a e=>?_⟩
   cases e
   obtain⟨o,n,e,c,hd,_⟩:=pl
   exact⟨o,e,hd⟩
  ·refine⟨⟨o,I.gG p o hk,hc⟩,fun a e=>?_⟩
   cases e
   exact⟨o,I.gG _ o hk,hd⟩
  ·have z:∃o,s.heap.get? p=some o∧o.ExactDict:=by
    rcases hk with⟨ai,hk⟩|⟨ai,hk⟩
    ·obtain⟨_,_,_,_,o,_,_,e,ex,_⟩:=I.aG p _ hk
     exact⟨o,e,ex⟩
    ·obtain⟨_,_,_,_,o,_,_,e,ex,_⟩:=I.aG p _ hk
     exact⟨o,e,ex⟩
   obtain⟨o,e,ex⟩:=z
   refine⟨⟨o,e,ex.1⟩,fun a e2=>?_⟩
   cases e2
   exact⟨o,e,ex.2.1⟩
  ·obtain⟨o,_,_,_,e,ex,_⟩:=I.aG p _ hk
   refine⟨⟨o,e,ex.1⟩,fun a e2=>?_⟩
   cases e2
   exact⟨o,e,ex.2.1⟩
 |_=>exact False.elim ty
noncomputable def rL(K:PySem.W.Frag)(T:String)(r:V→List V→Hp→VK→Prop)(to:TE):TE:=fun σ H Q=>to σ H fun x H1=>A6 K T x H1∧r x [] H1 Q
noncomputable def wA(K:PySem.W.Frag)(T:String)(r:V→List V→Hp→VK→Prop)(to:TE)(t:TA):TE:=fun σ H Q=>to σ H fun x H1=>A6 K T x H1∧t σ H1 fun xs H2=>r x xs H2 Q
variable {o e:Expr}{es:List Expr}{to:TE}{t:TA}{name:Str}{apos cM:Pos}{T id:String}{r:V→List V→Hp→VK→Prop}
theorem FW (pa:PlainAttrs T) (slot:Slot T name id) (gK:typeOf (.builtin id)=pure (.type "method_descriptor")) (hm:wy X id r) (ho:PE X o to)
  (rA:attributeBase o name X.env (eval o X.env)=eval o X.env:=by rfl) (hline:(apos.endLine==cM.line)=true:=by rfl):PE X (.Call (.Attribute o name apos) [] [] cM) (rL X.K T r to):=by
 intro pins s σ H Q I h
 refine wpAny_Call_method0_late rA hline (aI (ho pins s σ H _ I h) fun v s1 ⟨x,H1,I1,r1,ty,q1⟩=>?_)
 obtain⟨h1,h2⟩:=FV I1 r1 ty
 exact⟨T,id,pa,slot,gK,h1,h2,Calls.callWith_builtin rfl (PySem.evalArgs_none (hm pins s1 σ H1 x [] v [] Q I1 r1 .nil q1))⟩
theorem VN (pa:PlainAttrs T) (slot:Slot T name id) (gK:typeOf (.builtin id)=pure (.type "method_descriptor")) (hm:wy X id r) (ho:PE X o to) (ha:PA X (e::es) t)
  (rA:attributeBase o name X.env (eval o X.env)=eval o X.env:=by rfl)
  (XG:((backTo cM (starEach (e::es) X.env)).all (fun x=>!x.1)&&(backToKw cM (keywordEach [] X.env)).all (fun x=>x.1.isSome)
   && decide ((e::es).length+([]:List Keyword).length+(if ([]:List Keyword).isEmpty then 0 else 1)<30))=true:=by rfl)
  (hline:(apos.endLine==cM.line)=true:=by rfl) (hs:starEach (e::es) X.env=(false,eval e X.env)::starEach es X.env:=by rfl) (Tn:(backTo cM (starEach es X.env)).any (·.1)=false:=by rfl) :
  PE X (.Call (.Attribute o name apos) (e::es) [] cM) (wA X.K T r to t):=by
 intro pins s σ H Q I h
 refine wpAny_Call_method_late rA XG hline rfl (aI (ho pins s σ H _ I h) fun v s1 ⟨x,H1,I1,r1,ty,q1⟩=>?_)
 obtain⟨h1,h2⟩:=FV I1 r1 ty
 refine⟨T,id,pa,slot,gK,h1,h2,?_⟩
 have hA:=ha cM pins s1 σ H1 _ I1 q1
 rw[hs]at hA ⊢
 refine Calls.callWith_builtin (by show(false||(backTo cM (starEach es X.env)).any (·.1))=false;rw[Tn]<;>rfl) (Calls.evalArgs_plain ?_)
 exact aI hA fun us s2 ⟨vs,H2,I2,r2,q2⟩=>hm pins s2 σ H2 x vs v us Q I2 r1 r2 q2
end
def A7(X:Cx)(id:String)(r:V→List V→Hp→VK→Prop):Prop :=
 ∀(pins:List (Addr×Obj)) (s:Shared) (σ:St) (H:Hp) (x:V) (xs:List V) (v:Value) (us:List Value) (Q:VK),Inv X pins σ H s→RelV x v→Vals xs us→r x xs H Q →
  wpAny (model X.prog X.w) X.A (call (.builtin id) (v::us)) (EP X pins σ Q) X.xe s
theorem Vals.zero{us:List Value}(h:Vals [] us):us=[]:=by cases h;rfl
theorem Vals.one{x:V}{us:List Value}(h:Vals [x] us):∃u,us=[u]∧RelV x u:=by
 cases h with|cons r t=>cases t;exact⟨_,rfl,r⟩
theorem Vals.dropLast{xs:List V}{us:List Value}(h:Vals xs us):Vals xs.dropLast us.dropLast:=by
 induction h with
 |nil=>exact .nil
 |cons r t ih =>
  cases t with
  |nil=>exact .nil
  |cons q t'=>exact .cons r ih
theorem Vals.reverse{xs:List V}{us:List Value}(h:Vals xs us):Vals xs.reverse us.reverse:=by
 induction h with
 |nil=>exact .nil
 |cons r t ih=>rw[List.reverse_cons,List.reverse_cons];exact Vals.append ih (.cons r .nil)
theorem Vals.rep{xs:List V}{us:List Value}(h:Vals xs us):∀k:Nat,Vals (List.replicate k xs).flatten (List.replicate k us).flatten
 |0=>.nil
 |k+1=>by
  rw[List.replicate_succ,List.replicate_succ,List.flatten_cons,List.flatten_cons]
  exact Vals.append h (Vals.rep h k)
theorem MY{α:Type}(l:List α):l.eraseIdx (l.length-1)=l.dropLast:=by
 induction l with
 |nil=>rfl
 |cons a r ih =>
  cases r with
  |nil=>rfl
  |cons b r =>
   have e:(a::b::r).length-1=((b::r).length-1)+1:=by
    have h1:(a::b::r).length=r.length+2:=rfl
    have h2:(b::r).length=r.length+1:=rfl
    omega
   rw[e,List.eraseIdx_cons_succ,ih]
   all_goals rfl
section
variable {X:Cx}{pins:List (Addr×Obj)}{σ:St}{H:Hp}{s:Shared}{l b:Addr}{xs ys zs:List V}
theorem Inv.z8{its its':List Value}{n:Nat}{f:Array Value→Array Value}{t':Nat}(I:Inv X pins σ H s)(hH:H l=some (.lst xs))
  (e:s.heap.get? l=some { cls:=.type "list",data:=.seq its.toArray n }) (hf:f its.toArray=its'.toArray) (hv:Vals ys its') (hz:ys.length≤sizeLine) :
  Inv X pins σ (upd H l (.lst ys)) { s with heap:=s.heap.update l (Obj.mapSeq f),toks:=t' }:=by
 have q:=PySem.IsL.update e f
 rw[hf]at q
 refine I.write (x:=l) (e:=l) (by rw[hH];exact trivial) (.inl rfl) (fun b' u hb hu=>(Heap.get?_update_other s.heap (Obj.mapSeq f) (Ne.symm hb)).trans hu) ⟨_,q⟩ ?_
 exact⟨hz,its',_,hv,q⟩
theorem Inv.XH{its:List Value}{t':Nat}(I:Inv X pins σ H s)(hv:Vals ys its)(hz:ys.length≤sizeLine) :
  Inv X pins σ (upd H s.heap.objs.size (.lst ys)) { s with heap:=s.heap.push { cls:=.type "list",data:=.seq its.toArray },toks:=t' } :=
 I.laid (fun _ _ q=>dz _ q) (bf _) ⟨hz,its,0,hv,fL _ rfl⟩
theorem Inv.fresh(I:Inv X pins σ H s):H s.heap.objs.size=none:=I.aG.fresh (bf _)
theorem Inv.z9(I:Inv X pins σ H s)(hH:H l=some (.lst xs)):xs.length≤sizeLine∧∃(its:List Value) (n:Nat),Vals xs its∧xs.length=its.length∧s.heap.get? l=some { cls:=.type "list",data:=.seq its.toArray n }:=by
 obtain⟨z,its,n,r,e⟩:=I.aG l _ hH
 exact⟨z,its,n,r,r.length,e⟩
end
section
variable {X:Cx}
def uU:V→List V→Hp→VK→Prop:=fun x vs H Q=>∃l xs y,x=.ref l∧vs=[y]∧H l=some (.lst xs)∧xs.length<sizeLine∧Q .non (upd H l (.lst (xs++[y])))
theorem DC:A7 X "list.append" uU:=by
 intro pins s σ H x vs v us Q I rx rv h
 obtain⟨l,xs,y,rfl,rfl,hH,hz,q⟩:=h
 cases rx
 obtain⟨u,rfl,ru⟩:=rv.one
 obtain⟨z,its,n,r,hl,e⟩:=I.z9 hH
 refine call_meets F.slot_list_append ⟨_,e,rfl⟩ F.entry_list_append (F.args_list_append_2 _ _) (PySem.list_append l its.toArray n u (by rw[List.size_toArray];omega)) ⟨e,?_⟩
 refine⟨.non,_,I.z8 (its':=its++[u]) hH e (by simp) (r.append (.cons ru .nil)) ?_,rfl,q⟩
 rw[List.length_append,List.length_singleton]
 omega
def HV:V→List V→Hp→VK→Prop:=fun x vs H Q=>∃l xs y,x=.ref l∧vs=[]∧H l=some (.lst xs)∧xs[xs.length-1]?=some y∧Q y (upd H l (.lst xs.dropLast))
theorem Tp:A7 X "list.pop" HV:=by
 intro pins s σ H x vs v us Q I rx rv h
 obtain⟨l,xs,y,rfl,rfl,hH,hy,q⟩:=h
 cases rx
 have A8:=rv.zero
 subst A8
 obtain⟨z,its,n,r,hl,e⟩:=I.z9 hH
 obtain⟨u,hu,ru⟩:=r.get hy
 have A9:its.toArray[its.toArray.size-1]?=some u:=by
  show its.toArray[its.length-1]?=some u
  rw[←Array.getElem?_toList,←hl]
  exact hu
 refine call_meets F.slot_list_pop ⟨_,e,rfl⟩ F.entry_list_pop (F.args_list_pop_1 _) (MeetsSeq.list_pop_last l its.toArray n u A9 (by rw[List.size_toArray];omega)) ⟨e,?_⟩
 refine⟨y,_,I.z8 (its':=its.dropLast) hH e ?_ r.dropLast ?_,ru,q⟩
 ·show its.toArray.eraseIdxIfInBounds (its.toArray.size-1)=its.dropLast.toArray
  rw[List.size_toArray,List.eraseIdxIfInBounds_toArray,MY]
 ·rw[List.length_dropLast]
  omega
def FX:V→List V→Hp→VK→Prop:=fun x vs H Q=>∃l xs,x=.ref l∧vs=[]∧H l=some (.lst xs)∧Q .non (upd H l (.lst []))
theorem Oy:A7 X "list.clear" FX:=by
 intro pins s σ H x vs v us Q I rx rv h
 obtain⟨l,xs,rfl,rfl,hH,q⟩:=h
 cases rx
 have A8:=rv.zero
 subst A8
 obtain⟨z,its,n,r,hl,e⟩:=I.z9 hH
 refine call_meets F.slot_list_clear ⟨_,e,rfl⟩ F.entry_list_clear (F.args_list_clear_1 _) (AutoSeq1.list_clear_list_0 l its.toArray n (by rw[List.size_toArray];omega)) ⟨e,?_⟩
 exact⟨.non,_,I.z8 (its':=[]) (ys:=[]) hH e rfl .nil (Nat.zero_le _),rfl,q⟩
end
section
variable {prog:Program}{w:World}{A:Around}{E:Value→Shared→Prop}{s:Shared}
end
section
variable {X:Cx}
end
section
variable {κ:Type}[DecidableEq κ]
noncomputable def fI(ai:List (κ×V))(k:κ):Option V:=(ai.find? fun kv=>decide (kv.1=k)).map (·.2)
noncomputable def putK(ai:List (κ×V))(k:κ)(v:V):List (κ×V) :=
 if (ai.any fun kv=>decide (kv.1=k))=true then ai.map (fun kv=>if kv.1=k then (kv.1,v)else kv)else ai++[(k,v)]
noncomputable def aaf(ai:List (κ×V))(k:κ):List (κ×V):=ai.filter fun kv=>decide (kv.1≠k)
theorem uP{p:κ×V}{r:List (κ×V)}{k:κ}(e:p.1=k):fI (p::r) k=some p.2:=by simp[fI,List.find?_cons,e]
theorem uQ{p:κ×V}{r:List (κ×V)}{k:κ}(e:¬p.1=k):fI (p::r) k=fI r k:=by simp[fI,List.find?_cons,e]
theorem D4(k:κ):∀ai:List (κ×V),(ai.any fun kv=>decide (kv.1=k))=(fI ai k).isSome
 |[]=>rfl
 |p::r=>by
  rw[List.any_cons]
  by_cases e:p.1=k
  ·simp only[uP e,decide_eq_true e,Bool.true_or,Option.isSome_some]
  ·rw[uQ e,decide_eq_false e,Bool.false_or];exact D4 k r
theorem yg(ai:List (κ×V))(k:κ)(v:V):(putK ai k v).length≤ai.length+1:=by
 unfold putK
 split
 ·rw[List.length_map];omega
 ·rw[List.length_append,List.length_cons,List.length_nil];omega
theorem iD.qu{o:Option V}{u:Option Value}(r:iD o u):o.isSome=u.isSome:=by
 cases o with
 |none=>cases u with
  |none=>rfl
  |some _=>exact(show False from r).elim
 |some _=>cases u with
  |none=>exact(show False from r).elim
  |some _=>rfl
theorem iD.getD{o:Option V}{u:Option Value}{d:V}{d':Value}(r:iD o u)(rd:RelV d d'):RelV (o.getD d) (u.getD d'):=by
 cases o with
 |none=>cases u with
  |none=>exact rd
  |some _=>exact(show False from r).elim
 |some _=>cases u with
  |none=>exact(show False from r).elim
  |some _=>exact r
theorem KV.val{ai:List (κ×V)}{vs:List (κ×Value)}(r:KV ai vs)(k:κ):iD (fI ai k) (valueAt vs k):=by
 unfold KV at r
 induction r with
 |nil=>exact True.intro
 |@cons p q ps qs h t ih =>
  obtain⟨h1,h2⟩:=h
  by_cases e:p.1=k
  ·have e':q.1=k:=h1.symm.trans e
   have b:valueAt (q::qs) k=some q.2:=by simp[valueAt,List.find?_cons,e']
   rw[uP e,b];exact h2
  ·have e':¬q.1=k:=fun z=>e (h1.trans z)
   have b:valueAt (q::qs) k=valueAt qs k:=by simp[valueAt,List.find?_cons,e']
   rw[uQ e,b];exact ih
theorem KV.any{ai:List (κ×V)}{vs:List (κ×Value)}(r:KV ai vs)(k:κ):(ai.any fun kv=>decide (kv.1=k))=vs.any fun kv=>decide (kv.1=k):=by
 unfold KV at r
 induction r with
 |nil=>rfl
 |cons h t ih=>rw[List.any_cons,List.any_cons,ih,h.1]
theorem KV.repl{ai:List (κ×V)}{vs:List (κ×Value)}(r:KV ai vs)(k:κ){y:V}{u:Value}(ry:RelV y u) :
  KV (ai.map fun kv=>if kv.1=k then (kv.1,y)else kv) (vs.map fun kv=>if kv.1=k then (kv.1,u)else kv):=by
 unfold KV at r ⊢
 induction r with
 |nil=>exact .nil
 |@cons p q ps qs h t ih =>
  rw[List.map_cons,List.map_cons]
  refine .cons ?_ ih
  obtain⟨h1,h2⟩:=h
  by_cases e:p.1=k
  ·rw[if_pos e,if_pos (h1.symm.trans e)];exact⟨h1,ry⟩
  ·rw[if_neg e,if_neg (fun z=>e (h1.trans z))];exact⟨h1,h2⟩
theorem KV.put{ai:List (κ×V)}{vs:List (κ×Value)}(r:KV ai vs)(k:κ){y:V}{u:Value}(ry:RelV y u):KV (putK ai k y) (stored vs k u):=by
 unfold putK stored
 rw[r.any k]
 by_cases e:(vs.any fun kv=>decide (kv.1=k))=true
 ·rw[if_pos e,if_pos e];exact r.repl k ry
 ·rw[if_neg e,if_neg e];exact Paired.snoc r ⟨rfl,ry⟩
theorem KV.keys{ai:List (κ×V)}{vs:List (κ×Value)}(r:KV ai vs):ai.map (·.1)=vs.map (·.1):=by
 unfold KV at r
 induction r with
 |nil=>rfl
 |cons h t ih=>rw[List.map_cons,List.map_cons,ih,h.1]
theorem KV.length{ai:List (κ×V)}{vs:List (κ×Value)}(r:KV ai vs):ai.length=vs.length:=Paired.length r
end
theorem mN{P:Program}{w:World}{k:Key}{u:Value}(r:RelV (kV k) u):(cL P w).is k u=true:=by
 cases k with
 |inl i=>obtain⟨t,e⟩:=(show ∃t,u=Value.int i t from r);subst e;exact Mt P w i t
 |inr x=>obtain⟨t,e⟩:=(show ∃t,u=Value.str x t from r);subst e;exact Mu P w x t
 |non=>rw[show u=Value.none from r];exact Mv P w
theorem DF{P:Program}{w:World}:∀{ks:List Key}{us:List Value},Vals (ks.map kV) us→ItemsAre (cL P w) ks us
 |[],_,r=>by rw[List.map_nil]at r;cases r;exact .nil
 |k::ks,_,r=>by
  rw[List.map_cons]at r
  cases r with
  |cons h t=>exact .cons (mN h) (DF t)
abbrev KT(H:Hp):List (List Key×V)→List (List Key×Addr×Value)→Prop:=Paired fun p q=>p.1=q.1∧H q.2.1=some (.tup (p.1.map kV))∧RelV p.2 q.2.2
theorem KT.val{H:Hp}{ai:List (List Key×V)}{xs:List (List Key×Addr×Value)}(r:KT H ai xs)(k:List Key):iD (fI ai k) ((atKey xs k).map (·.2)):=by
 induction r with
 |nil=>exact True.intro
 |@cons p q ps qs h t ih =>
  obtain⟨h1,_,h2⟩:=h
  by_cases e:p.1=k
  ·have e':q.1=k:=h1.symm.trans e
   have b:atKey (q::qs) k=some q.2:=by simp[atKey,List.find?_cons,e']
   rw[uP e,b];exact h2
  ·have e':¬q.1=k:=fun z=>e (h1.trans z)
   have b:atKey (q::qs) k=atKey qs k:=by simp[atKey,List.find?_cons,e']
   rw[uQ e,b];exact ih
theorem KT.repl{H:Hp}{ai:List (List Key×V)}{xs:List (List Key×Addr×Value)}(r:KT H ai xs)(k:List Key){y:V}{u:Value}(ry:RelV y u) :
  KT H (ai.map fun kv=>if kv.1=k then (kv.1,y)else kv) (xs.map (putAt k u)):=by
 induction r with
 |nil=>exact .nil
 |@cons p q ps qs h t ih =>
  rw[List.map_cons,List.map_cons]
  refine .cons ?_ ih
  obtain⟨h1,h2,h3⟩:=h
  unfold putAt
  by_cases e:p.1=k
  ·rw[if_pos e,if_pos (h1.symm.trans e)];exact⟨h1,h2,ry⟩
  ·rw[if_neg e,if_neg (fun z=>e (h1.trans z))];exact⟨h1,h2,h3⟩
theorem KT.put{H:Hp}{ai:List (List Key×V)}{xs:List (List Key×Addr×Value)}(r:KT H ai xs)(k:List Key){b:Addr}{y:V}{u:Value}(hb:H b=some (.tup (k.map kV)))(ry:RelV y u) :
  KT H (putK ai k y) (storedH xs k b u):=by
 have e:(ai.any fun kv=>decide (kv.1=k))=(atKey xs k).isSome:=by
  rw[D4,(r.val k).qu,Option.isSome_map]
 unfold putK storedH
 rw[e]
 by_cases q:(atKey xs k).isSome=true
 ·rw[if_pos q,if_pos q];exact r.repl k ry
 ·rw[if_neg q,if_neg q];exact Paired.snoc r ⟨rfl,hb,ry⟩
theorem KT.keeps{H H':Hp}{ai:List (List Key×V)}{xs:List (List Key×Addr×Value)}(r:KT H ai xs)(ht:∀b ys,H b=some (.tup ys)→H' b=some (.tup ys)):KT H' ai xs :=
 Paired.vM r fun _ _ z=>⟨z.1,ht _ _ z.2.1,z.2.2⟩
section
variable {P:Program}{w:World}{H:Hp}{h:Heap}{a:Addr}
theorem G3{u:HO}(ok:cO P w H h)(e:Rd H a u):cE P w H h a u:=e.ok ok
theorem mO{ai:List (Key×V)}(ok:cO P w H h)(e:Rd H a (.dK ai)):ai.length≤sizeLine∧(a==sysModules)=false∧∃vs,KV ai vs∧h.DictOf (cL P w) a vs :=
 show cE P w H h a (.dK ai)from G3 ok e
theorem G4{ai:List (Key×V)}(ok:cO P w H h)(e:H a=some (.dK ai)):ai.length≤sizeLine∧(a==sysModules)=false∧∃vs,KV ai vs∧h.DictOf (cL P w) a vs:=mO ok (.inl e)
theorem oE{ks:List Key}(ok:cO P w H h)(e:H a=some (.tup (ks.map kV))):(tupleKind (cL P w)).is h ks a:=by
 obtain⟨_,its,r,o,h1,h2,n,h3⟩:=(show cE P w H h a (.tup (ks.map kV))from ok a _ e)
 exact⟨o,its.toArray,n,h1,h2,h3,by simpa using DF r⟩
theorem jM{ai:List (List Key×V)}(ok:cO P w H h)(e:Rd H a (.dT ai)):ai.length≤sizeLine∧(a==sysModules)=false ∧
  ∃xs,KT H ai xs∧h.DictOfH (tupleKind (cL P w)) a xs:=by
 obtain⟨z,y,xs,r,o,es,ep,h1,h2,h3,h4,h5⟩:=(show cE P w H h a (.dT ai)from G3 ok e)
 refine⟨z,y,xs,r,o,es,ep,h1,h2,h3,h4,fun x hx=>?_,h5⟩
 have all:∀{l:List (List Key×V)}{m:List (List Key×Addr×Value)},KT H l m→∀x∈m,(tupleKind (cL P w)).is h x.1 x.2.1:=by
  intro l m q
  induction q with
  |nil=>intro x hx;exact nomatch hx
  |@cons p q ps qs hq t ih =>
   intro x hx
   rcases List.mem_cons.mp hx with e|hx
   ·subst e
    exact oE ok (by rw[←hq.1];exact hq.2.1)
   ·exact ih x hx
 exact all r x hx
theorem VP{ai:List (List Key×V)}(ok:cO P w H h)(e:H a=some (.dT ai)):ai.length≤sizeLine∧(a==sysModules)=false ∧
 ∃xs,KT H ai xs∧h.DictOfH (tupleKind (cL P w)) a xs:=jM ok (.inl e)
end
def gX(H:Hp)(a:Addr)(y:V)(r:Option V):Prop :=
 (∃ai k,Rd H a (.dK ai)∧y=kV k∧r=fI ai k)∨∃ai k b,Rd H a (.dT ai)∧y=.ref b∧H b=some (.tup (k.map kV))∧r=fI ai k
def oZ(H:Hp)(a:Addr)(y v:V)(H':Hp):Prop :=
 (∃ai k,H a=some (.dK ai)∧y=kV k∧ai.length<sizeLine∧H'=upd H a (.dK (putK ai k v))) ∨
 ∃ai k b,H a=some (.dT ai)∧y=.ref b∧H b=some (.tup (k.map kV))∧ai.length<sizeLine∧H'=upd H a (.dT (putK ai k v))
theorem gX.k{H:Hp}{a:Addr}{ai:List (Key×V)}{k:Key}(e:H a=some (.dK ai)):gX H a (kV k) (fI ai k):=.inl ⟨ai,k,.inl e,rfl,rfl⟩
theorem gX.t{H:Hp}{a b:Addr}{ai:List (List Key×V)}{k:List Key}(e:H a=some (.dT ai))(eb:H b=some (.tup (k.map kV))):gX H a (.ref b) (fI ai k):=.inr ⟨ai,k,b,.inl e,rfl,eb,rfl⟩
theorem oZ.k{H:Hp}{a:Addr}{ai:List (Key×V)}{k:Key}{v:V}(e:H a=some (.dK ai))(hl:ai.length<sizeLine):oZ H a (kV k) v (upd H a (.dK (putK ai k v))):=.inl ⟨ai,k,e,rfl,hl,rfl⟩
theorem oZ.t{H:Hp}{a b:Addr}{ai:List (List Key×V)}{k:List Key}{v:V}(e:H a=some (.dT ai))(eb:H b=some (.tup (k.map kV)))(hl:ai.length<sizeLine) :
 oZ H a (.ref b) v (upd H a (.dT (putK ai k v))):=.inr ⟨ai,k,b,e,rfl,eb,hl,rfl⟩
section
variable {X:Cx}{pins:List (Addr×Obj)}{σ:St}{H:Hp}{s:Shared}{a:Addr}{y v:V}{u r:Value}{o:Option V}{A:Around}{E:Value→Shared→Prop}
theorem Inv.big(I:Inv X pins σ H s):sysModules<s.heap.objs.size:=by
 have h:mainGlobals<s.heap.objs.size:=(I.mod.glob.keeps I.bk).lt
 exact Nat.lt_trans (by decide) h
theorem Nx{Q:Value→Shared→Prop}(hu:A.units+1<cLine)(I:Inv X pins σ H s)(g:gX H a y (some v))(ry:RelV y u)(h:∀w' s',Inv X pins σ H s'→RelV v w'→Q w' s') :
  wpAny (model X.prog X.w) A (getItem (.ref a) u) Q E s:=by
 rcases g with⟨ai,k,e,ey,l⟩|⟨ai,k,b,e,ey,eb,l⟩
 ·subst ey
  obtain⟨z,hd,vs,rel,dd⟩:=mO I.aG e
  obtain⟨w',hw,jv⟩:=iD.some_of (v:=v) (o:=valueAt vs k) (by rw[l];exact rel.val k)
  exact wpAny_getItem_of (mN ry) dd.mapOf hw (h w' _ (I.tok _) jv)
 ·subst ey
  cases (show u=Value.ref b from ry)
  obtain⟨z,hd,xs,rel,dd⟩:=jM I.aG e
  obtain⟨w',hw,jv⟩:=iD.some_of (v:=v) (o:=(atKey xs k).map (·.2)) (by rw[l];exact rel.val k)
  obtain⟨p,hp,nA⟩:=Option.map_eq_some_iff.mp hw
  refine wpAny_getItem_heap (tupleKind_room_in1 hu) (oE I.aG eb) dd hp ?_
  rw[nA]
  exact h w' _ (I.tok _) jv
theorem XI{Q:Value→Shared→Prop}(hu:A.units+1<cLine)(I:Inv X pins σ H s)(g:gX H a y o)(ry:RelV y u)(h:∀s',Inv X pins σ H s'→Q (.bool o.isSome) s') :
  wpAny (model X.prog X.w) A (compareOp .In u (.ref a)) Q E s:=by
 rcases g with⟨ai,k,e,ey,l⟩|⟨ai,k,b,e,ey,eb,l⟩
 ·subst ey
  obtain⟨z,hd,vs,rel,dd⟩:=mO I.aG e
  refine wpAny_in_of (mN ry) hd dd.mapOf ?_
  rw[←(rel.val k).qu,←l]
  exact h _ (I.tok _)
 ·subst ey
  cases (show u=Value.ref b from ry)
  obtain⟨z,hd,xs,rel,dd⟩:=jM I.aG e
  refine wpAny_in_heap (tupleKind_room_in1 hu) (oE I.aG eb) hd dd ?_
  have q:=(rel.val k).qu
  rw[Option.isSome_map]at q
  rw[←q,←l]
  exact h _ (I.tok _)
theorem Qv{Q:Value→Shared→Prop}(hu:A.units+1<cLine)(I:Inv X pins σ H s)(g:gX H a y o)(ry:RelV y u)(h:∀s',Inv X pins σ H s'→Q (.bool (!o.isSome)) s') :
  wpAny (model X.prog X.w) A (compareOp .NotIn u (.ref a)) Q E s:=by
 rcases g with⟨ai,k,e,ey,l⟩|⟨ai,k,b,e,ey,eb,l⟩
 ·subst ey
  obtain⟨z,hd,vs,rel,dd⟩:=mO I.aG e
  refine wpAny_notIn_of (mN ry) hd dd.mapOf ?_
  rw[←(rel.val k).qu,←l]
  exact h _ (I.tok _)
 ·subst ey
  cases (show u=Value.ref b from ry)
  obtain⟨z,hd,xs,rel,dd⟩:=jM I.aG e
  refine wpAny_notIn_heap (tupleKind_room_in1 hu) (oE I.aG eb) hd dd ?_
  have q:=(rel.val k).qu
  rw[Option.isSome_map]at q
  rw[←q,←l]
  exact h _ (I.tok _)
theorem uV{h':Heap}{t':Nat}{ob:HO}(I:Inv X pins σ H s)(mu:r9 (H a))(hs:Heap.SameBut a s.heap h')(he:∃q,h'.get? a=some q)(new:cE X.prog X.w (upd H a ob) h' a ob) :
  Inv X pins σ (upd H a ob) { s with heap:=h',toks:=t' } :=
 I.write (x:=a) (e:=a) mu (.inl rfl) (fun b q hb z=>(hs.2 b hb).trans z) he new
theorem FY{P:Program}{w:World}{H':Hp}{h':Heap}{ai:List (Key×V)}{vs:List (Key×Value)}(z:ai.length≤sizeLine)(hd:(a==sysModules)=false)(rel:KV ai vs)(dd:h'.DictOf (cL P w) a vs) :
 cE P w H' h' a (.dK ai):=⟨z,hd,vs,rel,dd⟩
theorem Ny{H':Hp}{Q:Unit→Shared→Prop}(hu:A.units+1<cLine)(I:Inv X pins σ H s)(g:oZ H a y v H')(ry:RelV y u)(rv:RelV v r)(h:∀s',Inv X pins σ H' s'→Q () s') :
  wpAny (model X.prog X.w) A (setItem (.ref a) u r) Q E s:=by
 rcases g with⟨ai,k,e,ey,l,eH⟩|⟨ai,k,b,e,ey,eb,l,eH⟩
 ·subst ey eH
  obtain⟨z,hd,vs,rel,dd⟩:=G4 I.aG e
  have hz:vs.length≤sizeLine:=by rw[←rel.length];exact z
  have hl:(putK ai k v).length≤sizeLine:=by have:=yg ai k v;omega
  refine wpAny_setItem_pairs (hsz:=hz) (mN ry) dd fun h' nB hs=>h _ ?_
  have he:∃q,h'.get? a=some q:=let ⟨q,_,_,hq,_⟩:=nB;⟨q,hq⟩
  exact uV I (by rw[e];exact True.intro) hs he (FY hl hd (rel.put k rv) nB)
 ·subst ey eH
  cases (show u=Value.ref b from ry)
  obtain⟨z,hd,xs,rel,dd⟩:=VP I.aG e
  have hz:xs.length≤sizeLine:=by rw[←Paired.length rel];exact z
  have hl:(putK ai k v).length≤sizeLine:=by have:=yg ai k v;omega
  refine wpAny_setItem_heap (hsz:=hz) (tupleKind_room_in1 hu) (oE I.aG eb) dd fun h' nB hs=>h _ ?_
  obtain⟨q,es,ep,hq,h2,h3,h4,_,h5⟩:=nB
  refine uV I (by rw[e];exact True.intro) hs ⟨q,hq⟩ ⟨hl,hd,_,(rel.put k eb rv).keeps fun c ys ec=>?_,q,es,ep,hq,h2,h3,h4,h5⟩
  rw[aK (vv ec e (fun z=>nomatch z))]
  exact ec
end
section
variable {X:Cx}{pins:List (Addr×Obj)}{σ:St}{H:Hp}{s:Shared}{a:Addr}{ai:List (Key×V)}{k:Key}{u:Value}{A:Around}{E:Value→Shared→Prop}
end
def Aa(i:Expr):Prop:=∀ov iv,subscripted i false ov iv=operate [ov,iv] (getItem ov iv)
theorem Qw{prog:Program}{w:World}{A:Around}{E:Value→Shared→Prop}{s:Shared}{env:Env}{value slice:Expr}{pos:Pos}{T id:String}{Q:Value→Shared→Prop}
  (hl:typeLookup (.type T) "__getitem__" = pure (some (.builtin id))) (hs:Aa slice)
  (h:wpAny (model prog w) A (eval value env) (fun o s₁=>wpAny (model prog w) A (eval slice env) (fun i s₂=>s₂.TypeIs o T∧wpAny (model prog w) A (getItem o i) Q E s₂) E s₁) E s) :
  wpAny (model prog w) A (eval (.Subscript value slice pos) env) Q E s:=by
 refine Subscript_ (wpAny_mono h (fun o s₁ h₁=>wpAny_mono h₁ (fun i s₂ h₂=>?_) fun _ _ x=>x) fun _ _ x=>x)
 obtain⟨hT,h₂⟩:=h₂
 unfold subscriptTail
 refine ao ?_
 rw[getitemInPython_of_ne hT.not_modules]
 refine ao (wpAny_specialOf hT hl ?_)
 have fin:wpAny (model prog w) A (subscripted slice false o i) (fun r s₃=>wpAny (model prog w) A (letTemporaryGo value o r >>= fun _=>pure r) Q E s₃) E s₂:=by
  rw[hs o i]
  exact wpAny_operating (wpAny_mono h₂ (fun r s₃ h₃=>ao (wpAny_letTemporaryGo (aC h₃))) fun _ _ x=>x)
 first
  |exact aC (ao fin)
  |exact ao (aC (ao fin))
  |exact ao fin
theorem Mw{X:Cx}{pins:List (Addr×Obj)}{σ:St}{H:Hp}{s:Shared}{a:Addr}{y:V}{o:Option V}(I:Inv X pins σ H s)(g:gX H a y o):s.TypeIs (.ref a) "dict" := by
 rcases g with⟨ai,k,e,_,_⟩|⟨ai,k,b,e,_,_,_⟩
 ·obtain⟨_,_,vs,_,dd⟩:=mO I.aG e
  exact dd.typeIs
 ·obtain⟨_,_,xs,_,dd⟩:=jM I.aG e
  exact dd.typeIs
noncomputable def zH(td ty:TE):TE:=fun σ H Q=>td σ H fun x H1=>ty σ H1 fun y H2=>∃a v,x=.ref a∧gX H2 a y (some v)∧Q v H2
noncomputable def HW(ty td:TE):TE:=fun σ H Q=>ty σ H fun y H1=>td σ H1 fun x H2=>∃a o,x=.ref a∧gX H2 a y o∧Q (.bl o.isSome) H2
noncomputable def EJ(ty td:TE):TE:=fun σ H Q=>ty σ H fun y H1=>td σ H1 fun x H2=>∃a o,x=.ref a∧gX H2 a y o∧Q (.bl (!o.isSome)) H2
noncomputable def vy(td ty tv:TE):TS:=fun D σ H=>tv σ H fun v H1=>td σ H1 fun x H2=>ty σ H2 fun y H3=>∃a H4,x=.ref a∧oZ H3 a y v H4∧D.nx σ H4
section
variable {X:Cx}{o i e value:Expr}{pos pos' XC:Pos}{td ty tv:TE}
theorem EK(hu:X.A.units+1<cLine)(ho:PE X o td)(hi:PE X i ty)(hs:Aa i):PE X (.Subscript o i pos) (zH td ty):=by
 intro pins s σ H Q I h
 refine Qw PySem.F.slot_dict_getitem.lookup hs (aI (ho pins s σ H _ I h) fun u s1 ⟨x,H1,I1,rx,q1⟩=>aI (hi pins s1 σ H1 _ I1 q1) fun iv s2 ⟨y,H2,I2,ry,a,v,ex,g,q2⟩=>?_)
 subst ex
 obtain rfl:u=Value.ref a:=rx
 exact⟨Mw I2 g,Nx hu I2 g ry fun w' s3 I3 jv=>⟨v,H2,I3,jv,q2⟩⟩
theorem Tq(hu:X.A.units+1<cLine)(hi:PE X i ty)(ho:PE X o td):PC X .In i o (HW ty td):=by
 intro pins s σ H Q I h
 refine aI (hi pins s σ H _ I h) fun iv s1 ⟨y,H1,I1,ry,q1⟩=>aI (ho pins s1 σ H1 _ I1 q1) fun u s2 ⟨x,H2,I2,rx,a,ov,ex,g,q2⟩=>?_
 subst ex
 obtain rfl:u=Value.ref a:=rx
 exact XI hu I2 g ry fun s3 I3=>⟨.bl ov.isSome,H2,I3,rfl,q2⟩
theorem Nz(hu:X.A.units+1<cLine)(hi:PE X i ty)(ho:PE X o td):PC X .NotIn i o (EJ ty td):=by
 intro pins s σ H Q I h
 refine aI (hi pins s σ H _ I h) fun iv s1 ⟨y,H1,I1,ry,q1⟩=>aI (ho pins s1 σ H1 _ I1 q1) fun u s2 ⟨x,H2,I2,rx,a,ov,ex,g,q2⟩=>?_
 subst ex
 obtain rfl:u=Value.ref a:=rx
 exact Qv hu I2 g ry fun s3 I3=>⟨.bl (!ov.isSome),H2,I3,rfl,q2⟩
theorem Qx(hu:X.A.units+1<cLine)(ho:PE X o td)(hi:PE X i ty)(hv:PE X value tv)(hs:swapsWith value (some (.Subscript o i pos')) pos.line X.env=pure false) :
  PS X (.Assign [.Subscript o i pos'] value pos) (vy td ty tv):=by
 intro pins s σ H D I h
 refine wpAny_Assign_Subscript (aI (hv pins s σ H _ I h) fun r s1 ⟨v,H1,I1,rv,q1⟩=>aI (ho pins s1 σ H1 _ I1 q1) fun u s2 ⟨x,H2,I2,rx,q2⟩=>aI (hi pins s2 σ H2 _ I2 q2) fun iv s3 ⟨y,H3,I3,ry,a,H4,ex,g,q3⟩=>?_) hs
 subst ex
 obtain rfl:u=Value.ref a:=rx
 exact Ny hu I3 g ry rv fun s4 I4=>⟨σ,H4,I4,q3⟩
end
theorem D5{P:Program}{w:World}{H:Hp}(h:Heap)(hb:sysModules<h.objs.size):cE P w H (h.push { cls:=.type "dict",data:=.dict #[] }) h.objs.size (.dK []) :=
 ⟨Nat.zero_le _,beq_eq_false_iff_ne.mpr (Ne.symm (Nat.ne_of_lt hb)),[],.nil,Heap.DictOf.new h⟩
theorem Oz{P:Program}{w:World}{H:Hp}(h:Heap)(hb:sysModules<h.objs.size):cE P w H (h.push { cls:=.type "dict",data:=.dict #[] }) h.objs.size (.dT []) :=
 ⟨Nat.zero_le _,beq_eq_false_iff_ne.mpr (Ne.symm (Nat.ne_of_lt hb)),[],.nil,_,#[],0,fL _ rfl,⟨rfl,rfl,rfl⟩,rfl,rfl,List.nodup_nil⟩
noncomputable def FZ:TE:=fun _ H Q=>∀p,H p=none→Q (.ref p) (upd H p (.dK []))
noncomputable def F0:TE:=fun _ H Q=>∀p,H p=none→Q (.ref p) (upd H p (.dT []))
section
variable {X:Cx}{pos:Pos}
theorem OB:PE X (.Dict [] [] pos) FZ:=fun pins s σ H Q I h =>
 wpAny_Dict_empty ⟨.ref s.heap.objs.size,_,I.laid (a:=s.heap.objs.size) (o:=.dK []) (t':=s.toks) (fun _ _ q=>dz _ q) (bf _) (D5 s.heap I.big),rfl,h _ (I.aG.fresh (bf _))⟩
theorem OD:PE X (.Dict [] [] pos) F0:=fun pins s σ H Q I h =>
 wpAny_Dict_empty ⟨.ref s.heap.objs.size,_,I.laid (a:=s.heap.objs.size) (o:=.dT []) (t':=s.toks) (fun _ _ q=>dz _ q) (bf _) (Oz s.heap I.big),rfl,h _ (I.aG.fresh (bf _))⟩
end
noncomputable def zh:List (TE×TE)→St→Hp→(List (V×V)→Hp→Prop)→Prop
 |[],_,H,Q=>Q [] H
 | (tk,tv)::r,σ,H,Q=>tk σ H fun x H1=>tv σ H1 fun y H2=>zh r σ H2 fun ps H3=>Q ((x,y)::ps) H3
abbrev VV:List (V×V)→List (Value×Value)→Prop:=Paired fun p q=>RelV p.1 q.1∧RelV p.2 q.2
def wB(X:Cx)(pos:Pos)(keys:List (Option Expr))(values:List Expr)(kU:List (TE×TE)):Prop :=
 ∀(pins:List (Addr×Obj)) (s:Shared) (σ:St) (H:Hp) (Q:List (V×V)→Hp→Prop),Inv X pins σ H s→zh kU σ H Q →
  wpAny (model X.prog X.w) X.A (evalPairs (pairTrees keys values X.env pos)) (fun vs s'=>∃ps H',Inv X pins σ H' s'∧VV ps vs∧Q ps H') X.xe s
theorem Qy{X:Cx}{pos:Pos}:wB X pos [] [] []:=fun pins s σ H Q I h=>pairTrees_nil_walk ⟨[],H,I,.nil,h⟩
theorem OG{X:Cx}{pos:Pos}{k v:Expr}{ks:List (Option Expr)}{vs:List Expr}{tk tv:TE}{kU:List (TE×TE)}(hk:PE X k tk)(hv:PE X v tv)(hr:wB X pos ks vs kU) :
  wB X pos (some k::ks) (v::vs) ((tk,tv)::kU):=fun pins s σ H Q I h =>
 pairTrees_cons_walk (aI (hk pins s σ H _ I h) fun u s1 ⟨x,H1,I1,rx,q1⟩=>aI (hv pins s1 σ H1 _ I1 q1) fun w2 s2 ⟨y,H2,I2,ry,q2⟩ =>
  aI (hr pins s2 σ H2 _ I2 q2) fun ws s3 ⟨ps,H3,I3,rel,q3⟩=>⟨(x,y)::ps,H3,I3,.cons ⟨rx,ry⟩ rel,q3⟩)
noncomputable def oF(ai more:List (Key×V)):List (Key×V):=more.foldl (fun acc kv=>putK acc kv.1 kv.2) ai
theorem KV.merge:∀{more:List (Key×V)}{rs:List (Key×Value)}{ai:List (Key×V)}{vs:List (Key×Value)},KV more rs→KV ai vs→KV (oF ai more) (merged vs rs):=by
 intro more rs ai vs r
 unfold KV at r
 induction r generalizing ai vs with
 |nil=>intro q;exact q
 |@cons p q ps qs h t ih =>
  intro r0
  have e:KV (putK ai p.1 p.2) (stored vs q.1 q.2):=by
   have:=r0.put p.1 h.2
   rw[←h.1];exact this
  exact ih e
theorem Cy:∀(more ai:List (Key×V)),(oF ai more).length≤ai.length+more.length
 |[],ai=>by show ai.length≤ai.length+0;omega
 |p::r,ai=>by
  have h1:=Cy r (putK ai p.1 p.2)
  have h2:=yg ai p.1 p.2
  show(oF (putK ai p.1 p.2) r).length≤_
  rw[List.length_cons];omega
theorem C7{P:Program}{w:World}:∀{ai:List (Key×V)}{ws:List (Value×Value)},VV (ai.map fun kv=>(kV kv.1,kv.2)) ws→∃rs,Carries (cL P w) ws rs∧KV ai rs
 |[],_,r=>by rw[List.map_nil]at r;cases r;exact⟨[],True.intro,.nil⟩
 |p::ai,_,r=>by
  rw[List.map_cons]at r
  cases r with
  |@cons a b as bs h t =>
   obtain⟨rs,c,q⟩:=C7 (P:=P) (w:=w) t
   obtain⟨b1,b2⟩:=b
   exact⟨(p.1,b2)::rs,⟨mN h.1,rfl,c⟩,.cons ⟨rfl,h.2⟩ q⟩
noncomputable def G5(kU:List (TE×TE)):TE:=fun σ H Q=>∀p,H p=none→zh kU σ (upd H p (.dK [])) fun ps H2=>H2 p=some (.dK [])∧∃ai:List (Key×V),ps=ai.map (fun kv=>(kV kv.1,kv.2))∧ai.length≤15∧Q (.ref p) (upd H2 p (.dK (oF [] ai)))
theorem Qz{X:Cx}{pos:Pos}{keys:List (Option Expr)}{values:List Expr}{kU:List (TE×TE)}(h:wB X pos keys values kU)(Ab:keys.all (·.isSome)=true)(hl:keys.length=values.length)(h0:keys≠[])
  (YB:keys.length≤15):PE X (.Dict keys values pos) (G5 kU):=by
 intro pins s σ H Q I q
 have hn:=I.aG.fresh (bf s.heap.objs.size)
 have I1:=I.laid (a:=s.heap.objs.size) (o:=.dK []) (h':=s.heap.push { cls:=.type "dict",data:=.dict #[] }) (t':=s.toks) (fun _ _ q=>dz _ q) (bf _) (D5 s.heap I.big)
 refine wpAny_Dict_walk (knd:=cL X.prog X.w) Ab hl h0 YB (aI (h pins _ σ _ _ I1 (q _ hn)) fun ws s2 ⟨ps,H2,I2,rel,e,ai,ep,lk,q2⟩=>?_)
 subst ep
 obtain⟨rs,c,rk⟩:=C7 (P:=X.prog) (w:=X.w) rel
 obtain⟨z,hd,vs0,r0,dd⟩:=G4 I2.aG e
 cases r0
 refine⟨rs,c,dd,fun h' nB hs=>⟨.ref s.heap.objs.size,_,?_,rfl,q2⟩⟩
 have hz:(oF [] ai).length≤sizeLine:=by
  have h1:=Cy ai []
  rw[List.length_nil]at h1
  rw[sizeLine_eq];omega
 have he:∃q,h'.get? s.heap.objs.size=some q:=let ⟨q,_,_,hq,_⟩:=nB;⟨q,hq⟩
 exact uV I2 (by rw[e];exact True.intro) hs he (FY hz hd (rk.merge .nil) nB)
structure M1 (X:Cx)(o:Expr)(m:Str)(apos:Pos)(e:Expr)(cM:Pos):Prop where
 base:attributeBase o m X.env (eval o X.env)=eval o X.env
 few:((backTo cM (starEach [e] X.env)).all (fun x=>!x.1)&&(backToKw cM (keywordEach [] X.env)).all (fun x=>x.1.isSome)
  && decide (([e]:List Expr).length+([]:List Keyword).length+(if ([]:List Keyword).isEmpty then 0 else 1)<30))=true
 line:(apos.endLine==cM.line)=true
 trees:backTo cM (starEach [e] X.env)=[(false,eval e X.env)]
structure M2 (X:Cx)(o:Expr)(m:Str)(apos:Pos)(e f:Expr)(cM:Pos):Prop where
 base:attributeBase o m X.env (eval o X.env)=eval o X.env
 few:((backTo cM (starEach [e,f] X.env)).all (fun x=>!x.1)&&(backToKw cM (keywordEach [] X.env)).all (fun x=>x.1.isSome)
  && decide (([e,f]:List Expr).length+([]:List Keyword).length+(if ([]:List Keyword).isEmpty then 0 else 1)<30))=true
 line:(apos.endLine==cM.line)=true
 trees:backTo cM (starEach [e,f] X.env)=[(false,eval e X.env),(false,eval f X.env)]
def JC(H:Hp)(a:Addr):Prop:=(∃ai,Rd H a (.dK ai))∨∃ai,Rd H a (.dT ai)
theorem Tr{X:Cx}{pins:List (Addr×Obj)}{σ:St}{H:Hp}{s:Shared}{a:Addr}(I:Inv X pins σ H s)(d:JC H a) :
  s.TypeIs (.ref a) "dict" ∧ (∀b,Value.ref a=.ref b→∃ob,s.heap.get? b=some ob∧ob.dict=none)∧(a==sysModules)=false:=by
 rcases d with⟨ai,e⟩|⟨ai,e⟩
 ·obtain⟨_,hd,vs,_,dd⟩:=mO I.aG e
  refine⟨dd.typeIs,fun b q=>?_,hd⟩
  cases q
  obtain⟨ob,_,_,h1,h2,_⟩:=dd
  exact⟨ob,h1,h2.2.1⟩
 ·obtain⟨_,hd,xs,_,dd⟩:=jM I.aG e
  refine⟨dd.typeIs,fun b q=>?_,hd⟩
  cases q
  obtain⟨ob,_,_,h1,h2,_⟩:=dd
  exact⟨ob,h1,h2.2.1⟩
section
variable {X:Cx}{pins:List (Addr×Obj)}{σ:St}{H:Hp}{s:Shared}{a:Addr}{y d:V}{u r:Value}{o:Option V}{A:Around}{E:Value→Shared→Prop}
theorem Ts{Q:Value→Shared→Prop}(hu:A.units+1<cLine)(I:Inv X pins σ H s)(g:gX H a y o)(ry:RelV y u)(rd:RelV d r)(h:∀w' s',Inv X pins σ H s'→RelV (o.getD d) w'→Q w' s') :
  wpAny (model X.prog X.w) A (call (.builtin "dict.get") [.ref a,u,r]) Q E s:=by
 rcases g with⟨ai,k,e,ey,l⟩|⟨ai,k,b,e,ey,eb,l⟩
 ·subst ey
  obtain⟨z,hd,vs,rel,dd⟩:=mO I.aG e
  refine call_meetsIn PySem.F.slot_dict_get dd.typeIs PySem.F.entry_dict_get (PySem.F.args_dict_get_3 _ _ _) (meets_dict_get_default (cL X.prog X.w) a (mN ry) hd r) ⟨_,dd.mapOf,h _ _ (I.tok _) ?_⟩
  rw[l]
  exact(rel.val k).getD rd
 ·subst ey
  cases (show u=Value.ref b from ry)
  obtain⟨z,hd,xs,rel,dd⟩:=jM I.aG e
  refine call_meetsIn PySem.F.slot_dict_get dd.typeIs PySem.F.entry_dict_get (PySem.F.args_dict_get_3 _ _ _) (meetsH_dict_get_default (tupleKind (cL X.prog X.w)) a b hd r) ⟨tupleKind_room_in1 hu,k,xs,oE I.aG eb,dd,h _ _ (I.tok _) ?_⟩
  rw[l]
  exact(rel.val k).getD rd
end
section
variable {X:Cx}{o e f:Expr}{apos cM:Pos}{td ty tx:TE}
end
section
variable {X:Cx}{pins:List (Addr×Obj)}{σ:St}{H:Hp}{s:Shared}{a:Addr}{ai:List (Key×V)}{A:Around}{E:Value→Shared→Prop}
end
section
variable {X:Cx}{pins:List (Addr×Obj)}{σ:St}{H:Hp}{s:Shared}{a:Addr}{y:V}{u:Value}{A:Around}{E:Value→Shared→Prop}
end
end L2
namespace JD
open PySem PySem.W PySem.Calls PyProof.Rows
theorem Mf{P:Params}{h:Heap}:∀(ns:List Int) (vs:List Value),WellAll P h vs (ns.map WData.int)→IntsAre vs ns:=by
 intro ns
 induction ns with
 |nil =>
  intro vs w
  rw[List.map_nil]at w
  cases w
  exact .nil
 |cons n ns ih =>
  intro vs w
  rw[List.map_cons]at w
  cases w with
  |cons a b =>
   cases a
   exact .cons _ _ (ih _ b)
theorem NB{l:OpenLaw}{n:Nat}(hn:l.most=some n){P:Params}{h:Heap}{args:List WData}{vals:List Value}
  (jf:l.row.toRowW.claim.pre args=true) (Ba:WellAll P h vals args) :
  ∃a vs ns,vals=[Value.ref a]∧args=[WData.list (ns.map WData.int)]∧h.get? a=some { cls:=.type "list",data:=.seq vs.toArray }∧IntsAre vs ns∧ns.length≤n:=by
 have YC:WShape.hasAll [] args [.list .int]=true:=(pre_splitW jf).1
 have hc:l.pre.holds [] { args:=args }=true:=(pre_splitW jf).2
 obtain⟨d,r,rfl,h1,h2⟩:=hasAllW_cons YC
 obtain rfl:=hasAllW_nil h2
 obtain⟨xs,rfl,h3⟩:=hasW_list h1
 obtain⟨ns,rfl⟩:=items_int h3
 have hlen:ns.length≤n:=by
  unfold OpenLaw.pre at hc
  have h4:(WTm.not (.lt (.lit (.int (n:Int))) (.len (.arg 0)))).holds [] { args:=[.list (ns.map .int)] }=true:=by
   have h4:=(holds_andW hc).1
   rw[hn]at h4
   exact h4
  have h5:=condW_of h4 (w_not (w_lt w_lit (w_len_list (w_arg rfl))))
  rw[List.length_map]at h5
  refine Nat.le_of_not_lt fun q=>?_
  have q':(n:Int)<((ns.length:Nat):Int):=by omega
  first
   | (rw[decide_eq_true q']at h5;exact absurd h5 (by decide))
   | (simp at h5;omega)
 cases Ba with
 |cons w1 w2 =>
  cases w2
  cases w1 with
  |list ho Ab=>exact⟨_,_,ns,rfl,rfl,ho,Mf ns _ Ab,hlen⟩
theorem NC(l:OpenLaw)(args:List WData):l.row.toRowW.claim.post args (.bool true) args=true :=
 postW_of (r:=l.row.toRowW) (X:=(true==true))
  (show WShape.has [] (.bool true) .bool=true by first|rfl|decide|simp[WShape.has,WShape.arms,WShape.armsAll])
  (show(WTm.eq .res (.lit (.bool true))).value [] { args:=args,res:=some (.bool true),after:=args }=some (.bool (true==true))from w_eq_bool (w_res rfl) w_lit) rfl
theorem Mx{l:OpenLaw}{n:Nat}{q:Program}{loose:List Str}{XP:(Str→Option Value)→Heap→Prop}{YP:World→Heap→Prop}{d:DefRec}
  (hn:l.most=some n) (sx:d.params.defaults=[])
  (call:∀(w:World) (s₀ s₁:Shared) (mg mb:Str→Option Value) (fa:Addr) (o:Obj) (pm cd doc:Value) (a:Addr) (vs:List Value) (ns:List Int),
   Ground q loose [] XP w s₀ mg mb s₁.heap→YP w s₁.heap →
   s₁.heap.get? fa=some o→o.data=.func (docDef d.name d.params d.body d.scope pm cd doc)→s₁.heap.CodeRec cd d.name→mg d.name=some (.ref fa) →
   s₁.heap.get? a=some { cls:=.type "list",data:=.seq vs.toArray }→IntsAre vs ns→ns.length≤n→s₁.gens=#[] →
   codeAny (model l.prog w) callerA (.call (.ref fa) ⟨[.ref a],[]⟩) (fun r s'=>r=.ok (.ret (.bool true))∧OldK s₁.heap s'.heap∧s'.os=s₁.os∧AllBare s'.gens) s₁) :
  WalkO q loose XP YP l.row.toRowW d [] (fun f vs=>PySem.call f vs):=by
 intro w s₀ s₁ mg mb G Y fa o pm cd doc dV kV ho hd hV hD Bb hg args vals as jf hlay hrd Ba hlo
 obtain rfl:dV=.none:=Dflts.none hD sx
 obtain rfl:kV=.none:=Dflts.noKw hD
 obtain⟨a,vs,ns,rfl,rfl,Ac,hints,hlen⟩:=NB hn jf Ba
 refine enter_call (codeAny_mono (call w s₀ s₁ mg mb fa o pm cd doc a vs ns G Y ho (fd_plain hd) hV Bb Ac hints hlen hg) fun r s' hq=>?_)
 obtain⟨rfl,h2,h3,h4⟩:=hq
 exact⟨.inl ⟨.bool true,.bool true,[],rfl,fun _=>rfl,.bool true,NC l _,fun _=>⟨List.Pairwise.nil,fun _ hm=>(nomatch hm)⟩⟩,h2,h3,h4⟩
section
variable {prog:Program}{w:World}{A:Around}{E:Value→Shared→Prop}{s:Shared}{K:Frag}
end
end JD
namespace L2
open PySem PySem.Spec PyProof.Rows
theorem qv:∀{vs:List Value}{ns:List Int},IntsAre vs ns→Vals (ns.map V.int) vs
 |_,_,.nil=>.nil
 |_,_,.cons n t h=>.cons ⟨t,rfl⟩ (qv h)
def Only(H:Hp):Prop:=∀b,H b=none∨∃o xs,H b=some (.bj o (.lst xs))
theorem OI{P:Program}{w:World}{K:PySem.W.Frag}{mg mb:Str→Option Value}{CX:jo}{k:Nat}{fa a:Addr}{fd:FuncData}{x:Str}{sp:Sp}{s₁:Shared}{vs:List Value}{ns:List Int}
  (KX:K.In s₁.heap) (pM:s₁.heap.Ns mainGlobals mg) (hb:s₁.heap.Ns builtinsNs mb) (kW:∀x:Str,x ≠ "__name__" → mb x=bootBuiltins x) (XJ:s₁.heap.NoLimit) (hg:s₁.gens=#[])
  (ha:s₁.heap.get? a=some { cls:=.type "list",data:=.seq vs.toArray }) (hi:IntsAre vs ns) (hl:ns.length≤sizeLine) (hr:eC k callerA)
  (F:∀base:Heap,K.In base→base.Ns mainGlobals mg→ky P w K mg base CX k fa fd [x] sp) (VQ:∀(s:Shared) (u:Value),BindsTo s fd ⟨[u],[]⟩ [(x,u)])
  (j0:∀H:Hp,Only H→bV K H a (ns.map V.int)→sp [.ref a] H (fun v _=>v=.bl true) fun _ _ _=>False)
  (Bc:∀H e s',CX [] H s₁ (fun _ _ _=>False) e s'→False) :
  codeAny (model P w) callerA (.call (.ref fa) ⟨[.ref a],[]⟩) (fun r s'=>r=.ok (.ret (.bool true))∧OldK s₁.heap s'.heap∧s'.os=s₁.os∧AllBare s'.gens) s₁:=by
 have rv:=qv hi
 have XM:=hi.length
 have core:∀H:Hp,Only H→bV K H a (ns.map V.int)→cO P w H s₁.heap→(∀b,H b≠none→b=a)→(H a≠none→K.lookup a=none) →
   codeAny (model P w) callerA (.call (.ref fa) ⟨[.ref a],[]⟩) (fun r s'=>r=.ok (.ret (.bool true))∧OldK s₁.heap s'.heap∧s'.os=s₁.os∧AllBare s'.gens) s₁:=by
  intro H hO hS aG hA hK
  have EL:∀{b:Addr}{o:Obj},s₁.heap.get? b=some o→H b=none→(ku s₁.heap H).get? b=some o:=fun e n=>Oj e n
  have su:∀{b:Addr}{o:Obj}{es:Array DictEntry}{ep:Nat},s₁.heap.get? b=some o→o.data=.dict es ep→H b=none:=fun {b o es ep} e d=>by
   cases q:H b with
   |none=>rfl
   |some u =>
    have e':b=a:=hA b (by rw[q];simp)
    subst e'
    rw[ha]at e;cases e
    have d':Data.seq vs.toArray _=Data.dict es ep:=d
    cases d'
  have wC:∀{b:Addr}{m:Str→Option Value},s₁.heap.Ns b m→(ku s₁.heap H).Ns b m:=fun {b m} ⟨o,es,ep,e,d,r⟩=>⟨o,es,ep,EL e (su e d),d,r⟩
  have JF:K.In (ku s₁.heap H):=fun b o e=>EL (KX b o e) (by
   cases q:H b with
   |none=>rfl
   |some u =>
    have e':b=a:=hA b (by rw[q];simp)
    subst e'
    rw[hK (by rw[q];simp)]at e;cases e)
  have hM:Mod K mg (ku s₁.heap H):=⟨JF,wC pM,⟨mb,wC hb,kW⟩,let ⟨mc,h1,h2⟩:=XJ;⟨mc,wC h1,h2⟩⟩
  have e0:vU P w K mg (ku s₁.heap H) callerA [] s₁ H:=⟨rfl,hM,fun b o e=>Qb e,Nat.le_of_eq (Nm _ _),trivial,fun b hb=>absurd (show b∈([]:List Addr)from hb) (by simp),aG,.of_eq hg⟩
  refine codeAny_mono ((F _ JF (wC pM)).run callerA [] s₁ H ⟨[.ref a],[]⟩ [.ref a] [.ref a] _ _ hr e0 (VQ s₁ (.ref a)) (.cons rfl .nil) (j0 H hO hS)) fun r s' h=>?_
  cases r with
  |error e=>exact(Bc H e s' h).elim
  |ok fl =>
   cases fl with
   |next=>exact False.elim h
   |brk=>exact False.elim h
   |cont=>exact False.elim h
   |ret u =>
    obtain⟨v,H',os,bare,un,XO,r',q⟩:=h
    have q':v=.bl true:=q
    subst q'
    obtain rfl:u=Value.bool true:=r'
    refine⟨rfl,OldK.of_keep fun b o e=>?_,os,bare⟩
    cases q:H b with
    |none=>exact un.keep b o e q (by intro z;exact absurd (show b∈([]:List Addr)from z) (by simp)) (by simp)
    |some u =>
     rcases hO b with z|⟨ob,xs,z⟩
     ·rw[q]at z;cases z
     ·have z2:=un.i6 b ob _ z
      obtain⟨e1,_⟩:=aG b _ z
      obtain⟨e2,_⟩:=XO b _ z2
      rw[e]at e1;cases e1
      exact e2
 cases hk:K.lookup a with
 |some o =>
  have e:=KX a o hk
  rw[ha]at e
  cases e
  refine core (fun _=>none) (fun _=>.inl rfl) (.inr ⟨_,vs.toArray,_,hk,rfl,rfl,rfl,by rw[List.size_toArray,XM];exact hl,by simpa using rv⟩) (fun b u z=>by have z':(none:Option HO)=some u:=z;cases z') (fun b z=>absurd rfl z) fun z=>absurd rfl z
 |none =>
  refine core (fun b=>if b=a then some (.bj { cls:=.type "list",data:=.seq vs.toArray } (.lst (ns.map V.int)))else none) (fun b=>?_) (.inl (.inr ⟨{ cls:=.type "list",data:=.seq vs.toArray },if_pos rfl⟩)) (fun b u z=>?_) (fun b z=>?_) fun _=>hk
  ·by_cases hb:b=a
   ·exact .inr ⟨_,_,if_pos hb⟩
   ·exact .inl (if_neg hb)
  ·by_cases hb:b=a
   ·have z':=(if_pos hb).symm.trans z
    cases z'
    subst hb
    exact⟨ha,by rw[List.length_map];exact hl,vs,_,rv,ha⟩
   ·have z':=(if_neg hb).symm.trans z
    cases z'
  ·by_cases hb:b=a
   ·exact hb
   ·exact absurd (if_neg hb) z
theorem QB{l:PySem.W.OpenLaw}{n k:Nat}{q:Program}{loose:List Str}{XP:(Str→Option Value)→Heap→Prop}{YP:World→Heap→Prop}{d:DefRec}{K:Params→PySem.W.Frag}{CX:World→jo}{sp:World→Sp}{x:Str}
  (hn:l.most=some n) (Bd:n≤sizeLine) (sx:d.params.defaults=[]) (hr:eC k callerA)
  (hY:∀(w:World) (h:Heap),YP w h→(K w.params).In h)
  (F:∀(w:World) (mg:Str→Option Value) (fa:Addr) (h:Heap),(K w.params).In h→h.Ns mainGlobals mg→mg d.name=some (.ref fa) →
   ∃fd:FuncData,(∀(s:Shared) (u:Value),BindsTo s fd ⟨[u],[]⟩ [(x,u)]) ∧
    ∀base:Heap,(K w.params).In base→base.Ns mainGlobals mg→ky l.prog w (K w.params) mg base (CX w) k fa fd [x] (sp w))
  (j0:∀(w:World) (H:Hp) (a:Addr) (ns:List Int),ns.length≤n→Only H→bV (K w.params) H a (ns.map V.int)→sp w [.ref a] H (fun v _=>v=.bl true) fun _ _ _=>False)
  (Bc:∀(w:World) (H:Hp) (s:Shared) (e:Value) (s':Shared),CX w [] H s (fun _ _ _=>False) e s'→False) :
  PySem.W.WalkO q loose XP YP l.row.toRowW d [] (fun f vs=>PySem.call f vs):=by
 refine JD.Mx hn sx fun w s₀ s₁ mg mb fa o pm cd doc a vs ns G Y ho hd hV Bb Ac hints hlen hg=>?_
 have KX:=hY w _ Y
 obtain⟨fd,hb,hF⟩:=F w mg fa _ KX G.T.g Bb
 exact OI KX G.T.g G.T.b G.T.builtins G.T.nolimit hg Ac hints (Nat.le_trans hlen Bd) hr hF hb (fun H hO hS=>j0 w H a ns hlen hO hS) fun H e s'=>Bc w H s₁ e s'
noncomputable def gf(s:Stmt):Arguments:=match s with
 |.FunctionDef _ a _ _ _ _ _ _ _ _=>a
 |_=>{ posonlyargs:=[],args:=[],vararg:=none,kwonlyargs:=[],kw_defaults:=[],kwarg:=none,defaults:=[] }
noncomputable def fG(s:Stmt):List Stmt:=match s with
 |.FunctionDef _ _ b _ _ _ _ _ _ _=>b
 |_=>[]
noncomputable def cy(s:Stmt):Scope:=match s with
 |.FunctionDef _ _ _ _ _ _ sc _ _ _=>sc
 |_=>{ kind:=.function,names:=[],isGenerator:=false,isCoroutine:=false }
noncomputable abbrev kY:jo:=fun _ _ _ _ _ _=>False
noncomputable abbrev E0:XK:=fun _ _ _=>False
theorem G6{X:Cx}:Passes kY X E0:=fun _ _ _ _ _ _ _ h=>h.elim
structure pN (K:PySem.W.Frag)(x qual:Str)(st:Stmt)(f:Addr)(fd:FuncData):Prop where
 ex:∃(oc:Value) (od:Option Addr) (kV doc pm:Value) (an:Option Addr) (bW ct:Value) (jr:Array (Option Value)),
  fd=PySem.W.fnOf x qual (gf st) (fG st) (cy st) .none kV doc pm an bW ct∧K.lookup f=some ⟨oc,od,.func fd,jr⟩∧PySem.W.codeIn K bW qual=true
 kp:PySem.W.keepIn K (.ref f)=true
section
variable {P:Program}{w:World}{K:PySem.W.Frag}{mg:Str→Option Value}{base:Heap}
theorem pN.ok{x qual:Str}{st:Stmt}{f:Addr}{fd:FuncData}{N ps:List Str}{k:Nat}{sp:Sp}(F:pN K x qual st f fd)(S:qJ N ps (cy st))(len:∀vs H Q E,sp vs H Q E→vs.length=ps.length)
  (rq:∀(bW:Value) (A:Around) (outer:List Env) (s:Shared) (H:Hp) (vs:List V) (Q:VK) (E:XK),eC k (A.deeper (envOfC qual (cy st) s.heap.objs.size f bW))→sp vs H Q E →
   ∃t,gp (lG kY P w K mg base N qual (cy st) f bW A outer s H E).nr (fG st) t∧t { nx:=fun _ H'=>Q .non H',rt:=Q } (start N vs) H):ky P w K mg base kY (k+1) f fd ps sp:=by
 obtain⟨oc,od,kV,doc,pm,an,bW,ct,jr,rfl,lk,hV⟩:=F.ex
 refine GX lk hV S len fun A outer s H vs Q E hr j0=>?_
 obtain⟨t,h,q⟩:=rq bW A outer s H vs Q E hr j0
 exact⟨t,h.nr,q⟩
theorem pN.binds{x qual:Str}{st:Stmt}{f:Addr}{fd:FuncData}{ps:List Str}(F:pN K x qual st f fd)
  (h:∀(kV doc pm:Value) (an:Option Addr) (bW ct:Value) (us:List Value),us.length=ps.length→bindArgs (PySem.W.fnOf x qual (gf st) (fG st) (cy st) .none kV doc pm an bW ct) ⟨us,[]⟩=pure (ps.zip us)):Binds K fd ps []:=by
 obtain⟨oc,od,kV,doc,pm,an,bW,ct,jr,rfl,lk,hV⟩:=F.ex
 exact .all (h kV doc pm an bW ct)
theorem zi{x qual:Str}{st:Stmt}{f:Addr}{oc:Value}{od an:Option Addr}{jr:Array (Option Value)}{kV doc pm bW ct:Value}(l:K.lookup f=some ⟨oc,od,.func (PySem.W.fnOf x qual (gf st) (fG st) (cy st) .none kV doc pm an bW ct),jr⟩)
 (c:PySem.W.codeIn K bW qual=true) (k:PySem.W.keepIn K (.ref f)=true):pN K x qual st f (PySem.W.fnOf x qual (gf st) (fG st) (cy st) .none kV doc pm an bW ct):=⟨⟨oc,od,kV,doc,pm,an,bW,ct,jr,rfl,l,c⟩,k⟩
end
theorem mP{A:Around}{k:Nat}(hr:eC k A):A.units+1<cLine:=dC (Nat.add_le_add_left (by decide:1≤64) _) hr.units
section
variable {X:Cx}
end
theorem XQ{A B:Prop}(h:A):if true=true then A else B:=by
 rw[if_pos rfl]
 exact h
def aL(H H':Hp):Prop:=∀b o,H b=some o→H' b=some o
theorem aL.refl(H:Hp):aL H H:=fun _ _ h=>h
theorem aL.trans{H H1 H2:Hp}(a:aL H H1)(b:aL H1 H2):aL H H2:=fun c o h=>b c o (a c o h)
theorem aL.free{H H':Hp}(e:aL H H'){l:Addr}(h:H' l=Option.none):H l=Option.none:=by
 cases q:H l with
 |none=>rfl
 |some o =>
  rw[e l o q]at h
  cases h
section
variable {κ:Type}[DecidableEq κ]
end
theorem Mq{α β:Type}{l:List α}{f:α→β→Sem (ForInStep β)}(g:α→β→β):∀(c:β),(∀x∈l,∀c,f x c=pure (.yield (g x c)))→forIn l c f=pure (l.foldl (fun c x=>g x c) c):=by
 induction l with
 |nil=>intro c _;rfl
 |cons x l ih =>
  intro c h
  rw[List.forIn_cons,h x cv,pure_bind]
  exact ih (g x c) fun y hy=>h y (df _ hy)
noncomputable def iq(env:Env)(x:Str×NameKind)(cs:List (Str×Addr)):List (Str×Addr):=if (x.2==NameKind.free)=true then (x.1,(env.cells.lookup x.1).getD 0)::cs else cs
noncomputable def mX(sc:Scope)(env:Env):List (Str×Addr):=sc.names.foldl (fun cs x=>iq env x cs) []
theorem CH{sc:Scope}{env:Env}(h:∀x∈sc.names,x.2=.free→∃c,env.cells.lookup x.1=some c):closureFor sc env=pure (mX sc env):=by
 simp only[closureFor]
 rw[Mq (iq env) [] (fun x hx c=>?_)]
 ·rfl
 ·obtain⟨n,kind⟩:=x
  cases hk:kind==NameKind.free with
  |false=>simp[iq,hk]
  |true =>
   obtain⟨a,ha⟩:=h (n,kind) hx (by simpa using hk)
   have YD:env.cells.lookup n=some a:=ha
   simp[iq,hk,cellOf,YD]
theorem F1(env:Env)(hh:∀(x:Str×NameKind),x.2=.free→True):∀(names:List (Str×NameKind)) (acc:List (Str×Addr)),(∀x∈names,x.2=.free→∃c,env.cells.lookup x.1=some c)→(∀x c,acc.lookup x=some c→env.cells.lookup x=some c) →
  ∀x c,(names.foldl (fun cs x=>iq env x cs) acc).lookup x=some c→env.cells.lookup x=some c
 |[],acc,_,ha,x,c,h=>ha x c h
 |y::r,acc,hf,ha,x,c,h=>by
  refine F1 env hh r (iq env y acc) (fun z hz=>hf z (df _ hz)) (fun z d hd=>?_) x c h
  unfold iq at hd
  split at hd
  ·rename_i hk
   obtain⟨a,e⟩:=hf y cv (by simpa using hk)
   by_cases q:z=y.1
   ·subst q
    simp[e]at hd
    rw[e,hd]
   ·have q':(z==y.1)=false:=by simpa using q
    rw[List.lookup_cons,q']at hd
    exact ha z d hd
  ·exact ha z d hd
theorem F2(env:Env):∀(names:List (Str×NameKind)) (acc:List (Str×Addr)) (x:Str),((∃c,acc.lookup x=some c)∨(x,NameKind.free)∈names)→∃c,(names.foldl (fun cs x=>iq env x cs) acc).lookup x=some c
  |[],acc,x,h=>by
    rcases h with h|h
    · exact h
    · exact nomatch h
  |y::r,acc,x,h=>by
    refine F2 env r (iq env y acc) x ?_
    by_cases hk:(y.2==NameKind.free)=true
    · by_cases q:x=y.1
      · refine .inl ⟨(env.cells.lookup y.1).getD 0,?_⟩
        unfold iq
        rw[if_pos hk,q]
        simp
      · have q':(x==y.1)=false:=by simpa using q
        rcases h with⟨c,h⟩|h
        · refine .inl ⟨c,?_⟩
          unfold iq
          rw[if_pos hk,List.lookup_cons,q']
          exact h
        · rcases List.mem_cons.mp h with e|e
          · exact absurd (congrArg (·.1) e) q
          · exact .inr e
    · rcases h with⟨c,h⟩|h
      · refine .inl ⟨c,?_⟩
        unfold iq
        rw[if_neg hk]
        exact h
      · rcases List.mem_cons.mp h with e|e
        · refine absurd ?_ hk
          rw[←e]
          rfl
        · exact .inr e
theorem uq{env:Env}{x:Str}{k:NameKind}:∀{names:List (Str×NameKind)},(names.map fun(n,k)=>if (k==NameKind.free&&env.scope.kind==.function&&env.kindOf n==some .cell)then (n,NameKind.cell)else (n,k)).lookup x=some k →
    names.lookup x=some k∨(k=.cell∧names.lookup x=some .free)
  |[],h=>by simp at h
  | (n,j)::r,h=>by
    have ih:=@uq env x k r
    rw[List.map_cons]at h
    cases hx:x==n with
    |true =>
      by_cases hc:(j==NameKind.free&&env.scope.kind==.function&&env.kindOf n==some .cell)=true
      · simp only[hc,if_true]at h
        rw[List.lookup_cons,hx]at h
        have e:NameKind.cell=k:=Option.some.inj h
        refine .inr ⟨e.symm,?_⟩
        rw[List.lookup_cons,hx]
        simp only[Bool.and_eq_true]at hc
        have ej:j=.free:=by simpa using hc.1.1
        rw[ej]
      · simp only[hc,Bool.false_eq_true,if_false]at h
        rw[List.lookup_cons,hx]at h
        exact .inl (by rw[List.lookup_cons,hx];exact h)
    |false =>
      have h':(r.map fun(n,k)=>if (k==NameKind.free&&env.scope.kind==.function&&env.kindOf n==some .cell)then (n,NameKind.cell)else (n,k)).lookup x=some k:=by
        by_cases hc:(j==NameKind.free&&env.scope.kind==.function&&env.kindOf n==some .cell)=true
        · simp only[hc,if_true]at h
          rw[List.lookup_cons,hx]at h
          exact h
        · simp only[hc,Bool.false_eq_true,if_false]at h
          rw[List.lookup_cons,hx]at h
          exact h
      rw[List.lookup_cons,hx]
      exact ih h'
noncomputable def Cx.cP(X:Cx)(N:List Str)(sc:Scope)(C:Addr)(s₂:Shared)(H₂:Hp)(fp:List Addr)(pn:List (Addr×Obj)):Cx where
 prog:=X.prog
 w:=X.w
 K:=X.K
 mg:=X.mg
 base:=X.base
 A:=X.A
 N:=N
 s₀:=s₂
 H₀:=H₂
 env:=compEnvC sc (mX sc X.env) C X.env
 outer:=X.stack
 stack:=X.stack
 ex:=fp
 fn:=fun _=>false
 calm:=X.calm
 pn:=pn
 xe:=fun _ _=>False
def nC(X:Cx)(ifs:List Expr)(t:TT):Prop :=
 ∀(pins:List (Addr×Obj)) (s:Shared) (σ:St) (H:Hp) (Q:Bool→Hp→Prop),Inv X pins σ H s→t σ H Q →
  wpAny (model X.prog X.w) X.A (forIn ifs true fun c r=>if r=true then do let ok ←isTrue c X.env (eval c X.env);pure (ForInStep.yield ok)else pure (ForInStep.yield r)) (TP X pins σ Q) X.xe s
noncomputable def vV:TT:=fun _ H Q=>Q true H
theorem uW{X:Cx}:nC X [] vV:=fun _ _ _ H _ I h=>wpAny_tests_nil ⟨H,I,h⟩
theorem ER{X:Cx}{c:Expr}{t:TT}(h:PT X c t):nC X [c] t:=fun pins s σ H Q I hq=>wpAny_tests_one (h pins s σ H Q I hq)
noncomputable def fT(σ:St)(ix:List Nat):St:=ix.map fun i=>(σ[i]?).getD none
def zI(J:It)(D:Addr)(H1:Hp)(fr:St)(tc:TT)(te:TE)(Q:Addr→Hp→Prop):Prop :=
 ∃W:Nat→Nat→Hp→Prop,(∃m,W 0 m (upd H1 D (.lst [])))∧∀i m H,W i m H→(J.stop i H∧Q D H) ∨
  (J.go i H∧∀x H',J.jn i H x H'→tc (some x::fr) H' fun b H3=>if b=true then te (some x::fr) H3 fun y H4=>∃ys,H4 D=some (.lst ys)∧ys.length<sizeLine∧∃m',m'<m∧W (i+1) m' (upd H4 D (.lst (ys++[y])))
   else ∃m',m'<m∧W (i+1) m' H3)
noncomputable def oR(wi:TI)(ix:List Nat)(tc:TT)(te:TE):TE:=fun σ H Q=>wi σ H fun J H1=>∀D,H1 D=none→zI J D H1 (fT σ ix) tc te fun D H=>Q (.ref D) H
theorem Mz{prog:Program}{w:World}{A:Around}{s:Shared}{R:Result→Shared→Prop}{elt target iter:Expr}{ifs:List Expr}{scope:Scope}{pos:Pos}{it acc:Value}{env:Env}(I:Nat→Shared→Prop)
  (turn:∀n s,I n s→wpAny (model prog w) A (pyNext it) (fun r s₁=>match r with
   |none=>R (.ok .next) s₁
   |some v=>wpAny (model prog w) A (letOwnedTupleGo target it v) (fun _ s₂=>wpAny (model prog w) A (assign target env v) (fun _ s₃ =>
    wpAny (model prog w) A (forIn ifs true fun c r=>if r=true then do let ok ←isTrue c env (eval c env);pure (ForInStep.yield ok)else pure (ForInStep.yield r)) (fun ok s₄ =>
     if ok=true then wpAny (model prog w) A (eval elt env) (fun x s₅ =>
      wpAny (model prog w) A (call (.builtin "list.append") [acc,x]) (fun _ s₆=>∃m,m<n∧I m s₆) (notedBy (model prog w) A env fun e s'=>R (.error e) s') s₅) (notedBy (model prog w) A env fun e s'=>R (.error e) s') s₄
     else ∃m,m<n∧I m s₄) (notedBy (model prog w) A env fun e s'=>R (.error e) s') s₃) (notedBy (model prog w) A env fun e s'=>R (.error e) s') s₂) (notedBy (model prog w) A env fun e s'=>R (.error e) s') s₁) (notedBy (model prog w) A env fun e s'=>R (.error e) s') s)
  (n:Nat) (h:I n s) :
  codeAny (model prog w) A (.compLoop (.ListComp elt [⟨target,iter,ifs,0⟩] scope pos) 0 it acc env) R s:=by
 refine codeAny_loop rfl I (fun n s hI=>?_) n h
 show wpAny _ A ((compTurn (.ListComp elt [⟨target,iter,ifs,0⟩] scope pos) 0 it acc env).onRaise (fun x=>do noteFrame x env;theTreesLotGoes x)) _ _ s
 refine wpAny_noted ?_
 rw[compTurn_list]
 refine ao (wpAny_standAt (ao (wpAny_mono (turn n s hI) (fun r s₁ h₁=>?_) fun _ _ h'=>h')))
 cases r with
 |none=>exact aC h₁
 |some v =>
  refine ao (wpAny_mono h₁ (fun _ s₂ h₂=>?_) fun _ _ h'=>h')
  refine ao (wpAny_mono h₂ (fun _ s₃ h₃=>ao (wpAny_mono h₃ (fun ok s₄ h₄=>?_) fun _ _ h'=>h')) fun _ _ h'=>h')
  cases ok with
  |false=>exact aC ⟨rfl,h₄⟩
  |true =>
   exact ao (ao (wpAny_mono h₄ (fun x s₅ h₅=>ao (wpAny_mono h₅ (fun _ s₆ h₆=>aC (aC ⟨rfl,h₆⟩)) fun _ _ h'=>h')) fun _ _ h'=>h'))
structure mG (N N':List Str)(sc aE:Scope)(x:Str)(ix:List Nat):Prop where
 kind:aE.kind=.function
 F3:∀y∈aE.names,y.2≠.cell
 names:∀y∈aE.names,y.2=.local→aE.names.lookup y.1=some .local
 loc:aE.names.lookup x=some .local
 free:∀y∈aE.names,y.2=.free→sc.names.lookup y.1=some .cell
 nd:N'.Nodup
 hd:N'[0]?=some x
 len:N'.length=ix.length+1
 fr:∀p∈ix.zip N'.tail,N[p.1]?=some p.2∧sc.names.lookup p.2=some .cell∧aE.names.lookup p.2=some .free
section
variable {X:Cx}{N':List Str}{aE:Scope}{x:Str}{ix:List Nat}{px pos:Pos}{elt iter:Expr}{ifs:List Expr}{wi:TI}{tc:TT}{te:TE}
theorem C8{pins:List (Addr×Obj)}{σ:St}{H2:Hp}{s2:Shared}{it:Addr}{fp:List Addr}{tn:Nat→Heap→Prop}{J:It}{RR:Value→Addr→Result→Shared→Prop}{E:Value→Shared→Prop}{Qd:Addr→Hp→Prop}
  (ok:mG X.N N' X.env.scope aE x ix) (hc:X.calm=true) (I2:Inv X pins σ H2 s2) (T:Turn X.prog X.w X.K (.Name x px) J fp it tn) (bw:tn 0 s2.heap) (f2:∀b∈fp,jQ X pins H2 b)
  (iM:∀C s₂ H₂ fp pn,nC (X.cP N' aE C s₂ H₂ fp pn) ifs tc) (gM:∀C s₂ H₂ fp pn,PE (X.cP N' aE C s₂ H₂ fp pn) elt te)
  (hW:∀D,H2 D=none→zI J D H2 (fT σ ix) tc te Qd)
  (YF:∀D C s4 H4 m,Inv X pins σ H4 s4→s4.heap.Ns C m→(∀(h':Heap) (t':Nat) (σ':St) (s5:Shared),Inv X pins σ' H4 s5→Heap.SameBut C s5.heap h'→Inv X pins σ' H4 { s5 with heap:=h',toks:=t' })→C≠X.env.locals→(∀y c,X.env.cells.lookup y=some c→c≠C)→Qd D H4→RR (.ref D) C (.ok .next) s4) :
  wpAny (model X.prog X.w) X.A (newList []) (fun acc s₃=>wpAny (model X.prog X.w) X.A (newFunctionEnv aE X.env.globals (mX aE X.env) [] X.env.qual none .none (some X.env)) (fun HX s₄ =>
   codeAny (model X.prog X.w) X.A (.compStart (.ListComp elt [⟨.Name x px,iter,ifs,0⟩] aE pos) 0 (.ref it) acc { HX with scope:=relabel aE X.env }) (RR acc HX.locals) s₄) E s₃) E s2:=by
 refine wpAny_newObj_type (wpAny_newFunctionEnv ok.F3 (by intro y hy;simp at hy) (fun h₁ hns₁ hsb₁=>?_) ok.kind)
 dsimp only at hns₁ hsb₁ ⊢
 generalize Be:s2.heap.push { cls:=.type "list",dict:=none,data:=.seq ([]:List Value).toArray }=HP at hns₁ hsb₁ ⊢
 have hC:HP.objs.size=s2.heap.objs.size+1:=by rw[←Be,Heap.size_push]
 have wD:s2.heap.objs.size≠HP.objs.size:=by rw[hC];exact Nat.ne_of_lt (Nat.lt_succ_self _)
 have rM:s2.heap.objs.size≤HP.objs.size:=by rw[hC];exact Nat.le_succ _
 have below:∀b,b<s2.heap.objs.size→b≠HP.objs.size∧b≠s2.heap.objs.size:=fun b hb=>⟨by rw[hC];exact Nat.ne_of_lt (Nat.lt_succ_of_lt hb),Nat.ne_of_lt hb⟩
 have old:∀b o,s2.heap.get? b=some o→h₁.get? b=some o:=fun b o e=>hsb₁.extBut b o (below b (cg e)).1 (dz _ (Be▸dz _ e))
 have pf:h₁.get? s2.heap.objs.size=some { cls:=.type "list",dict:=none,data:=.seq ([]:List Value).toArray }:=hsb₁.extBut _ _ wD (dz _ (Be▸fL _ rfl))
 have Bf:H2 s2.heap.objs.size=none:=I2.aG.fresh (bf _)
 have JH:H2 HP.objs.size=none:=I2.aG.fresh rM
 generalize hD:s2.heap.objs.size=D at wD pf Bf ⊢
 generalize hCC:HP.objs.size=C at hns₁ hsb₁ wD JH rM below ⊢
 have vw:∀y∈aE.names,y.2=.free→∃c,X.env.cells.lookup y.1=some c:=fun y hy e=>I2.ok.has y.1 (.inl (ok.free y hy e))
 have lT:∀y c,(mX aE X.env).lookup y=some c→X.env.cells.lookup y=some c:=F1 X.env (fun _ _=>trivial) aE.names [] vw (fun _ _ z=>by simp at z)
 have JK:∀y,(y,NameKind.free)∈aE.names→∃c,(mX aE X.env).lookup y=some c:=fun y hy=>F2 X.env aE.names [] y (.inr hy)
 have F4:∀y c,X.env.cells.lookup y=some c→c<s2.heap.objs.size:=fun y c e=>by
  obtain⟨v,o,ho,_⟩:=I2.cell y c e
  exact cg ho
 have Ad:∀b∈fp,b<s2.heap.objs.size:=fun b hb=>by
  obtain⟨o,e,_⟩:=T.obj 0 _ bw b hb
  exact cg e
 have Ae:∀b,b≠X.env.locals→b∉X.fs→b∉iK X.stack:=fun b h1 h2 z=>(List.mem_cons.mp (I2.zc b z)).elim h1 h2
 have YG:(X.cP N' aE C s2 H2 fp (X.pn++pins)).Ok:=by
  refine⟨I2.ok.mod,ok.kind,I2.ok.glob,I2.ok.blt,rM,fun y z c h1 h2=>?_,fun y hy=>?_,fun y c z=>?_,I2.ok.hd,I2.ok.frames,.inl rfl,fun b hb=>?_,I2.bs,Nat.le_trans I2.ok.kM I2.sz,fun b o e hb=>?_,fun b hb=>?_,I2.stack,I2.Ey⟩
  ·exact I2.ok.inj y z c (lT y c h1) (lT z c h2)
  ·have A9:(relabel aE X.env).names.lookup y=some .cell∨(relabel aE X.env).names.lookup y=some .free:=hy
   have hf:aE.names.lookup y=some .free:=by
    rcases A9 with z|z
    ·rcases uq z with q|q
     ·exact absurd rfl (ok.F3 _ (PySem.mem_of_lookup q))
     ·exact q.2
    ·rcases uq z with q|q
     ·exact q
     ·exact absurd q.1 (by decide)
   exact JK y (PySem.mem_of_lookup hf)
  ·exact nomatch z
  ·exact⟨(below b (Ad b hb)).1,fun y c e=>(f2 b hb).2.2.2.2.1 y c (lT y c e)⟩
  ·rcases (f2 b hb).2.2.2.1 with z|z
   ·exact I2.ok.rH b o e z
   ·exact absurd (fw (cg e) (Nat.le_trans I2.ok.kM z)) (Nat.lt_irrefl _)
  ·exact Ae b (f2 b hb).2.1 (f2 b hb).2.2.1
 have Bg:∀{H':Hp},(∀b∈fp,H' b=none)→∀b∈fp,jQ (X.cP N' aE C s2 H2 fp (X.pn++pins)) [] H' b:=fun hn b hb =>
  ⟨hn b hb,(below b (Ad b hb)).1,Ae b (f2 b hb).2.1 (f2 b hb).2.2.1,.inl hb,fun y c e=>(f2 b hb).2.2.2.2.1 y c (lT y c e),fun p hp=>(f2 b hb).2.2.2.2.2 p (by simpa using (show p∈(X.pn++pins)++[] from hp))⟩
 obtain⟨mL,hmL,VR⟩:=id I2.loc
 have IB:Inv (X.cP N' aE C s2 H2 fp (X.pn++pins)) [] (none::fT σ ix) (upd H2 D (.lst [])) { s2 with heap:=h₁,toks:=s2.toks+([]:List (Str×Value)).length }:=by
  refine⟨YG,rfl,I2.bare,Un.laid old (Nat.le_of_eq hD) Bf,⟨_,hns₁,fun i y v h1 h2 h3=>?_⟩,fun y c e=>?_,?_,fun y c e=>?_,fun p hp=>?_,I2.aG.laid old (Nat.le_of_eq hD) ⟨Nat.zero_le _,[],_,.nil,pf⟩,?_⟩
  ·cases i with
   |zero=>exact nomatch h2
   |succ j =>
    have pO:(fT σ ix)[j]?=some (some v):=h2
    have YH:N'[j+1]?=some y:=h1
    unfold fT at pO
    rw[cV]at pO
    cases ei:ix[j]? with
    |none=>rw[ei]at pO;cases pO
    |some i =>
     rw[ei]at pO
     have vX:(σ[i]?).getD none=some v:=Option.some.inj pO
     have hσ:σ[i]?=some (some v):=by
      cases es:σ[i]? with
      |none=>rw[es]at vX;cases vX
      |some q=>rw[es]at vX;exact congrArg some vX
     have XR:N'.tail[j]?=some y:=by rw[List.getElem?_tail];exact YH
     obtain⟨n1,n2,n3⟩:=ok.fr (i,y) (dO (i:=j) (by rw[List.getElem?_zip_eq_some];exact⟨ei,XR⟩))
     obtain⟨u,ru,lk⟩:=VR i y v n1 hσ (.inr (.inl n2))
     refine⟨u,ru,?_⟩
     rcases lk with⟨k,_⟩|⟨_,c,ec,z⟩
     ·have k':X.env.scope.names.lookup y=some .local:=k
      rw[n2]at k'
      cases k'
     ·obtain⟨c',JL⟩:=JK y (PySem.mem_of_lookup n3)
      have e3:=lT y c' JL
      rw[ec]at e3
      cases e3
      have kk:(relabel aE X.env).names.lookup y=some .cell∨(relabel aE X.env).names.lookup y=some .free:=by
       rcases h3 with q|q|q
       ·have q':(relabel aE X.env).names.lookup y=some .local:=q
        rcases uq q' with r|r
        ·rw[n3]at r;cases r
        ·exact absurd r.1 (by decide)
       ·exact .inl q
       ·exact .inr q
      exact .inr ⟨kk,c,JL,z.keeps old⟩
  ·obtain⟨v,z⟩:=I2.cell y c (lT y c e)
   exact⟨v,z.keeps old⟩
  ·show upd H2 D (.lst []) C=none
   rw[aK (Ne.symm wD)]
   exact JH
  ·show upd H2 D (.lst []) c=none
   have l:=F4 y c (lT y c e)
   rw[aK (fun q=>by rw[q,←hD]at l;exact Nat.lt_irrefl _ l)]
   exact I2.gW y c (lT y c e)
  ·have YJ:p∈X.pn++pins:=by simpa using (show p∈(X.pn++pins)++[] from hp)
   obtain⟨e,n,ne,nf,d⟩:=I2.pin p YJ
   have l:=cg e
   refine⟨old _ _ e,?_,(below p.1 l).1,Ae p.1 ne nf,d⟩
   rw[aK (fun q=>by rw[q,←hD]at l;exact Nat.lt_irrefl _ l)]
   exact n
  ·show(none::fT σ ix:St).length=N'.length
   rw[ok.len]
   simp[fT]
 have back:∀{H4:Hp}{s4:Shared}{σ4:St}{ps:List (Addr×Obj)},Inv (X.cP N' aE C s2 H2 fp (X.pn++pins)) ps σ4 H4 s4→Inv X pins σ H4 s4:=fun I4 =>
  I2.Vv I4.os I4.base I4.aG I4.bare fun b hb=>⟨(f2 b hb).2.2.2.1,(f2 b hb).2.1,(f2 b hb).2.2.2.2.1,(f2 b hb).2.2.2.2.2⟩
 have nh:C≠X.env.locals:=fun z=>by
  have l:=I2.lt
  rw[←z]at l
  exact absurd (fw l rM) (Nat.lt_irrefl _)
 have kN:∀y c,X.env.cells.lookup y=some c→c≠C:=fun y c e=>(below c (F4 y c e)).1
 have YK:∀p∈X.pn++pins,p.1≠C:=fun p hp=>(below p.1 (cg (I2.pin p hp).1)).1
 have loop:∀s₃:Shared,s₃={ s2 with heap:=h₁,toks:=s2.toks+([]:List (Str×Value)).length } →
   codeAny (model X.prog X.w) X.A (.compLoop (.ListComp elt [⟨.Name x px,iter,ifs,0⟩] aE pos) 0 (.ref it) (.ref D) (compEnvC aE (mX aE X.env) C X.env)) (RR (.ref D) C) s₃:=by
  rintro s₃ rfl
  obtain⟨W,⟨m0,YL⟩,turn⟩:=hW D Bf
  refine Mz (fun n s'=>∃i H',Inv (X.cP N' aE C s2 H2 fp (X.pn++pins)) [] (none::fT σ ix) H' s'∧tn i s'.heap∧(∀b∈fp,H' b=none)∧W i n H') ?_ m0
   ⟨0,_,IB,T.keep _ _ _ bw fun b _ o e=>old b o e,fun b hb=>?_,YL⟩
  ·rintro n s3 ⟨i,H3,I3,bA,sk,w3⟩
   rcases turn i n H3 w3 with⟨stop,qn⟩|⟨go,step⟩
   ·refine aI (T.done (X.cP N' aE C s2 H2 fp (X.pn++pins)) rfl rfl rfl hc i [] s3 _ H3 _ I3 (Bg sk) bA stop) fun r s4 ⟨hr,I4⟩=>?_
    subst hr
    obtain⟨m4,YM,_⟩:=id I4.loc
    refine YF D C s4 H3 m4 (back I4) YM (fun h' t' σ' s5 I5 sb=>I5.turned (it:=C) (fun b o hb e=>(sb.2 b hb).trans e) I4.free nh (.inr (Nat.le_trans I2.sz rM)) kN YK) nh kN qn
   ·refine aI (T.item (X.cP N' aE C s2 H2 fp (X.pn++pins)) rfl rfl rfl hc i [] s3 _ H3 _ I3 (Bg sk) bA go) fun r s4 ⟨u,hr,h4⟩=>?_
    subst hr
    refine aI h4 fun _ s5 ⟨v,H5,I5,r5,y5,fB,AX⟩=>?_
    have AY:=I5.pinned (Bg AX) (T.obj _ _ fB)
    have JM:(compEnvC aE (mX aE X.env) C X.env).scope.names.lookup x=some .local:=lookup_relabel_local ok.loc
    have fin:∀{H7:Hp}{s7:Shared},Inv (X.cP N' aE C s2 H2 fp (X.pn++pins)) ([]++qS fp s5.heap) (some v::fT σ ix) H7 s7→∀{m':Nat},m'<n→W (i+1) m' H7 →
      ∃m,m<n∧∃i H',Inv (X.cP N' aE C s2 H2 fp (X.pn++pins)) [] (none::fT σ ix) H' s7∧tn i s7.heap∧(∀b∈fp,H' b=none)∧W i m H':=fun {H7 s7} I7 {m'} hm w7=>by
     refine⟨m',hm,i+1,H7,I7.uN.weak rfl (fun j q e=>?_),T.keep _ _ _ fB fun b hb o e=>(I7.pin (b,o) (List.mem_append_right _ (List.mem_append_right _ (uG hb e)))).1,fun b hb=>?_,w7⟩
     ·cases j with
      |zero=>exact nomatch e
      |succ j=>exact e
     ·obtain⟨o,e,d⟩:=T.obj _ _ fB b hb
      exact(I7.pin (b,o) (List.mem_append_right _ (List.mem_append_right _ (uG hb e)))).2.1
    refine wpAny_mono (EA (X:=X.cP N' aE C s2 H2 fp (X.pn++pins)) (i:=0) ok.nd ok.hd (.inl JM) (.inr JM) _ s5 _ H5 v u (fun σ' H'=>σ'=some v::fT σ ix∧H'=H5) AY r5 ⟨rfl,rfl⟩) (fun _ s6 ⟨σ6,H6,I6,e1,e2⟩=>?_) fun _ _ z=>z.elim
    subst e1 e2
    refine wpAny_mono (iM C s2 H2 fp (X.pn++pins) _ s6 _ _ _ I6 (step v _ y5)) (fun b s7 ⟨H7,I7,q7⟩=>?_) fun _ _ z=>z.elim
    cases b with
    |false =>
     rw[if_neg aX]at q7 ⊢
     obtain⟨m',hm,w7⟩:=q7
     exact fin I7 hm w7
    |true =>
     rw[if_pos rfl]at q7 ⊢
     refine wpAny_mono (gM C s2 H2 fp (X.pn++pins) _ s7 _ _ _ I7 q7) (fun uy s8 ⟨y,H8,I8,r8,ys,nD,hl,m',hm,w8⟩=>?_) fun _ _ z=>z.elim
     refine wpAny_mono (DC (X:=X.cP N' aE C s2 H2 fp (X.pn++pins)) _ s8 _ H8 (.ref D) [y] (.ref D) [uy] (fun _ H'=>H'=upd H8 D (.lst (ys++[y]))) I8 rfl (.cons r8 .nil) ⟨D,ys,y,rfl,rfl,nD,hl,rfl⟩) (fun _ s9 ⟨z,H9,I9,_,q9⟩=>?_) fun _ _ z=>z.elim
     subst q9
     exact fin I9 hm w8
  ·show upd H2 D (.lst []) b=none
   have l:=Ad b hb
   rw[aK (fun q=>by rw[q,←hD]at l;exact Nat.lt_irrefl _ l)]
   exact(f2 b hb).1
 exact codeAny_compStart_list (loop _ rfl) (T.self X.A 0 _ _ _ (T.keep _ _ _ bw fun b _ o e=>old b o e) (loop _ rfl))
theorem uX(ok:mG X.N N' X.env.scope aE x ix)(hc:X.calm=true)(hi:PI X (.Name x px) iter wi)(iM:∀C s₂ H₂ fp pn,nC (X.cP N' aE C s₂ H₂ fp pn) ifs tc)(gM:∀C s₂ H₂ fp pn,PE (X.cP N' aE C s₂ H₂ fp pn) elt te)
  (hs:∀x,foldedSetIterable iter X.env x=pure x:=by intro _;rfl):PE X (.ListComp elt [⟨.Name x px,iter,ifs,0⟩] aE pos) (oR wi ix tc te):=by
 intro pins s σ H Q I h
 rw[eval_ListComp]
 refine wpAny_comprehension_free (use:=none) rfl hs (CH fun y hy e=>I.ok.has y.1 (.inl (ok.free y hy e))) ok.kind ok.names (aI (hi pins s σ H _ I h) fun v s1 h1=>aI h1 fun wt s2 h2=>?_)
 obtain⟨it,fp,tn,J,H2,e,I2,T,bw,f2,hW⟩:=h2
 subst e
 refine C8 (RR:=fun acc C=>compPost (model X.prog X.w) X.A X.xe none (EP X pins σ Q) acc C) (Qd:=fun D H=>Q (.ref D) H) ok hc I2 T bw f2 iM gM hW ?_
 intro D C s4 H4 m I4 pM tr _ _ q
 exact⟨m,pM,fun h' sb=>⟨.ref D,H4,tr h' s4.toks σ s4 I4 sb,rfl,q⟩⟩
theorem MZ{i:Nat}{y:Str}{py rN:Pos}(hN:X.N.Nodup)(Bh:X.N[i]?=some y)(hy:X.env.scope.names.lookup y=some .local)(ok:mG X.N N' X.env.scope aE x ix)(hc:X.calm=true)(hi:PI X (.Name x px) iter wi)(iM:∀C s₂ H₂ fp pn,nC (X.cP N' aE C s₂ H₂ fp pn) ifs tc)
  (gM:∀C s₂ H₂ fp pn,PE (X.cP N' aE C s₂ H₂ fp pn) elt te) (Bi:swapsWith (.ListComp elt [⟨.Name x px,iter,ifs,0⟩] aE pos) (some (.Name y py)) rN.line X.env=pure true:=by rfl)
  (hs:∀x,foldedSetIterable iter X.env x=pure x:=by intro _;rfl):PS X (.Assign [.Name y py] (.ListComp elt [⟨.Name x px,iter,ifs,0⟩] aE pos) rN) (iE (oR wi ix tc te) (jK i)):=by
 intro pins s σ H D I h
 rw[exec_Assign_Name_used _ _ _ _ Bi]
 refine ao (wpAny_standAt (ao ?_))
 show wpAny _ X.A (do let _ ←comprehension (.ListComp elt [⟨.Name x px,iter,ifs,0⟩] aE pos) aE X.env _ (newList []) false (eval iter X.env) (some (assign (.Name y py) X.env))) _ _ s
 refine ao (wpAny_mono (wpAny_comprehension_free (use:=some (assign (.Name y py) X.env)) (Q:=fun _ s'=>SP X pins D .next s') rfl hs (CH fun y hy e=>I.ok.has y.1 (.inl (ok.free y hy e))) ok.kind ok.names
  (aI (hi pins s σ H _ I h) fun v s1 h1=>aI h1 fun wt s2 h2=>?_)) (fun _ s' hq=>aC (aC hq)) fun _ _ e=>e)
 obtain⟨it,fp,tn,J,H2,e,I2,T,bw,f2,hW⟩:=h2
 subst e
 refine C8 (RR:=fun acc C=>compPost (model X.prog X.w) X.A X.xe (some (assign (.Name y py) X.env)) (fun _ s'=>SP X pins D .next s') acc C) (Qd:=fun B H=>D.nx (σ.set i (some (.ref B))) H) ok hc I2 T bw f2 iM gM hW ?_
 intro B C s4 H4 m I4 pM tr nh kN q
 show wpAny _ X.A (assign (.Name y py) X.env (.ref B)) _ _ s4
 refine wpAny_assign_Name (Dw I4 hN Bh (.inl hy) (show RelV (.ref B) (.ref B)from rfl) (fun s5 I5 ⟨a,sb,ha⟩=>?_) (.inr hy))
 have YN:C≠a:=by
  rcases ha with e|e
  ·rw[e];exact nh
  ·exact Ne.symm (kN y a e)
 exact⟨m,pM.sameBut sb YN,fun h' YQ=>⟨_,H4,tr h' s5.toks _ s5 I5 YQ,q⟩⟩
end
def iz(h:Heap)(d:Addr)(es:Array DictEntry)(ep:Nat):Prop:=∃o,h.get? d=some o∧o.ExactDict∧o.data=.dict es ep
theorem iz.ty{s:Shared}{d:Addr}{es:Array DictEntry}{ep:Nat}(x:iz s.heap d es ep):s.TypeIs (.ref d) "dict" := let ⟨o,ho,hc,_⟩:=x;⟨o,ho,hc.1⟩
theorem iz.at{h h':Heap}{d:Addr}{es:Array DictEntry}{ep:Nat}(x:iz h d es ep)(e:∀o,h.get? d=some o→h'.get? d=some o):iz h' d es ep:=let ⟨o,ho,r⟩:=x;⟨o,e _ ho,r⟩
theorem iz.lt{h:Heap}{d:Addr}{es:Array DictEntry}{ep:Nat}(x:iz h d es ep):d<h.objs.size:=let ⟨_,ho,_⟩:=x;cg ho
section
variable {prog:Program}{w:World}{A:Around}{E:Value→Shared→Prop}{s:Shared}{d it:Addr}{es:Array DictEntry}{i ep:Nat}
theorem M0{Q:Value→Shared→Prop}(hd:(d==sysModules)=false)(hm:iz s.heap d es ep)
  (hQ:Q (.ref s.heap.objs.size) { s with heap:=s.heap.push { cls:=.type "dict_keyiterator",data:=.fields #[.ref d,.int 0 0,.int es.size 0,.int ep 0] } }):wpAny (model prog w) A (pyIter (.ref d)) Q E s:=by
 obtain⟨o,ho,hc,kz⟩:=id hm
 have hT:=hm.ty
 refine wpAny_pyIter_slot hT F.slot_dict_iter (wpAny_call_entry F.slot_dict_iter hT F.entry_dict_iter ?_ (F.args_dict_iter_1 _));unfold Builtin.«dict.__iter__»
 refine ao ?_;unfold Builtin.Dict.dictSlotNone;refine ao (wpAny_notOrdered_dict hT ?_)
 show wpAny _ _ (pure (Value.ref d)) _ _ s;refine aC ?_
 show wpAny _ _ (Builtin.Dict.showsAll d >>= _) _ _ s;unfold Builtin.Dict.showsAll
 rw[if_neg (by rw[hd];exact aX)];refine ao (aC ?_)
 refine ao (wpAny_dictEntries ho kz ?_);refine ao (wpAny_dictEpoch ho kz ?_)
 refine ao (wpAny_newObj_type (aC ⟨_,rfl, "dict_keyiterator",_,⟨_,fL _ rfl,rfl⟩,F.slot_dict_keyiterator_next.lookup,?_⟩));simpa[rawInt]using hQ
theorem M3{e:DictEntry}{Q:Option Value→Shared→Prop}(hit:s.heap.IsKeyIter it d i es.size ep)(hm:iz s.heap d es ep)(hx:es[i]?=some e)
  (hQ:∀h',h'.IsKeyIter it d (i+1) es.size ep→Heap.SameBut it s.heap h'→Q (some e.key) { s with heap:=h' }):wpAny (model prog w) A (pyNext (.ref it)) Q E s:=by
 obtain⟨o,ho,hc,hd⟩:=id hit;obtain⟨od,lU,hV,lV⟩:=id hm
 unfold pyNext;refine ao (wpAny_attempt (wpAny_callSpecial?_slot (name:=Str.ofString "__next__") hit.typeIs F.slot_dict_keyiterator_next (wpAny_call_entry F.slot_dict_keyiterator_next hit.typeIs F.entry_dict_keyiterator_next ?_ (F.args_dict_keyiterator_next_1 _))))
 refine ao (aC ?_);refine ao ?_;refine ao ?_
 (first|refine ao (wpAny_typeNameOfWhole_keyiter hit.typeIs (aC ?_))|refine ao (wpAny_typeNameOf_keyiter hit.typeIs (aC ?_)));refine ao (wpAny_fieldsOf ho hd ?_)
 have Af:Builtin.Dict_items.ownsTuple "dict_keyiterator" = false:=by decide +kernel
 simp only[Af,Bool.false_eq_true,if_false];show wpAny _ _ (if (Value.ref d==Value.none)=true then _ else _) _ _ s
 rw[if_neg (show ¬((Value.ref d==Value.none)=true)from aX)];refine ao (aC ?_)
 refine ao (wpAny_dictEntries lU lV ?_);rw[if_neg (by simp)];refine ao (aC ?_)
 refine ao (wpAny_dictEpoch lU lV ?_);rw[if_neg (by simp)];refine aC ?_
 have aZ:i<es.size:=(Array.getElem?_eq_some_iff.mp hx).1
 have j4:es[i]=e:=(Array.getElem?_eq_some_iff.mp hx).2
 simp only[show ¬((i:Int)<0)from by omega,if_false,Int.toNat_natCast,Array.getElem?_eq_getElem aZ];refine ao ?_
 (first|refine ao (wpAny_typeNameOfWhole_keyiter hit.typeIs (aC ?_))|refine ao (wpAny_typeNameOf_keyiter hit.typeIs (aC ?_)));refine ao (wpAny_isOneOf_keyiter hit.typeIs ?_)
 show wpAny _ _ (setField (.ref it) 1 (rawInt ((i:Int)+1)) >>= _) _ _ s;refine ao (wpAny_setField ho hd (by simp) ?_)
 have lH:(s.heap.update it (Obj.mapFields (·.setIfInBounds 1 (rawInt ((i:Int)+1))))).IsKeyIter it d (i+1) es.size ep:=⟨_,Heap.get?_update_self _ ho (Obj.isFreed_of_fields (Obj.data_mapFields hd _)),(Obj.cls_mapFields ..).trans hc,by rw[Obj.data_mapFields hd];simp[rawInt]⟩
 refine ao (wpAny_holding ?_);refine ao (wpAny_isOneOf_keyiter (s:={ s with heap:=s.heap.update it (Obj.mapFields (·.setIfInBounds 1 (rawInt ((i:Int)+1)))) }) lH.typeIs ?_)
 show wpAny _ _ (pure es[i].key) _ _ _;rw[j4]
 exact aC (aC ⟨_,rfl,aC (hQ _ lH (Heap.SameBut.update ..))⟩)
theorem NF{Q:Option Value→Shared→Prop}(hh:A.handled=none)(hit:s.heap.IsKeyIter it d i es.size ep)(hm:iz s.heap d es ep)(hx:es.size≤i)
  (hQ:∀h',Heap.ExtBut it s.heap h'→Q none { s with heap:=h' }):wpAny (model prog w) A (pyNext (.ref it)) Q E s:=by
 obtain⟨o,ho,hc,hd⟩:=id hit;obtain⟨od,lU,hV,lV⟩:=id hm
 unfold pyNext;refine ao (wpAny_attempt (wpAny_callSpecial?_slot (name:=Str.ofString "__next__") hit.typeIs F.slot_dict_keyiterator_next (wpAny_call_entry F.slot_dict_keyiterator_next hit.typeIs F.entry_dict_keyiterator_next ?_ (F.args_dict_keyiterator_next_1 _))))
 refine ao (aC ?_);refine ao ?_;refine ao ?_
 (first|refine ao (wpAny_typeNameOfWhole_keyiter hit.typeIs (aC ?_))|refine ao (wpAny_typeNameOf_keyiter hit.typeIs (aC ?_)));refine ao (wpAny_fieldsOf ho hd ?_)
 have Af:Builtin.Dict_items.ownsTuple "dict_keyiterator" = false:=by decide +kernel
 simp only[Af,Bool.false_eq_true,if_false];show wpAny _ _ (if (Value.ref d==Value.none)=true then _ else _) _ _ s
 rw[if_neg (show ¬((Value.ref d==Value.none)=true)from aX)];refine ao (aC ?_)
 refine ao (wpAny_dictEntries lU lV ?_);rw[if_neg (by simp)];refine ao (aC ?_)
 refine ao (wpAny_dictEpoch lU lV ?_);rw[if_neg (by simp)];refine aC ?_
 simp only[show ¬((i:Int)<0)from by omega,if_false,Int.toNat_natCast,Array.getElem?_eq_none hx];refine ao ?_
 (first|refine ao (wpAny_typeNameOfWhole_keyiter hit.typeIs (aC ?_))|refine ao (wpAny_typeNameOf_keyiter hit.typeIs (aC ?_)));show wpAny _ _ (setField (.ref it) 0 .none >>= _) _ _ s
 refine ao (wpAny_setField ho hd (by simp) ?_);show wpAny _ _ (newExc (.type "StopIteration") [] >>= _) _ _ _
 refine ao ?_;simp only[newExc,newTuple];refine ao (wpAny_newObj_type ?_ (by size_fits))
 refine ao (m:=firstArgMember _ _) (wpAny_of_eq (a:=Value.none) (by first|rfl | (simp only[firstArgMember];rfl)) ?_);refine wpAny_newObj_type ?_ (by size_fits)
 simp only[raiseNew];refine ao (wpAny_handled ?_);rw[show A.in1.handled=none from hh]
 refine ao (aC (wpAny_throw ?_));refine ao (wpAny_isInstance (T := "StopIteration") (b:=true) ⟨_,fL _ rfl,rfl⟩ isSubtype_stop ?_)
 exact aC (hQ _ (((Heap.SameBut.update ..).extBut.push _).push _))
theorem MA(hh:A.handled=none)(I d:Addr)(fM:d≠I)(es:Array DictEntry)(ep:Nat) :
  Walks prog w A I [I,d] [I] es.size (fun i v=>∃e,es[i]?=some e∧v=e.key) (fun i h=>h.IsKeyIter I d i es.size ep∧iz h d es ep) where
 sub:=fun b hb=>by
  have e:b=I:=by simpa using hb
  rw[e];exact cv
 frame:=fun _ _ _ st hk=>⟨st.1.at fun o e=>hk I cv o e,st.2.at fun o e=>hk d (df _ cv) o e⟩
 item:=fun i s Q E hi st hQ=>M3 st.1 st.2 (e:=es[i]) (by simp[hi]) fun h' lH pP=>hQ _ h' s.toks ⟨es[i],by simp[hi],rfl⟩ ⟨lH,st.2.at fun o e=>pP.extBut d o fM e⟩ fun b o hb e=>pP.extBut b o (fun z=>hb (by rw[z];exact cv)) e
 done:=fun s Q E st hQ=>NF hh st.1 st.2 (bf _) fun h' YR=>hQ h' s.toks fun b o hb e=>YR b o (fun z=>hb (by rw[z];exact cv)) e
 self:=fun _ _ _ _ st hQ=>wpAny_pyIter_keyiter st.1 hQ
theorem NK(lo:(d==sysModules)=false):PySem.W.KdlSrc prog w "dict" d d es.size (fun i v=>∃e,es[i]?=some e∧v=e.key) (fun h=>iz h d es ep) where
 type:=fun _ hm=>hm.ty
 there:=fun _ hm=>⟨hm.lt,hm.lt⟩
 keep:=fun _ _ hm hk=>hm.at fun o e=>hk d (.inl rfl) o e
 notList:=by decide +kernel
 notTuple:=by decide +kernel
 hint:=fun _ _ _ _ hm hq=>PySem.W.kdl_hint_dict hm.ty hq
 iter:=fun _ _ hh hm=>⟨_,_,(fun _ _ hq=>M0 lo hm hq),MA hh _ d (Nat.ne_of_lt hm.lt) es ep,⟨⟨_,fL _ rfl,rfl,rfl⟩,hm.at fun o e=>dz _ e⟩⟩
end
def qU(H:Hp):List (List Key)→List Addr→Prop:=Paired fun k b=>H b=some (.tup (k.map kV))
section
variable {X:Cx}
theorem Ck:∀(bs:List Addr),Vals (bs.map V.ref) (bs.map Value.ref)
 |[]=>.nil
 |_::r=>.cons rfl (Ck r)
theorem EV{H:Hp}:∀{ai:List (List Key×V)}{xs:List (List Key×Addr×Value)},Paired (fun(p:List Key×V) (q:List Key×Addr×Value)=>p.1=q.1∧H q.2.1=some (.tup (p.1.map kV))∧RelV p.2 q.2.2) ai xs→qU H (ai.map (·.1)) (xs.map (·.2.1))
 |_,_,.nil=>.nil
 |_,_,.cons r t=>.cons r.2.1 (EV t)
theorem Mr(hc:X.calm=true):iy X (.type "list") (fun xs H Q=>∃d ai,xs=[.ref d]∧H d=some (.dT ai)∧∀l bs,H l=none→qU H (ai.map (·.1)) bs→Q (.ref l) (upd H l (.lst (bs.map V.ref)))):=by
 intro pins s σ H xs us Q I r h
 obtain⟨d,ai,rfl,hd,q⟩:=h
 obtain⟨u,rfl,rx⟩:=vals1 r
 cases rx
 obtain⟨hz,YS,ys,rel,o,es,ep,ho,hex,kz,gM,nE⟩:=(show cE X.prog X.w H s.heap d (.dT ai)from I.aG d _ hd)
 have hlen:es.size=ai.length:=by
  have e1:es.toList.length=ys.length:=by rw[gM,List.length_map]
  have e2:=Paired.length rel
  simpa[e2]using e1
 refine PySem.W.kdl_call (NK (es:=es) (ep:=ep) YS) (I.ok.hd hc) ⟨o,ho,hex,kz⟩ (by rw[hlen];exact hz) fun h' tk ph c' kp e pf=>?_
 have ka:=EV rel
 have hv:ph.toList=(ys.map (·.2.1)).map Value.ref:=by
  refine List.ext_getElem? fun j=>?_
  rw[List.map_map,cV]
  cases ej:ys[j]? with
  |none =>
   have:ys.length≤j:=List.getElem?_eq_none_iff.mp ej
   have e1:es.size=ys.length:=by rw[hlen,Paired.length rel]
   have e3:ph.size=es.size:=pf.1
   exact List.getElem?_eq_none_iff.mpr (by rw[Array.length_toList];omega)
  |some y =>
   have hj:j<ys.length:=(bB.mp ej).1
   have e1:es.size=ys.length:=by rw[hlen,Paired.length rel]
   have e3:ph.size=es.size:=pf.1
   have JN:j<ph.size:=by omega
   obtain⟨en,YT,hk⟩:=pf.2 j ph[j] (by simp[JN])
   have HY:es[j]?=some (entryOfKey (tupleKind (cL X.prog X.w)) y):=by rw[←Array.getElem?_toList,gM,cV,ej];rfl
   rw[YT]at HY
   cases HY
   rw[Array.getElem?_toList,Array.getElem?_eq_getElem JN,hk]
   rfl
 refine⟨.ref s.heap.objs.size,upd H s.heap.objs.size (.lst ((ys.map (·.2.1)).map V.ref)),I.laid kp (bf _) ?_,rfl,q _ _ (I.aG.fresh (bf _)) ka⟩
 refine(show cE X.prog X.w _ h' _ (.lst ((ys.map (·.2.1)).map V.ref)) from⟨?_,ph.toList,c',?_,?_⟩)
 ·rw[List.length_map,List.length_map,←Paired.length rel];exact hz
 ·rw[hv];exact Ck _
 ·rw[Array.toArray_toList];exact e
noncomputable def HZ(K:PySem.W.Frag)(n:Nat)(t:hX):TG:=fun v σ H Q=>∃a xs,v=.ref a∧bV K H a xs∧xs.length=n∧t xs σ H Q
theorem Tt{es:List Expr}{k:Nat}{pos:Pos}{t:hX}{n:Nat}(hc:X.calm=true)(h:pH X es t)
  (hn:(assignEach es X.env).length=n:=by rfl) (lR:(assignEach es X.env).findIdx? (·.1)=none:=by rfl):PG X (.Tuple es k pos) (HZ X.K n t):=by
 intro pins s σ H v u Q I r hw
 obtain⟨a,xs,e1,hq,hl,hw⟩:=hw
 subst e1
 cases r
 obtain⟨its,rv,pl,hz⟩:=I.list hq
 rw[assign_Tuple]
 refine ao (wpAny_standAt ?_)
 unfold unpack
 have hlen:(assignEach es X.env).length=its.toArray.size:=by rw[hn,←hl,rv.length];simp
 rw[hlen,lR]
 refine ao (wpAny_holding (PySem.W.kun_itemsOf (I.ok.hd hc) pl.isList fun h' hx=>?_))
 have I1:Inv X pins σ H { s with heap:=h' }:=I.kept (t':=s.toks) fun b o e=>hx b o (Nat.ne_of_lt (cg e)) e
 exact h pins _ σ H xs _ Q I1 (by simpa using rv) hw
mutual
inductive Dn (K:PySem.W.Frag)(H:Hp):V→PyData→Prop
 |non:Dn K H .non .none
 |bl (b:Bool):Dn K H (.bl b) (.bool b)
 |int (i:Int):Dn K H (.int i) (.int i)
 |str (x:Str):Dn K H (.str x) (.str x)
 |lst {a:Addr}{xs:List V}{ds:List PyData}:bV K H a xs→bQ K H xs ds→Dn K H (.ref a) (.list ds)
 |tup {a:Addr}{xs:List V}{ds:List PyData}:bJ K H a xs→bQ K H xs ds→Dn K H (.ref a) (.tuple ds)
inductive bQ (K:PySem.W.Frag)(H:Hp):List V→List PyData→Prop
 |nil:bQ K H [] []
 |cons {v:V}{d:PyData}{vs:List V}{ds:List PyData}:Dn K H v d→bQ K H vs ds→bQ K H (v::vs) (d::ds)
end
noncomputable def dV:V→PyData
 |.non=>.none
 |.bl b=>.bool b
 |.int i=>.int i
 |.str x=>.str x
 |_=>.none
theorem Inv.EW{pins:List (Addr×Obj)}{σ:St}{H:Hp}{s:Shared}{a:Addr}{xs ys:List V}(I:Inv X pins σ H s)(h:bV X.K H a xs)(h':bJ X.K H a ys):False:=by
 obtain⟨_,_,⟨o,n,e1,e2,_⟩,_⟩:=I.list h
 obtain⟨_,_,⟨o',k1,k2,_⟩,_⟩:=I.tuple h'
 rw[e1]at k1;cases k1;rw[e2]at k2;exact absurd k2 (by simp)
mutual
theorem Dn.unique{pins:List (Addr×Obj)}{σ:St}{H:Hp}{s:Shared}(I:Inv X pins σ H s):∀{v:V}{d d':PyData},Dn X.K H v d→Dn X.K H v d'→d=d'
 |_,_,_,.non,h=>by cases h;rfl
 |_,_,_,.bl _,h=>by cases h;rfl
 |_,_,_,.int _,h=>by cases h;rfl
 |_,_,_,.str _,h=>by cases h;rfl
 |_,_,_,.lst hq hs,h=>by
  cases h with
  |lst kq ks=>cases I.uM hq kq;rw[bQ.unique I hs ks]
  |tup kq ks=>exact(I.EW hq kq).elim
 |_,_,_,.tup hq hs,h=>by
  cases h with
  |tup kq ks=>cases I.ym hq kq;rw[bQ.unique I hs ks]
  |lst kq ks=>exact(I.EW kq hq).elim
theorem bQ.unique{pins:List (Addr×Obj)}{σ:St}{H:Hp}{s:Shared}(I:Inv X pins σ H s):∀{vs:List V}{ds fD:List PyData},bQ X.K H vs ds→bQ X.K H vs fD→ds=fD
 |_,_,_,.nil,h=>by cases h;rfl
 |_,_,_,.cons h t,k=>by
  cases k with
  |cons h' t'=>rw[Dn.unique I h h',bQ.unique I t t']
end
mutual
theorem Dn.refl{K:PySem.W.Frag}{H:Hp}:∀{v:V}{d:PyData},Dn K H v d→PyData.eqv d d=true
 |_,_,.non=>by simp[PyData.eqv]
 |_,_,.bl _=>by simp[PyData.eqv]
 |_,_,.int _=>by simp[PyData.eqv]
 |_,_,.str _=>by simp[PyData.eqv]
 |_,_,.lst _ hs=>by simp only[PyData.eqv];exact bQ.refl hs
 |_,_,.tup _ hs=>by simp only[PyData.eqv];exact bQ.refl hs
theorem bQ.refl{K:PySem.W.Frag}{H:Hp}:∀{vs:List V}{ds:List PyData},bQ K H vs ds→PyData.eqvAll ds ds=true
 |_,_,.nil=>by simp[PyData.eqvAll]
 |_,_,.cons h t=>by rw[PyData.eqvAll,Dn.refl h,bQ.refl t];rfl
end
theorem bQ.length{K:PySem.W.Frag}{H:Hp}:∀{vs:List V}{ds:List PyData},bQ K H vs ds→vs.length=ds.length
 |_,_,.nil=>rfl
 |_,_,.cons _ t=>by simp[bQ.length t]
mutual
theorem Dn.lI{pins:List (Addr×Obj)}{σ:St}{H:Hp}{s:Shared}(I:Inv X pins σ H s):∀{v:V}{d:PyData},Dn X.K H v d→∀{v':V}{d':PyData},Dn X.K H v' d'→∀{u u':Value},RelV v u→RelV v' u'→∀{A:Around},A.units+min d.depth d'.depth<cLine→SeqAt.EqAt A s u u' (PyData.eqv d d')
 |_,_,.non,_,_,h',_,_,r,r',A,hu=>by
  cases (show _=Value.none from r)
  cases h' with
  |non=>cases (show _=Value.none from r');exact SeqAt.EqAt.same _
  |bl y=>cases (show _=Value.bool y from r');exact SeqAt.EqAt.none_bool y
  |int y=>obtain⟨t,e⟩:=(show ∃t,_=Value.int y t from r');subst e;exact SeqAt.EqAt.none_int y t
  |str y=>obtain⟨t,e⟩:=(show ∃t,_=Value.str y t from r');subst e;exact SeqAt.EqAt.none_str y t
  |@lst a xs ds q hs=>cases (show _=Value.ref a from r');obtain⟨its,rv,pl,_⟩:=I.list q;exact SeqAt.EqAt.none_list pl.isList (cW hu)
  |@tup a xs ds q hs=>cases (show _=Value.ref a from r');obtain⟨its,rv,pl,_⟩:=I.tuple q;exact SeqAt.EqAt.none_tuple pl (cW hu)
 |_,_,.bl x,_,_,h',_,_,r,r',A,hu=>by
  cases (show _=Value.bool x from r)
  cases h' with
  |non=>cases (show _=Value.none from r');exact SeqAt.EqAt.bool_none x
  |bl y=>cases (show _=Value.bool y from r');exact SeqAt.EqAt.bool_bool x y
  |int y=>obtain⟨t,e⟩:=(show ∃t,_=Value.int y t from r');subst e;exact SeqAt.EqAt.bool_int x y t
  |str y=>obtain⟨t,e⟩:=(show ∃t,_=Value.str y t from r');subst e;exact SeqAt.EqAt.bool_str x y t
  |@lst a xs ds q hs=>cases (show _=Value.ref a from r');obtain⟨its,rv,pl,_⟩:=I.list q;exact SeqAt.EqAt.bool_list x pl.isList (cW hu)
  |@tup a xs ds q hs=>cases (show _=Value.ref a from r');obtain⟨its,rv,pl,_⟩:=I.tuple q;exact SeqAt.EqAt.bool_tuple x pl (cW hu)
 |_,_,.int x,_,_,h',_,_,r,r',A,hu=>by
  obtain⟨tx,ex⟩:=(show ∃t,_=Value.int x t from r);subst ex
  cases h' with
  |non=>cases (show _=Value.none from r');exact SeqAt.EqAt.int_none x tx
  |bl y=>cases (show _=Value.bool y from r');exact SeqAt.EqAt.int_bool x tx y
  |int y=>obtain⟨t,e⟩:=(show ∃t,_=Value.int y t from r');subst e;exact SeqAt.EqAt.int_int x tx y t
  |str y=>obtain⟨t,e⟩:=(show ∃t,_=Value.str y t from r');subst e;exact SeqAt.EqAt.int_str x tx y t
  |@lst a xs ds q hs=>cases (show _=Value.ref a from r');obtain⟨its,rv,pl,_⟩:=I.list q;exact SeqAt.EqAt.int_list x tx pl.isList (cW hu)
  |@tup a xs ds q hs=>cases (show _=Value.ref a from r');obtain⟨its,rv,pl,_⟩:=I.tuple q;exact SeqAt.EqAt.int_tuple x tx pl (cW hu)
 |_,_,.str x,_,_,h',_,_,r,r',A,hu=>by
  obtain⟨tx,ex⟩:=(show ∃t,_=Value.str x t from r);subst ex
  cases h' with
  |non=>cases (show _=Value.none from r');exact SeqAt.EqAt.str_none x tx
  |bl y=>cases (show _=Value.bool y from r');exact SeqAt.EqAt.str_bool x tx y
  |int y=>obtain⟨t,e⟩:=(show ∃t,_=Value.int y t from r');subst e;exact SeqAt.EqAt.str_int x tx y t
  |str y=>obtain⟨t,e⟩:=(show ∃t,_=Value.str y t from r');subst e;exact SeqAt.EqAt.str_str x tx y t
  |@lst a xs ds q hs=>cases (show _=Value.ref a from r');obtain⟨its,rv,pl,_⟩:=I.list q;exact SeqAt.EqAt.str_list x tx pl.isList (cW hu)
  |@tup a xs ds q hs=>cases (show _=Value.ref a from r');obtain⟨its,rv,pl,_⟩:=I.tuple q;exact SeqAt.EqAt.str_tuple x tx pl (cW hu)
 |_,_,.lst (a:=b) hq hs,_,_,h',_,_,r,r',A,hu=>by
  cases (show _=Value.ref b from r)
  obtain⟨gu,rb,dX,_⟩:=I.list hq
  cases h' with
  |non=>cases (show _=Value.none from r');exact SeqAt.EqAt.list_none dX.isList (cW hu)
  |bl y=>cases (show _=Value.bool y from r');exact SeqAt.EqAt.list_bool y dX.isList (cW hu)
  |int y=>obtain⟨t,e⟩:=(show ∃t,_=Value.int y t from r');subst e;exact SeqAt.EqAt.list_int y t dX.isList (cW hu)
  |str y=>obtain⟨t,e⟩:=(show ∃t,_=Value.str y t from r');subst e;exact SeqAt.EqAt.list_str y t dX.isList (cW hu)
  |@tup a xs ds q ks=>cases (show _=Value.ref a from r');obtain⟨its,rv,pl,_⟩:=I.tuple q;exact SeqAt.EqAt.list_tuple dX.isList pl (cW hu)
  |@lst a xs ds q ks =>
   cases (show _=Value.ref a from r')
   by_cases e:b=a
   ·subst e
    cases I.uM hq q
    rw[bQ.unique I ks hs]
    simp only[PyData.eqv];rw[bQ.refl hs];exact SeqAt.EqAt.same _
   ·obtain⟨its,rv,pl,_⟩:=I.list q
    have n1:=rb.length;have n2:=rv.length;have n3:=bQ.length hs;have n4:=bQ.length ks
    simp only[PyData.eqv]
    have he:∀j (j1:j<gu.toArray.size) (j2:j<its.toArray.size),SeqAt.EqAt A.in1 s gu.toArray[j] its.toArray[j] (SeqAt.pairEq _ _ j):=fun j j1 j2=>by
     have z:=bQ.lI I hs ks rb rv (A:=A.in1) (SeqAt.room_in hu) j (by simpa using j1) (by simpa using j2)
     simpa using z
    refine SeqAt.EqAt.of_refs e ?_
    by_cases hsz:gu.toArray.size=its.toArray.size
    ·rw[←SeqAt.eqvAll_same_length (by simp at hsz;omega),show List.length _=gu.toArray.size by simp;omega]
     exact SeqAt.RcAt.lists dX.isList pl.isList hsz (cW hu) he
    ·rw[SeqAt.eqvAll_other_length (by simp at hsz;omega)]
     exact SeqAt.RcAt.lists_lengths dX.isList pl.isList (by simpa using hsz) (cW hu)
 |_,_,.tup (a:=b) hq hs,_,_,h',_,_,r,r',A,hu=>by
  cases (show _=Value.ref b from r)
  obtain⟨gu,rb,dX,_⟩:=I.tuple hq
  cases h' with
  |non=>cases (show _=Value.none from r');exact SeqAt.EqAt.tuple_none dX (cW hu)
  |bl y=>cases (show _=Value.bool y from r');exact SeqAt.EqAt.tuple_bool y dX (cW hu)
  |int y=>obtain⟨t,e⟩:=(show ∃t,_=Value.int y t from r');subst e;exact SeqAt.EqAt.tuple_int y t dX (cW hu)
  |str y=>obtain⟨t,e⟩:=(show ∃t,_=Value.str y t from r');subst e;exact SeqAt.EqAt.tuple_str y t dX (cW hu)
  |@lst a xs ds q ks=>cases (show _=Value.ref a from r');obtain⟨its,rv,pl,_⟩:=I.list q;exact SeqAt.EqAt.tuple_list dX pl.isList (cW hu)
  |@tup a xs ds q ks =>
   cases (show _=Value.ref a from r')
   by_cases e:b=a
   ·subst e
    cases I.ym hq q
    rw[bQ.unique I ks hs]
    simp only[PyData.eqv];rw[bQ.refl hs];exact SeqAt.EqAt.same _
   ·obtain⟨its,rv,pl,_⟩:=I.tuple q
    have n1:=rb.length;have n2:=rv.length;have n3:=bQ.length hs;have n4:=bQ.length ks
    simp only[PyData.eqv]
    have he:∀j (j1:j<gu.toArray.size) (j2:j<its.toArray.size),SeqAt.EqAt A.in1 s gu.toArray[j] its.toArray[j] (SeqAt.pairEq _ _ j):=fun j j1 j2=>by
     have z:=bQ.lI I hs ks rb rv (A:=A.in1) (SeqAt.room_in hu) j (by simpa using j1) (by simpa using j2)
     simpa using z
    refine SeqAt.EqAt.of_refs e ?_
    rw[←SeqAt.eqvAll_eq,←n3,←n4,n1,n2]
    have z:=SeqAt.RcAt.tuples dX pl (cW hu) he
    simpa using z
theorem bQ.lI{pins:List (Addr×Obj)}{σ:St}{H:Hp}{s:Shared}(I:Inv X pins σ H s):∀{vs:List V}{ds:List PyData},bQ X.K H vs ds→∀{JQ:List V}{fD:List PyData},bQ X.K H JQ fD→∀{us Bj:List Value},Vals vs us→Vals JQ Bj→∀{A:Around},A.units+min (PyData.depthAll ds) (PyData.depthAll fD)<cLine →
  ∀j (h1:j<us.length) (h2:j<Bj.length),SeqAt.EqAt A s us[j] Bj[j] (SeqAt.pairEq ds fD j)
 |_,_,.nil,_,_,_,_,_,.nil,_,_,_,j,h1,_=>absurd h1 (Nat.not_lt_zero _)
 |_,_,.cons _ _,_,_,.nil,_,_,_,.nil,_,_,j,_,h2=>absurd h2 (Nat.not_lt_zero _)
 |_,_,.cons h t,_,_,.cons h' t',_,_,.cons r q,.cons r' q',A,hu,j,h1,h2=>by
  cases j with
  |zero=>exact Dn.lI I h h' r r' (SeqAt.room_head hu)
  |succ j=>exact bQ.lI I t t' q q' (SeqAt.room_tail hu) j (Nat.lt_of_succ_lt_succ h1) (Nat.lt_of_succ_lt_succ h2)
end
inductive mY:PyData→PyData→Prop
 |lst (xs ys:List PyData):mY (.list xs) (.list ys)
 |tup (xs ys:List PyData):mY (.tuple xs) (.tuple ys)
 |non:mY .none .none
noncomputable def Ag(K:PySem.W.Frag):R2:=fun x y H Q=>∃dx dy,Dn K H x dx∧Dn K H y dy∧mY dx dy∧min dx.depth dy.depth≤60∧Q (.bl (PyData.eqv dx dy)) H
noncomputable def Ah(K:PySem.W.Frag):R2:=fun x y H Q=>∃dx dy,Dn K H x dx∧Dn K H y dy∧mY dx dy∧min dx.depth dy.depth≤60∧Q (.bl (!PyData.eqv dx dy)) H
theorem D6{pins:List (Addr×Obj)}{σ:St}{H:Hp}{s:Shared}(I:Inv X pins σ H s){A:Around}{x y:V}{u u':Value}{dx dy:PyData}(hx:Dn X.K H x dx)(hy:Dn X.K H y dy)(l:mY dx dy)(rx:RelV x u)(ry:RelV y u')(hu:A.units+min dx.depth dy.depth<cLine) :
  SeqAt.RcAt A s u u' (PyData.eqv dx dy)∧SeqAt.RcNeAt A s u u' (!PyData.eqv dx dy):=by
 cases l with
 |non =>
  cases hx;cases hy
  cases (show u=Value.none from rx)
  cases (show u'=Value.none from ry)
  exact⟨SeqAt.RcAt.none_none,SeqAt.RcNeAt.none_none⟩
 |lst ds es =>
  cases hx with
  |@lst b _ _ hq hs =>
  cases hy with
  |@lst a _ _ q ks =>
   cases (show u=Value.ref b from rx)
   cases (show u'=Value.ref a from ry)
   obtain⟨gu,rb,dX,_⟩:=I.list hq
   obtain⟨its,rv,pl,_⟩:=I.list q
   have n1:=rb.length;have n2:=rv.length;have n3:=bQ.length hs;have n4:=bQ.length ks
   simp only[PyData.eqv]
   have he:∀j (j1:j<gu.toArray.size) (j2:j<its.toArray.size),SeqAt.EqAt A.in1 s gu.toArray[j] its.toArray[j] (SeqAt.pairEq ds es j):=fun j j1 j2=>by
    have z:=bQ.lI I hs ks rb rv (A:=A.in1) (SeqAt.room_in hu) j (by simpa using j1) (by simpa using j2)
    simpa using z
   by_cases hsz:gu.toArray.size=its.toArray.size
   ·have e:ds.length=gu.toArray.size:=by simp;omega
    rw[←SeqAt.eqvAll_same_length (show ds.length=es.length by simp at hsz;omega),e]
    exact⟨SeqAt.RcAt.lists dX.isList pl.isList hsz (cW hu) he,SeqAt.RcNeAt.lists dX.isList pl.isList hsz (cW hu) he⟩
   ·rw[SeqAt.eqvAll_other_length (show ds.length≠es.length by simp at hsz;omega)]
    exact⟨SeqAt.RcAt.lists_lengths dX.isList pl.isList (by simpa using hsz) (cW hu),SeqAt.RcNeAt.lists_lengths dX.isList pl.isList (by simpa using hsz) (cW hu)⟩
 |tup ds es =>
  cases hx with
  |@tup b _ _ hq hs =>
  cases hy with
  |@tup a _ _ q ks =>
   cases (show u=Value.ref b from rx)
   cases (show u'=Value.ref a from ry)
   obtain⟨gu,rb,dX,_⟩:=I.tuple hq
   obtain⟨its,rv,pl,_⟩:=I.tuple q
   have n1:=rb.length;have n2:=rv.length;have n3:=bQ.length hs;have n4:=bQ.length ks
   simp only[PyData.eqv]
   have he:∀j (j1:j<gu.toArray.size) (j2:j<its.toArray.size),SeqAt.EqAt A.in1 s gu.toArray[j] its.toArray[j] (SeqAt.pairEq ds es j):=fun j j1 j2=>by
    have z:=bQ.lI I hs ks rb rv (A:=A.in1) (SeqAt.room_in hu) j (by simpa using j1) (by simpa using j2)
    simpa using z
   have z1:=SeqAt.RcAt.tuples dX pl (cW hu) he
   have z2:=SeqAt.RcNeAt.tuples dX pl (cW hu) he
   rw[←SeqAt.eqvAll_eq ds es,←n3,←n4,n1,n2]
   exact⟨by simpa using z1,by simpa using z2⟩
theorem Tv(hu:X.A.units+64<cLine):bD X (compareOp .Eq) (Ag X.K):=by
 intro pins s σ H x y v u Q I rx ry h
 obtain⟨dx,dy,hx,hy,l,hd,q⟩:=h
 exact(D6 I hx hy l rx ry (A:=X.A) (by omega)).1 X.prog X.w X.xe _ ⟨.bl _,H,I,rfl,q⟩
theorem Tw(hu:X.A.units+64<cLine):bD X (compareOp .NotEq) (Ah X.K):=by
 intro pins s σ H x y v u Q I rx ry h
 obtain⟨dx,dy,hx,hy,l,hd,q⟩:=h
 exact(D6 I hx hy l rx ry (A:=X.A) (by omega)).2 X.prog X.w X.xe _ ⟨.bl _,H,I,rfl,q⟩
noncomputable def Ai(K:PySem.W.Frag)(neg:Bool):R2:=fun x y H Q=>∃p xs ds dx,y=.ref p∧bV K H p xs∧bQ K H xs ds∧Dn K H x dx∧dx.depth≤50∧Q (.bl (if neg then !(ds.any fun d=>PyData.eqv d dx)else ds.any fun d=>PyData.eqv d dx)) H
theorem OJ{pins:List (Addr×Obj)}{σ:St}{H:Hp}{s:Shared}(I:Inv X pins σ H s){A:Around}{x:V}{u:Value}{dx:PyData}(hx:Dn X.K H x dx)(rx:RelV x u)(hu:A.units+dx.depth<cLine):∀{xs:List V}{ds:List PyData}{its:List Value},bQ X.K H xs ds→Vals xs its →
  ∃e:Value→Bool,(∀y∈its,SeqAt.EqAt A s y u (e y))∧its.any e=ds.any fun d=>PyData.eqv d dx:=by
 intro xs ds its hs rv
 classical
 refine⟨fun y=>decide (∃v d,Dn X.K H v d∧RelV v y∧PyData.eqv d dx=true),fun y hy=>?_,?_⟩
 ·have key:∀{xs:List V}{ds:List PyData}{its:List Value},bQ X.K H xs ds→Vals xs its→y∈its→∃v d,Dn X.K H v d∧RelV v y:=fun {xs}=>by
   induction xs with
   |nil=>intro ds its hs rv hy;cases rv;exact nomatch hy
   |cons v r ih =>
    intro ds its hs rv hy
    cases rv with
    |cons a b =>
     cases hs with
     |cons c d =>
      rcases List.mem_cons.mp hy with e|e
      ·subst e;exact⟨_,_,c,a⟩
      ·exact ih d b e
  obtain⟨v,d,hv,ry⟩:=key hs rv hy
  have z:=Dn.lI I hv hx ry rx (A:=A) (dC (Nat.add_le_add_left (Nat.min_le_right _ _) _) hu)
  have e:PyData.eqv d dx=decide (∃v d,Dn X.K H v d∧RelV v y∧PyData.eqv d dx=true):=by
   cases q:PyData.eqv d dx with
   |true=>exact(decide_eq_true ⟨v,d,hv,ry,q⟩).symm
   |false =>
    refine(decide_eq_false ?_).symm
    rintro⟨v',d',h1,h2,h3⟩
    cases RelV.inj ry h2
    rw[Dn.unique I h1 hv,q]at h3
    cases h3
  rw[e]at z
  exact z
 ·induction xs generalizing ds its with
  |nil=>cases rv;cases hs;rfl
  |cons v r ih =>
   cases rv with
   |cons a b =>
    cases hs with
    |@cons _ d0 _ _ c d =>
     rw[List.any_cons,List.any_cons,ih d b]
     congr 1
     cases q:PyData.eqv d0 dx with
     |true=>exact decide_eq_true ⟨v,d0,c,a,q⟩
     |false =>
      refine decide_eq_false ?_
      rintro⟨v',d',h1,h2,h3⟩
      cases RelV.inj a h2
      rw[Dn.unique I h1 c,q]at h3
      cases h3
theorem NP(hu:X.A.units+64<cLine):bD X (compareOp .NotIn) (Ai X.K true):=by
 intro pins s σ H x y v u Q I rx ry h
 obtain⟨p,xs,ds,dx,rfl,hq,hs,hx,hd,q⟩:=h
 cases ry
 obtain⟨its,rv,pl,_⟩:=I.list hq
 obtain⟨e,he,XS⟩:=OJ I hx rx (A:=X.A.in1) (show X.A.units+1+dx.depth<cLine by omega) hs rv
 refine SeqAt.notIn_listAt e pl.isList (fun w hw=>he w (by simpa using hw)) ⟨.bl _,H,I,rfl,?_⟩
 rw[show its.toArray.any e=its.any e by simp,XS]
 exact q
end
def aag(D:Addr)(H H':Hp):Prop:=∀b o,b≠D→H b=some o→H' b=some o
section
variable {X:Cx}{K:PySem.W.Frag}
theorem EX(h:X.K=K):j3 X (wz K):=by subst h;exact Tf
theorem M4(h:X.K=K):bD X (compareOp .In) (sv K false):=by subst h;exact Nw
theorem Mi(h:X.K=K):bD X (compareOp .NotIn) (sv K true):=by subst h;exact Mm
theorem NQ(h:X.K=K):iy X (.builtin "len") (fun xs H Q=>∃x n,xs=[x]∧z5 K x H n∧Q (.int n) H):=by subst h;exact Ov
theorem NR{a:Expr}{ta:TE}(h:X.K=K)(ha:PE X a ta)(he:∀whole,isTrue a X.env whole=(do let v ←whole;standAt a.pos;holding [v] (truthy v))):PT X a (fun σ H Q=>ta σ H fun x H'=>∃k,vR K x H' k∧Q k H'):=by subst h;exact Ou ha he
theorem OL{tg l:Expr}{tl:TE}(h:X.K=K)(hl:PE X l tl):PI X tg l (zF K tl):=by subst h;exact Ql hl
end
end L2
namespace My
open PySem PySem.Spec PyProof.Rows L2
theorem aL.none{H H':Hp}{p:Addr}(s:aL H H')(h:H' p=none):H p=none:=s.free h
theorem XT{σ:L2.St}{H:Hp}{A B:Hp→Prop}(h:A H):vV σ H fun b H3=>if b=true then A H3 else B H3:=by
 show if true=true then A H else B H
 exact XQ h
theorem Paired.at{α β:Type}{F:α→β→Prop}:∀{l:List α}{m:List β},Paired F l m→∀{i:Nat}{b:β},m[i]?=some b→∃a,l[i]?=some a∧F a b
 |_,_,.nil,_,_,h=>by simp at h
 |_,_,.cons r t,0,_,h=>by simp at h;subst h;exact⟨_,rfl,r⟩
 |_,_,.cons r t,i+1,b,h=>by
  obtain⟨a,e,q⟩:=Paired.at t (i:=i) (b:=b) (by simpa using h)
  exact⟨a,by simpa using e,q⟩
inductive Rw where
 |reckon (x s:Str) (a b:Key)|copy (x:Str) (a:Key)|say (a:Key)|go (n:Int)|part (a:Key) (n:Int)|fin
noncomputable def Rw.vs:Rw→List V
 |.reckon x s a b=>[.str "reckon",.str x,.str s,kV a,kV b]
 |.copy x a=>[.str "copy",.str x,kV a]
 |.say a=>[.str "say",kV a]
 |.go n=>[.str "go",.int n]
 |.part a n=>[.str "part",kV a,.int n]
 |.fin=>[.str "end"]
noncomputable def Rw.word:Rw→Str
 |.reckon .. => "reckon" |.copy .. => "copy" |.say _ => "say" |.go _ => "go" |.part .. => "part" |.fin => "end"
noncomputable def Rw.sets:Rw→V
 |.reckon x _ _ _=>.str x|.copy x _=>.str x|_=>.non
noncomputable def Rw.rk:Rw→Option (List Key)
 |.reckon _ s a b=>some [.inr s,a,b]|_=>none
theorem n1:¬(("copy" : Str) = "reckon"):=by decide +kernel
theorem n2:¬(("say" : Str) = "reckon"):=by decide +kernel
theorem n3:¬(("go" : Str) = "reckon"):=by decide +kernel
theorem n4:¬(("part" : Str) = "reckon"):=by decide +kernel
structure Df (K:PySem.W.Frag)(mg:Str→Option Value)(x:Str)(st:Stmt)(ps:List Str)(f:Addr)(fd:FuncData):Prop where
 mg:mg x=some (.ref f)
 fn:pN K x x st f fd
 bd:Binds K fd ps []
end My
namespace L2
open PySem PySem.Spec PyProof.Rows
noncomputable def wF(z:Str):It:=⟨fun i _=>i<z.cps.size,fun i H x H'=>H'=H∧∃c,z.cps[i]?=some c∧x=.str ⟨#[c]⟩,fun i _=>z.cps.size≤i⟩
theorem OO {P:Program}{w:World}{K:PySem.W.Frag}{tg:Expr} (it:Addr) (x:Str) (t:Tok) (ty:String) (gK:ty = "str_ascii_iterator" ∨ ty = "str_iterator"):Turn P w K tg (wF x) [it] it (fun i h=>h.IsStrIter it ty x t i) where
 mem:=by simp
 obj:=fun i h st b hb=>by
  have e:b=it:=by simpa using hb
  subst e
  obtain⟨o,e,c,d⟩:=st
  exact⟨o,e,fun v z=>by rw[d]at z;cases z⟩
 keep:=fun i h h' st k=>by obtain⟨o,e,r⟩:=st;exact⟨o,k it (by simp) o e,r⟩
 item:=by
  intro X hP hw hK hc i pins s σ H E I hf st hg
  subst hP hw hK
  have hi:i<x.cps.size:=hg
  obtain⟨f0,f1,f2,f3,f4,f5⟩:=hf it (by simp)
  have fin:∀h',h'.IsStrIter it ty x t (i+1)→Heap.SameBut it s.heap h'→∃u,some (Value.str ⟨#[x.cps[i]]⟩ s.toks)=some u ∧
    wpAny (model X.prog X.w) X.A (letOwnedTupleGo tg (.ref it) u) (fun _ s2=>∃y H',Inv X pins σ H' s2∧RelV y u∧(wF x).jn i H y H'∧s2.heap.IsStrIter it ty x t (i+1)∧∀b∈[it],H' b=none) E { s with heap:=h',toks:=s.toks+1 }:=fun h' gH sb=>by
   have I1:Inv X pins σ H { s with heap:=h',toks:=s.toks+1 }:=I.turned (fun b o hb e=>(sb.2 b hb).trans e) f0 f1 f3 f4 f5
   obtain⟨o,e,c,d⟩:=id gH
   refine⟨_,rfl,rj (s:={ s with heap:=h',toks:=s.toks+1 }) e c d (by rcases gK with q|q<;>(rw[q];decide)) ⟨.str ⟨#[x.cps[i]]⟩,H,I1,⟨_,rfl⟩,⟨rfl,x.cps[i],by simp[hi],rfl⟩,gH,fun b hb=>(hf b hb).1⟩⟩
  rcases gK with q|q
  ·subst q;exact wpAny_pyNext_ascii_item st (c:=x.cps[i]) (by simp[hi]) fin
  ·subst q;exact wpAny_pyNext_wide_item st (c:=x.cps[i]) (by simp[hi]) fin
 done:=by
  intro X hP hw hK hc i pins s σ H E I hf st hg
  subst hP hw hK
  have hi:x.cps.size≤i:=hg
  obtain⟨f0,f1,f2,f3,f4,f5⟩:=hf it (by simp)
  have fin:∀h',Heap.ExtBut it s.heap h'→(none:Option Value)=none∧Inv X pins σ H { s with heap:=h' }:=fun h' eb=>⟨rfl,I.turned (t':=s.toks) (fun b o hb e=>eb b o hb e) f0 f1 f3 f4 f5⟩
  rcases gK with q|q
  ·subst q;exact wpAny_pyNext_ascii_end (I.ok.hd hc) st (by simp[hi]) fin
  ·subst q;exact wpAny_pyNext_wide_end (I.ok.hd hc) st (by simp[hi]) fin
 self:=fun _ _ _ _ _ st h=>by
  rcases gK with q|q
  ·subst q;exact wpAny_pyIter_striter_ascii st h
  ·subst q;exact wpAny_pyIter_striter_wide st h
section
variable {X:Cx}{tg:Expr}
noncomputable def H0(tl:TE):TI:=fun σ H R=>tl σ H fun x H1=>∃z,x=.str z∧R (wF z) H1
theorem Tx{l:Expr}{tl:TE}(hl:PE X l tl):PI X tg l (H0 tl):=by
 intro pins s σ H R I h
 refine aI (hl pins s σ H _ I h) fun v s1 ⟨x,H1,I1,r1,q1⟩=>?_
 obtain⟨z,e,q⟩:=q1
 subst e
 obtain⟨t,e⟩:=(show ∃t,v=Value.str z t from r1)
 subst e
 have gK:strIterType z = "str_ascii_iterator" ∨ strIterType z = "str_iterator" := by unfold strIterType;split<;>simp
 refine wpAny_pyIter_strU ?_
 refine⟨s1.heap.objs.size,[s1.heap.objs.size],_,_,H1,rfl,I1.kept (t':=s1.toks) fun b o e=>dz _ e,OO s1.heap.objs.size z t _ gK,⟨_,fL _ rfl,rfl,rfl⟩,fun b hb=>?_,q⟩
 have e:b=s1.heap.objs.size:=by simpa using hb
 subst e
 exact I1.oX (bf _) (I1.aG.fresh (bf _))
theorem Tz:kQ X (fun x lo hi H Q=>∃z:Str,x=.str z∧z.length≤sizeLine∧Q (.str (Txt.slice z lo hi)) H):=by
 intro pins s σ H x v vl vu lo hi sl Q I rx hs pl pu h
 obtain⟨z,rfl,hz,q⟩:=h
 obtain⟨t,e⟩:=(show ∃t,v=Value.str z t from rx)
 subst e
 have fin:∀t' k,EP X pins σ Q (.str (Txt.slice z lo hi) t') { s with toks:=k }:=fun t' k=>⟨.str (Txt.slice z lo hi),H,I.tok k,⟨_,rfl⟩,q⟩
 refine⟨"str",_,F.slot_str_getitem.lookup,typeIs_str _ _ _,?_⟩
 cases pl with
 |none =>
  cases pu with
  |none=>exact wpAny_getItem_str_slice (l:=none) (u:=none) (st:=none) hs rfl (post_val_or_str ⟨Nat.le_trans (Txt.slice_le z _ _) hz,fin⟩)
  |int j tj=>exact wpAny_getItem_str_slice (l:=none) (u:=some (j,tj)) (st:=none) hs rfl (post_val_or_str ⟨Nat.le_trans (Txt.slice_le z _ _) hz,fin⟩)
 |int i ti =>
  cases pu with
  |none=>exact wpAny_getItem_str_slice (l:=some (i,ti)) (u:=none) (st:=none) hs rfl (post_val_or_str ⟨Nat.le_trans (Txt.slice_le z _ _) hz,fin⟩)
  |int j tj=>exact wpAny_getItem_str_slice (l:=some (i,ti)) (u:=some (j,tj)) (st:=none) hs rfl (post_val_or_str ⟨Nat.le_trans (Txt.slice_le z _ _) hz,fin⟩)
theorem OQ{prog:Program}{w:World}{A:Around}{E:Value→Shared→Prop}{s:Shared}{t b:Addr}{ws:List Value}{Q:Value→Shared→Prop}(ht:IsTup s.heap t ([]:List Value).toArray)(hb:IsTup s.heap b ws.toArray)(h:Q (.ref b) s):wpAny (model prog w) A (binaryOp .Add (.ref t) (.ref b)) Q E s:=by
 obtain⟨⟨c1,d1,da1,wG⟩,ho,hc,n,hd⟩:=id ht;obtain⟨⟨c2,d2,da2,pL⟩,iL,gJ,n2,hd2⟩:=id hb
 simp only at hc hd gJ hd2;subst hc hd gJ hd2
 exact concat_meets ⟨_,ho,rfl⟩ ⟨_,iL,rfl⟩ noFill_tuple_add seq_tuple_add PySem.F.slot_tuple_add PySem.F.entry_tuple_add (PySem.F.args_tuple_add_2 _ _) (tuple_addW0 t b ([]:List Value).toArray ws.toArray n n2 d1 d2 wG pL (by simp)) ⟨ho,iL,h⟩
theorem Md{prog:Program}{w:World}{A:Around}{E:Value→Shared→Prop}{s:Shared}{t sl:Addr}{items:Array Value}{vl vu:Value}{lo hi:Option Int}{Q:Value→Shared→Prop}(ht:IsTup s.heap t items)(hs:s.heap.IsSliceOf sl vl vu .none)(pl:IsPart vl lo)(pu:IsPart vu hi)
  (h0:HT.aY items.size 0 lo=0) (h1:HT.aY items.size items.size hi=items.size) (h:Q (.ref t) s):wpAny (model prog w) A (getItem (.ref t) (.ref sl)) Q E s:=by
 obtain⟨os,ny,iM,jt⟩:=id hs;have A4:s.TypeIs (.ref sl) "slice" := ⟨os,ny,iM⟩
 unfold getItem;try with_reducible refine wpAny_holding ?_
 first|refine ao (aC ?_)|skip
 refine ao (wpAny_sequenceKey ht.typeIs (by decide) ?_);refine ao (wpAny_callSpecial?_slot (name:=Str.ofString "__getitem__") ht.typeIs PyProof.Rows.slot_tuple_getitem (wpAny_call_entry PyProof.Rows.slot_tuple_getitem ht.typeIs entry_tuple_getitem ?_ (args_tuple_getitem _ _)))
 show wpAny _ _ (Builtin.Tuple.tupleItemsOf (.ref t) >>= _) _ _ s;refine ao (tupleItemsOf_ ht ?_);refine ao (wpAny_typeOf A4 ?_)
 rw[if_pos (by decide)];refine ao (HT.Ci hs pl pu ?_)
 show wpAny _ _ (if (((HT.aY items.size 0 lo:Nat):Int)==0&&(1:Int)==1&&(HT.aY items.size items.size hi-HT.aY items.size 0 lo)==items.size)=true then _ else _) _ _ s
 rw[if_pos (by rw[h0,h1];simp)]
 refine ao ?_;unfold Builtin.Tuple.tupleIsExact;refine ao (wpAny_typeOf ht.typeIs ?_)
 refine aC ?_;rw[if_pos (by decide)]
 first
  |exact ao (wpAny_rule (aC ⟨_,rfl,aC h⟩))
  |exact ao (wpAny_rule (ao (aC (aC ⟨_,rfl,aC h⟩))))
  |exact ao (ao (wpAny_rule (aC (aC ⟨_,rfl,aC h⟩))))
end
end L2
set_option maxHeartbeats 4000000
namespace J
open PySem L2
inductive D where
 |non|bl (b:Bool)|int (i:Int)|str (x:Str)|ty (n:String)
 |tup (ds:List D)|lst (ds:List D)|dk (ks:List (Key×D))|dt (ks:List (List Key×D))
mutual
noncomputable def D.cn:D→Bool
 |.tup ds=>D.du ds
 |.lst _=>false
 |.dk _=>false
 |.dt _=>false
 |.non=>true
 |.bl _=>true
 |.int _=>true
 |.str _=>true
 |.ty _=>true
noncomputable def D.du:List D→Bool
 |[]=>true
 |d::ds=>d.cn&&D.du ds
end
def wH(K:PySem.W.Frag)(a:Addr)(xs:List V):Prop:=∃(o:Obj) (its:Array Value) (n:Nat),K.lookup a=some o∧o.cls=.type "list" ∧ o.dict=none∧o.data=.seq its n∧its.size≤sizeLine∧Vals xs its.toList
mutual
inductive Rp (K:PySem.W.Frag)(N:Addr→Prop)(H:Hp):V→D→Prop
 |non:Rp K N H .non .non
 |bl (b:Bool):Rp K N H (.bl b) (.bl b)
 |int (i:Int):Rp K N H (.int i) (.int i)
 |str (x:Str):Rp K N H (.str x) (.str x)
 |ty (n:String):Rp K N H (.ty n) (.ty n)
 |tup {a:Addr}{xs:List V}{ds:List D}:bJ K H a xs→ay K N H xs ds→Rp K N H (.ref a) (.tup ds)
 |lst {a:Addr}{xs:List V}{ds:List D}:Rd H a (.lst xs)→N a→ay K N H xs ds→Rp K N H (.ref a) (.lst ds)
 |lstK {a:Addr}{xs:List V}{ds:List D}:wH K a xs→ay K N H xs ds→Rp K N H (.ref a) (.lst ds)
 |dk {a:Addr}{ai:List (Key×V)}{ks:List (Key×D)}:Rd H a (.dK ai)→N a→ai.map (·.1)=ks.map (·.1)→ay K N H (ai.map (·.2)) (ks.map (·.2))→Rp K N H (.ref a) (.dk ks)
 |dt {a:Addr}{ai:List (List Key×V)}{ks:List (List Key×D)}:Rd H a (.dT ai)→N a→ai.map (·.1)=ks.map (·.1)→ay K N H (ai.map (·.2)) (ks.map (·.2))→Rp K N H (.ref a) (.dt ks)
inductive ay (K:PySem.W.Frag)(N:Addr→Prop)(H:Hp):List V→List D→Prop
 |nil:ay K N H [] []
 |cons {v:V}{d:D}{vs:List V}{ds:List D}:Rp K N H v d→ay K N H vs ds→ay K N H (v::vs) (d::ds)
end
noncomputable def iN:HO→Prop
 |.tup _=>True
 |.bj _ (.tup _)=>True
 |_=>False
def Keeps(N:Addr→Prop)(H H':Hp):Prop:=∀a o,H a=some o→(N a∨iN o)→H' a=some o
section
variable {K:PySem.W.Frag}{N N':Addr→Prop}{H H':Hp}
theorem Keeps.same(s:aL H H'):Keeps N H H':=fun a o e _=>s a o e
theorem Keeps.sq{a:Addr}{xs:List V}(k:Keeps N H H')(h:bJ K H a xs):bJ K H' a xs:=by
 rcases h with h|h
 ·exact .inl (k _ _ h (.inr trivial))
 ·exact .inr h
theorem Keeps.rd{a:Addr}{u:HO}(k:Keeps N H H')(n:N a)(h:Rd H a u):Rd H' a u:=by
 rcases h with h|⟨o,h⟩
 ·exact .inl (k _ _ h (.inl n))
 ·exact .inr ⟨o,k _ _ h (.inl n)⟩
mutual
theorem Rp.keep(k:Keeps N H H'):∀{v:V}{d:D},Rp K N H v d→Rp K N H' v d
 |_,_,.non=>.non
 |_,_,.bl b=>.bl b
 |_,_,.int i=>.int i
 |_,_,.str x=>.str x
 |_,_,.ty n=>.ty n
 |_,_,.tup h r=>.tup (k.sq h) (ay.keep k r)
 |_,_,.lst h n r=>.lst (k.rd n h) n (ay.keep k r)
 |_,_,.lstK h r=>.lstK h (ay.keep k r)
 |_,_,.dk h n e r=>.dk (k.rd n h) n e (ay.keep k r)
 |_,_,.dt h n e r=>.dt (k.rd n h) n e (ay.keep k r)
theorem ay.keep(k:Keeps N H H'):∀{vs:List V}{ds:List D},ay K N H vs ds→ay K N H' vs ds
 |_,_,.nil=>.nil
 |_,_,.cons h r=>.cons (Rp.keep k h) (ay.keep k r)
end
theorem Rd.some{a:Addr}{u:HO}(h:Rd H a u):∃o,H a=some o:=by
 rcases h with h|⟨o,h⟩
 ·exact⟨_,h⟩
 ·exact⟨_,h⟩
mutual
theorem Rp.wk(w:∀a,N a→(∃o,H a=some o)→N' a):∀{v:V}{d:D},Rp K N H v d→Rp K N' H v d
 |_,_,.non=>.non
 |_,_,.bl b=>.bl b
 |_,_,.int i=>.int i
 |_,_,.str x=>.str x
 |_,_,.ty n=>.ty n
 |_,_,.tup h r=>.tup h (ay.wk w r)
 |_,_,.lst h n r=>.lst h (w _ n (Rd.some h)) (ay.wk w r)
 |_,_,.lstK h r=>.lstK h (ay.wk w r)
 |_,_,.dk h n e r=>.dk h (w _ n (Rd.some h)) e (ay.wk w r)
 |_,_,.dt h n e r=>.dt h (w _ n (Rd.some h)) e (ay.wk w r)
theorem ay.wk(w:∀a,N a→(∃o,H a=some o)→N' a):∀{vs:List V}{ds:List D},ay K N H vs ds→ay K N' H vs ds
 |_,_,.nil=>.nil
 |_,_,.cons h r=>.cons (Rp.wk w h) (ay.wk w r)
end
mutual
theorem Rp.im:∀{v:V}{d:D},d.cn=true→Rp K N H v d→Rp K N' H v d
 |_,_,_,.non=>.non
 |_,_,_,.bl b=>.bl b
 |_,_,_,.int i=>.int i
 |_,_,_,.str x=>.str x
 |_,_,_,.ty n=>.ty n
 |_,.tup ds,e,.tup h r=>.tup h (ay.im (by simpa only[D.cn]using e) r)
 |_,.lst ds,e,.lst h n r=>by simp[D.cn]at e
 |_,.lst ds,e,.lstK h r=>by simp[D.cn]at e
 |_,.dk ds,e,.dk h n _ r=>by simp[D.cn]at e
 |_,.dt ds,e,.dt h n _ r=>by simp[D.cn]at e
theorem ay.im:∀{vs:List V}{ds:List D},D.du ds=true→ay K N H vs ds→ay K N' H vs ds
 |_,_,_,.nil=>.nil
 |_,d::ds,e,.cons h r=>by
  have e':d.cn=true∧D.du ds=true:=by simpa[D.du]using e
  exact .cons (Rp.im e'.1 h) (ay.im e'.2 r)
end
theorem ay.paired:∀{vs:List V}{ds:List D},ay K N H vs ds→Paired (fun d v=>Rp K N H v d) ds vs
 |_,_,.nil=>.nil
 |_,_,.cons h r=>.cons h (ay.paired r)
theorem ay.len{vs:List V}{ds:List D}(r:ay K N H vs ds):vs.length=ds.length:=(Paired.length r.paired).symm
theorem ay.get:∀{vs:List V}{ds:List D}{i:Nat}{d:D},ay K N H vs ds→ds[i]?=some d→∃v,vs[i]?=some v∧Rp K N H v d
 |_,_,_,_,.nil,e=>by simp at e
 |_,_,0,_,.cons h _,e=>by simp at e;subst e;exact⟨_,rfl,h⟩
 |_,_,i+1,d,.cons _ r,e=>by
  obtain⟨v,h1,h2⟩:=ay.get (i:=i) (d:=d) r (by simpa using e)
  exact⟨v,by simpa using h1,h2⟩
theorem ay.app:∀{vs ws:List V}{ds es:List D},ay K N H vs ds→ay K N H ws es→ay K N H (vs++ws) (ds++es)
 |_,_,_,_,.nil,s=>s
 |_,_,_,_,.cons h r,s=>.cons h (ay.app r s)
theorem ay.set{v:V}{d:D}(q:Rp K N H v d):∀{vs:List V}{ds:List D} (i:Nat),ay K N H vs ds→ay K N H (vs.set i v) (ds.set i d)
 |_,_,_,.nil=>.nil
 |_,_,0,.cons _ t=>.cons q t
 |_,_,i+1,.cons h t=>.cons h (ay.set q i t)
theorem ay.take:∀{vs:List V}{ds:List D} (n:Nat),ay K N H vs ds→ay K N H (vs.take n) (ds.take n)
 |_,_,0,_=>.nil
 |_,_,_+1,.nil=>.nil
 |_,_,n+1,.cons r t=>.cons r (ay.take n t)
theorem ay.drop:∀{vs:List V}{ds:List D} (n:Nat),ay K N H vs ds→ay K N H (vs.drop n) (ds.drop n)
 |_,_,0,r=>r
 |_,_,_+1,.nil=>.nil
 |_,_,n+1,.cons _ t=>ay.drop n t
theorem ay.rev:∀{vs:List V}{ds:List D},ay K N H vs ds→ay K N H vs.reverse ds.reverse
 |_,_,.nil=>.nil
 |_,_,.cons h t=>by
  rw[List.reverse_cons,List.reverse_cons]
  exact(ay.rev t).app (.cons h .nil)
theorem ay.dl{vs:List V}{ds:List D}(h:ay K N H vs ds):ay K N H vs.dropLast ds.dropLast:=by
 rw[List.dropLast_eq_take,List.dropLast_eq_take,h.len]
 exact h.take _
theorem ay.rep:∀{vs:List V}{ds:List D} (n:Nat),ay K N H vs ds→ay K N H (List.replicate n vs).flatten (List.replicate n ds).flatten
 |_,_,0,_=>.nil
 |_,_,n+1,h=>by
  rw[List.replicate_succ,List.replicate_succ,List.flatten_cons,List.flatten_cons]
  exact h.app (ay.rep n h)
theorem ay.bE{vs:List V}{ds:List D}{i:Int}{d:D}(r:ay K N H vs ds)(e:L2.bE ds i=some d):∃v,L2.bE vs i=some v∧Rp K N H v d:=by
 unfold L2.bE at e ⊢
 rw[r.len]
 cases q:dW ds.length i with
 |none=>rw[q]at e;cases e
 |some j =>
  rw[q]at e
  exact r.get e
end
inductive M where|al|fr|un|bo|bi|rb|nb
 deriving DecidableEq
noncomputable abbrev Ev:=List (Option (M×D))
noncomputable def Cell(K:PySem.W.Frag)(N:Addr→Prop)(H:Hp)(p:Addr):D→Prop
 |.lst ds=>∃xs,H p=some (.lst xs)∧ay K N H xs ds
 |.dk ks=>∃ai,H p=some (.dK ai)∧ai.map (·.1)=ks.map (·.1)∧ay K N H (ai.map (·.2)) (ks.map (·.2))
 |.dt ks=>∃ai,H p=some (.dT ai)∧ai.map (·.1)=ks.map (·.1)∧ay K N H (ai.map (·.2)) (ks.map (·.2))
 |_=>False
noncomputable def NM(H₀:Hp)(O:Addr→Prop):M→Addr→Prop
 |.al,a=>¬O a
 |.rb,a=>H₀ a=none
 |_,a=>¬O a∧H₀ a=none
def jh(K:PySem.W.Frag)(H₀:Hp)(O:Addr→Prop)(H:Hp)(d:D)(v:V):Prop :=
 ∃(p:Addr) (qs:List Addr) (aR:List (List D)),v=.ref p∧d=.lst (aR.map D.lst)∧O p∧H₀ p=none∧H p=some (.lst (qs.map V.ref))∧qs.Nodup∧(∀q∈qs,O q∧H₀ q=none∧q≠p) ∧
  Paired (fun q ds=>∃xs,H q=some (.lst xs)∧ay K (fun a=>¬O a∧H₀ a=none) H xs ds) qs aR
noncomputable def Val(K:PySem.W.Frag)(H₀:Hp)(O:Addr→Prop)(Hb H:Hp):M→D→V→Prop
 |.al,d,v=>Rp K (fun a=>¬O a) H v d
 |.fr,d,v=>Rp K (fun a=>¬O a∧H₀ a=none) H v d
 |.rb,d,v=>Rp K (fun a=>H₀ a=none) H v d
 |.un,d,v=>∃p,v=.ref p∧Hb p=none∧H₀ p=none∧¬O p∧Cell K (fun a=>(¬O a∧H₀ a=none)∧a≠p) H p d
 |.bo,d,v=>∃p,v=.ref p∧O p∧H₀ p=none∧Cell K (fun a=>¬O a∧H₀ a=none) H p d
 |.bi,d,v=>∃p,v=.ref p∧O p∧Cell K (fun a=>¬O a∧H₀ a=none) H p d
 |.nb,d,v=>jh K H₀ O H d v
noncomputable def aV:M→M
 |.al=>.al
 |.rb=>.rb
 |.nb=>.rb
 |_=>.fr
noncomputable abbrev HE:Hp:=fun _=>none
section
variable {K:PySem.W.Frag}{N N':Addr→Prop}{H H' H₀ Hb JV:Hp}{O:Addr→Prop}{m:M}{d:D}{v:V}{p:Addr}
theorem Cell.keep(k:Keeps N H H')(e:H' p=H p)(h:Cell K N H p d):Cell K N H' p d:=by
 cases d<;>simp only[Cell]at h ⊢
 ·obtain⟨xs,q,r⟩:=h;exact⟨xs,e.trans q,r.keep k⟩
 ·obtain⟨xs,q,z,r⟩:=h;exact⟨xs,e.trans q,z,r.keep k⟩
 ·obtain⟨xs,q,z,r⟩:=h;exact⟨xs,e.trans q,z,r.keep k⟩
theorem Cell.some(h:Cell K N H p d):∃o,H p=some o∧¬iN o:=by
 cases d<;>simp only[Cell]at h
 ·obtain⟨xs,q,r⟩:=h;exact⟨_,q,fun z=>z⟩
 ·obtain⟨xs,q,z,r⟩:=h;exact⟨_,q,fun z=>z⟩
 ·obtain⟨xs,q,z,r⟩:=h;exact⟨_,q,fun z=>z⟩
theorem Cell.wk(w:∀a,N a→(∃o,H a=Option.some o)→N' a)(h:Cell K N H p d):Cell K N' H p d:=by
 cases d<;>simp only[Cell]at h ⊢
 ·obtain⟨xs,q,r⟩:=h;exact⟨xs,q,r.wk w⟩
 ·obtain⟨xs,q,z,r⟩:=h;exact⟨xs,q,z,r.wk w⟩
 ·obtain⟨xs,q,z,r⟩:=h;exact⟨xs,q,z,r.wk w⟩
theorem Cell.rp(n:N p)(h:Cell K N H p d):Rp K N H (.ref p) d:=by
 cases d<;>simp only[Cell]at h
 ·obtain⟨xs,q,r⟩:=h;exact .lst (.inl q) n r
 ·obtain⟨xs,q,z,r⟩:=h;exact .dk (.inl q) n z r
 ·obtain⟨xs,q,z,r⟩:=h;exact .dt (.inl q) n z r
theorem kf{F G:Addr→List D→Prop}:∀{qs:List Addr}{aR:List (List D)},(∀q ds,q∈qs→F q ds→G q ds)→Paired F qs aR→Paired G qs aR
 |_,_,_,.nil=>.nil
 |_,_,h,.cons a t=>.cons (h _ _ cv a) (kf (fun q ds m=>h q ds (df _ m)) t)
theorem jh.keep(s:aL H H')(h:jh K H₀ O H d v):jh K H₀ O H' d v:=by
 obtain⟨p,qs,aR,e1,e2,h1,h2,h3,h4,h5,h6⟩:=h
 exact⟨p,qs,aR,e1,e2,h1,h2,s _ _ h3,h4,h5,kf (fun q ds _ ⟨xs,a,b⟩=>⟨xs,s _ _ a,b.keep (.same s)⟩) h6⟩
theorem jh.jw{F:Addr→Prop}(w:∀a,H₀ a=none→F a):∀{qs:List Addr}{aR:List (List D)},(∀q∈qs,O q∧H₀ q=none∧q≠p)→Paired (fun q ds=>∃xs,H q=some (.lst xs)∧ay K (fun a=>¬O a∧H₀ a=none) H xs ds) qs aR→ay K F H (qs.map V.ref) (aR.map D.lst)
 |_,_,_,.nil=>.nil
 |_,_,h,.cons ⟨xs,a,b⟩ t=>.cons (.lst (.inl a) (w _ (h _ cv).2.1) (b.wk fun x z _=>w x z.2)) (jh.jw w (fun q m=>h q (df _ m)) t)
theorem jh.rp{F:Addr→Prop}(w:∀a,H₀ a=none→F a)(h:jh K H₀ O H d v):Rp K F H v d:=by
 obtain⟨p,qs,aR,rfl,rfl,h1,h2,h3,h4,h5,h6⟩:=h
 exact .lst (.inl h3) (w _ h2) (jh.jw w h5 h6)
theorem Val.keep(s:aL H H')(h:Val K H₀ O Hb H m d v):Val K H₀ O Hb H' m d v:=by
 cases m<;>simp only[Val]at h ⊢
 ·exact h.keep (.same s)
 ·exact h.keep (.same s)
 ·obtain⟨p,e,h1,h2,h3,c⟩:=h
  obtain⟨o,q,_⟩:=c.some
  exact⟨p,e,h1,h2,h3,c.keep (.same s) ((s _ _ q).trans q.symm)⟩
 ·obtain⟨p,e,h1,h2,c⟩:=h
  obtain⟨o,q,_⟩:=c.some
  exact⟨p,e,h1,h2,c.keep (.same s) ((s _ _ q).trans q.symm)⟩
 ·obtain⟨p,e,h1,c⟩:=h
  obtain⟨o,q,_⟩:=c.some
  exact⟨p,e,h1,c.keep (.same s) ((s _ _ q).trans q.symm)⟩
 ·exact h.keep (.same s)
 ·exact h.keep s
theorem Val.hb(w:∀a,Hb a=none→JV a=none)(h:Val K H₀ O Hb H m d v):Val K H₀ O JV H m d v:=by
 cases m<;>simp only[Val]at h ⊢
 ·exact h
 ·exact h
 ·obtain⟨p,e,h1,r⟩:=h;exact⟨p,e,w _ h1,r⟩
 ·exact h
 ·exact h
 ·exact h
 ·exact h
theorem Val.h0(h:Val K H₀ O Hb H m d v):Val K H₀ O HE H m d v:=h.hb fun _ _=>rfl
theorem Val.weak(h:Val K H₀ O Hb H m d v):Rp K (fun _=>True) H v d:=by
 cases m<;>simp only[Val]at h
 ·exact h.wk fun _ _ _=>trivial
 ·exact h.wk fun _ _ _=>trivial
 ·obtain⟨p,rfl,_,_,_,c⟩:=h;exact(c.wk fun _ _ _=>trivial).rp trivial
 ·obtain⟨p,rfl,_,_,c⟩:=h;exact(c.wk fun _ _ _=>trivial).rp trivial
 ·obtain⟨p,rfl,_,c⟩:=h;exact(c.wk fun _ _ _=>trivial).rp trivial
 ·exact h.wk fun _ _ _=>trivial
 ·exact h.rp fun _ _=>trivial
theorem Rp.int_inv{i:Int}(h:Rp K N H v (.int i)):v=.int i:=by cases h;rfl
theorem Rp.F5{b:Bool}(h:Rp K N H v (.bl b)):v=.bl b:=by cases h;rfl
theorem Rp.str_inv{x:Str}(h:Rp K N H v (.str x)):v=.str x:=by cases h;rfl
theorem Rp.EY(h:Rp K N H v .non):v=.non:=by cases h;rfl
theorem Rp.TB{n:String}(h:Rp K N H v (.ty n)):v=.ty n:=by cases h;rfl
theorem Val.int{i:Int}(h:Val K H₀ O Hb H m (.int i) v):v=.int i:=h.weak.int_inv
theorem Val.bl{b:Bool}(h:Val K H₀ O Hb H m (.bl b) v):v=.bl b:=h.weak.F5
theorem Val.str{x:Str}(h:Val K H₀ O Hb H m (.str x) v):v=.str x:=h.weak.str_inv
theorem Val.non(h:Val K H₀ O Hb H m .non v):v=.non:=h.weak.EY
theorem Val.ty{x:String}(h:Val K H₀ O Hb H m (.ty x) v):v=.ty x:=h.weak.TB
theorem Val.lst{ds:List D}(h:Val K H₀ O Hb H m (.lst ds) v):∃a xs,v=.ref a∧bV K H a xs∧ay K (NM H₀ O (aV m)) H xs ds:=by
 cases m<;>simp only[Val,Cell]at h
 ·cases h with
  |lst r n q=>exact⟨_,_,rfl,.inl r,q⟩
  |lstK r q=>exact⟨_,_,rfl,.inr r,q⟩
 ·cases h with
  |lst r n q=>exact⟨_,_,rfl,.inl r,q⟩
  |lstK r q=>exact⟨_,_,rfl,.inr r,q⟩
 ·obtain⟨p,rfl,_,_,_,xs,q,r⟩:=h;exact⟨_,_,rfl,.inl (.inl q),r.wk fun a h _=>h.1⟩
 ·obtain⟨p,rfl,_,_,xs,q,r⟩:=h;exact⟨_,_,rfl,.inl (.inl q),r⟩
 ·obtain⟨p,rfl,_,xs,q,r⟩:=h;exact⟨_,_,rfl,.inl (.inl q),r⟩
 ·cases h with
  |lst r n q=>exact⟨_,_,rfl,.inl r,q⟩
  |lstK r q=>exact⟨_,_,rfl,.inr r,q⟩
 ·obtain⟨p,qs,aR,rfl,e2,h1,h2,h3,h4,h5,h6⟩:=h
  cases e2
  exact⟨p,_,rfl,.inl (.inl h3),jh.jw (fun _ z=>z) h5 h6⟩
theorem Val.tup{ds:List D}(h:Val K H₀ O Hb H m (.tup ds) v):∃a xs,v=.ref a∧bJ K H a xs∧ay K (NM H₀ O (aV m)) H xs ds:=by
 cases m<;>simp only[Val,Cell]at h
 ·cases h with|tup r q=>exact⟨_,_,rfl,r,q⟩
 ·cases h with|tup r q=>exact⟨_,_,rfl,r,q⟩
 ·obtain⟨p,rfl,_,_,_,z⟩:=h;exact z.elim
 ·obtain⟨p,rfl,_,_,z⟩:=h;exact z.elim
 ·obtain⟨p,rfl,_,z⟩:=h;exact z.elim
 ·cases h with|tup r q=>exact⟨_,_,rfl,r,q⟩
 ·obtain⟨p,qs,aR,rfl,e2,_⟩:=h;cases e2
theorem Val.el{a:V}{e:D}(h:Rp K (NM H₀ O (aV m)) H a e):Val K H₀ O Hb H (aV m) e a:=by
 cases m<;>exact h
noncomputable def dD:M→D→Bool
 |.fr,_=>true
 |.un,_=>true
 |_,d=>d.cn
noncomputable def gO:M→D→Bool
 |.fr,_=>true
 |.un,_=>true
 |.al,_=>true
 |_,d=>d.cn
noncomputable def sC:M→D→Bool
 |.fr,_=>true
 |.un,_=>true
 |.bo,_=>true
 |.rb,_=>true
 |_,d=>d.cn
theorem Val.dD(h:Val K H₀ O Hb H m d v)(e:J.dD m d=true):Rp K (fun a=>¬O a∧H₀ a=none) H v d:=by
 cases m<;>simp only[J.dD]at e
 ·exact h.weak.im e
 ·exact h
 ·obtain⟨p,rfl,_,h1,h2,c⟩:=h
  exact(c.wk fun a h _=>h.1).rp ⟨h2,h1⟩
 ·exact h.weak.im e
 ·exact h.weak.im e
 ·exact h.weak.im e
 ·exact Rp.im e h.weak
theorem Val.gO(h:Val K H₀ O Hb H m d v)(e:J.gO m d=true):Rp K (fun a=>¬O a) H v d:=by
 cases m<;>simp only[J.gO]at e
 ·exact h
 ·exact Rp.wk (fun a h _=>h.1) (show Rp K (fun a=>¬O a∧H₀ a=none) H v d from h)
 ·exact Rp.wk (fun a h _=>h.1) (h.dD rfl)
 ·exact h.weak.im e
 ·exact h.weak.im e
 ·exact h.weak.im e
 ·exact Rp.im e h.weak
theorem Val.sC(h:Val K H₀ O Hb H m d v)(e:J.sC m d=true):Rp K (fun a=>H₀ a=none) H v d:=by
 cases m<;>simp only[J.sC]at e
 ·exact h.weak.im e
 ·exact Rp.wk (fun a h _=>h.2) (show Rp K (fun a=>¬O a∧H₀ a=none) H v d from h)
 ·exact Rp.wk (fun a h _=>h.2) (h.dD rfl)
 ·obtain⟨p,rfl,_,h1,c⟩:=h
  exact(c.wk fun a h _=>h.2).rp h1
 ·exact h.weak.im e
 ·exact h
 ·exact Rp.im e h.weak
end
noncomputable def iO:M→Bool
 |.un=>false
 |.rb=>false
 |_=>true
structure eD (K:PySem.W.Frag)(H₀:Hp)(O:Addr→Prop)(H:Hp)(σ:St)(env:Ev):Prop where
 sl:Paired (fun(e:Option (M×D)) (x:Option V)=>∀m d,e=some (m,d)→iO m=true∧∃v,x=some v∧Val K H₀ O HE H m d v) env σ
 od:∀a,O a→∃o,H a=some o
 hd:∀a o,H₀ a=some o→∃o',H a=some o'
 on:∀a o,O a→H a=some o→¬iN o
def JT(K:PySem.W.Frag)(te:TE)(f:Ev→Option (M×D)):Prop :=
 ∀H₀ O H σ env Q m d,eD K H₀ O H σ env→f env=some (m,d)→(∀v H',aL H H'→Val K H₀ O H H' m d v→Q v H')→te σ H Q
def fN(K:PySem.W.Frag)(tt:TT)(f:Ev→Option Bool):Prop :=
 ∀H₀ O H σ env Q b,eD K H₀ O H σ env→f env=some b→(∀H',aL H H'→Q b H')→tt σ H Q
def gg(K:PySem.W.Frag)(H₀:Hp)(O:Addr→Prop)(Hb H:Hp)(aD:List (M×D))(vs:List V):Prop:=Paired (fun md v=>Val K H₀ O Hb H md.1 md.2 v) aD vs
def iP(K:PySem.W.Frag)(ta:TA)(f:Ev→Option (List (M×D))):Prop :=
 ∀H₀ O H σ env Q aD,eD K H₀ O H σ env→f env=some aD→(∀vs H',aL H H'→gg K H₀ O H H' aD vs→Q vs H')→ta σ H Q
section
variable {K:PySem.W.Frag}{H H' H₀:Hp}{O:Addr→Prop}{σ:St}{env:Ev}
theorem lz{α β:Type}{F G:α→β→Prop}(h:∀a b,F a b→G a b):∀{l:List α}{r:List β},Paired F l r→Paired G l r
 |_,_,.nil=>.nil
 |_,_,.cons q t=>.cons (h _ _ q) (lz h t)
theorem eD.keep(R:eD K H₀ O H σ env)(s:aL H H'):eD K H₀ O H' σ env :=
 ⟨lz (fun e x h m d q=>⟨(h m d q).1,let ⟨v,e,z⟩:=(h m d q).2;⟨v,e,z.keep s⟩⟩) R.sl,fun a h=>let ⟨o,q⟩:=R.od a h;⟨o,s _ _ q⟩,fun a o h=>let ⟨o,q⟩:=R.hd a o h;⟨o,s _ _ q⟩,fun a o h e=>by
  obtain⟨o',q⟩:=R.od a h
  have z:=s _ _ q
  rw[e]at z;cases z
  exact R.on a _ h q⟩
theorem Ia{α β:Type}{F:α→β→Prop}:∀{l:List α}{r:List β}{i:Nat}{a:α},Paired F l r→l[i]?=some a→∃b,r[i]?=some b∧F a b
 |_,_,_,_,.nil,e=>by simp at e
 |_,_,0,_,.cons h _,e=>by simp at e;subst e;exact⟨_,rfl,h⟩
 |_,_,i+1,a,.cons _ r,e=>by
  obtain⟨v,h1,h2⟩:=Ia (i:=i) (a:=a) r (by simpa using e)
  exact⟨v,by simpa using h1,h2⟩
theorem eD.at{i:Nat}{m:M}{d:D}(R:eD K H₀ O H σ env)(e:env[i]?=some (some (m,d))):∃v,σ[i]?=some (some v)∧iO m=true∧Val K H₀ O HE H m d v:=by
 obtain⟨x,hx,h⟩:=Ia R.sl e
 obtain⟨h0,v,rfl,hz⟩:=h m d rfl
 exact⟨v,hx,h0,hz⟩
theorem Val.G7{m:M}{d:D}{v:V}{Hb:Hp}(n:iO m=true)(h:Val K H₀ O HE H m d v):Val K H₀ O Hb H m d v:=by
 cases m<;>first|exact h|cases n
noncomputable def jV(i:Nat):Ev→Option (M×D):=fun e=>(e[i]?).bind id
theorem TC{i:Nat}:JT K (gD i) (jV i):=by
 intro H₀ O H σ env Q m d R h q
 unfold jV at h
 cases e:env[i]? with
 |none=>rw[e]at h;cases h
 |some x =>
  rw[e]at h
  obtain rfl:x=some (m,d):=h
  obtain⟨v,hv,n,hm⟩:=R.at e
  exact⟨v,hv,q v H (aL.refl H) (hm.G7 n)⟩
noncomputable def jC(d:D):Ev→Option (M×D):=fun _=>some (.fr,d)
noncomputable def cD:V→Option D
 |.non=>some .non
 |.bl b=>some (.bl b)
 |.int i=>some (.int i)
 |.str x=>some (.str x)
 |.ty n=>some (.ty n)
 |_=>none
theorem pj{v:V}{d:D}(e:cD v=some d):JT K (tC v) (jC d):=by
 intro H₀ O H σ env Q m d' R h q
 cases h
 refine q v H (aL.refl H) ?_
 cases v<;>simp only[cD]at e<;>cases e<;>constructor
def JR(K:PySem.W.Frag)(r:R2)(g:M×D→M×D→Option (M×D)):Prop :=
 ∀H₀ O H x y a b Q m d,(∀a,O a→∃o,H a=some o)→(∀a o,H₀ a=some o→∃o',H a=some o')→Val K H₀ O HE H (Prod.fst a) a.2 x→Val K H₀ O HE H (Prod.fst b) b.2 y→g a b=some (m,d)→(∀v H',aL H H'→Val K H₀ O H H' m d v→Q v H')→r x y H Q
noncomputable def ag(g:M×D→M×D→Option (M×D))(fa fb:Ev→Option (M×D)):Ev→Option (M×D):=fun e=>(fa e).bind fun x=>(fb e).bind fun y=>g x y
theorem vz{r:R2}{g:M×D→M×D→Option (M×D)}{ta tb:TE}{fa fb:Ev→Option (M×D)}(hr:JR K r g)(ha:JT K ta fa)(hb:JT K tb fb):JT K (pI r ta tb) (ag g fa fb):=by
 intro H₀ O H σ env Q m d R h q
 unfold ag at h
 cases ea:fa env with
 |none=>rw[ea]at h;cases h
 |some a =>
  cases eb:fb env with
  |none=>rw[ea,eb]at h;cases h
  |some b =>
   rw[ea,eb]at h
   refine ha H₀ O H σ env _ a.1 a.2 R ea fun x H1 s1 h1=>?_
   refine hb H₀ O H1 σ env _ b.1 b.2 (R.keep s1) eb fun y H2 s2 h2=>?_
   have R2:=(R.keep s1).keep s2
   refine hr H₀ O H2 x y a b Q m d R2.od R2.hd (h1.keep s2).h0 h2.h0 h fun v H3 s3 h3=>?_
   exact q v H3 ((s1.trans s2).trans s3) (h3.hb fun a z=>(s1.trans s2).free z)
noncomputable def bt(g:M×D→Option (M×D))(fa:Ev→Option (M×D)):Ev→Option (M×D):=fun e=>(fa e).bind g
def JU(K:PySem.W.Frag)(r:V→Hp→VK→Prop)(g:M×D→Option (M×D)):Prop :=
 ∀H₀ O H x a Q m d,(∀a,O a→∃o,H a=some o)→(∀a o,H₀ a=some o→∃o',H a=some o')→Val K H₀ O HE H (Prod.fst a) a.2 x→g a=some (m,d)→(∀v H',aL H H'→Val K H₀ O H H' m d v→Q v H')→r x H Q
theorem VW{r:V→Hp→VK→Prop}{g:M×D→Option (M×D)}{ta:TE}{fa:Ev→Option (M×D)}(hr:JU K r g)(ha:JT K ta fa):JT K (Jw r ta) (bt g fa):=by
 intro H₀ O H σ env Q m d R h q
 unfold bt at h
 cases ea:fa env with
 |none=>rw[ea]at h;cases h
 |some a =>
  rw[ea]at h
  refine ha H₀ O H σ env _ a.1 a.2 R ea fun x H1 s1 h1=>?_
  have R1:=R.keep s1
  exact hr H₀ O H1 x a Q m d R1.od R1.hd h1.h0 h fun v H3 s3 h3=>q v H3 (s1.trans s3) (h3.hb fun a z=>s1.free z)
theorem iZ{H:Hp}{Hb:Hp}{i:Int}:Val K H₀ O Hb H .fr (.int i) (.int i):=Rp.int i
theorem fX{H:Hp}{Hb:Hp}{i:Bool}:Val K H₀ O Hb H .fr (.bl i) (.bl i):=Rp.bl i
theorem zJ{H:Hp}{Hb:Hp}{i:Str}:Val K H₀ O Hb H .fr (.str i) (.str i):=Rp.str i
noncomputable def gI(c:Int→Int→Prop)[∀i j,Decidable (c i j)](f:Int→Int→Int):M×D→M×D→Option (M×D)
 | (_,.int i),(_,.int j)=>if c i j then some (.fr,.int (f i j))else none
 |_,_=>none
noncomputable def sD(f:Int→Int→Int):M×D→M×D→Option (M×D)
 | (_,.int i),(_,.int j)=>some (.fr,.int (f i j))
 |_,_=>none
noncomputable def wI(f:Int→Int→Bool):M×D→M×D→Option (M×D)
 | (_,.int i),(_,.int j)=>some (.fr,.bl (f i j))
 |_,_=>none
theorem pv{C:Int→Int→Prop}{c:Int→Int→Prop}[∀i j,Decidable (c i j)]{f:Int→Int→Int}(w:∀i j,c i j→C i j):JR K (rI C fun i j=>.int (f i j)) (gI c f):=by
 intro H₀ O H x y a b Q m d _ _ h1 h2 h q
 obtain⟨ma,da⟩:=a;obtain⟨mb,db⟩:=b
 cases da<;>try (cases h;done)
 cases db<;>try (cases h;done)
 rename_i i j
 simp only[gI]at h
 split at h
 ·rename_i hc
  cases h
  exact⟨i,j,h1.int,h2.int,w i j hc,q _ H (aL.refl H) iZ⟩
 ·cases h
theorem vA{f:Int→Int→Int}:JR K (fC fun i j=>.int (f i j)) (sD f):=by
 intro H₀ O H x y a b Q m d _ _ h1 h2 h q
 obtain⟨ma,da⟩:=a;obtain⟨mb,db⟩:=b
 cases da<;>try (cases h;done)
 cases db<;>try (cases h;done)
 rename_i i j
 cases h
 exact⟨i,j,h1.int,h2.int,q _ H (aL.refl H) iZ⟩
theorem zK{f:Int→Int→Bool}:JR K (fC fun i j=>.bl (f i j)) (wI f):=by
 intro H₀ O H x y a b Q m d _ _ h1 h2 h q
 obtain⟨ma,da⟩:=a;obtain⟨mb,db⟩:=b
 cases da<;>try (cases h;done)
 cases db<;>try (cases h;done)
 rename_i i j
 cases h
 exact⟨i,j,h1.int,h2.int,q _ H (aL.refl H) fX⟩
noncomputable def Ib:=sD (·+·)
noncomputable def iF:=sD (· - ·)
noncomputable def fJ:=gI (fun i j=>(-18446744073709551616<i∧i<18446744073709551616)∨(-18446744073709551616<j∧j<18446744073709551616)) (· * ·)
noncomputable def aW:=gI (fun _ j=>0<j) (· % ·)
noncomputable def gY:=gI (fun i j=>0≤j∧j≤1000000∧i.natAbs<2^64) (fun i j=>i^j.toNat)
noncomputable def mZ:=gI (fun i j=>0≤j∧j≤1000000∧i.natAbs<2^64) (fun i j=>i*2^j.toNat)
noncomputable def jR:=gI (fun _ j=>0≤j) (fun i j=>i/2^j.toNat)
noncomputable def f7:=wI (fun i j=>decide (i<j))
noncomputable def pQ:=wI (fun i j=>decide (i≤j))
noncomputable def iQ:=wI (fun i j=>decide (j<i))
theorem TF:JR K (fC fun i j=>.int (i+j)) Ib:=vA
theorem TH:JR K (fC fun i j=>.int (i-j)) iF:=vA
theorem YV:(2:Int)^64=18446744073709551616:=by decide
theorem TJ:JR K (rI rJ fun i j=>.int (i*j)) fJ:=pv fun i j h=>by
 unfold rJ;rw[YV];exact h
theorem TK:JR K (rI (fun _ j=>0<j) fun i j=>.int (i%j)) aW:=pv fun _ _ h=>h
theorem TL:JR K (rI vQ fun i j=>.int (i^j.toNat)) gY:=pv fun _ _ h=>h
theorem TN:JR K (rI vQ fun i j=>.int (i*2^j.toNat)) mZ:=pv fun _ _ h=>h
theorem TQ:JR K (rI (fun _ j=>0≤j) fun i j=>.int (i/2^j.toNat)) jR:=pv fun _ _ h=>h
theorem VX:JR K (fC fun i j=>.bl (decide (i<j))) f7:=zK
theorem VY:JR K (fC fun i j=>.bl (decide (i≤j))) pQ:=zK
theorem VZ:JR K (fC fun i j=>.bl (decide (j<i))) iQ:=zK
noncomputable def eO:D→Option V
 |.non=>some .non
 |.bl b=>some (.bl b)
 |.int i=>some (.int i)
 |.str x=>some (.str x)
 |_=>none
theorem oS{N:Addr→Prop}{d:D}{v w:V}(h:Rp K N H v d)(e:eO d=some w):v=w:=by
 cases h<;>simp only[eO]at e<;>cases e<;>rfl
noncomputable def aM:M×D→M×D→Option (M×D):=fun a b=>(eO a.2).bind fun x=>(eO b.2).bind fun y=>if kx x y=true then some (.fr,.bl (decide (x=y)))else none
noncomputable def iR:M×D→M×D→Option (M×D):=fun a b=>(eO a.2).bind fun x=>(eO b.2).bind fun y=>if kx x y=true then some (.fr,.bl (!decide (x=y)))else none
theorem V0:JR K Jy aM:=by
 intro H₀ O H x y a b Q m d _ _ h1 h2 h q
 unfold aM at h
 cases e1:eO a.2 with
 |none=>rw[e1]at h;cases h
 |some x' =>
  cases e2:eO b.2 with
  |none=>rw[e1,e2]at h;cases h
  |some y' =>
   rw[e1,e2]at h
   obtain rfl:=oS h1.weak e1
   obtain rfl:=oS h2.weak e2
   simp only[Option.bind_some]at h
   split at h
   ·rename_i hc
    cases h
    exact⟨hc,q _ H (aL.refl H) fX⟩
   ·cases h
theorem V1:JR K Jz iR:=by
 intro H₀ O H x y a b Q m d _ _ h1 h2 h q
 unfold iR at h
 cases e1:eO a.2 with
 |none=>rw[e1]at h;cases h
 |some x' =>
  cases e2:eO b.2 with
  |none=>rw[e1,e2]at h;cases h
  |some y' =>
   rw[e1,e2]at h
   obtain rfl:=oS h1.weak e1
   obtain rfl:=oS h2.weak e2
   simp only[Option.bind_some]at h
   split at h
   ·rename_i hc
    cases h
    exact⟨hc,q _ H (aL.refl H) fX⟩
   ·cases h
noncomputable def rB:M×D→M×D→Option (M×D)
 | (_,.non),(_,.non)=>some (.fr,.bl false)
 | (_,_),(_,.non)=>some (.fr,.bl true)
 |_,_=>none
theorem TR{N:Addr→Prop}{d:D}{v:V}(h:Rp K N H v d):(v=.non↔d=.non):=by
 cases h<;>simp
theorem QC:JR K (fun x y H Q=>y=.non∧Q (.bl (!decide (x=.non))) H) rB:=by
 intro H₀ O H x y a b Q m d _ _ h1 h2 h q
 obtain⟨ma,da⟩:=a;obtain⟨mb,db⟩:=b
 have e:=TR h1.weak
 cases db<;>try (cases da<;>cases h;done)
 refine⟨h2.non,?_⟩
 cases da<;>cases h<;>(simp only[e,reduceCtorEq,decide_true,decide_false];exact q _ H (aL.refl H) fX)
noncomputable def ak:M×D→M×D→Option (M×D)
 | (m,.lst ds),(_,.int i)=>(bE ds i).map fun d=>(aV m,d)
 | (m,.tup ds),(_,.int i)=>(bE ds i).map fun d=>(aV m,d)
 | (_,.str z),(_,.int i)=>if z.length≤sizeLine then (bE z.cps.toList i).map fun c=>(.fr,.str ⟨#[c]⟩)else none
 |_,_=>none
theorem V2:JR K (wz K) ak:=by
 intro H₀ O H x y a b Q m d _ _ h1 h2 h q
 obtain⟨ma,da⟩:=a;obtain⟨mb,db⟩:=b
 cases da<;>try (cases db<;>cases h;done)
 ·cases db<;>try (cases h;done)
  rename_i z i
  simp only[ak]at h
  split at h
  ·rename_i hl
   cases e:bE z.cps.toList i with
   |none=>rw[e]at h;cases h
   |some c =>
    rw[e]at h;cases h
    exact .inr (.inr ⟨z,i,c,h1.str,h2.int,hl,e,q _ H (aL.refl H) zJ⟩)
  ·cases h
 ·cases db<;>try (cases h;done)
  rename_i ds i
  simp only[ak]at h
  cases e:bE ds i with
  |none=>rw[e]at h;cases h
  |some c =>
   rw[e]at h;cases h
   obtain⟨p,xs,rfl,hp,hs⟩:=h1.tup
   obtain⟨v,hv,r⟩:=hs.bE e
   exact .inr (.inl ⟨p,xs,i,v,rfl,h2.int,hp,hv,q _ H (aL.refl H) (.el r)⟩)
 ·cases db<;>try (cases h;done)
  rename_i ds i
  simp only[ak]at h
  cases e:bE ds i with
  |none=>rw[e]at h;cases h
  |some c =>
   rw[e]at h;cases h
   obtain⟨p,xs,rfl,hp,hs⟩:=h1.lst
   obtain⟨v,hv,r⟩:=hs.bE e
   exact .inl ⟨p,xs,i,v,rfl,h2.int,hp,hv,q _ H (aL.refl H) (.el r)⟩
end
section
variable {K:PySem.W.Frag}{H H' H₀:Hp}{O:Addr→Prop}{σ:St}{env:Ev}
noncomputable def lW:M×D→Option Bool
 | (_,.bl b)=>some b
 |_=>none
theorem oG{a:M×D}{b:Bool}(h:lW a=some b):a.2=.bl b:=by
 obtain⟨m,d⟩:=a
 cases d<;>simp only[lW]at h<;>first | (cases h;rfl)|cases h
noncomputable def lJ(fa fb:Ev→Option (M×D)):Ev→Option (M×D):=fun e=>(fa e).bind fun x=>(lW x).bind fun b=>if b=true then fb e else some (.fr,.bl false)
noncomputable def sE(fa fb:Ev→Option (M×D)):Ev→Option (M×D):=fun e=>(fa e).bind fun x=>(lW x).bind fun b=>if b=true then some (.fr,.bl true)else fb e
noncomputable def Aj(fa:Ev→Option (M×D)):Ev→Option (M×D):=fun e=>(fa e).bind fun x=>(lW x).bind fun b=>some (.fr,.bl (!b))
theorem aB{α β:Type}{x:Option α}{f:α→Option β}{y:β}(h:x.bind f=some y):∃a,x=some a∧f a=some y:=by
 cases x with
 |none=>cases h
 |some a=>exact⟨a,rfl,h⟩
theorem TV{ta tb:TE}{fa fb:Ev→Option (M×D)}(ha:JT K ta fa)(hb:JT K tb fb):JT K (GP ta tb) (lJ fa fb):=by
 intro H₀ O H σ env Q m d R h q
 obtain⟨a,ea,h⟩:=aB h
 obtain⟨b,eb,h⟩:=aB h
 refine ha H₀ O H σ env _ a.1 a.2 R ea fun x H1 s1 h1=>?_
 rw[oG eb]at h1
 refine⟨b,h1.bl,?_⟩
 cases b with
 |true =>
  rw[if_pos rfl]at h ⊢
  exact hb H₀ O H1 σ env _ m d (R.keep s1) h fun v H2 s2 h2=>q v H2 (s1.trans s2) (h2.hb fun a z=>s1.free z)
 |false =>
  rw[if_neg aX]at h ⊢
  cases h
  exact q _ H1 s1 fX
theorem V3{ta tb:TE}{fa fb:Ev→Option (M×D)}(ha:JT K ta fa)(hb:JT K tb fb):JT K (HG ta tb) (sE fa fb):=by
 intro H₀ O H σ env Q m d R h q
 obtain⟨a,ea,h⟩:=aB h
 obtain⟨b,eb,h⟩:=aB h
 refine ha H₀ O H σ env _ a.1 a.2 R ea fun x H1 s1 h1=>?_
 rw[oG eb]at h1
 refine⟨b,h1.bl,?_⟩
 cases b with
 |true =>
  rw[if_pos rfl]at h ⊢
  cases h
  exact q _ H1 s1 fX
 |false =>
  rw[if_neg aX]at h ⊢
  exact hb H₀ O H1 σ env _ m d (R.keep s1) h fun v H2 s2 h2=>q v H2 (s1.trans s2) (h2.hb fun a z=>s1.free z)
theorem TX{ta:TE}{fa:Ev→Option (M×D)}(ha:JT K ta fa):JT K (GQ ta) (Aj fa):=by
 intro H₀ O H σ env Q m d R h q
 obtain⟨a,ea,h⟩:=aB h
 obtain⟨b,eb,h⟩:=aB h
 cases h
 refine ha H₀ O H σ env _ a.1 a.2 R ea fun x H1 s1 h1=>?_
 rw[oG eb]at h1
 exact⟨b,h1.bl,q _ H1 s1 fX⟩
noncomputable def jB(f:Ev→Option (M×D)):Ev→Option Bool:=fun e=>(f e).bind lW
theorem zL{t:TE}{f:Ev→Option (M×D)}(h:JT K t f):fN K (tB t) (jB f):=by
 intro H₀ O H σ env Q b R e q
 obtain⟨a,ea,e⟩:=aB e
 refine h H₀ O H σ env _ a.1 a.2 R ea fun x H1 s1 h1=>?_
 rw[oG e]at h1
 exact⟨b,h1.bl,q H1 s1⟩
theorem D7{t:TE}{f:Ev→Option (M×D)}(h:JT K t f):fN K (zG t) (jB f):=zL h
theorem NS{t:TE}{f:Ev→Option (M×D)}(h:JT K t f):fN K (fun σ H Q=>t σ H fun x H'=>∃k,vR K x H' k∧Q k H') (jB f):=by
 intro H₀ O H σ env Q b R e q
 obtain⟨a,ea,e⟩:=aB e
 refine h H₀ O H σ env _ a.1 a.2 R ea fun x H1 s1 h1=>?_
 rw[oG e]at h1
 exact⟨b,by rw[h1.bl];exact rfl,q H1 s1⟩
noncomputable def dM(f g:Ev→Option Bool):Ev→Option Bool:=fun e=>(f e).bind fun b=>if b=true then g e else some false
noncomputable def cX(f g:Ev→Option Bool):Ev→Option Bool:=fun e=>(f e).bind fun b=>if b=true then some true else g e
noncomputable def iG(f:Ev→Option Bool):Ev→Option Bool:=fun e=>(f e).bind fun b=>some (!b)
theorem QD{t u:TT}{f g:Ev→Option Bool}(h:fN K t f)(h':fN K u g):fN K (HD t u) (dM f g):=by
 intro H₀ O H σ env Q b R e q
 obtain⟨c,ec,e⟩:=aB e
 refine h H₀ O H σ env _ c R ec fun H1 s1=>?_
 cases c with
 |true =>
  rw[if_pos rfl]at e ⊢
  exact h' H₀ O H1 σ env _ b (R.keep s1) e fun H2 s2=>q H2 (s1.trans s2)
 |false =>
  rw[if_neg aX]at e ⊢
  cases e
  exact q H1 s1
theorem TY{t u:TT}{f g:Ev→Option Bool}(h:fN K t f)(h':fN K u g):fN K (Js t u) (cX f g):=by
 intro H₀ O H σ env Q b R e q
 obtain⟨c,ec,e⟩:=aB e
 refine h H₀ O H σ env _ c R ec fun H1 s1=>?_
 cases c with
 |true =>
  rw[if_pos rfl]at e ⊢
  cases e
  exact q H1 s1
 |false =>
  rw[if_neg aX]at e ⊢
  exact h' H₀ O H1 σ env _ b (R.keep s1) e fun H2 s2=>q H2 (s1.trans s2)
theorem QF{t:TT}{f:Ev→Option Bool}(h:fN K t f):fN K (HF t) (iG f):=by
 intro H₀ O H σ env Q b R e q
 obtain⟨c,ec,e⟩:=aB e
 cases e
 exact h H₀ O H σ env _ c R ec fun H1 s1=>q H1 s1
noncomputable def iH(c:Ev→Option Bool)(fa fb:Ev→Option (M×D)):Ev→Option (M×D):=fun e=>(c e).bind fun b=>if b=true then fa e else fb e
theorem T4{t:TT}{c:Ev→Option Bool}{ta tb:TE}{fa fb:Ev→Option (M×D)}(hc:fN K t c)(ha:JT K ta fa)(hb:JT K tb fb):JT K (Jt t ta tb) (iH c fa fb):=by
 intro H₀ O H σ env Q m d R h q
 obtain⟨b,eb,h⟩:=aB h
 refine hc H₀ O H σ env _ b R eb fun H1 s1=>?_
 cases b with
 |true =>
  rw[if_pos rfl]at h ⊢
  exact ha H₀ O H1 σ env _ m d (R.keep s1) h fun v H2 s2 h2=>q v H2 (s1.trans s2) (h2.hb fun a z=>s1.free z)
 |false =>
  rw[if_neg aX]at h ⊢
  exact hb H₀ O H1 σ env _ m d (R.keep s1) h fun v H2 s2 h2=>q v H2 (s1.trans s2) (h2.hb fun a z=>s1.free z)
noncomputable def oH(g g':M×D→M×D→Option (M×D))(fa fb fc:Ev→Option (M×D)):Ev→Option (M×D):=fun e=>(fa e).bind fun x=>(fb e).bind fun y=>(g x y).bind fun z=>(lW z).bind fun k=>if k=true then (fc e).bind fun w=>g' y w else some (.fr,.bl false)
noncomputable def ah:Ev→Option (List (M×D)):=fun _=>some []
noncomputable def ae(f:Ev→Option (M×D))(g:Ev→Option (List (M×D))):Ev→Option (List (M×D)):=fun e=>(f e).bind fun x=>(g e).bind fun r=>some (x::r)
theorem QG:iP K lF ah:=by
 intro H₀ O H σ env Q aD R h q
 cases h
 exact q [] H (aL.refl H) .nil
theorem OS{te:TE}{ta:TA}{f:Ev→Option (M×D)}{g:Ev→Option (List (M×D))}(hf:JT K te f)(hg:iP K ta g):iP K (mM te ta) (ae f g):=by
 intro H₀ O H σ env Q aD R h q
 obtain⟨x,ex,h⟩:=aB h
 obtain⟨r,er,h⟩:=aB h
 cases h
 refine hf H₀ O H σ env _ x.1 x.2 R ex fun v H1 s1 h1=>?_
 refine hg H₀ O H1 σ env _ r (R.keep s1) er fun vs H2 s2 h2=>?_
 exact q (v::vs) H2 (s1.trans s2) (.cons (h1.keep s2) (lz (fun _ _ z=>z.hb fun a z=>s1.free z) h2))
theorem gg.jw{N:Addr→Prop}{Hb:Hp}:∀{aD:List (M×D)}{vs:List V},(∀md∈aD,∀v,Val K H₀ O Hb H md.1 md.2 v→Rp K N H v md.2)→gg K H₀ O Hb H aD vs→ay K N H vs (aD.map (·.2))
 |_,_,_,.nil=>.nil
 |md::aD,v::vs,h,.cons a r=>.cons (h md cv v a) (gg.jw (fun x hx=>h x (df _ hx)) r)
theorem cY{p:Addr}{o:HO}(h:H p=none):aL H (upd H p o):=fun b u e=>by rw[aK (fF e h)];exact e
noncomputable def iA(aD:List (M×D)):Option (M×D) :=
 if aD.length≤sizeLine then
  if (aD.all fun md=>dD md.1 md.2)=true then some (.un,.lst (aD.map (·.2)))
  else if (aD.all fun md=>gO md.1 md.2)=true then some (.al,.lst (aD.map (·.2)))else none
 else none
noncomputable def bN(fs:Ev→Option (List (M×D))):Ev→Option (M×D):=fun e=>(fs e).bind iA
theorem qE{p:Addr}{xs:List V}{ds:List D}(od:∀a,O a→∃o,H a=some o)(hd:∀a o,H₀ a=some o→∃o',H a=some o')(hp:H p=none)(r:ay K (fun a=>¬O a∧H₀ a=none) H xs ds):Val K H₀ O H (upd H p (.lst xs)) .un (.lst ds) (.ref p):=by
 refine⟨p,rfl,hp,?_,?_,xs,bS,?_⟩
 ·cases e:H₀ p with
  |none=>rfl
  |some o=>obtain⟨o',e'⟩:=hd p o e;rw[hp]at e';cases e'
 ·intro z;obtain⟨o,e⟩:=od p z;rw[hp]at e;cases e
 ·refine(ay.wk (fun a h ⟨o,e⟩=>⟨h,?_⟩) r).keep (.same (cY hp))
  exact fF e hp
theorem iW{p:Addr}(od:∀a,O a→∃o,H a=some o)(hp:H p=none):¬O p:=by
 intro z;obtain⟨o,e⟩:=od p z;rw[hp]at e;cases e
theorem lh{p:Addr}(hd:∀a o,H₀ a=some o→∃o',H a=some o')(hp:H p=none):H₀ p=none:=by
 cases e:H₀ p with
 |none=>rfl
 |some o=>obtain⟨o',e'⟩:=hd p o e;rw[hp]at e';cases e'
theorem T5{ta:TA}{fs:Ev→Option (List (M×D))}(ha:iP K ta fs):JT K (vT ta) (bN fs):=by
 intro H₀ O H σ env Q m d R h q
 obtain⟨aD,e,h⟩:=aB h
 unfold iA at h
 split at h
 ·rename_i hl
  refine ha H₀ O H σ env _ aD R e fun vs H1 s1 h1=>⟨by rw[←Paired.length h1];exact hl,fun p hp=>?_⟩
  have R1:=R.keep s1
  split at h
  ·rename_i hs
   cases h
   rw[List.all_eq_true]at hs
   exact q _ _ (s1.trans (cY hp)) ((qE R1.od R1.hd hp (h1.jw fun md hm v hv=>hv.dD (hs md hm))).hb fun a z=>s1.free z)
  ·split at h
   ·rename_i hs
    cases h
    rw[List.all_eq_true]at hs
    refine q _ _ (s1.trans (cY hp)) ?_
    exact Rp.lst (.inl bS) (iW R1.od hp) ((h1.jw fun md hm v hv=>hv.gO (hs md hm)).keep (.same (cY hp)))
   ·cases h
 ·cases h
noncomputable def i3(aD:List (M×D)):Option (M×D) :=
 if aD.length≤sizeLine then
  if (aD.all fun md=>dD md.1 md.2)=true then some (.fr,.tup (aD.map (·.2)))
  else if (aD.all fun md=>gO md.1 md.2)=true then some (.al,.tup (aD.map (·.2)))
  else if (aD.all fun md=>sC md.1 md.2)=true then some (.rb,.tup (aD.map (·.2)))else none
 else none
noncomputable def aQ(fs:Ev→Option (List (M×D))):Ev→Option (M×D):=fun e=>(fs e).bind i3
theorem T6{ta:TA}{fs:Ev→Option (List (M×D))}(ha:iP K ta fs):JT K (HN ta) (aQ fs):=by
 intro H₀ O H σ env Q m d R h q
 obtain⟨aD,e,h⟩:=aB h
 unfold i3 at h
 split at h
 ·rename_i hl
  refine ha H₀ O H σ env _ aD R e fun vs H1 s1 h1=>⟨by rw[←Paired.length h1];exact hl,fun p hp=>?_⟩
  split at h
  ·rename_i hs
   cases h
   rw[List.all_eq_true]at hs
   exact q _ _ (s1.trans (cY hp)) (Rp.tup (.inl bS) ((h1.jw fun md hm v hv=>hv.dD (hs md hm)).keep (.same (cY hp))))
  ·split at h
   ·rename_i hs
    cases h
    rw[List.all_eq_true]at hs
    exact q _ _ (s1.trans (cY hp)) (Rp.tup (.inl bS) ((h1.jw fun md hm v hv=>hv.gO (hs md hm)).keep (.same (cY hp))))
   ·split at h
    ·rename_i hs
     cases h
     rw[List.all_eq_true]at hs
     exact q _ _ (s1.trans (cY hp)) (Rp.tup (.inl bS) ((h1.jw fun md hm v hv=>hv.sC (hs md hm)).keep (.same (cY hp))))
    ·cases h
 ·cases h
noncomputable def fO(m:M)(ds:List D):Option (M×D) :=
 if aV m=.al then (if D.du ds=true then some (.un,.lst ds)else some (.al,.lst ds))else if aV m=.rb then (if D.du ds=true then some (.un,.lst ds)else none)else some (.un,.lst ds)
theorem qL{p:Addr}{xs:List V}{ds:List D}{m m':M}{d:D}(od:∀a,O a→∃o,H a=some o)(hd:∀a o,H₀ a=some o→∃o',H a=some o')(hp:H p=none)(r:ay K (NM H₀ O (aV m)) H xs ds)(h:fO m ds=some (m',d)):Val K H₀ O H (upd H p (.lst xs)) m' d (.ref p):=by
 unfold fO at h
 split at h
 ·rename_i e
  rw[e]at r
  split at h
  ·rename_i e;cases h;exact qE od hd hp (ay.im e r)
  ·cases h;exact Rp.lst (.inl bS) (iW od hp) (r.keep (.same (cY hp)))
 ·split at h
  ·split at h
   ·rename_i e;cases h;exact qE od hd hp (ay.im e r)
   ·cases h
  ·rename_i e1 e2
   cases h
   have e:aV m=.fr:=by cases m<;>simp[aV]at e1 e2 ⊢
   rw[e]at r
   exact qE od hd hp r
def kZ(K:PySem.W.Frag)(r:List V→Hp→VK→Prop)(g:List (M×D)→Option (M×D)):Prop :=
 ∀H₀ O H vs aD Q m d,(∀a,O a→∃o,H a=some o)→(∀a o,H₀ a=some o→∃o',H a=some o')→gg K H₀ O HE H aD vs→g aD=some (m,d)→(∀v H',aL H H'→Val K H₀ O H H' m d v→Q v H')→r vs H Q
noncomputable def aO(g:List (M×D)→Option (M×D))(fs:Ev→Option (List (M×D))):Ev→Option (M×D):=fun e=>(fs e).bind g
theorem V4{r:List V→Hp→VK→Prop}{g:List (M×D)→Option (M×D)}{ta:TA}{fs:Ev→Option (List (M×D))}(hr:kZ K r g)(ha:iP K ta fs):JT K (wu r ta) (aO g fs):=by
 intro H₀ O H σ env Q m d R h q
 obtain⟨aD,e,h⟩:=aB h
 refine ha H₀ O H σ env _ aD R e fun vs H1 s1 h1=>?_
 have R1:=R.keep s1
 exact hr H₀ O H1 vs aD Q m d R1.od R1.hd (lz (fun _ _ z=>z.h0) h1) h fun v H3 s3 h3=>q v H3 (s1.trans s3) (h3.hb fun a z=>s1.free z)
theorem gg.one{Hb:Hp}{a:M×D}{vs:List V}(h:gg K H₀ O Hb H [a] vs):∃v,vs=[v]∧Val K H₀ O Hb H a.1 a.2 v:=by
 cases h with|cons q t=>cases t;exact⟨_,rfl,q⟩
theorem gg.two{Hb:Hp}{a b:M×D}{vs:List V}(h:gg K H₀ O Hb H [a,b] vs):∃v w,vs=[v,w]∧Val K H₀ O Hb H a.1 a.2 v∧Val K H₀ O Hb H b.1 b.2 w:=by
 cases h with|cons q t=>cases t with|cons q' t=>cases t;exact⟨_,_,rfl,q,q'⟩
noncomputable def bH:List (M×D)→Option (M×D)
 |[(_,.lst ds)]=>some (.fr,.int ds.length)
 |[(_,.tup ds)]=>some (.fr,.int ds.length)
 |[(_,.str z)]=>if z.length≤sizeLine then some (.fr,.int z.length)else none
 |_=>none
theorem QH:kZ K (fun xs H Q=>∃x n,xs=[x]∧z5 K x H n∧Q (.int n) H) bH:=by
 intro H₀ O H vs aD Q m d _ _ hv h q
 unfold bH at h
 split at h
 ·cases h
  obtain⟨v,rfl,hw⟩:=hv.one
  obtain⟨a,xs,rfl,r,s⟩:=hw.lst
  exact⟨_,_,rfl,.inl ⟨xs,r,s.len.symm⟩,q _ H (aL.refl H) iZ⟩
 ·cases h
  obtain⟨v,rfl,hw⟩:=hv.one
  obtain⟨a,xs,rfl,r,s⟩:=hw.tup
  exact⟨_,_,rfl,.inr ⟨xs,r,s.len.symm⟩,q _ H (aL.refl H) iZ⟩
 ·split at h
  ·rename_i hz
   cases h
   obtain⟨v,rfl,hw⟩:=hv.one
   obtain rfl:=hw.str
   exact⟨_,_,rfl,⟨hz,rfl⟩,q _ H (aL.refl H) iZ⟩
  ·cases h
 ·cases h
noncomputable def lK:List (M×D)→Option (M×D)
 |[(_,.int i)]=>some (.fr,.int i)
 |[(_,.bl k)]=>some (.fr,.int (if k then 1 else 0))
 |_=>none
theorem QI:kZ K (fun xs H Q=>(∃i,xs=[.int i]∧Q (.int i) H)∨∃k,xs=[.bl k]∧Q (.int (if k then 1 else 0)) H) lK:=by
 intro H₀ O H vs aD Q m d _ _ hv h q
 unfold lK at h
 split at h
 ·cases h
  obtain⟨v,rfl,hw⟩:=hv.one
  obtain rfl:=hw.int
  exact .inl ⟨_,rfl,q _ H (aL.refl H) iZ⟩
 ·cases h
  obtain⟨v,rfl,hw⟩:=hv.one
  obtain rfl:=hw.bl
  exact .inr ⟨_,rfl,q _ H (aL.refl H) iZ⟩
 ·cases h
noncomputable def rP:List (M×D)→Option (M×D)
 |[(_,.int i),(_,.int j)]=>some (.fr,.int (if j>i then j else i))
 |_=>none
theorem QJ:kZ K (fun xs H Q=>∃i j,xs=[.int i,.int j]∧Q (.int (if j>i then j else i)) H) rP:=by
 intro H₀ O H vs aD Q m d _ _ hv h q
 unfold rP at h
 split at h
 ·cases h
  obtain⟨v,w,rfl,hx,hw⟩:=hv.two
  obtain rfl:=hx.int
  obtain rfl:=hw.int
  exact⟨_,_,rfl,q _ H (aL.refl H) iZ⟩
 ·cases h
noncomputable def mQ:List (M×D)→Option (M×D)
 |[(m,.lst ds)]=>fO m ds
 |[(m,.tup ds)]=>fO m ds
 |_=>none
theorem OU:kZ K (fun xs H Q=>∃p ys,xs=[.ref p]∧(bV K H p ys∨bJ K H p ys)∧∀l,H l=none→Q (.ref l) (upd H l (.lst ys))) mQ:=by
 intro H₀ O H vs aD Q m d od hd hv h q
 unfold mQ at h
 split at h
 ·obtain⟨v,rfl,hw⟩:=hv.one
  obtain⟨a,xs,rfl,r,s⟩:=hw.lst
  exact⟨_,_,rfl,.inl r,fun l hl=>q _ _ (cY hl) (qL od hd hl s h)⟩
 ·obtain⟨v,rfl,hw⟩:=hv.one
  obtain⟨a,xs,rfl,r,s⟩:=hw.tup
  exact⟨_,_,rfl,.inr r,fun l hl=>q _ _ (cY hl) (qL od hd hl s h)⟩
 ·cases h
def pR(K:PySem.W.Frag)(t:TO)(f:Ev→Option (Option Int)):Prop :=
 ∀H₀ O H σ env Q b,eD K H₀ O H σ env→f env=some b→(∀H',aL H H'→Q b H')→t σ H Q
noncomputable def iI:Ev→Option (Option Int):=fun _=>some none
noncomputable def m3:M×D→Option Int
 | (_,.int i)=>some i
 |_=>none
theorem yK{a:M×D}{b:Int}(h:m3 a=some b):a.2=.int b:=by
 obtain⟨m,d⟩:=a
 cases d<;>simp only[m3]at h<;>first | (cases h;rfl)|cases h
noncomputable def ft(f:Ev→Option (M×D)):Ev→Option (Option Int):=fun e=>(f e).bind fun x=>(m3 x).map some
theorem OV:pR K EG iI:=by
 intro H₀ O H σ env Q b R h q
 cases h
 exact q H (aL.refl H)
theorem OW{t:TE}{f:Ev→Option (M×D)}(h:JT K t f):pR K (GY t) (ft f):=by
 intro H₀ O H σ env Q b R e q
 obtain⟨a,ea,e⟩:=aB e
 cases ei:m3 a with
 |none=>rw[ei]at e;cases e
 |some i =>
  rw[ei]at e;cases e
  refine h H₀ O H σ env _ a.1 a.2 R ea fun x H1 s1 h1=>?_
  rw[yK ei]at h1
  exact⟨i,h1.int,q H1 s1⟩
def lX(K:PySem.W.Frag)(r:V→Option Int→Option Int→Hp→VK→Prop)(g:M×D→Option Int→Option Int→Option (M×D)):Prop :=
 ∀H₀ O H x lo hi a Q m d,(∀a,O a→∃o,H a=some o)→(∀a o,H₀ a=some o→∃o',H a=some o')→Val K H₀ O HE H (Prod.fst a) a.2 x→g a lo hi=some (m,d)→(∀v H',aL H H'→Val K H₀ O H H' m d v→Q v H')→r x lo hi H Q
noncomputable def f9(g:M×D→Option Int→Option Int→Option (M×D))(f:Ev→Option (M×D))(l u:Ev→Option (Option Int)):Ev→Option (M×D):=fun e=>(f e).bind fun x=>(l e).bind fun lo=>(u e).bind fun hi=>g x lo hi
theorem V5{r:V→Option Int→Option Int→Hp→VK→Prop}{g:M×D→Option Int→Option Int→Option (M×D)}{te:TE}{tl th:TO}{f:Ev→Option (M×D)}{l u:Ev→Option (Option Int)}(hr:lX K r g)(he:JT K te f)(hl:pR K tl l)(hu:pR K th u):JT K (JB r te tl th) (f9 g f l u):=by
 intro H₀ O H σ env Q m d R h q
 obtain⟨x,ex,h⟩:=aB h
 obtain⟨lo,el,h⟩:=aB h
 obtain⟨hi,eh,h⟩:=aB h
 refine he H₀ O H σ env _ x.1 x.2 R ex fun v H1 s1 h1=>?_
 refine hl H₀ O H1 σ env _ lo (R.keep s1) el fun H2 s2=>?_
 refine hu H₀ O H2 σ env _ hi ((R.keep s1).keep s2) eh fun H3 s3=>?_
 have R3:=((R.keep s1).keep s2).keep s3
 exact hr H₀ O H3 v lo hi x Q m d R3.od R3.hd ((h1.keep s2).keep s3).h0 h fun v H4 s4 h4=>q v H4 (((s1.trans s2).trans s3).trans s4) (h4.hb fun a z=>((s1.trans s2).trans s3).free z)
noncomputable def cut{α:Type}(xs:List α)(lo hi:Option Int):List α:=(xs.drop (HT.aY xs.length 0 lo)).take (HT.aY xs.length xs.length hi-HT.aY xs.length 0 lo)
noncomputable def Ak:M×D→Option Int→Option Int→Option (M×D)
 | (m,.lst ds),lo,hi=>fO m (cut ds lo hi)
 |_,_,_=>none
theorem ay.cut{N:Addr→Prop}{xs:List V}{ds:List D}{lo hi:Option Int}(r:ay K N H xs ds):ay K N H (jc xs lo hi) (J.cut ds lo hi):=by
 unfold jc J.cut
 rw[r.len]
 exact(r.drop _).take _
theorem OX:lX K (z7 K) Ak:=by
 intro H₀ O H x lo hi a Q m d od hd h1 h q
 obtain⟨ma,da⟩:=a
 cases da<;>try (cases h;done)
 obtain⟨p,xs,rfl,r,s⟩:=h1.lst
 exact⟨p,xs,rfl,r,fun l hl=>q _ _ (cY hl) (qL od hd hl s.cut h)⟩
noncomputable def mJ:M→M→M
 |.al,_=>.al
 |_,.al=>.al
 |.rb,_=>.rb
 |_,.rb=>.rb
 |_,_=>.fr
theorem NM.JW{a b:M}{x:Addr}(ha:aV a≠.rb)(hb:aV b≠.rb)(h:NM H₀ O (aV a) x):NM H₀ O (aV (mJ a b)) x:=by
 cases a<;>cases b<;>first|exact h|exact h.1|exact absurd rfl ha|exact absurd rfl hb
theorem NM.JX{a b:M}{x:Addr}(ha:aV a≠.rb)(hb:aV b≠.rb)(h:NM H₀ O (aV b) x):NM H₀ O (aV (mJ a b)) x:=by
 cases a<;>cases b<;>first|exact h|exact h.1|exact absurd rfl ha|exact absurd rfl hb
noncomputable def pw:M×D→M×D→Option (M×D)
 | (m,.lst ds),(n,.lst es)=>if aV m=.rb∨aV n=.rb then none else if ds.length+es.length≤sizeLine then fO (mJ m n) (ds++es)else none
 |_,_=>none
noncomputable def vB(K:PySem.W.Frag):R2:=fun x y H Q=>∃l b xs zs,x=.ref l∧y=.ref b∧bV K H l xs∧bV K H b zs∧xs.length+zs.length≤sizeLine∧∀p,H p=none→Q (.ref p) (upd H p (.lst (xs++zs)))
theorem T7:JR K (vB K) pw:=by
 intro H₀ O H x y a b Q m d od hd h1 h2 h q
 obtain⟨ma,da⟩:=a;obtain⟨mb,db⟩:=b
 cases da<;>try (cases db<;>cases h;done)
 cases db<;>try (cases h;done)
 simp only[pw]at h
 split at h
 ·cases h
 ·rename_i hn
  split at h
  ·rename_i hl
   obtain⟨p,xs,rfl,r,s⟩:=h1.lst
   obtain⟨p',Bl,rfl,r',s'⟩:=h2.lst
   have n1:aV ma≠.rb:=fun z=>hn (.inl z)
   have n2:aV mb≠.rb:=fun z=>hn (.inr z)
   refine⟨p,p',xs,Bl,rfl,rfl,r,r',by rw[s.len,s'.len];exact hl,fun l hl=>q _ _ (cY hl) (qL od hd hl (ay.app (s.wk fun _ h _=>NM.JW n1 n2 h) (s'.wk fun _ h _=>NM.JX n1 n2 h)) h)⟩
  ·cases h
end
noncomputable def own:M→Bool
 |.bo=>true
 |.bi=>true
 |_=>false
theorem QK{m:M}(h:own m=true):iO m=true:=by cases m<;>first|rfl|cases h
theorem mw{α β:Type}{F:α→β→Prop}:∀{l:List α}{r:List β},l.length=r.length→(∀(j:Nat) a b,l[j]?=some a→r[j]?=some b→F a b)→Paired F l r
 |[],[],_,_=>.nil
 |a::l,b::r,e,h=>.cons (h 0 a b rfl rfl) (mw (by simpa using e) fun j x y h1 h2=>h (j+1) x y (by simpa using h1) (by simpa using h2))
 |[],_::_,e,_=>by simp at e
 |_::_,[],e,_=>by simp at e
def wJ(H:Hp)(σ:St)(env:Ev):Prop :=
 (∀(i j:Nat) (d d':D),env[i]?=some (some (.nb,d))→env[j]?=some (some (.nb,d'))→i=j) ∧
 ∀(i j:Nat) (d:D) (x:M×D) (p q:Addr) (xs:List V),env[i]?=some (some (.nb,d))→σ[i]?=some (some (.ref p))→env[j]?=some (some x)→own x.1=true→σ[j]?=some (some (.ref q))→H p=some (.lst xs)→q≠p∧V.ref q∉xs
structure Rel (K:PySem.W.Frag)(H₀:Hp)(I:Nat→Option Addr)(O:Addr→Prop)(H:Hp)(σ:St)(env:Ev):Prop where
 e:eD K H₀ O H σ env
 fr:∀a o,(∀i,I i≠some a)→H₀ a=some o→H a=some o
 ow:∀a,O a→(∃i,I i=some a)∨H₀ a=none
 ba:∀(i:Nat) d p,env[i]?=some (some (.bi,d))→σ[i]?=some (some (.ref p))→I i=some p
 dj:∀(i j:Nat) (x y:M×D) (p:Addr),env[i]?=some (some x)→env[j]?=some (some y)→own x.1=true→own y.1=true→σ[i]?=some (some (.ref p))→σ[j]?=some (some (.ref p))→i=j
 nd:wJ H σ env
def aS(O:Addr→Prop)(H:Hp)(O':Addr→Prop)(H':Hp):Prop:=∀a o,H a=some o→¬O a→H' a=some o∧¬O' a
inductive Fl where
 |nx (e:Ev)|bk (e:Ev)|ct (e:Ev)|rt (e:Ev) (m:M) (d:D)
noncomputable def m5(K:PySem.W.Frag)(H₀:Hp)(I:Nat→Option Addr)(O:Addr→Prop)(H:Hp)(Ds:Ends):Fl→Prop
 |.nx e=>∀O' H' σ',Rel K H₀ I O' H' σ' e→aS O H O' H'→Ds.nx σ' H'
 |.bk e=>∀O' H' σ',Rel K H₀ I O' H' σ' e→aS O H O' H'→Ds.bk σ' H'
 |.ct e=>∀O' H' σ',Rel K H₀ I O' H' σ' e→aS O H O' H'→Ds.ct σ' H'
 |.rt e m d=>∀O' H' σ' v,Rel K H₀ I O' H' σ' e→aS O H O' H'→Val K H₀ O' HE H' m d v→Ds.rt v H'
def JS(K:PySem.W.Frag)(ts:TS)(g:Ev→Option Fl):Prop :=
 ∀H₀ I O H σ env Ds fl,Rel K H₀ I O H σ env→g env=some fl→m5 K H₀ I O H Ds fl→ts Ds σ H
section
variable {K:PySem.W.Frag}{H H' H₀:Hp}{I:Nat→Option Addr}{O O':Addr→Prop}{σ:St}{env:Ev}
theorem aS.refl:aS O H O H:=fun a o h n=>⟨h,n⟩
theorem aS.trans{O1 O2:Addr→Prop}{H1 H2:Hp}(a:aS O H O1 H1)(b:aS O1 H1 O2 H2):aS O H O2 H2:=fun x o h n=>b x o (a x o h n).1 (a x o h n).2
theorem aS.same(s:aL H H'):aS O H O H':=fun a o h n=>⟨s a o h,n⟩
theorem wJ.keep(h:wJ H σ env)(w:∀(i:Nat) d p,env[i]?=some (some (.nb,d))→σ[i]?=some (some (.ref p))→H' p=H p):wJ H' σ env :=
 ⟨h.1,fun i j d x p q xs h1 h2 h3 h4 h5 h6=>h.2 i j d x p q xs h1 h2 h3 h4 h5 (by rw[←w i d p h1 h2];exact h6)⟩
theorem eD.nest(R:eD K H₀ O H σ env){i:Nat}{d:D}{p:Addr}(h1:env[i]?=some (some (.nb,d)))(h2:σ[i]?=some (some (.ref p))):∃(qs:List Addr) (aR:List (List D)),d=.lst (aR.map D.lst)∧O p∧H₀ p=none∧H p=some (.lst (qs.map V.ref))∧qs.Nodup∧(∀q∈qs,O q∧H₀ q=none∧q≠p) ∧
  Paired (fun q ds=>∃xs,H q=some (.lst xs)∧ay K (fun a=>¬O a∧H₀ a=none) H xs ds) qs aR:=by
 obtain⟨v,hv,_,hm⟩:=R.at h1
 rw[h2]at hv;cases hv
 obtain⟨p',qs,aR,e,r⟩:=hm
 cases e
 exact⟨qs,aR,r⟩
theorem Rel.keep(R:Rel K H₀ I O H σ env)(s:aL H H'):Rel K H₀ I O H' σ env:=⟨R.e.keep s,fun a o n h=>s _ _ (R.fr a o n h),R.ow,R.ba,R.dj,R.nd.keep fun i d p h1 h2=>by
 obtain⟨qs,aR,_,_,_,e,_⟩:=R.e.nest h1 h2
 rw[s _ _ e,e]⟩
noncomputable def JY:M→Bool
 |.al=>true
 |.fr=>true
 |_=>false
theorem QL{m:M}(h:JY m=true):iO m=true:=by cases m<;>first|rfl|cases h
theorem m5.pre{O1:Addr→Prop}{H1:Hp}{Ds:Ends}{fl:Fl}(s:aS O H O1 H1)(h:m5 K H₀ I O H Ds fl):m5 K H₀ I O1 H1 Ds fl:=by
 cases fl<;>simp only[m5]at h ⊢
 ·exact fun O' H' σ' R t=>h O' H' σ' R (s.trans t)
 ·exact fun O' H' σ' R t=>h O' H' σ' R (s.trans t)
 ·exact fun O' H' σ' R t=>h O' H' σ' R (s.trans t)
 ·exact fun O' H' σ' v R t=>h O' H' σ' v R (s.trans t)
noncomputable def aU:Ev→Option Fl:=fun e=>some (.nx e)
theorem QM:JS K zE aU:=by
 intro H₀ I O H σ env Ds fl R h q
 cases h
 exact q O H σ R aS.refl
noncomputable def aj(f g:Ev→Option Fl):Ev→Option Fl:=fun e=>(f e).bind fun r=>match r with
 |.nx e'=>g e'
 |.bk e'=>some (.bk e')
 |.ct e'=>some (.ct e')
 |.rt e' m d=>some (.rt e' m d)
theorem T8{t u:TS}{f g:Ev→Option Fl}(ht:JS K t f)(hu:JS K u g):JS K (zV t u) (aj f g):=by
 intro H₀ I O H σ env Ds fl R h q
 obtain⟨r,er,h⟩:=aB h
 refine ht H₀ I O H σ env _ r R er ?_
 cases r with
 |nx e'=>exact fun O' H' σ' R' s=>hu H₀ I O' H' σ' e' Ds fl R' h (q.pre s)
 |bk e'=>cases h;exact q
 |ct e'=>cases h;exact q
 |rt e' m d=>cases h;exact q
noncomputable def aH(f:Ev→Option (M×D)):Ev→Option Fl:=fun e=>(f e).bind fun x=>some (.rt e x.1 x.2)
theorem T9{t:TE}{f:Ev→Option (M×D)}(h:JT K t f):JS K (vO t) (aH f):=by
 intro H₀ I O H σ env Ds fl R e q
 obtain⟨x,ex,e⟩:=aB e
 cases e
 exact h H₀ O H σ env _ x.1 x.2 R.e ex fun v H1 s1 h1=>q O H1 σ v (R.keep s1) (aS.same s1) h1.h0
noncomputable def aP(c:Ev→Option Bool)(f g:Ev→Option Fl):Ev→Option Fl:=fun e=>(c e).bind fun b=>if b=true then f e else g e
theorem V6{c:TT}{t u:TS}{fc:Ev→Option Bool}{f g:Ev→Option Fl}(hc:fN K c fc)(ht:JS K t f)(hu:JS K u g):JS K (zW c t u) (aP fc f g):=by
 intro H₀ I O H σ env Ds fl R h q
 obtain⟨b,eb,h⟩:=aB h
 refine hc H₀ O H σ env _ b R.e eb fun H1 s1=>?_
 cases b with
 |true =>
  rw[if_pos rfl]at h ⊢
  exact ht H₀ I O H1 σ env Ds fl (R.keep s1) h (q.pre (aS.same s1))
 |false =>
  rw[if_neg aX]at h ⊢
  exact hu H₀ I O H1 σ env Ds fl (R.keep s1) h (q.pre (aS.same s1))
noncomputable def G8:M→Option M
 |.al=>some .al
 |.fr=>some .fr
 |.un=>some .bo
 |_=>none
noncomputable def oI(x:M×D):Option (M×D):=match G8 x.1 with
 |some m=>some (m,x.2)
 |none=>if x.2.cn=true then some (.fr,x.2)else none
theorem Al{α β:Type}{F:α→β→Prop}{a:α}{b:β}(q:F a b):∀{l:List α}{r:List β} (i:Nat),Paired F l r→Paired F (l.set i a) (r.set i b)
 |_,_,_,.nil=>.nil
 |_,_,0,.cons _ t=>.cons q t
 |_,_,i+1,.cons h t=>.cons h (Al q i t)
theorem get_set{α:Type}{l:List α}{i j:Nat}{a b:α}(h:(l.set i a)[j]?=some b):(j=i∧b=a)∨(j≠i∧l[j]?=some b):=by
 rw[List.getElem?_set]at h
 split at h
 ·rename_i e
  split at h
  ·exact .inl ⟨e.symm,(Option.some.inj h).symm⟩
  ·cases h
 ·rename_i e
  exact .inr ⟨fun z=>e z.symm,h⟩
theorem Rel.mH{i:Nat}{x:M×D}{p:Addr}(R:Rel K H₀ I O H σ env)(hx:env[i]?=some (some x))(ho:own x.1=true)(hp:σ[i]?=some (some (.ref p))):O p∧Cell K (fun a=>¬O a∧H₀ a=none) H p x.2:=by
 obtain⟨m,d⟩:=x
 obtain⟨v,hv,n,hm⟩:=R.e.at hx
 rw[hp]at hv
 cases hv
 cases m<;>simp only[own]at ho<;>try (cases ho;done)
 ·obtain⟨p',e,h1,_,c⟩:=hm;cases e;exact⟨h1,c⟩
 ·obtain⟨p',e,h1,c⟩:=hm;cases e;exact⟨h1,c⟩
theorem yu{F:Addr→List D→Prop}:∀{qs:List Addr}{aR:List (List D)}{q:Addr},Paired F qs aR→q∈qs→∃ds,F q ds
 |_,_,_,.nil,h=>nomatch h
 |_,_,_,.cons a t,h=>by
  rcases List.mem_cons.mp h with rfl|h
  ·exact⟨_,a⟩
  ·exact yu t h
theorem Rel.set_plain{i:Nat}{m:M}{d:D}{v:V}(R:Rel K H₀ I O H σ env)(hm:own m=false)(hu:JY m=true)(h:Val K H₀ O HE H m d v):Rel K H₀ I O H (σ.set i (some v)) (env.set i (some (m,d))):=by
 refine⟨⟨Al (fun m' d' q=>?_) i R.e.sl,R.e.od,R.e.hd,R.e.on⟩,R.fr,R.ow,fun i' d' p h1 p1=>?_,fun i' j x y p h1 h2 o1 o2 p1 p2=>?_,⟨fun i' j d1 d2 h1 h2=>?_,fun i' j d1 x p q xs h1 p1 h2 o2 p2 e=>?_⟩⟩
 ·cases q;exact⟨QL hu,v,rfl,h⟩
 ·rcases get_set h1 with⟨rfl,q⟩|⟨n1,q1⟩
  ·cases q;cases hm
  ·rw[fA (fun z=>n1 z.symm)]at p1
   exact R.ba i' d' p q1 p1
 ·rcases get_set h1 with⟨rfl,q⟩|⟨n1,q1⟩
  ·cases q;rw[hm]at o1;cases o1
  ·rcases get_set h2 with⟨rfl,q⟩|⟨n2,q2⟩
   ·cases q;rw[hm]at o2;cases o2
   ·rw[fA (fun z=>n1 z.symm)]at p1
    rw[fA (fun z=>n2 z.symm)]at p2
    exact R.dj i' j x y p q1 q2 o1 o2 p1 p2
 ·rcases get_set h1 with⟨rfl,q⟩|⟨n1,q1⟩
  ·cases q;cases hu
  ·rcases get_set h2 with⟨rfl,q⟩|⟨n2,q2⟩
   ·cases q;cases hu
   ·exact R.nd.1 i' j d1 d2 q1 q2
 ·rcases get_set h1 with⟨rfl,q⟩|⟨n1,q1⟩
  ·cases q;cases hu
  ·rcases get_set h2 with⟨rfl,q⟩|⟨n2,q2⟩
   ·cases q;rw[hm]at o2;cases o2
   ·rw[fA (fun z=>n1 z.symm)]at p1
    rw[fA (fun z=>n2 z.symm)]at p2
    exact R.nd.2 i' j d1 x p q xs q1 p1 q2 o2 p2 e
theorem Rel.Ua{i:Nat}{d:D}{v:V}{H1:Hp}(R:Rel K H₀ I O H σ env)(s:aL H H1)(h:Val K H₀ O H H1 .un d v):∃O',Rel K H₀ I O' H1 (σ.set i (some v)) (env.set i (some (.bo,d)))∧aS O H O' H1:=by
 obtain⟨p,rfl,hp,h0,ho,c⟩:=h
 have np:∀a,(∃o,H a=some o)→a≠p:=fun a ⟨o,e⟩=>fF e hp
 have wk:∀{N:Addr→Prop}{d:D}{v:V},Rp K N H v d→Rp K (fun a=>N a∧a≠p) H1 v d:=fun r=>(r.wk fun a n e=>⟨n,np a e⟩).keep (.same s)
 have sF:∀{N:Addr→Prop}{d:D}{q:Addr},Cell K N H q d→Cell K (fun a=>N a∧a≠p) H1 q d:=fun {N d q} r=>by
  obtain⟨o,e,_⟩:=r.some
  exact(r.wk fun a n e=>⟨n,np a e⟩).keep (.same s) ((s _ _ e).trans e.symm)
 obtain⟨o,eo,YW⟩:=c.some
 refine⟨fun a=>O a∨a=p,⟨⟨Al (fun m' d' q=>?_) i (lz (fun e x h m d q=>?_) R.e.sl),?_,?_,?_⟩,?_,?_,?_,?_,?_⟩,?_⟩
 ·cases q
  exact⟨rfl,_,rfl,p,rfl,.inr rfl,h0,c.wk fun a h _=>⟨fun z=>z.elim h.1.1 h.2,h.1.2⟩⟩
 ·obtain⟨n,v,rfl,z⟩:=h m d q
  refine⟨n,v,rfl,?_⟩
  cases m
  ·exact(wk z).wk fun a h _=>fun z=>z.elim h.1 h.2
  ·exact(wk z).wk fun a h _=>⟨fun z=>z.elim h.1.1 h.2,h.1.2⟩
  ·cases n
  ·obtain⟨q,rfl,h1,h2,c'⟩:=z
   exact⟨q,rfl,.inl h1,h2,(sF c').wk fun a h _=>⟨fun z=>z.elim h.1.1 h.2,h.1.2⟩⟩
  ·obtain⟨q,rfl,h1,c'⟩:=z
   exact⟨q,rfl,.inl h1,(sF c').wk fun a h _=>⟨fun z=>z.elim h.1.1 h.2,h.1.2⟩⟩
  ·cases n
  ·obtain⟨q,qs,aR,e1,e2,h1,h2,h3,h4,h5,h6⟩:=z
   exact⟨q,qs,aR,e1,e2,.inl h1,h2,s _ _ h3,h4,fun x hx=>⟨.inl (h5 x hx).1,(h5 x hx).2⟩,kf (fun x ds _ ⟨xs,a,r⟩=>⟨xs,s _ _ a,((r.wk fun a n e=>(⟨n,np a e⟩:(¬O a∧H₀ a=none)∧a≠p)).keep (.same s)).wk fun a h _=>⟨fun z=>z.elim h.1.1 h.2,h.1.2⟩⟩) h6⟩
 ·intro a ha
  rcases ha with ha|rfl
  ·obtain⟨o,e⟩:=R.e.od a ha;exact⟨o,s _ _ e⟩
  ·exact⟨o,eo⟩
 ·exact fun a o h=>let ⟨o,e⟩:=R.e.hd a o h;⟨o,s _ _ e⟩
 ·intro a u ha e
  rcases ha with ha|rfl
  ·exact(R.e.keep s).on a u ha e
  ·rw[eo]at e;cases e;exact YW
 ·exact fun a o n h=>s _ _ (R.fr a o n h)
 ·intro a ha
  rcases ha with ha|rfl
  ·exact R.ow a ha
  ·exact .inr h0
 ·intro i' d' p' h1 p1
  rcases get_set h1 with⟨rfl,q⟩|⟨n1,q1⟩
  ·cases q
  ·rw[fA (fun z=>n1 z.symm)]at p1
   exact R.ba i' d' p' q1 p1
 ·intro i' j x y q h1 h2 o1 o2 p1 p2
  rcases get_set h1 with⟨rfl,q1⟩|⟨n1,q1⟩
  ·rcases get_set h2 with⟨rfl,q2⟩|⟨n2,q2⟩
   ·rfl
   ·exfalso
    rw[fA (fun z=>n2 z.symm)]at p2
    rcases get_set p1 with⟨_,z⟩|⟨z,_⟩
    ·cases z
     obtain⟨_,c'⟩:=R.mH q2 o2 p2
     obtain⟨o',e',_⟩:=c'.some
     rw[hp]at e';cases e'
    ·exact z rfl
  ·rcases get_set h2 with⟨rfl,q2⟩|⟨n2,q2⟩
   ·exfalso
    rw[fA (fun z=>n1 z.symm)]at p1
    rcases get_set p2 with⟨_,z⟩|⟨z,_⟩
    ·cases z
     obtain⟨_,c'⟩:=R.mH q1 o1 p1
     obtain⟨o',e',_⟩:=c'.some
     rw[hp]at e';cases e'
    ·exact z rfl
   ·rw[fA (fun z=>n1 z.symm)]at p1
    rw[fA (fun z=>n2 z.symm)]at p2
    exact R.dj i' j x y q q1 q2 o1 o2 p1 p2
 ·refine⟨fun i' j d1 d2 h1 h2=>?_,fun i' j d1 x p' q xs h1 p1 h2 o2 p2 e=>?_⟩
  ·rcases get_set h1 with⟨rfl,z⟩|⟨n1,q1⟩
   ·cases z
   ·rcases get_set h2 with⟨rfl,z⟩|⟨n2,q2⟩
    ·cases z
    ·exact R.nd.1 i' j d1 d2 q1 q2
  ·rcases get_set h1 with⟨rfl,z⟩|⟨n1,q1⟩
   ·cases z
   ·rw[fA (fun z=>n1 z.symm)]at p1
    obtain⟨qs,aR,_,_,_,e3,_,_,h6⟩:=R.e.nest q1 p1
    rw[s _ _ e3]at e;cases e
    rcases get_set h2 with⟨rfl,z⟩|⟨n2,q2⟩
    ·rcases get_set p2 with⟨_,z⟩|⟨z,_⟩
     ·cases z
      refine⟨(fun z=>by rw[z,e3]at hp;cases hp),fun z=>?_⟩
      obtain⟨a,ha,ea⟩:=bZ.mp z
      cases ea
      obtain⟨ds,xs,hx,_⟩:=yu h6 ha
      rw[hp]at hx;cases hx
     ·exact absurd rfl z
    ·rw[fA (fun z=>n2 z.symm)]at p2
     exact R.nd.2 i' j d1 x p' q _ q1 p1 q2 o2 p2 e3
 ·intro a o h n
  exact⟨s a o h,fun z=>z.elim n (np a ⟨o,h⟩)⟩
theorem Rel.give{i:Nat}{x y:M×D}{v:V}{H1:Hp}(R:Rel K H₀ I O H σ env)(s:aL H H1)(h:Val K H₀ O H H1 x.1 x.2 v)(e:oI x=some y):∃O',Rel K H₀ I O' H1 (σ.set i (some v)) (env.set i (some y))∧aS O H O' H1:=by
 obtain⟨m,d⟩:=x
 unfold oI at e
 cases m<;>simp only[G8]at e
 ·cases e;exact⟨O,(R.keep s).set_plain rfl rfl h,.same s⟩
 ·cases e;exact⟨O,(R.keep s).set_plain rfl rfl h,.same s⟩
 ·cases e;exact R.Ua s h
 ·split at e
  ·rename_i hi;cases e;exact⟨O,(R.keep s).set_plain rfl rfl (show Rp K _ H1 v d from h.weak.im hi),.same s⟩
  ·cases e
 ·split at e
  ·rename_i hi;cases e;exact⟨O,(R.keep s).set_plain rfl rfl (show Rp K _ H1 v d from h.weak.im hi),.same s⟩
  ·cases e
 ·split at e
  ·rename_i hi;cases e;exact⟨O,(R.keep s).set_plain rfl rfl (show Rp K _ H1 v d from h.weak.im hi),.same s⟩
  ·cases e
 ·split at e
  ·rename_i hi;cases e;exact⟨O,(R.keep s).set_plain rfl rfl (show Rp K _ H1 v d from h.weak.im hi),.same s⟩
  ·cases e
noncomputable def aq(i:Nat)(f:Ev→Option (M×D)):Ev→Option Fl:=fun e=>(f e).bind fun x=>(oI x).bind fun y=>some (.nx (e.set i (some y)))
theorem F6{i:Nat}{t:TE}{f:Ev→Option (M×D)}(h:JT K t f):JS K (iE t (jK i)) (aq i f):=by
 intro H₀ I O H σ env Ds fl R e q
 obtain⟨x,ex,e⟩:=aB e
 obtain⟨y,ey,e⟩:=aB e
 cases e
 refine h H₀ O H σ env _ x.1 x.2 R.e ex fun v H1 s1 h1=>?_
 obtain⟨O',R',st⟩:=R.give (i:=i) s1 h1 ey
 exact q O' H1 _ R' st
theorem Rel.mut{i:Nat}{m:M}{d d':D}{p:Addr}{o:HO}(R:Rel K H₀ I O H σ env)(hx:env[i]?=some (some (m,d)))(ho:own m=true)(hp:σ[i]?=some (some (.ref p)))
  (c:Cell K (fun a=>¬O a∧H₀ a=none) (upd H p o) p d'):Rel K H₀ I O (upd H p o) σ (env.set i (some (m,d')))∧aS O H O (upd H p o):=by
 obtain⟨hO,c0⟩:=R.mH hx ho hp
 obtain⟨o0,e0,nt⟩:=c0.some
 have kp:∀{N:Addr→Prop},(∀a,N a→¬O a)→Keeps N H (upd H p o):=fun w a u h z=>by
  have fM:a≠p:=by
   rintro rfl
   rcases z with z|z
   ·exact w _ z hO
   ·rw[e0]at h;cases h;exact nt z
  rw[aK fM];exact h
 have hi:i<env.length:=by
  rcases Nat.lt_or_ge i env.length with h|h
  ·exact h
  ·rw[List.getElem?_eq_none h]at hx;cases hx
 have hσ:σ=σ.set i (some (.ref p)):=by
  refine List.ext_getElem? fun j=>?_
  rw[List.getElem?_set]
  split
  ·rename_i z;subst z
   have hl:i<σ.length:=by rw[←Paired.length R.e.sl];exact hi
   rw[if_pos hl,hp]
  ·rfl
 refine⟨⟨⟨?_,?_,?_,?_⟩,?_,R.ow,?_,?_,?_⟩,?_⟩
 ·
  have base:∀(j:Nat) (e:Option (M×D)) (x:Option V),(env.set i (some (m,d')))[j]?=some e→σ[j]?=some x→∀m d,e=some (m,d)→iO m=true∧∃v,x=some v∧Val K H₀ O HE (upd H p o) m d v:=by
   intro j e x he sH m1 d1 q
   subst q
   rcases get_set he with⟨rfl,q⟩|⟨nj,q⟩
   ·cases q
    rw[hp]at sH;cases sH
    refine⟨QK ho,_,rfl,?_⟩
    cases m<;>simp only[own]at ho<;>try (cases ho;done)
    ·obtain⟨v,hv,n,hm⟩:=R.e.at hx
     rw[hp]at hv;cases hv
     obtain⟨p',e,h1,h2,_⟩:=hm;cases e
     exact⟨p,rfl,h1,h2,c⟩
    ·exact⟨p,rfl,hO,c⟩
   ·obtain⟨v,hv,n,hm⟩:=R.e.at q
    rw[sH]at hv;cases hv
    refine⟨n,v,rfl,?_⟩
    have nq:∀{p':Addr},own m1=true→v=.ref p'→p'≠p:=fun {p'} Bm ev z=>by
     subst ev;subst z
     exact nj (R.dj j i _ _ p' q hx Bm ho sH hp)
    cases m1
    ·exact Rp.keep (kp fun a h=>h) hm
    ·exact Rp.keep (kp fun a h=>h.1) hm
    ·cases n
    ·obtain⟨p',rfl,h1,h2,c'⟩:=hm
     exact⟨p',rfl,h1,h2,c'.keep (kp fun a h=>h.1) (aK (nq rfl rfl))⟩
    ·obtain⟨p',rfl,h1,c'⟩:=hm
     exact⟨p',rfl,h1,c'.keep (kp fun a h=>h.1) (aK (nq rfl rfl))⟩
    ·cases n
    ·obtain⟨p',qs,aR,rfl,e2,h1,h2,h3,h4,h5,h6⟩:=hm
     obtain⟨z1,z2⟩:=R.nd.2 j i d1 (m,d) p' p _ q sH hx ho hp h3
     refine⟨p',qs,aR,rfl,e2,h1,h2,by rw[aK (fun z=>z1 z.symm)];exact h3,h4,h5,kf (fun x ds hx ⟨xs,a,r⟩=>⟨xs,?_,r.keep (kp fun a h=>h.1)⟩) h6⟩
     rw[aK (fun z=>z2 (bZ.mpr ⟨x,hx,by rw[z]⟩))];exact a
  refine mw ?_ fun j e x h1 h2=>base j e x h1 h2
  rw[List.length_set];exact Paired.length R.e.sl
 ·intro a ha
  by_cases z:a=p
  ·subst z;exact⟨o,bS⟩
  ·rw[aK z];exact R.e.od a ha
 ·intro a u h
  by_cases z:a=p
  ·subst z;exact⟨o,bS⟩
  ·rw[aK z];exact R.e.hd a u h
 ·intro a u ha e
  by_cases z:a=p
  ·subst z
   obtain⟨o1,e1,n1⟩:=c.some
   rw[e]at e1;cases e1;exact n1
  ·rw[aK z]at e;exact R.e.on a u ha e
 ·intro a u n h
  have z:a≠p:=by
   rintro rfl
   rcases R.ow a hO with⟨i,q⟩|q
   ·exact n i q
   ·rw[h]at q;cases q
  rw[aK z];exact R.fr a u n h
 ·intro i' e' p' h1 p1
  rcases get_set h1 with⟨rfl,q⟩|⟨n1,q1⟩
  ·cases q;exact R.ba _ d p' hx p1
  ·exact R.ba i' e' p' q1 p1
 ·intro i' j x y q h1 h2 o1 o2 p1 p2
  have f:∀{k:Nat}{x:M×D},(env.set i (some (m,d')))[k]?=some (some x)→own x.1=true→∃x',env[k]?=some (some x')∧own x'.1=true:=fun {k x} h o=>by
   rcases get_set h with⟨rfl,q⟩|⟨_,q⟩
   ·exact⟨_,hx,ho⟩
   ·exact⟨x,q,o⟩
  obtain⟨x',a1,b1⟩:=f h1 o1
  obtain⟨y',a2,b2⟩:=f h2 o2
  exact R.dj i' j x' y' q a1 a2 b1 b2 p1 p2
 ·have g:∀{k:Nat}{d1:D},(env.set i (some (m,d')))[k]?=some (some (.nb,d1))→env[k]?=some (some (.nb,d1)):=fun {k d1} h=>by
   rcases get_set h with⟨rfl,q⟩|⟨_,q⟩
   ·cases q;cases ho
   ·exact q
  refine⟨fun i' j d1 d2 h1 h2=>R.nd.1 i' j d1 d2 (g h1) (g h2),fun i' j d1 x p' q xs h1 p1 h2 o2 p2 e=>?_⟩
  obtain⟨qs,aR,_,_,_,e3,_⟩:=R.e.nest (g h1) p1
  obtain⟨z1,_⟩:=R.nd.2 i' i d1 (m,d) p' p _ (g h1) p1 hx ho hp e3
  rw[aK (fun z=>z1 z.symm)]at e
  rcases get_set h2 with⟨rfl,z⟩|⟨_,z⟩
  ·cases z;exact R.nd.2 i' j d1 (m,d) p' q xs (g h1) p1 hx ho p2 e
  ·exact R.nd.2 i' j d1 x p' q xs (g h1) p1 z o2 p2 e
 ·intro a u h n
  have z:a≠p:=by rintro rfl;exact n hO
  exact⟨by rw[aK z];exact h,n⟩
end
section
variable {K:PySem.W.Frag}{H H' H₀:Hp}{I:Nat→Option Addr}{O O':Addr→Prop}{σ:St}{env:Ev}
noncomputable def eY(i:Nat)(e:Ev):Option (M×List D):=match e[i]? with
 |some (some (m,.lst ds))=>if own m=true then some (m,ds)else none
 |_=>none
theorem EZ{i:Nat}{e:Ev}{m:M}{ds:List D}(h:eY i e=some (m,ds)):e[i]?=some (some (m,.lst ds))∧own m=true:=by
 unfold eY at h
 split at h
 ·rename_i e
  split at h
  ·cases h;exact⟨e,by assumption⟩
  ·cases h
 ·cases h
theorem Rel.lst{i:Nat}{m:M}{ds:List D}(R:Rel K H₀ I O H σ env)(h:eY i env=some (m,ds)):∃p xs,σ[i]?=some (some (.ref p))∧O p∧H p=some (.lst xs)∧ay K (fun a=>¬O a∧H₀ a=none) H xs ds:=by
 obtain⟨e,o⟩:=EZ h
 obtain⟨v,hv,n,hm⟩:=R.e.at e
 cases m<;>simp only[own]at o<;>try (cases o;done)
 ·obtain⟨p,rfl,h1,h2,xs,c,r⟩:=hm;exact⟨p,xs,hv,h1,c,r⟩
 ·obtain⟨p,rfl,h1,xs,c,r⟩:=hm;exact⟨p,xs,hv,h1,c,r⟩
theorem ay.upd{xs:List V}{ds:List D}{p:Addr}{o:HO}{o0:HO}(hO:O p)(h0:H p=some o0)(nt:¬iN o0)(r:ay K (fun a=>¬O a∧H₀ a=none) H xs ds):ay K (fun a=>¬O a∧H₀ a=none) (L2.upd H p o) xs ds:=by
 refine r.keep fun a u e z=>?_
 have fM:a≠p:=by
  rintro rfl
  rcases z with z|z
  ·exact z.1 hO
  ·rw[h0]at e;cases e;exact nt z
 rw[aK fM];exact e
theorem Rel.vY{i:Nat}{m:M}{ds:List D}{p:Addr}{xs ys:List V}{es:List D}(R:Rel K H₀ I O H σ env)(h:eY i env=some (m,ds))(hp:σ[i]?=some (some (.ref p)))(hx:H p=some (.lst xs))(r:ay K (fun a=>¬O a∧H₀ a=none) H ys es) :
  Rel K H₀ I O (L2.upd H p (.lst ys)) σ (env.set i (some (m,.lst es)))∧aS O H O (L2.upd H p (.lst ys)):=by
 obtain⟨e,o⟩:=EZ h
 have hO:=(R.mH e o hp).1
 exact R.mut e o hp ⟨ys,bS,r.upd hO hx (fun z=>z)⟩
noncomputable def cI(i:Nat)(f:Ev→Option (M×D)):Ev→Option Fl:=fun e=>(f e).bind fun x=>if dD x.1 x.2=true then (eY i e).bind fun y=>if y.2.length<sizeLine then some (.nx (e.set i (some (y.1,.lst (y.2++[x.2])))))else none else none
theorem Ub{i:Nat}{t:TE}{f:Ev→Option (M×D)}(h:JT K t f):JS K (oQ (wA K "list" uU (gD i) (mM t lF))) (cI i f):=by
 intro H₀ I O H σ env Ds fl R e q
 obtain⟨x,ex,e⟩:=aB e
 split at e
 ·rename_i hs
  obtain⟨⟨m,ds⟩,ey,e⟩:=aB e
  split at e
  ·rename_i hl
   cases e
   obtain⟨p,xs,hp,hO,hx,r⟩:=R.lst ey
   refine⟨.ref p,hp,.inl ⟨rfl,xs,.inl (.inl hx)⟩,?_⟩
   refine h H₀ O H σ env _ x.1 x.2 R.e ex fun v H1 s1 h1=>?_
   refine⟨p,xs,v,rfl,rfl,s1 _ _ hx,by rw[r.len];exact hl,?_⟩
   have R1:=R.keep s1
   obtain⟨R2,st⟩:=R1.vY (ys:=xs++[v]) (es:=ds++[x.2]) ey hp (s1 _ _ hx) ((r.keep (.same s1)).app (.cons (h1.dD hs) .nil))
   exact q O _ σ R2 ((aS.same s1).trans st)
  ·cases e
 ·cases e
noncomputable def eU(i:Nat)(fk fe:Ev→Option (M×D)):Ev→Option Fl:=fun e=>(fe e).bind fun x=>(fk e).bind fun k=>(m3 k).bind fun k=>if dD x.1 x.2=true then (eY i e).bind fun y=>(dW y.2.length k).bind fun j=>some (.nx (e.set i (some (y.1,.lst (y.2.set j x.2)))))else none
theorem OY{i:Nat}{t tk:TE}{f fk:Ev→Option (M×D)}(h:JT K t f)(hk:JT K tk fk):JS K (iE t (HM (gD i) tk G0)) (eU i fk f):=by
 intro H₀ I O H σ env Ds fl R e q
 obtain⟨x,ex,e⟩:=aB e
 obtain⟨k,ek,e⟩:=aB e
 obtain⟨k',YX,e⟩:=aB e
 split at e
 ·rename_i hs
  obtain⟨⟨m,ds⟩,ey,e⟩:=aB e
  obtain⟨j,ej,e⟩:=aB e
  cases e
  obtain⟨p,xs,hp,hO,hx,r⟩:=R.lst ey
  refine h H₀ O H σ env _ x.1 x.2 R.e ex fun v H1 s1 h1=>?_
  refine⟨.ref p,hp,?_⟩
  refine hk H₀ O H1 σ env _ k.1 k.2 (R.keep s1).e ek fun w H2 s2 h2=>?_
  rw[yK YX]at h2
  have s:=s1.trans s2
  refine⟨p,xs,k',j,rfl,h2.int,s _ _ hx,by rw[r.len];exact ej,?_⟩
  obtain⟨R2,st⟩:=(R.keep s).vY (ys:=xs.set j v) (es:=ds.set j x.2) ey hp (s _ _ hx) ((r.keep (.same s)).set ((h1.keep s2).dD hs) j)
  exact q O _ σ R2 ((aS.same s).trans st)
 ·cases e
noncomputable def rQ(j i:Nat):Ev→Option Fl:=fun e=>(eY i e).bind fun y=>(y.2[y.2.length-1]?).bind fun d=>some (.nx ((e.set i (some (y.1,.lst y.2.dropLast))).set j (some (.fr,d))))
theorem Uc{i j:Nat}:JS K (iE (rL K "list" HV (gD i)) (jK j)) (rQ j i):=by
 intro H₀ I O H σ env Ds fl R e q
 obtain⟨⟨m,ds⟩,ey,e⟩:=aB e
 obtain⟨d,ed,e⟩:=aB e
 cases e
 obtain⟨p,xs,hp,hO,hx,r⟩:=R.lst ey
 refine⟨.ref p,hp,.inl ⟨rfl,xs,.inl (.inl hx)⟩,?_⟩
 obtain⟨v,hv,rv⟩:=r.get ed
 refine⟨p,xs,v,rfl,rfl,hx,by rw[r.len];exact hv,?_⟩
 obtain⟨R2,st⟩:=R.vY (ys:=xs.dropLast) (es:=ds.dropLast) ey hp hx r.dl
 have Bn:Rp K (fun a=>¬O a∧H₀ a=none) (L2.upd H p (.lst xs.dropLast)) v d:=by
  have z:=ay.upd (o:=.lst xs.dropLast) hO hx (fun z=>z) (ay.cons rv .nil)
  cases z with|cons a _=>exact a
 exact q O _ _ (R2.set_plain (i:=j) (m:=.fr) rfl rfl Bn) st
noncomputable def zj(i:Nat):Ev→Option Fl:=fun e=>(eY i e).bind fun y=>some (.nx (e.set i (some (y.1,.lst []))))
theorem OZ{i:Nat}:JS K (oQ (rL K "list" FX (gD i))) (zj i):=by
 intro H₀ I O H σ env Ds fl R e q
 obtain⟨⟨m,ds⟩,ey,e⟩:=aB e
 cases e
 obtain⟨p,xs,hp,hO,hx,r⟩:=R.lst ey
 refine⟨.ref p,hp,.inl ⟨rfl,xs,.inl (.inl hx)⟩,p,xs,rfl,rfl,hx,?_⟩
 obtain⟨R2,st⟩:=R.vY (ys:=[]) (es:=[]) ey hp hx .nil
 exact q O _ σ R2 st
noncomputable def bj(i:Nat)(e:Ev):Ev:=match e[i]? with
 |some (some (.bo,d))=>e.set i (some (.fr,d))
 |_=>e
noncomputable def cU(i:Nat)(g:Ev→Option Fl):Ev→Option Fl:=fun e=>g (bj i e)
theorem Rel.bj{i:Nat}(R:Rel K H₀ I O H σ env):∃O',Rel K H₀ I O' H σ (J.bj i env)∧aS O H O' H:=by
 unfold J.bj
 split
 ·rename_i d e
  obtain⟨v,hv,n,p,rfl,hO,h0,c⟩:=R.e.at e
  have hi:i<env.length:=by
   rcases Nat.lt_or_ge i env.length with h|h
   ·exact h
   ·rw[List.getElem?_eq_none h]at e;cases e
  have W:∀{a:Addr},¬O a→¬(O a∧a≠p):=fun h z=>h z.1
  refine⟨fun a=>O a∧a≠p,⟨⟨?_,fun a h=>R.e.od a h.1,R.e.hd,fun a o h=>R.e.on a o h.1⟩,R.fr,fun a h=>R.ow a h.1,?_,?_,?_⟩,fun a o h n=>⟨h,W n⟩⟩
  ·have base:∀(j:Nat) (y:Option (M×D)) (x:Option V),(env.set i (some (.fr,d)))[j]?=some y→σ[j]?=some x→∀m d,y=some (m,d)→iO m=true∧∃v,x=some v∧Val K H₀ (fun a=>O a∧a≠p) HE H m d v:=by
    intro j y x hy hx m1 d1 q
    subst q
    rcases get_set hy with⟨rfl,q⟩|⟨nj,q⟩
    ·cases q
     rw[hv]at hx;cases hx
     exact⟨rfl,_,rfl,(c.wk fun a h _=>(⟨W h.1,h.2⟩:¬(O a∧a≠p)∧H₀ a=none)).rp ⟨fun z=>z.2 rfl,h0⟩⟩
    ·obtain⟨v,gP,n1,hm⟩:=R.e.at q
     rw[hx]at gP;cases gP
     refine⟨n1,v,rfl,?_⟩
     have nq:∀{p':Addr},own m1=true→v=.ref p'→p'≠p:=fun {p'} Bm ev z=>by
      subst ev;subst z
      exact nj (R.dj j i _ _ p' q e Bm rfl hx hv)
     cases m1
     ·exact Rp.wk (fun a h _=>W h) hm
     ·exact Rp.wk (fun a h _=>⟨W h.1,h.2⟩) hm
     ·cases n1
     ·obtain⟨p',rfl,h1,h2,c'⟩:=hm
      exact⟨p',rfl,⟨h1,nq rfl rfl⟩,h2,c'.wk fun a h _=>⟨W h.1,h.2⟩⟩
     ·obtain⟨p',rfl,h1,c'⟩:=hm
      exact⟨p',rfl,⟨h1,nq rfl rfl⟩,c'.wk fun a h _=>⟨W h.1,h.2⟩⟩
     ·cases n1
     ·obtain⟨p',qs,aR,rfl,e2,h1,h2,h3,h4,h5,h6⟩:=hm
      obtain⟨z1,z2⟩:=R.nd.2 j i d1 (.bo,d) p' p _ q hx e rfl hv h3
      exact⟨p',qs,aR,rfl,e2,⟨h1,fun z=>z1 z.symm⟩,h2,h3,h4,fun x hx=>⟨⟨(h5 x hx).1,fun z=>z2 (bZ.mpr ⟨x,hx,by rw[z]⟩)⟩,(h5 x hx).2⟩,kf (fun x ds _ ⟨xs,a,r⟩=>⟨xs,a,r.wk fun a h _=>⟨W h.1,h.2⟩⟩) h6⟩
   refine mw ?_ fun j e x h1 h2=>base j e x h1 h2
   rw[List.length_set];exact Paired.length R.e.sl
  ·intro i' d' p' h1 p1
   rcases get_set h1 with⟨rfl,z⟩|⟨_,z1⟩
   ·cases z
   ·exact R.ba i' d' p' z1 p1
  ·intro i' j x y q h1 h2 o1 o2 p1 p2
   rcases get_set h1 with⟨rfl,z⟩|⟨_,z1⟩
   ·cases z;cases o1
   ·rcases get_set h2 with⟨rfl,z⟩|⟨_,z2⟩
    ·cases z;cases o2
    ·exact R.dj i' j x y q z1 z2 o1 o2 p1 p2
  ·refine⟨fun i' j d1 d2 h1 h2=>?_,fun i' j d1 x p' q xs h1 p1 h2 o2 p2 e'=>?_⟩
   ·rcases get_set h1 with⟨rfl,z⟩|⟨_,z1⟩
    ·cases z
    ·rcases get_set h2 with⟨rfl,z⟩|⟨_,z2⟩
     ·cases z
     ·exact R.nd.1 i' j d1 d2 z1 z2
   ·rcases get_set h1 with⟨rfl,z⟩|⟨_,z1⟩
    ·cases z
    ·rcases get_set h2 with⟨rfl,z⟩|⟨_,z2⟩
     ·cases z;cases o2
     ·exact R.nd.2 i' j d1 x p' q xs z1 p1 z2 o2 p2 e'
 ·exact⟨O,R,aS.refl⟩
theorem Ud{i:Nat}{t:TS}{g:Ev→Option Fl}(h:JS K t g):JS K t (cU i g):=by
 intro H₀ I O H σ env Ds fl R e q
 obtain⟨O',R',st⟩:=R.bj (i:=i)
 exact h H₀ I O' H σ _ Ds fl R' e (q.pre st)
theorem Rp.YY{N:Addr→Prop}{v:V}{d:D}{O2:Addr→Prop}{H2:Hp}(on:∀a o,O a→H a=some o→¬iN o)(st:aS O H O2 H2)(w:∀a,N a→¬O a)(r:Rp K N H v d):Rp K (fun a=>N a∧¬O2 a) H2 v d:=by
 refine(Rp.wk (N':=fun a=>N a∧¬O2 a) (fun a n ⟨o,e⟩=>⟨n,(st a o e (w a n)).2⟩) r).keep fun a o e z=>?_
 refine(st a o e ?_).1
 rcases z with z|z
 ·exact w a z.1
 ·exact fun h=>on a o h e z
structure kC (K:PySem.W.Frag)(H₀:Hp)(O:Addr→Prop)(J:It)(H:Hp)(m:M)(ds:List D):Prop where
 go:∀O2 H2 i,aS O H O2 H2→i<ds.length→J.go i H2
 jn:∀O2 H2 i x H3,aS O H O2 H2→i<ds.length→J.jn i H2 x H3→aL H2 H3∧∃d,ds[i]?=some d∧Val K H₀ O2 HE H3 m d x
 stop:∀O2 H2,aS O H O2 H2→J.stop ds.length H2
noncomputable def fK:M→Bool
 |.al=>true
 |.fr=>true
 |_=>false
def JI(K:PySem.W.Frag)(wi:TI)(it:Ev→Option (M×List D)):Prop :=
 ∀H₀ O H σ env R m ds,eD K H₀ O H σ env→it env=some (m,ds)→(∀J H',aL H H'→fK m=true→kC K H₀ O J H' m ds→R J H')→wi σ H R
noncomputable def b9:M→Option M
 |.al=>some .al
 |.fr=>some .fr
 |.un=>some .fr
 |_=>none
noncomputable def bF(f:Ev→Option (M×D)):Ev→Option (M×List D):=fun e=>(f e).bind fun x=>match x.2 with
 |.lst ds=>(b9 x.1).map fun m=>(m,ds)
 |_=>none
theorem E1{m n:M}{ds:List D}{v:V}{Hb:Hp}(e:b9 m=some n)(h:Val K H₀ O Hb H m (.lst ds) v):fK n=true∧∃a xs,v=.ref a∧((Rd H a (.lst xs)∧¬O a)∨wH K a xs)∧ay K (NM H₀ O n) H xs ds:=by
 cases m<;>simp only[b9]at e<;>cases e
 ·cases h with
  |lst r n q=>exact⟨rfl,_,_,rfl,.inl ⟨r,n⟩,q⟩
  |lstK r q=>exact⟨rfl,_,_,rfl,.inr r,q⟩
 ·cases h with
  |lst r n q=>exact⟨rfl,_,_,rfl,.inl ⟨r,n.1⟩,q⟩
  |lstK r q=>exact⟨rfl,_,_,rfl,.inr r,q⟩
 ·obtain⟨p,rfl,_,_,h2,xs,q,r⟩:=h;exact⟨rfl,_,_,rfl,.inl ⟨.inl q,h2⟩,r.wk fun a h _=>h.1⟩
theorem NM.no{n:M}{a:Addr}(e:fK n=true)(h:NM H₀ O n a):¬O a:=by
 cases n<;>first|exact h|exact h.1|cases e
theorem uY{n:M}{d:D}{v:V}{O2:Addr→Prop}{H2:Hp}(e:fK n=true)(on:∀a o,O a→H a=some o→¬iN o)(st:aS O H O2 H2)(r:Rp K (NM H₀ O n) H v d):Val K H₀ O2 HE H2 n d v:=by
 have z:=Rp.YY on st (fun a h=>NM.no e h) r
 cases n
 ·exact z.wk fun a h _=>h.2
 ·exact z.wk fun a h _=>⟨h.2,h.1.2⟩
 ·cases e
 ·cases e
 ·cases e
 ·cases e
 ·cases e
theorem NT{a:Addr}{xs:List V}{ds:List D}{n:M}(e:fK n=true)(on:∀a o,O a→H a=some o→¬iN o)(hr:(Rd H a (.lst xs)∧¬O a)∨wH K a xs)(r:ay K (NM H₀ O n) H xs ds):kC K H₀ O (AV K a) H n ds:=by
 have st:∀{O2:Addr→Prop}{H2:Hp},aS O H O2 H2→bV K H2 a xs:=fun {O2 H2} s=>by
  rcases hr with⟨h|⟨o,h⟩,ha⟩|h
  ·exact .inl (.inl (s _ _ h ha).1)
  ·exact .inl (.inr ⟨o,(s _ _ h ha).1⟩)
  ·exact .inr h
 refine⟨fun O2 H2 i s hi=>?_,fun O2 H2 i x H3 s hi y=>?_,fun O2 H2 s=>⟨xs,st s,by rw[r.len];exact bf _⟩⟩
 ·exact⟨xs,xs[i]'(by rw[r.len];exact hi),st s,by simp⟩
 ·obtain⟨rfl,y⟩:=y
  have y:=y xs (st s)
  obtain⟨v,hv,rv⟩:=r.get (i:=i) (d:=ds[i]) (by simp[hi])
  rw[y]at hv;cases hv
  exact⟨aL.refl _,ds[i],by simp[hi],uY e on s rv⟩
theorem QN{t:TE}{f:Ev→Option (M×D)}(h:JT K t f):JI K (zF K t) (bF f):=by
 intro H₀ O H σ env R m ds Re e q
 obtain⟨⟨m0,d0⟩,ex,e⟩:=aB e
 cases d0<;>simp only at e<;>try (cases e;done)
 cases em:b9 m0 with
 |none=>rw[em]at e;cases e
 |some n =>
  rw[em]at e;cases e
  refine h H₀ O H σ env _ _ _ Re ex fun v H1 s1 h1=>?_
  obtain⟨e1,a,xs,rfl,hr,r⟩:=E1 em h1
  exact⟨a,rfl,⟨xs,hr.elim (fun z=>.inl z.1) .inr⟩,q _ H1 s1 e1 (NT e1 (Re.keep s1).on hr r)⟩
theorem O4{a:Addr}{xs:List V}{ds:List D}{n:M}(e:fK n=true)(on:∀a o,O a→H a=some o→¬iN o)(hr:bJ K H a xs)(r:ay K (NM H₀ O n) H xs ds):kC K H₀ O (AW K a) H n ds:=by
 have st:∀{O2:Addr→Prop}{H2:Hp},aS O H O2 H2→bJ K H2 a xs:=fun {O2 H2} s=>by
  rcases hr with h|h
  ·exact .inl (s _ _ h fun z=>on _ _ z h trivial).1
  ·exact .inr h
 refine⟨fun O2 H2 i s hi=>?_,fun O2 H2 i x H3 s hi y=>?_,fun O2 H2 s=>⟨xs,st s,by rw[r.len];exact bf _⟩⟩
 ·exact⟨xs,xs[i]'(by rw[r.len];exact hi),st s,by simp⟩
 ·obtain⟨rfl,y⟩:=y
  have y:=y xs (st s)
  obtain⟨v,hv,rv⟩:=r.get (i:=i) (d:=ds[i]) (by simp[hi])
  rw[y]at hv;cases hv
  exact⟨aL.refl _,ds[i],by simp[hi],uY e on s rv⟩
noncomputable def JZ(f:Ev→Option (M×D)):Ev→Option (M×List D):=fun e=>(f e).bind fun x=>match x.2 with
 |.tup ds=>(b9 x.1).map fun m=>(m,ds)
 |_=>none
theorem Ue{t:TE}{f:Ev→Option (M×D)}(h:JT K t f):JI K (zY K t) (JZ f):=by
 intro H₀ O H σ env R m ds Re e q
 obtain⟨⟨m0,d0⟩,ex,e⟩:=aB e
 cases d0<;>simp only at e<;>try (cases e;done)
 cases em:b9 m0 with
 |none=>rw[em]at e;cases e
 |some n =>
  rw[em]at e;cases e
  refine h H₀ O H σ env _ _ _ Re ex fun v H1 s1 h1=>?_
  obtain⟨a,xs,rfl,hr,r⟩:=h1.tup
  have e1:aV m0=m∧fK m=true:=by clear ex h1 r;cases m0<;>cases em<;>exact⟨rfl,rfl⟩
  rw[e1.1]at r
  exact⟨a,rfl,⟨xs,hr⟩,q _ H1 s1 e1.2 (O4 e1.2 (Re.keep s1).on hr r)⟩
noncomputable def b0(lo:Int)(n:Nat):List D:=(List.range n).map fun(k:Nat)=>.int (lo+(k:Int))
theorem D8{lo:Int}{n:Nat}:kC K H₀ O (sj lo n) H .fr (b0 lo n):=by
 have l:(b0 lo n).length=n:=by simp[b0]
 refine⟨fun O2 H2 i s hi=>by rw[l]at hi;exact hi,fun O2 H2 i x H3 s hi y=>?_,fun O2 H2 s=>by rw[l];exact bf n⟩
 obtain⟨rfl,rfl⟩:=y
 rw[l]at hi
 exact⟨aL.refl _,.int (lo+i),by simp[b0,hi],Rp.int _⟩
theorem wK:(2:Int)^62=4611686018427387904:=by decide
noncomputable def bY(fs:Ev→Option (List (M×D))):Ev→Option (M×List D):=fun e=>(fs e).bind fun l=>match l with
 |[(_,.int j)]=>if -4611686018427387904≤j∧j<4611686018427387904 then some (.fr,b0 0 j.toNat)else none
 |_=>none
theorem QO{t:TA}{fs:Ev→Option (List (M×D))}(h:iP K t fs):JI K (GU t) (bY fs):=by
 intro H₀ O H σ env R m ds Re e q
 obtain⟨l,el,e⟩:=aB e
 split at e
 ·split at e
  ·rename_i hj
   cases e
   refine h H₀ O H σ env _ _ Re el fun vs H1 s1 h1=>?_
   obtain⟨v,rfl,hv⟩:=h1.one
   obtain rfl:=hv.int
   exact⟨_,rfl,by rw[wK];exact hj.1,by rw[wK];exact hj.2,q _ H1 s1 rfl D8⟩
  ·cases e
 ·cases e
noncomputable def rR(fs:Ev→Option (List (M×D))):Ev→Option (M×List D):=fun e=>(fs e).bind fun l=>match l with
 |[(_,.int i),(_,.int j)]=>if -4611686018427387904≤i∧i<4611686018427387904∧-4611686018427387904≤j∧j<4611686018427387904 then some (.fr,b0 i (j-i).toNat)else none
 |_=>none
theorem QP{t:TA}{fs:Ev→Option (List (M×D))}(h:iP K t fs):JI K (GW t) (rR fs):=by
 intro H₀ O H σ env R m ds Re e q
 obtain⟨l,el,e⟩:=aB e
 split at e
 ·split at e
  ·rename_i hj
   cases e
   refine h H₀ O H σ env _ _ Re el fun vs H1 s1 h1=>?_
   obtain⟨v,w,rfl,hv,hw⟩:=h1.two
   obtain rfl:=hv.int
   obtain rfl:=hw.int
   exact⟨_,_,rfl,by rw[wK];exact hj,q _ H1 s1 rfl D8⟩
  ·cases e
 ·cases e
end
section
variable {K:PySem.W.Frag}{H H' H₀:Hp}{I:Nat→Option Addr}{O O':Addr→Prop}{σ:St}{env:Ev}
def JG(K:PySem.W.Frag)(g:TG)(fg:M×D→Ev→Option Ev):Prop :=
 ∀H₀ I O H σ env x v fZ Q,Rel K H₀ I O H σ env→fK (Prod.fst x)=true→Val K H₀ O HE H (Prod.fst x) x.2 v→fg x env=some fZ→(∀σ',Rel K H₀ I O H σ' fZ→Q σ' H)→g v σ H Q
def pS(K:PySem.W.Frag)(g:hX)(fg:M→List D→Ev→Option Ev):Prop :=
 ∀H₀ I O H σ env m ds vs fZ Q,Rel K H₀ I O H σ env→fK m=true→ay K (NM H₀ O m) H vs ds→fg m ds env=some fZ→(∀σ',Rel K H₀ I O H σ' fZ→Q σ' H)→g vs σ H Q
noncomputable def gN(i:Nat):M×D→Ev→Option Ev:=fun x e=>some (e.set i (some x))
theorem QQ{i:Nat}:JG K (jK i) (gN i):=by
 intro H₀ I O H σ env x v fZ Q R hm hv e q
 cases e
 obtain⟨m,d⟩:=x
 exact q _ (R.set_plain (by cases m<;>first|rfl|cases hm) (by cases m<;>first|rfl|cases hm) hv)
noncomputable def dH:M→List D→Ev→Option Ev:=fun _ ds e=>match ds with
 |[]=>some e
 |_=>none
noncomputable def bG(f:M×D→Ev→Option Ev)(g:M→List D→Ev→Option Ev):M→List D→Ev→Option Ev:=fun m ds e=>match ds with
 |d::r=>(f (m,d) e).bind fun e'=>g m r e'
 |[]=>none
theorem QR:pS K HK dH:=by
 intro H₀ I O H σ env m ds vs fZ Q R hm hv e q
 cases hv with
 |nil=>cases e;exact⟨rfl,q _ R⟩
 |cons=>cases e
theorem O6{g:TG}{gs:hX}{f:M×D→Ev→Option Ev}{fs:M→List D→Ev→Option Ev}(h:JG K g f)(hs:pS K gs fs):pS K (GR g gs) (bG f fs):=by
 intro H₀ I O H σ env m ds vs fZ Q R hm hv e q
 cases hv with
 |nil=>cases e
 |@cons v d vs ds hv r =>
  obtain⟨e',e1,e⟩:=aB e
  refine⟨v,vs,rfl,?_⟩
  have gP:Val K H₀ O HE H m d v:=by cases m<;>first|exact hv|cases hm
  exact h H₀ I O H σ env (m,d) v e' _ R hm gP e1 fun σ' R'=>hs H₀ I O H σ' e' m ds vs fZ Q R' hm r e q
noncomputable def gT(n:Nat)(f:M→List D→Ev→Option Ev):M×D→Ev→Option Ev:=fun x e=>match x.2 with
 |.tup ds=>if ds.length=n then f (aV x.1) ds e else none
 |_=>none
theorem Ug{n:Nat}{gs:hX}{fs:M→List D→Ev→Option Ev}(hs:pS K gs fs):JG K (HL K n gs) (gT n fs):=by
 intro H₀ I O H σ env x v fZ Q R hm hv e q
 obtain⟨m,d⟩:=x
 cases d<;>simp only[gT]at e<;>try (cases e;done)
 split at e
 ·rename_i hl
  obtain⟨a,xs,rfl,pP,r⟩:=hv.tup
  exact⟨a,xs,rfl,pP,by rw[r.len];exact hl,hs H₀ I O H σ env (aV m) _ xs fZ Q R (by cases m<;>first|rfl|cases hm) r e q⟩
 ·cases e
noncomputable def gL(n:Nat)(f:M→List D→Ev→Option Ev):M×D→Ev→Option Ev:=fun x e=>match x.2 with
 |.lst ds=>if ds.length=n then f (aV x.1) ds e else none
 |_=>none
noncomputable def Am:M→M
 |.un=>.fr
 |m=>m
noncomputable def m6(fg:M×D→Ev→Option Ev)(f:Ev→Option (M×D)):Ev→Option Fl:=fun e=>(f e).bind fun x=>if fK (Am x.1)=true then (fg (Am x.1,x.2) e).bind fun e'=>some (.nx e')else none
theorem Uh{t:TE}{g:TG}{f:Ev→Option (M×D)}{fg:M×D→Ev→Option Ev}(h:JT K t f)(hg:JG K g fg):JS K (iE t g) (m6 fg f):=by
 intro H₀ I O H σ env Ds fl R e q
 obtain⟨⟨m,d⟩,ex,e⟩:=aB e
 split at e
 ·rename_i hm
  obtain⟨e',e1,e⟩:=aB e
  cases e
  refine h H₀ O H σ env _ m d R.e ex fun v H1 s1 h1=>?_
  refine hg H₀ I O H1 σ env _ v e' _ (R.keep s1) hm ?_ e1 fun σ' R'=>q O H1 σ' R' (aS.same s1)
  cases m
  ·exact h1
  ·exact h1
  ·exact h1.dD rfl
  ·cases hm
  ·cases hm
  ·cases hm
  ·cases hm
 ·cases e
noncomputable def forL(g:M×D→Ev→Option Ev)(b:Ev→Option Fl)(m:M):List D→Ev→Option Fl
 |[],e=>some (.nx e)
 |d::ds,e=>(g (m,d) e).bind fun e1=>(b e1).bind fun r=>match r with
  |.nx e2=>forL g b m ds e2
  |.ct e2=>forL g b m ds e2
  |.bk e2=>some (.nx e2)
  |.rt e2 m' d'=>some (.rt e2 m' d')
noncomputable def aT(it:Ev→Option (M×List D))(g:M×D→Ev→Option Ev)(b:Ev→Option Fl):Ev→Option Fl:=fun e=>(it e).bind fun x=>forL g b x.1 x.2 e
theorem Ui{wi:TI}{g:TG}{tb:TS}{it:Ev→Option (M×List D)}{fg:M×D→Ev→Option Ev}{b:Ev→Option Fl}(hi:JI K wi it)(hg:JG K g fg)(hb:JS K tb b):JS K (oY wi g tb) (aT it fg b):=by
 intro H₀ I O H σ env Ds fl R e q
 obtain⟨⟨m,ds⟩,ei,e⟩:=aB e
 refine hi H₀ O H σ env _ m ds R.e ei fun J H1 s1 hm ok=>?_
 have q1:=q.pre (aS.same s1)
 refine⟨fun i n σ2 H2=>∃O2 dB,Rel K H₀ I O2 H2 σ2 dB∧aS O H1 O2 H2∧i≤ds.length∧n=ds.length-i∧forL fg b m (ds.drop i) dB=some fl,⟨_,O,env,R.keep s1,aS.refl,Nat.zero_le _,rfl,e⟩,?_⟩
 rintro i n σ2 H2 ⟨O2,dB,R2,st,hle,rfl,ef⟩
 by_cases aZ:i<ds.length
 ·refine .inr ⟨ok.go O2 H2 i st aZ,fun σ' H'=>∃O2 dB,Rel K H₀ I O2 H' σ' dB∧aS O H1 O2 H'∧forL fg b m (ds.drop (i+1)) dB=some fl,?_,?_⟩
  ·rintro σ' H' ⟨O3,An,R3,bA,Bp⟩
   exact⟨ds.length-(i+1),by omega,O3,An,R3,bA,aZ,rfl,Bp⟩
  ·intro x H3 y
   obtain⟨s3,d,hd,hv⟩:=ok.jn O2 H2 i x H3 st aZ y
   have sJ:ds.drop i=d::ds.drop (i+1):=by
    rw[List.drop_eq_getElem_cons aZ]
    rw[dU aZ]at hd
    cases hd;rfl
   rw[sJ]at ef
   simp only[forL]at ef
   obtain⟨e1,g1,ef⟩:=aB ef
   obtain⟨r,br,ef⟩:=aB ef
   refine hg H₀ I O2 H3 σ2 dB (m,d) x e1 _ (R2.keep s3) hm hv g1 fun σ4 R4=>?_
   have k5:=st.trans (aS.same (O:=O2) s3)
   refine hb H₀ I O2 H3 σ4 e1 _ r R4 br ?_
   cases r with
   |nx e2=>exact fun O5 H5 σ5 R5 fB=>⟨O5,e2,R5,k5.trans fB,ef⟩
   |ct e2=>exact fun O5 H5 σ5 R5 fB=>⟨O5,e2,R5,k5.trans fB,ef⟩
   |bk e2=>cases ef;exact(q1.pre k5)
   |rt e2 m' d'=>cases ef;exact(q1.pre k5)
 ·have hi:i=ds.length:=by omega
  subst hi
  rw[List.drop_length]at ef
  cases ef
  exact .inl ⟨ok.stop O2 H2 st,q1 O2 H2 σ2 R2 st⟩
noncomputable def dn(c:Ev→Option Bool)(b:Ev→Option Fl):Nat→Ev→Option Fl
 |0,_=>none
 |n+1,e=>(c e).bind fun k=>if k=true then (b e).bind fun r=>(match r with
  |.nx e2=>dn c b n e2
  |.ct e2=>dn c b n e2
  |.bk e2=>some (.nx e2)
  |.rt e2 m' d'=>some (.rt e2 m' d'))else some (.nx e)
theorem uA{c:Ev→Option Bool}{b:Ev→Option Fl}{fl:Fl}:∀{n k:Nat}{e:Ev},n≤k→dn c b n e=some fl→dn c b k e=some fl
 |0,_,_,_,h=>by cases h
 |n+1,0,_,h,_=>by omega
 |n+1,k+1,e,hk,h=>by
  simp only[dn]at h ⊢
  obtain⟨x,ex,h⟩:=aB h
  rw[ex,Option.bind_some]
  cases x with
  |false=>exact h
  |true =>
   rw[if_pos rfl]at h ⊢
   obtain⟨r,er,h⟩:=aB h
   rw[er,Option.bind_some]
   cases r with
   |nx e2=>exact uA (by omega) h
   |ct e2=>exact uA (by omega) h
   |bk e2=>exact h
   |rt e2 m' d'=>exact h
open Classical in
noncomputable def iu(c:Ev→Option Bool)(b:Ev→Option Fl):Ev→Option Fl:=fun e=>if h:∃n fl,dn c b n e=some fl then some (Classical.choose (Classical.choose_spec h))else none
theorem yo{c:Ev→Option Bool}{b:Ev→Option Fl}{fl:Fl}{n:Nat}{e:Ev}(h:dn c b n e=some fl):iu c b e=some fl:=by
 have hx:∃n fl,dn c b n e=some fl:=⟨n,fl,h⟩
 unfold iu
 rw[dif_pos hx]
 have s:=Classical.choose_spec (Classical.choose_spec hx)
 have a:=uA (Nat.le_max_left n (Classical.choose hx)) h
 have b':=uA (Nat.le_max_right n (Classical.choose hx)) s
 rw[a]at b'
 exact b'.symm
theorem M5{c:Ev→Option Bool}{b:Ev→Option Fl}{fl:Fl}{e:Ev}(h:iu c b e=some fl):∃n,dn c b n e=some fl:=by
 unfold iu at h
 split at h
 ·rename_i hx
  cases h
  exact⟨_,Classical.choose_spec (Classical.choose_spec hx)⟩
 ·cases h
theorem O7{c:TT}{tb:TS}{fc:Ev→Option Bool}{b:Ev→Option Fl}(hc:fN K c fc)(hb:JS K tb b):JS K (zf c tb) (iu fc b):=by
 intro H₀ I O H σ env Ds fl R e q
 obtain⟨n,e⟩:=M5 e
 refine⟨fun n σ2 H2=>∃O2 dB,Rel K H₀ I O2 H2 σ2 dB∧aS O H O2 H2∧dn fc b n dB=some fl,⟨n,O,env,R,aS.refl,e⟩,?_⟩
 rintro n σ2 H2 ⟨O2,dB,R2,st,ef⟩
 cases n with
 |zero=>cases ef
 |succ n =>
  simp only[dn]at ef
  obtain⟨k,ek,ef⟩:=aB ef
  refine hc H₀ O2 H2 σ2 dB _ k R2.e ek fun H3 s3=>?_
  have bA:=st.trans (aS.same (O:=O2) s3)
  cases k with
  |false =>
   rw[if_neg aX]at ef ⊢
   cases ef
   exact q O2 H3 σ2 (R2.keep s3) bA
  |true =>
   rw[if_pos rfl]at ef ⊢
   obtain⟨r,er,ef⟩:=aB ef
   refine⟨fun σ' H'=>∃O2 dB,Rel K H₀ I O2 H' σ' dB∧aS O H O2 H'∧dn fc b n dB=some fl,fun σ' H' ⟨O3,e3,R3,s3,f3⟩=>⟨n,Nat.lt_succ_self n,O3,e3,R3,s3,f3⟩,?_⟩
   refine hb H₀ I O2 H3 σ2 dB _ r (R2.keep s3) er ?_
   cases r with
   |nx e2=>exact fun O5 H5 σ5 R5 fB=>⟨O5,e2,R5,bA.trans fB,ef⟩
   |ct e2=>exact fun O5 H5 σ5 R5 fB=>⟨O5,e2,R5,bA.trans fB,ef⟩
   |bk e2=>cases ef;exact(q.pre bA)
   |rt e2 m' d'=>cases ef;exact(q.pre bA)
noncomputable def G9(K:PySem.W.Frag)(H H':Hp):M→D→V→Prop
 |.un,d,v=>∃p,v=.ref p∧H p=none∧Cell K (fun a=>H a=none∧a≠p) H' p d
 |.fr,d,v=>Rp K (fun a=>H a=none) H' v d
 |_,_,_=>False
noncomputable def nF(K:PySem.W.Frag)(n:Nat)(F:List D→Option (M×D)):Sp:=fun vs H Q _=>vs.length=n∧∃ds m d,ay K (fun _=>True) H vs ds∧F ds=some (m,d)∧∀v H',aL H H'→G9 K H H' m d v→Q v H'
noncomputable def out:Fl→Option (M×D)
 |.nx _=>some (.fr,.non)
 |.rt _ .un d=>some (.un,d)
 |.rt _ .bo d=>some (.un,d)
 |.rt _ .fr d=>some (.fr,d)
 |.rt _ .rb d=>some (.fr,d)
 |.rt _ .nb d=>some (.fr,d)
 |.rt _ .al d=>if d.cn=true then some (.fr,d)else none
 |_=>none
noncomputable def fn(L:Nat)(g:Ev→Option Fl):List D→Option (M×D):=fun ds=>(g (ds.map (fun d=>some (.al,d))++List.replicate (L-ds.length) none)).bind out
theorem NV{vs:List V}{ds:List D}(r:ay K (fun _=>True) H vs ds)(k:Nat):Paired (fun(e:Option (M×D)) (x:Option V)=>∀m d,e=some (m,d)→iO m=true∧∃v,x=some v∧Val K H (fun _=>False) HE H m d v) (ds.map (fun d=>some (.al,d))++List.replicate k none) (vs.map some++List.replicate k none):=by
 have rep:∀k,Paired (fun(e:Option (M×D)) (x:Option V)=>∀m d,e=some (m,d)→iO m=true∧∃v,x=some v∧Val K H (fun _=>False) HE H m d v) (List.replicate k none) (List.replicate k none):=fun k=>by
  induction k with
  |zero=>exact .nil
  |succ k ih=>exact .cons (fun m d e=>nomatch e) ih
 have go:∀{vs:List V}{ds:List D},ay K (fun _=>True) H vs ds→Paired (fun(e:Option (M×D)) (x:Option V)=>∀m d,e=some (m,d)→iO m=true∧∃v,x=some v∧Val K H (fun _=>False) HE H m d v) (ds.map (fun d=>some (.al,d))++List.replicate k none) (vs.map some++List.replicate k none):=by
  intro vs ds
  induction vs generalizing ds with
  |nil=>intro r;cases r;exact rep k
  |cons v vs ih=>intro r;cases r with|cons h r=>exact .cons (fun m d e=>by cases e;exact⟨rfl,v,rfl,h.wk fun _ _ _ z=>z⟩) (ih r)
 exact go r
theorem NW{ds:List D}{k i:Nat}{d:D}(h:(ds.map (fun d=>some (M.al,d))++List.replicate k none)[i]?=some (some (M.bi,d))):False:=by
 have hm:=dO h
 rcases List.mem_append.mp hm with z|z
 ·obtain⟨d,_,e⟩:=bZ.mp z;cases e
 ·have:=List.eq_of_mem_replicate z;cases this
theorem C9{ds:List D}{k i:Nat}{d:D}(h:(ds.map (fun d=>some (M.al,d))++List.replicate k none)[i]?=some (some (M.nb,d))):False:=by
 have hm:=dO h
 rcases List.mem_append.mp hm with z|z
 ·obtain⟨d,_,e⟩:=bZ.mp z;cases e
 ·have:=List.eq_of_mem_replicate z;cases this
theorem E2{ts:TS}{g:Ev→Option Fl}{n:Nat}{N:List Str}{vs:List V}{Q:VK}{E:XK}(h:JS K ts g)(hs:nF K n (fn N.length g) vs H Q E):ts { nx:=fun _ H'=>Q .non H',rt:=Q } (L2.start N vs) H:=by
 obtain⟨hl,ds,m,d,r,e,q⟩:=hs
 obtain⟨fl,ef,eo⟩:=aB e
 have R:Rel K H (fun _=>none) (fun _=>False) H (L2.start N vs) (ds.map (fun d=>some (.al,d))++List.replicate (N.length-ds.length) none) :=
  ⟨⟨by unfold L2.start;rw[r.len];exact NV r _,fun _ z=>z.elim,fun a o e=>⟨o,e⟩,fun _ _ z=>z.elim⟩,fun a o _ e=>e,fun _ z=>z.elim,fun i d p h1=>(NW h1).elim,(fun i j x y p h1 h2 o1 o2=>by
   exfalso
   have k:∀{i:Nat}{x:M×D},(ds.map (fun d=>some (M.al,d))++List.replicate (N.length-ds.length) none)[i]?=some (some x)→x.1=.al:=fun {i x} h=>by
    have hm:=dO h
    rcases List.mem_append.mp hm with z|z
    ·obtain⟨d,_,e⟩:=bZ.mp z;cases e;rfl
    ·have:=List.eq_of_mem_replicate z;cases this
   rw[k h1]at o1;cases o1),⟨fun i j d d' h1=>(C9 h1).elim,fun i j d x p q xs h1=>(C9 h1).elim⟩⟩
 refine h H (fun _=>none) (fun _=>False) H _ _ _ fl R ef ?_
 cases fl with
 |nx e'=>cases eo;exact fun O' H' σ' R' st=>q .non H' (fun a o e=>R'.fr a o (fun _ z=>nomatch z) e) Rp.non
 |bk e'=>cases eo
 |ct e'=>cases eo
 |rt e' m' d' =>
  intro O' H' σ' v R' st hv
  have sm:aL H H':=fun a o e=>R'.fr a o (fun _ z=>nomatch z) e
  cases m'<;>simp only[out]at eo
  ·split at eo
   ·rename_i hi;cases eo;exact q v H' sm (show Rp K _ H' v d from hv.weak.im hi)
   ·cases eo
  ·cases eo;exact q v H' sm (show Rp K _ H' v d from Rp.wk (fun a h _=>h.2) hv)
  ·cases eo
   obtain⟨p,rfl,_,h0,_,c⟩:=hv
   exact q _ H' sm ⟨p,rfl,h0,c.wk fun a h _=>⟨h.1.2,h.2⟩⟩
  ·cases eo
   obtain⟨p,rfl,hO,h0,c⟩:=hv
   exact q _ H' sm ⟨p,rfl,h0,c.wk fun a h _=>⟨h.2,fun z=>h.1 (z▸hO)⟩⟩
  ·cases eo
  ·cases eo;exact q v H' sm (show Rp K _ H' v d from hv)
  ·cases eo;exact q v H' sm (show Rp K _ H' v d from jh.rp (fun _ z=>z) hv)
noncomputable def au(F:List D→Option (M×D))(fs:Ev→Option (List (M×D))):Ev→Option (M×D):=fun e=>(fs e).bind fun aD=>F (aD.map (·.2))
theorem QS{m:M}{d:D}{v:V}(od:∀a,O a→∃o,H a=some o)(hd:∀a o,H₀ a=some o→∃o',H a=some o')(h:G9 K H H' m d v):Val K H₀ O H H' m d v:=by
 cases m<;>try exact h.elim
 ·exact Rp.wk (fun a h _=>⟨iW od h,lh hd h⟩) h
 ·obtain⟨p,rfl,hp,c⟩:=h
  exact⟨p,rfl,hp,lh hd hp,iW od hp,c.wk fun a h _=>⟨⟨iW od h.1,lh hd h.1⟩,h.2⟩⟩
theorem QT{n:Nat}{F:List D→Option (M×D)}{ta:TA}{fs:Ev→Option (List (M×D))}{E:XK}(ha:iP K ta fs)(hl:∀e aD,fs e=some aD→aD.length=n):JT K (rn (nF K n F) [] E ta) (au F fs):=by
 intro H₀ O H σ env Q m d R h q
 obtain⟨aD,e,h⟩:=aB h
 refine ha H₀ O H σ env _ aD R e fun vs H1 s1 h1=>?_
 have R1:=R.keep s1
 rw[List.append_nil]
 refine⟨by rw[←Paired.length h1];exact hl _ _ e,aD.map (·.2),m,d,h1.jw (fun md hm v hv=>hv.weak),h,fun v H2 s2 h2=>?_⟩
 exact q v H2 (s1.trans s2) ((QS R1.od R1.hd h2).hb fun a z=>s1.free z)
end
section
variable {K:PySem.W.Frag}{H H' H₀:Hp}{O O':Addr→Prop}{σ:St}{env:Ev}
noncomputable def dN:M×D→Option (M×D)
 | (_,.int i)=>some (.fr,.int (-i))
 |_=>none
noncomputable def gi:M×D→Option (M×D)
 | (_,.int i)=>some (.fr,.int (Builtin.bitNot i))
 |_=>none
theorem Uj:JU K (rU fun i=>.int (-i)) dN:=by
 intro H₀ O H x a Q m d _ _ h1 h q
 obtain⟨ma,da⟩:=a
 cases da<;>cases h
 exact⟨_,h1.int,q _ H (aL.refl H) iZ⟩
theorem Uk:JU K (rU fun i=>.int (Builtin.bitNot i)) gi:=by
 intro H₀ O H x a Q m d _ _ h1 h q
 obtain⟨ma,da⟩:=a
 cases da<;>cases h
 exact⟨_,h1.int,q _ H (aL.refl H) iZ⟩
noncomputable def cT:=sD Builtin.bitAnd
noncomputable def jS:=sD Builtin.bitOr
theorem QV:JR K (fC fun i j=>.int (Builtin.bitAnd i j)) cT:=vA
theorem Ul:JR K (fC fun i j=>.int (Builtin.bitOr i j)) jS:=vA
def Hc(i j:Int):Prop:=0<j∧j<1606938044258990275541962092341162602522202993782792835301376
noncomputable def cA:=gI (fun _ j=>0<j∧j<1606938044258990275541962092341162602522202993782792835301376) (· / ·)
theorem QW:JR K (rI Hc fun i j=>.int (i/j)) cA:=pv fun _ _ h=>h
theorem log2_lt{n:Nat}(h:n<2^200):n.log2<9000:=by
 rcases Nat.eq_zero_or_pos n with rfl|h0
 ·decide
 ·exact Nat.lt_trans ((Nat.log2_lt (by omega)).mpr h) (by decide)
theorem O8{X:Cx}:bD X (binaryOp .FloorDiv) (rI Hc fun i j=>.int (i/j)):=pJ fun i j _ _ _ _ _ hc q=>by
 have e:i/j=i.fdiv j:=(Int.fdiv_eq_ediv_of_nonneg i (Int.le_of_lt hc.1)).symm
 rw[e]at q
 have h1:=hc.1
 have h2:=hc.2
 have hl:j.natAbs<2^200:=by
  have e2:(2:Nat)^200=1606938044258990275541962092341162602522202993782792835301376:=by decide
  rw[e2];omega
 exact PyProof.Rows.floordiv_int (Int.ne_of_gt hc.1) q (.inl (PyProof.noPylong_of_log2 (log2_lt hl)))
theorem QX{X:Cx}:bD X (binaryOp .Add) (vB X.K):=by
 intro pins s σ H x y v u Q I rx ry h
 obtain⟨l,b,xs,zs,rfl,rfl,hl,hb,hz,q⟩:=h
 cases (show v=Value.ref l from rx)
 cases (show u=Value.ref b from ry)
 obtain⟨its,r,pl,_⟩:=I.list hl
 obtain⟨rK,r2,pm,_⟩:=I.list hb
 obtain⟨⟨cls,dd,data,sl⟩,ho,hc,n,hd⟩:=pl.isList
 obtain⟨⟨XE,wx,data2,pL⟩,iL,gJ,n2,hd2⟩:=pm.isList
 simp only at hc hd gJ hd2
 subst hc hd gJ hd2
 have ea:its.toArray++rK.toArray=(its++rK).toArray:=by simp
 have e1:=r.length
 have e2:=r2.length
 refine concat_meets ⟨_,ho,rfl⟩ ⟨_,iL,rfl⟩ noFill_list_add seq_list_add PySem.F.slot_list_add PySem.F.entry_list_add (PySem.F.args_list_add_2 _ _) (PyProof.Rows.list_addW l b its.toArray rK.toArray n n2 dd wx sl pL (by rw[List.size_toArray,List.size_toArray];omega)) ⟨ho,iL,?_⟩
 rw[ea]
 exact⟨.ref _,_,I.XH (t':=s.toks) (r.append r2) (by rw[List.length_append];omega),rfl,q _ I.fresh⟩
theorem O9{X:Cx}(h:X.K=K):bD X (binaryOp .Add) (vB K):=by subst h;exact QX
theorem Pa{r r':R2}{g g':M×D→M×D→Option (M×D)}{ta tb tc:TE}{fa fb fc:Ev→Option (M×D)}(hr:JR K r g)(YZ:JR K r' g')(ha:JT K ta fa)(hb:JT K tb fb)(hc:JT K tc fc):JT K (FQ r r' ta tb tc) (oH g g' fa fb fc):=by
 intro H₀ O H σ env Q m d R h q
 obtain⟨a,ea,h⟩:=aB h
 obtain⟨b,eb,h⟩:=aB h
 obtain⟨z,ez,h⟩:=aB h
 obtain⟨k,ek,h⟩:=aB h
 refine ha H₀ O H σ env _ a.1 a.2 R ea fun x H1 s1 h1=>?_
 refine hb H₀ O H1 σ env _ b.1 b.2 (R.keep s1) eb fun y H2 s2 h2=>?_
 have R2:=(R.keep s1).keep s2
 refine hr H₀ O H2 x y a b _ z.1 z.2 R2.od R2.hd (h1.keep s2).h0 h2.h0 ez fun v H3 s3 h3=>?_
 rw[oG ek]at h3
 refine⟨k,h3.bl,?_⟩
 cases k with
 |false =>
  rw[if_neg aX]at h ⊢
  cases h
  exact q _ H3 ((s1.trans s2).trans s3) fX
 |true =>
  rw[if_pos rfl]at h ⊢
  obtain⟨c,ec,h⟩:=aB h
  refine hc H₀ O H3 σ env _ c.1 c.2 (R2.keep s3) ec fun w H4 s4 h4=>?_
  have R4:=(R2.keep s3).keep s4
  refine YZ H₀ O H4 y w b c Q m d R4.od R4.hd ((h2.keep s3).keep s4).h0 h4.h0 h fun v H5 s5 h5=>?_
  have s:=((s1.trans s2).trans s3).trans s4
  exact q v H5 (s.trans s5) (h5.hb fun a z=>s.free z)
noncomputable def vZ:List D→Option (List V)
 |[]=>some []
 |d::ds=>(eO d).bind fun v=>(vZ ds).bind fun r=>some (v::r)
theorem E3{N:Addr→Prop}:∀{ds:List D}{vs ws:List V},ay K N H vs ds→vZ ds=some ws→vs=ws∧ws.all jL=true
 |_,_,_,.nil,e=>by cases e;exact⟨rfl,rfl⟩
 |d::ds,v::vs,ws,.cons h r,e=>by
  obtain⟨w,ew,e⟩:=aB e
  obtain⟨r',er,e⟩:=aB e
  cases e
  obtain⟨rfl,f⟩:=E3 r er
  obtain rfl:=oS h ew
  refine⟨rfl,?_⟩
  rw[List.all_cons,f,Bool.and_true]
  cases h<;>simp only[eO]at ew<;>first|rfl|cases ew
noncomputable def v3:D→Option (List D)
 |.lst ds=>some ds
 |.tup ds=>some ds
 |_=>none
noncomputable def fu(neg:Bool):M×D→M×D→Option (M×D):=fun a b=>(eO a.2).bind fun x=>(v3 b.2).bind fun ds=>(vZ ds).bind fun vs=>some (.fr,.bl (if neg then !fh x vs else fh x vs))
theorem seq_val{m:M}{d:D}{ds:List D}{v:V}{Hb:Hp}(e:v3 d=some ds)(h:Val K H₀ O Hb H m d v):∃p xs,v=.ref p∧(bV K H p xs∨bJ K H p xs)∧ay K (NM H₀ O (aV m)) H xs ds:=by
 cases d<;>simp only[v3]at e<;>cases e
 ·obtain⟨p,xs,rfl,h,r⟩:=h.tup;exact⟨p,xs,rfl,.inr h,r⟩
 ·obtain⟨p,xs,rfl,h,r⟩:=h.lst;exact⟨p,xs,rfl,.inl h,r⟩
theorem Pb{d:D}{x:V}(e:eO d=some x):jL x=true:=by
 cases d<;>simp only[eO]at e<;>cases e<;>rfl
theorem Hd{neg:Bool}:JR K (sv K neg) (fu neg):=by
 intro H₀ O H x y a b Q m d _ _ h1 h2 h q
 obtain⟨x',ex,h⟩:=aB h
 obtain⟨ds,ed,h⟩:=aB h
 obtain⟨vs,ev,h⟩:=aB h
 cases h
 obtain⟨p,xs,rfl,hs,r⟩:=seq_val ed h2
 obtain⟨rfl,f⟩:=E3 r ev
 obtain rfl:=oS h1.weak ex
 exact⟨p,_,rfl,hs,Pb ex,f,q _ H (aL.refl H) fX⟩
theorem Pg{m:M}(h:fK m=true):iO m=true:=by cases m<;>first|rfl|cases h
noncomputable def eE:Ev→Option Bool:=fun _=>some true
theorem E4:fN K vV eE:=by
 intro H₀ O H σ env Q b R h q
 cases h
 exact q H (aL.refl H)
noncomputable def fP(e:Ev)(ix:List Nat):Ev:=ix.map fun i=>(e[i]?).getD none
noncomputable def dI(fc:Ev→Option Bool)(fe:Ev→Option (M×D))(m:M)(fr:Ev):List D→Option (List (M×D))
 |[]=>some []
 |d::ds=>(fc (some (m,d)::fr)).bind fun b=>if b=true then (fe (some (m,d)::fr)).bind fun x=>(dI fc fe m fr ds).bind fun r=>some (x::r)else dI fc fe m fr ds
noncomputable def cF(it:Ev→Option (M×List D))(ix:List Nat)(fc:Ev→Option Bool)(fe:Ev→Option (M×D)):Ev→Option (M×D):=fun e=>(it e).bind fun x=>(dI fc fe x.1 (fP e ix) x.2).bind iA
theorem eD.fr{ix:List Nat}(R:eD K H₀ O H σ env):Paired (fun(e:Option (M×D)) (x:Option V)=>∀m d,e=some (m,d)→iO m=true∧∃v,x=some v∧Val K H₀ O HE H m d v) (fP env ix) (fT σ ix):=by
 unfold fP fT
 induction ix with
 |nil=>exact .nil
 |cons i ix ih =>
  refine .cons (fun m d e=>?_) ih
  have e':env[i]?=some (some (m,d)):=by
   have e:(env[i]?).getD none=some (m,d):=e
   cases q:env[i]? with
   |none=>rw[q]at e;cases e
   |some z=>rw[q]at e;exact congrArg some e
  obtain⟨v,hv,n,h⟩:=R.at e'
  exact⟨n,v,by show(σ[i]?).getD none=_;rw[hv];rfl,h⟩
theorem eD.more{C:Addr}(R:eD K H₀ O H σ env)(hC:H C=none){H2:Hp}(s:aL H H2)(ys:List V)(e:H2 C=some (.lst ys)):eD K H₀ (fun a=>O a∨a=C) H2 σ env:=by
 have np:∀a,(∃o,H a=some o)→a≠C:=fun a ⟨o,e⟩=>fF e hC
 have w:∀{N:Addr→Prop}{d:D}{v:V},Rp K N H v d→Rp K (fun a=>N a∧a≠C) H2 v d:=fun r=>(r.wk fun a n e=>⟨n,np a e⟩).keep (.same s)
 have ws:∀{N:Addr→Prop}{d:D}{q:Addr},Cell K N H q d→Cell K (fun a=>N a∧a≠C) H2 q d:=fun {N d q} r=>by
  obtain⟨o,e,_⟩:=r.some
  exact(r.wk fun a n e=>⟨n,np a e⟩).keep (.same s) ((s _ _ e).trans e.symm)
 refine⟨lz (fun e x h m d q=>?_) R.sl,fun a h=>?_,fun a o h=>?_,fun a o h q=>?_⟩
 ·obtain⟨n,v,rfl,z⟩:=h m d q
  refine⟨n,v,rfl,?_⟩
  cases m
  ·exact(w z).wk fun a h _=>fun z=>z.elim h.1 h.2
  ·exact(w z).wk fun a h _=>⟨fun z=>z.elim h.1.1 h.2,h.1.2⟩
  ·cases n
  ·obtain⟨q,rfl,h1,h2,c'⟩:=z
   exact⟨q,rfl,.inl h1,h2,(ws c').wk fun a h _=>⟨fun z=>z.elim h.1.1 h.2,h.1.2⟩⟩
  ·obtain⟨q,rfl,h1,c'⟩:=z
   exact⟨q,rfl,.inl h1,(ws c').wk fun a h _=>⟨fun z=>z.elim h.1.1 h.2,h.1.2⟩⟩
  ·cases n
  ·obtain⟨q,qs,aR,e1,e2,h1,h2,h3,h4,h5,h6⟩:=z
   exact⟨q,qs,aR,e1,e2,.inl h1,h2,s _ _ h3,h4,fun x hx=>⟨.inl (h5 x hx).1,(h5 x hx).2⟩,kf (fun x ds _ ⟨xs,a,r⟩=>⟨xs,s _ _ a,((r.wk fun a n e=>(⟨n,np a e⟩:(¬O a∧H₀ a=none)∧a≠C)).keep (.same s)).wk fun a h _=>⟨fun z=>z.elim h.1.1 h.2,h.1.2⟩⟩) h6⟩
 ·rcases h with h|rfl
  ·obtain⟨o,q⟩:=R.od a h;exact⟨o,s _ _ q⟩
  ·exact⟨_,e⟩
 ·obtain⟨o',q⟩:=R.hd a o h;exact⟨o',s _ _ q⟩
 ·rcases h with h|rfl
  ·exact(R.keep s).on a o h q
  ·rw[e]at q;cases q;exact fun z=>z
theorem DG{J:It}{m:M}{ds:List D}{tc:TT}{te:TE}{fc:Ev→Option Bool}{fe:Ev→Option (M×D)}{H1:Hp}{ix:List Nat}{cJ:List (M×D)}{bb:Bool}{Q:Addr→Hp→Prop}{C:Addr}
  (R:eD K H₀ O H1 σ env) (hm:fK m=true) (ok:kC K H₀ O J H1 m ds) (hc:fN K tc fc) (he:JT K te fe) (hl:cJ.length≤sizeLine) (et:dI fc fe m (fP env ix) ds=some cJ)
  (hs:∀x∈cJ,(if bb then dD x.1 x.2 else gO x.1 x.2)=true) (hC:H1 C=none)
  (q:∀ys H',aL H1 H'→H' C=some (.lst ys)→ay K (fun a=>¬(O a∨a=C)∧(bb=true→H₀ a=none)) H' ys (cJ.map (·.2))→Q C H'):zI J C H1 (fT σ ix) tc te Q:=by
 have hN:∀{N:Addr→Prop}{Ha Hb:Hp},(∀a,N a→a≠C)→(∀b o,b≠C→Ha b=some o→Hb b=some o)→(∀o,Ha C=some o→¬iN o)→Keeps N Ha Hb:=fun w s nt a o e z=>s a o (by
  rcases z with z|z
  ·exact w a z
  ·rintro rfl;exact nt o e z) e
 refine⟨fun i n H2=>n=ds.length-i∧i≤ds.length∧aL H1 H2∧∃ys acc rest,H2 C=some (.lst ys)∧dI fc fe m (fP env ix) (ds.drop i)=some rest∧cJ=acc++rest∧ay K (fun a=>¬(O a∨a=C)∧(bb=true→H₀ a=none)) H2 ys (acc.map (·.2)),⟨_,rfl,Nat.zero_le _,cY hC,[],[],cJ,bS,et,rfl,.nil⟩,?_⟩
 rintro i n H2 ⟨rfl,hle,s2,ys,acc,rest,nD,er,pA,rr⟩
 have bw:aS O H1 O H2:=aS.same s2
 by_cases aZ:i<ds.length
 ·refine .inr ⟨ok.go O H2 i bw aZ,fun x H3 y=>?_⟩
  have XU:aS O H1 (fun a=>O a∨a=C) H2:=fun a o e n=>⟨s2 a o e,fun z=>z.elim n (fF e hC)⟩
  obtain⟨s3,d,hd,hv⟩:=ok.jn (fun a=>O a∨a=C) H2 i x H3 XU aZ y
  have R2:=R.more hC s2 ys nD
  have R3:=R2.keep s3
  have J0:eD K H₀ (fun a=>O a∨a=C) H3 (some x::fT σ ix) (some (m,d)::fP env ix) :=
   ⟨.cons (fun m' d' e=>by cases e;exact⟨Pg hm,x,rfl,hv⟩) R3.fr,R3.od,R3.hd,R3.on⟩
  have sJ:ds.drop i=d::ds.drop (i+1):=by
   rw[List.drop_eq_getElem_cons aZ]
   rw[dU aZ]at hd
   cases hd;rfl
  rw[sJ]at er
  simp only[dI]at er
  obtain⟨b,eb,er⟩:=aB er
  refine hc H₀ _ H3 _ _ _ b J0 eb fun H4 s4=>?_
  cases b with
  |true =>
   rw[if_pos rfl]at er ⊢
   obtain⟨z,ez,er⟩:=aB er
   obtain⟨r',Y0,er⟩:=aB er
   cases er
   refine he H₀ _ H4 _ _ _ z.1 z.2 (J0.keep s4) ez fun w H5 s5 h5=>?_
   have wL:aL H2 H5:=(s3.trans s4).trans s5
   have Y1:ys.length=acc.length:=by rw[rr.len,List.length_map]
   have iS:acc.length<sizeLine:=by
    have e1:=congrArg List.length pA
    rw[List.length_append,List.length_cons]at e1
    omega
   refine⟨ys,wL _ _ nD,by rw[Y1];exact iS,ds.length-(i+1),by omega,rfl,aZ,?_,ys++[w],acc++[z],r',bS,Y0,by rw[pA,List.append_assoc];rfl,?_⟩
   ·intro a o e
    rw[aK (fF e hC)]
    exact wL _ _ (s2 _ _ e)
   ·rw[List.map_append]
    have hz:Rp K (fun a=>¬(O a∨a=C)∧(bb=true→H₀ a=none)) H5 w z.2:=by
     have h:=hs z (by rw[pA];exact List.mem_append_right _ cv)
     cases bb with
     |true=>exact(h5.dD h).wk fun a h _=>⟨h.1,fun _=>h.2⟩
     |false=>exact(h5.gO h).wk fun a h _=>⟨h,fun z=>nomatch z⟩
    have kp:Keeps (fun a=>¬(O a∨a=C)∧(bb=true→H₀ a=none)) H5 (upd H5 C (.lst (ys++[w]))):=hN (fun a h z=>h.1 (.inr z)) (fun b o ne e=>by rw[aK ne];exact e) (fun o e=>by rw[wL _ _ nD]at e;cases e;exact fun z=>z)
    exact((rr.keep (.same wL)).keep kp).app (.cons (hz.keep kp) .nil)
  |false =>
   rw[if_neg aX]at er ⊢
   have Bq:=s3.trans s4
   exact⟨ds.length-(i+1),by omega,rfl,aZ,s2.trans Bq,ys,acc,rest,Bq _ _ nD,er,pA,rr.keep (.same Bq)⟩
 ·have hi:i=ds.length:=by omega
  subst hi
  rw[List.drop_length]at er
  cases er
  rw[List.append_nil]at pA
  subst pA
  exact .inl ⟨ok.stop O H2 bw,q ys H2 s2 nD rr⟩
theorem uZ{wi:TI}{ix:List Nat}{tc:TT}{te:TE}{it:Ev→Option (M×List D)}{fc:Ev→Option Bool}{fe:Ev→Option (M×D)}(hi:JI K wi it)(hc:fN K tc fc)(he:JT K te fe):JT K (oR wi ix tc te) (cF it ix fc fe):=by
 intro H₀ O H σ env Q m d R e q
 obtain⟨⟨mi,ds⟩,ei,e⟩:=aB e
 obtain⟨cJ,et,e⟩:=aB e
 refine hi H₀ O H σ env _ mi ds R ei fun J H1 s1 hm ok C hC=>?_
 have R1:=R.keep s1
 unfold iA at e
 split at e
 ·rename_i hl
  split at e
  ·rename_i ha
   cases e
   rw[List.all_eq_true]at ha
   refine DG (bb:=true) R1 hm ok hc he hl et (fun x hx=>ha x hx) hC fun ys H' s' hy r=>?_
   refine q _ H' (s1.trans s') ⟨C,rfl,s1.free hC,lh R1.hd hC,iW R1.od hC,ys,hy,r.wk fun a h _=>⟨⟨fun z=>h.1 (.inl z),h.2 rfl⟩,fun z=>h.1 (.inr z)⟩⟩
  ·split at e
   ·rename_i ha
    cases e
    rw[List.all_eq_true]at ha
    refine DG (bb:=false) R1 hm ok hc he hl et (fun x hx=>ha x hx) hC fun ys H' s' hy r=>?_
    exact q _ H' (s1.trans s') (Rp.lst (.inl hy) (iW R1.od hC) (r.wk fun a h _=>fun z=>h.1 (.inl z)))
   ·cases e
 ·cases e
theorem QY:∀e aD,ah e=some aD→aD.length=0:=fun e aD h=>by cases h;rfl
theorem Ph{n:Nat}{f:Ev→Option (M×D)}{g:Ev→Option (List (M×D))}(h:∀e aD,g e=some aD→aD.length=n):∀e aD,ae f g e=some aD→aD.length=n+1:=fun e aD q=>by
 obtain⟨x,ex,q⟩:=aB q
 obtain⟨r,er,q⟩:=aB q
 cases q
 rw[List.length_cons,h e r er]
end
section
variable {K:PySem.W.Frag}{H H' H₀:Hp}{O O':Addr→Prop}{σ:L2.St}{env:Ev}
theorem Ao{X:Cx}{f:Value→Value→Sem Value}{r r':R2}(h:bD X f r)(h':bD X f r'):bD X f (fun x y H Q=>r x y H Q∨r' x y H Q) :=
 fun pins s σ H x y v u Q I rx ry q=>q.elim (h pins s σ H x y v u Q I rx ry) (h' pins s σ H x y v u Q I rx ry)
noncomputable def nG(g g':M×D→M×D→Option (M×D)):M×D→M×D→Option (M×D):=fun a b=>match g a b with
 |some z=>some z
 |none=>g' a b
theorem zM{r r':R2}{g g':M×D→M×D→Option (M×D)}(h:JR K r g)(h':JR K r' g'):JR K (fun x y H Q=>r x y H Q∨r' x y H Q) (nG g g'):=by
 intro H₀ O H x y a b Q m d od hd h1 h2 e q
 unfold nG at e
 split at e
 ·rename_i z ez;cases e;exact .inl (h H₀ O H x y a b Q m d od hd h1 h2 ez q)
 ·exact .inr (h' H₀ O H x y a b Q m d od hd h1 h2 e q)
noncomputable def oT:M×D→M×D→Option (M×D)
 | (_,.str x),(_,.str y)=>if x.length+y.length≤sizeLine then some (.fr,.str (x++y))else none
 |_,_=>none
theorem QZ:JR K (fun x y H Q=>∃i j,x=.str i∧y=.str j∧i.length+j.length≤sizeLine∧Q (.str (i++j)) H) oT:=by
 intro H₀ O H x y a b Q m d _ _ h1 h2 h q
 obtain⟨ma,da⟩:=a;obtain⟨mb,db⟩:=b
 cases da<;>try (cases h;done)
 cases db<;>try (cases h;done)
 simp only[oT]at h
 split at h
 ·rename_i hl;cases h
  exact⟨_,_,h1.str,h2.str,hl,q _ H (aL.refl H) zJ⟩
 ·cases h
noncomputable def vC(K:PySem.W.Frag):R2:=fun x y H Q=>∃a b xs ys,x=.ref a∧y=.ref b∧bJ K H a xs∧bJ K H b ys∧xs.length+ys.length≤sizeLine∧∀p H',aL H H'→bJ K H' p (xs++ys)→Q (.ref p) H'
theorem Q0{X:Cx}:bD X (binaryOp .Add) (vC X.K):=by
 intro pins s σ H x y v u Q I rx ry h
 obtain⟨a,b,xs,ys,rfl,rfl,ha,hb,hz,q⟩:=h
 by_cases e:xs=[]
 ·subst e
  cases rx;cases ry
  obtain⟨its,r1,p1,_⟩:=I.tuple ha;obtain⟨rK,r2,p2,_⟩:=I.tuple hb
  cases r1
  exact OQ p1 p2 ⟨.ref b,H,I,rfl,q b H (aL.refl H) hb⟩
 ·refine Qs pins s σ H (.ref a) (.ref b) v u Q I rx ry ⟨a,b,xs,ys,rfl,rfl,ha,hb,e,hz,fun e2=>?_,fun _ p hp=>q p _ (cY hp) (bJ.of bS)⟩
  subst e2
  exact q a H (aL.refl H) (by rw[List.append_nil];exact ha)
theorem Pj{X:Cx}(h:X.K=K):bD X (binaryOp .Add) (vC K):=by subst h;exact Q0
noncomputable def vD:M×D→M×D→Option (M×D)
 | (m,.tup ds),(n,.tup es)=>if aV m=.rb∨aV n=.rb then none else if ds.length+es.length≤sizeLine then some (aV (mJ m n),.tup (ds++es))else none
 |_,_=>none
theorem Q5:JR K (vC K) vD:=by
 intro H₀ O H x y a b Q m d od hd h1 h2 h q
 obtain⟨ma,da⟩:=a;obtain⟨mb,db⟩:=b
 cases da<;>try (cases db<;>cases h;done)
 cases db<;>try (cases h;done)
 simp only[vD]at h
 split at h
 ·cases h
 ·rename_i hn
  split at h
  ·rename_i hl
   cases h
   obtain⟨p,xs,rfl,r,s⟩:=h1.tup
   obtain⟨p',Bl,rfl,r',s'⟩:=h2.tup
   have n1:aV ma≠.rb:=fun z=>hn (.inl z)
   have n2:aV mb≠.rb:=fun z=>hn (.inr z)
   refine⟨p,p',xs,Bl,rfl,rfl,r,r',by rw[s.len,s'.len];exact hl,fun l H' sm hq=>q _ _ sm (Val.el (Rp.tup hq ?_))⟩
   exact(ay.app (s.wk fun _ h _=>NM.JW n1 n2 h) (s'.wk fun _ h _=>NM.JX n1 n2 h)).keep (.same sm)
  ·cases h
def Ap(K:PySem.W.Frag):V→Option Int→Option Int→Hp→VK→Prop:=fun x lo hi H Q=>∃a xs,x=.ref a∧bJ K H a xs∧∀p H',aL H H'→bJ K H' p (jc xs lo hi)→Q (.ref p) H'
theorem Q6{X:Cx}:kQ X (Ap X.K):=by
 intro pins s σ H x v vl vu lo hi sl Q I rx hs pl pu h
 obtain⟨a,xs,rfl,hx,q⟩:=h
 by_cases e:HT.aY xs.length 0 lo=0∧HT.aY xs.length xs.length hi=xs.length
 ·cases rx
  obtain⟨its,r,ht,hz⟩:=I.tuple hx
  have hlen:its.toArray.size=xs.length:=by rw[List.size_toArray];exact r.length.symm
  refine⟨"tuple",_,PyProof.Rows.slot_tuple_getitem.lookup,ht.typeIs,Md ht hs pl pu (by rw[hlen];exact e.1) (by rw[hlen];exact e.2) ⟨.ref a,H,I,rfl,q a H (aL.refl H) ?_⟩⟩
  have ec:jc xs lo hi=xs:=by unfold jc;rw[e.1,e.2,List.drop_zero,Nat.sub_zero];exact List.take_of_length_le (bf _)
  rw[ec];exact hx
 ·exact Tc pins s σ H (.ref a) v vl vu lo hi sl Q I rx hs pl pu ⟨a,xs,rfl,hx,e,fun p hp=>q p _ (cY hp) (bJ.of bS)⟩
noncomputable def Ic:M×D→Option Int→Option Int→Option (M×D)
 | (m,.tup ds),lo,hi=>some (aV m,.tup (cut ds lo hi))
 |_,_,_=>none
theorem Q7:lX K (Ap K) Ic:=by
 intro H₀ O H x lo hi a Q m d od hd h1 h q
 obtain⟨ma,da⟩:=a
 cases da<;>try (cases h;done)
 cases h
 obtain⟨p,xs,rfl,r,s⟩:=h1.tup
 exact⟨p,xs,rfl,r,fun l H' sm hq=>q _ _ sm (Val.el (Rp.tup hq (s.cut.keep (.same sm))))⟩
noncomputable def Aq:M×D→Option Int→Option Int→Option (M×D)
 | (_,.str z),lo,hi=>if z.length≤sizeLine then some (.fr,.str (Txt.slice z lo hi))else none
 |_,_,_=>none
theorem Q8:lX K (fun x lo hi H Q=>∃z:Str,x=.str z∧z.length≤sizeLine∧Q (.str (Txt.slice z lo hi)) H) Aq:=by
 intro H₀ O H x lo hi a Q m d od hd h1 h q
 obtain⟨ma,da⟩:=a
 cases da<;>try (cases h;done)
 simp only[Aq]at h
 split at h
 ·rename_i hl;cases h;exact⟨_,h1.str,hl,q _ H (aL.refl H) zJ⟩
 ·cases h
noncomputable def rS(g g':M×D→Option Int→Option Int→Option (M×D)):M×D→Option Int→Option Int→Option (M×D):=fun a l h=>match g a l h with
 |some z=>some z
 |none=>g' a l h
theorem F7{r r':V→Option Int→Option Int→Hp→VK→Prop}{g g':M×D→Option Int→Option Int→Option (M×D)}(h:lX K r g)(h':lX K r' g'):lX K (fun x l u H Q=>r x l u H Q∨r' x l u H Q) (rS g g'):=by
 intro H₀ O H x lo hi a Q m d od hd h1 e q
 unfold rS at e
 split at e
 ·rename_i z ez;cases e;exact .inl (h H₀ O H x lo hi a Q m d od hd h1 ez q)
 ·exact .inr (h' H₀ O H x lo hi a Q m d od hd h1 e q)
theorem F8{X:Cx}{r r':V→Option Int→Option Int→Hp→VK→Prop}(h:kQ X r)(h':kQ X r'):kQ X (fun x l u H Q=>r x l u H Q∨r' x l u H Q) :=
 fun pins s σ H x v vl vu lo hi sl Q I rx hs pl pu q=>q.elim (h pins s σ H x v vl vu lo hi sl Q I rx hs pl pu) (h' pins s σ H x v vl vu lo hi sl Q I rx hs pl pu)
noncomputable abbrev z6(K:PySem.W.Frag):R2:=fun x y H Q=>fC (fun i j=>.int (i+j)) x y H Q∨(fun x y H Q=>(fun x y H Q=>∃i j,x=.str i∧y=.str j∧i.length+j.length≤sizeLine∧Q (.str (i++j)) H) x y H Q∨(fun x y H Q=>vB K x y H Q∨vC K x y H Q) x y H Q) x y H Q
noncomputable def bO:=nG Ib (nG oT (nG pw vD))
theorem Q9{X:Cx}(h:X.K=K):bD X (binaryOp .Add) (z6 K):=Ao SW (Ao MS (Ao (O9 h) (Pj h)))
theorem Ra:JR K (z6 K) bO:=zM TF (zM QZ (zM T7 Q5))
abbrev J1(K:PySem.W.Frag):V→Option Int→Option Int→Hp→VK→Prop:=fun x l u H Q=>z7 K x l u H Q∨(fun x l u H Q=>Ap K x l u H Q∨(fun x lo hi H Q=>∃z:Str,x=.str z∧z.length≤sizeLine∧Q (.str (Txt.slice z lo hi)) H) x l u H Q) x l u H Q
noncomputable def gQ:=rS Ak (rS Ic Aq)
theorem XW{X:Cx}(h:X.K=K):kQ X (J1 K):=by subst h;exact F8 Qu (F8 Q6 Tz)
theorem V7:lX K (J1 K) gQ:=F7 OX (F7 Q7 Q8)
noncomputable def sM:D→String
 |.non => "NoneType"
 |.bl _ => "bool"
 |.int _ => "int"
 |.str _ => "str"
 |.ty _ => "type"
 |.tup _ => "tuple"
 |.lst _ => "list"
 |.dk _ => "dict"
 |.dt _ => "dict"
noncomputable def kE:List (M×D)→Option (M×D)
 |[(_,d),(_,.ty T)]=>if sM d = "type" then none else if ["bool", "int", "str", "tuple", "list", "dict"].contains T=true then some (.fr,.bl (sM d==T||(sM d == "bool" && T == "int")))else none
 |_=>none
end
inductive TyJ (K:PySem.W.Frag)(H:Hp):V→String→Prop where
 |non:TyJ K H .non "NoneType"
 |bl (x:Bool):TyJ K H (.bl x) "bool"
 |int (i:Int):TyJ K H (.int i) "int"
 |str (x:Str):TyJ K H (.str x) "str"
 |lst {a:Addr}{xs:List V} (e:bV K H a xs):TyJ K H (.ref a) "list"
 |tup {a:Addr}{xs:List V} (e:bJ K H a xs):TyJ K H (.ref a) "tuple"
 |dK {a:Addr}{ai:List (Key×V)} (e:Rd H a (.dK ai)):TyJ K H (.ref a) "dict"
 |dT {a:Addr}{ai:List (List Key×V)} (e:Rd H a (.dT ai)):TyJ K H (.ref a) "dict"
noncomputable def sN(t T:String):Bool:=t==T||(t == "bool" && T == "int")
theorem Um (K:PySem.W.Frag) {t T:String} (h1:["NoneType", "bool", "int", "str", "tuple", "list", "dict"].contains t=true) (h2:["bool", "int", "str", "tuple", "list", "dict"].contains T=true):PySem.W.kitOne K (.type t) (.type T)=some (sN t T):=by
 simp only[List.contains_cons,List.contains_nil,Bool.or_false,Bool.or_eq_true,beq_iff_eq]at h1 h2
 rcases h1 with rfl|rfl|rfl|rfl|rfl|rfl|rfl<;>rcases h2 with rfl|rfl|rfl|rfl|rfl|rfl<;>rfl
section
variable {K:PySem.W.Frag}{H H' H₀:Hp}{O O':Addr→Prop}{σ:L2.St}{env:Ev}
theorem Up{x:V}{t:String}(h:TyJ K H x t):["NoneType", "bool", "int", "str", "tuple", "list", "dict"].contains t=true:=by cases h<;>decide
theorem NX{X:Cx}(hK:X.K=K):iy X (.builtin "isinstance") (fun xs H Q=>∃x T t,xs=[x,.ty T]∧TyJ K H x t∧["bool", "int", "str", "tuple", "list", "dict"].contains T=true∧Q (.bl (sN t T)) H):=by
 subst hK
 intro pins s σ H xs us Q I r h
 obtain⟨x,T,t,rfl,ty,hT,q⟩:=h
 obtain⟨u,u',rfl,rx,ry⟩:=vals2 r
 cases (show u'=Value.type T from ry)
 have e:=Um X.K (Up ty) hT
 have fin:∀tk,EP X pins σ Q (.bool (sN t T)) { s with toks:=tk }:=fun tk=>⟨.bl (sN t T),H,I.tok tk,rfl,q⟩
 cases ty with
 |non=>cases (show u=Value.none from rx);exact PySem.W.kia_one PySem.W.kitx_none I.gG True.intro e (fun z=>nomatch z) fin
 |bl y=>cases (show u=Value.bool y from rx);exact PySem.W.kia_one PySem.W.kitx_bool I.gG True.intro e (fun z=>nomatch z) fin
 |int i=>obtain⟨t,q⟩:=(show ∃t,u=Value.int i t from rx);cases q;exact PySem.W.kia_one PySem.W.kitx_int I.gG True.intro e (fun z=>nomatch z) fin
 |str y=>obtain⟨t,q⟩:=(show ∃t,u=Value.str y t from rx);cases q;exact PySem.W.kia_one PySem.W.kitx_str I.gG True.intro e (fun z=>nomatch z) fin
 |@lst a xs ea =>
  cases (show u=Value.ref a from rx)
  obtain⟨its,_,⟨o,n,h1,h2,_⟩,_⟩:=I.list ea
  exact PySem.W.kia_one PySem.W.kitx_list I.gG ⟨o,h1,h2⟩ e (fun z=>nomatch z) fin
 |@tup a xs ea =>
  cases (show u=Value.ref a from rx)
  obtain⟨its,_,p,_⟩:=I.tuple ea
  obtain⟨o,h1,h2,_⟩:=p
  exact PySem.W.kia_one PySem.W.kitx_tuple I.gG ⟨o,h1,h2⟩ e (fun z=>nomatch z) fin
 |@dK a ai ea =>
  cases (show u=Value.ref a from rx)
  obtain⟨_,_,vs,_,p⟩:=ea.ok I.aG
  obtain⟨o,es,ep,h1,h2,_⟩:=p
  exact PySem.W.kia_one PySem.W.kitx_dict I.gG ⟨o,h1,h2.1⟩ e (fun z=>nomatch z) fin
 |@dT a ai ea =>
  cases (show u=Value.ref a from rx)
  obtain⟨_,_,vs,_,o,es,ep,h1,h2,_⟩:=ea.ok I.aG
  exact PySem.W.kia_one PySem.W.kitx_dict I.gG ⟨o,h1,h2.1⟩ e (fun z=>nomatch z) fin
theorem Uq {N:Addr→Prop}{v:V}{d:D} (h:Rp K N H v d) (n:sM d ≠ "type"):TyJ K H v (sM d):=by
 cases h with
 |non=>exact .non
 |bl b=>exact .bl b
 |int i=>exact .int i
 |str x=>exact .str x
 |ty x=>exact absurd rfl n
 |tup h _=>exact .tup h
 |lst h _ _=>exact .lst (.inl h)
 |lstK h _=>exact .lst (.inr h)
 |dk h _ _ _=>exact .dK h
 |dt h _ _ _=>exact .dT h
theorem Rb:kZ K (fun xs H Q=>∃x T t,xs=[x,.ty T]∧TyJ K H x t∧["bool", "int", "str", "tuple", "list", "dict"].contains T=true∧Q (.bl (sN t T)) H) kE:=by
 intro H₀ O H vs aD Q m d _ _ hv h q
 unfold kE at h
 split at h
 ·split at h
  ·cases h
  ·rename_i hn
   split at h
   ·rename_i hT
    cases h
    obtain⟨v,w,rfl,hx,hw⟩:=hv.two
    obtain rfl:=hw.ty
    exact⟨v,_,_,rfl,Uq hx.weak hn,hT,q _ H (aL.refl H) fX⟩
   ·cases h
 ·cases h
end
section
variable {K:PySem.W.Frag}{H:Hp}
theorem yL{N:Addr→Prop}:∀(ns:List Int),ay K N H (ns.map V.int) (ns.map D.int)
 |[]=>.nil
 |n::ns=>.cons (.int n) (yL ns)
theorem Ur{F:List D→Option (M×D)}{a:Addr}{ns:List Int}{E:XK}(h:bV K H a (ns.map V.int))(e:∃m,F [.lst (ns.map .int)]=some (m,.bl true)):nF K 1 F [.ref a] H (fun v _=>v=.bl true) E:=by
 obtain⟨m,e⟩:=e
 refine⟨rfl,_,m,_,.cons ?_ .nil,e,fun v H' _ r=>?_⟩
 ·rcases h with h|h
  ·exact .lst h trivial (yL ns)
  ·exact .lstK h (yL ns)
 ·cases m<;>try exact r.elim
  ·exact Rp.F5 r
  ·obtain⟨p,_,_,c⟩:=r;exact c.elim
end
section
variable {m n:M}{i j:Int}{x y:Str}{b c:Bool}{ds es:List D}{d:D}
theorem iB:aM (m,.int i) (n,.int j)=some (.fr,.bl (decide (i=j))):=by simp[aM,eO,kx]
theorem dJ:aM (m,.str x) (n,.str y)=some (.fr,.bl (decide (x=y))):=by simp[aM,eO,kx]
theorem V8:aM (m,.str x) (n,.int j)=some (.fr,.bl false):=by simp[aM,eO,kx]
theorem He:iR (m,.int i) (n,.int j)=some (.fr,.bl (!decide (i=j))):=by simp[iR,eO,kx]
theorem Hf:iR (m,.str x) (n,.str y)=some (.fr,.bl (!decide (x=y))):=by simp[iR,eO,kx]
theorem oJ:bO (m,.int i) (n,.int j)=some (.fr,.int (i+j)):=rfl
theorem ve(h:x.length+y.length≤sizeLine):bO (m,.str x) (n,.str y)=some (.fr,.str (x++y)):=by
 show(match (none:Option (M×D)) with|some z=>some z|none=>nG oT (nG pw vD) (m,.str x) (n,.str y))=_
 show(match oT (m,.str x) (n,.str y) with|some z=>some z|none=>_)=_
 simp only[oT,if_pos h]
theorem F9(hm:aV m≠.rb)(hn:aV n≠.rb)(h:ds.length+es.length≤sizeLine):bO (m,.lst ds) (n,.lst es)=fO (mJ m n) (ds++es):=by
 show(match pw (m,.lst ds) (n,.lst es) with|some z=>some z|none=>none)=_
 simp only[pw,hm,hn,or_self,if_false,h,if_true]
 cases fO (mJ m n) (ds++es)<;>rfl
theorem zk:iF (m,.int i) (n,.int j)=some (.fr,.int (i-j)):=rfl
theorem mul_r(h:-18446744073709551616<j∧j<18446744073709551616):fJ (m,.int i) (n,.int j)=some (.fr,.int (i*j)):=by show(if _ then _ else _)=_;rw[if_pos (.inr h)]
theorem Hg(h:-18446744073709551616<i∧i<18446744073709551616):fJ (m,.int i) (n,.int j)=some (.fr,.int (i*j)):=by show(if _ then _ else _)=_;rw[if_pos (.inl h)]
theorem kg(h:0<j):aW (m,.int i) (n,.int j)=some (.fr,.int (i%j)):=by show(if _ then _ else _)=_;rw[if_pos h]
theorem div_ii(h:0<j∧j<1606938044258990275541962092341162602522202993782792835301376):cA (m,.int i) (n,.int j)=some (.fr,.int (i/j)):=by show(if _ then _ else _)=_;rw[if_pos h]
theorem zl(h:0≤j∧j≤1000000∧i.natAbs<2^64):gY (m,.int i) (n,.int j)=some (.fr,.int (i^j.toNat)):=by show(if _ then _ else _)=_;rw[if_pos h]
theorem Us(h:0≤j∧j≤1000000∧i.natAbs<2^64):mZ (m,.int i) (n,.int j)=some (.fr,.int (i*2^j.toNat)):=by show(if _ then _ else _)=_;rw[if_pos h]
theorem V9:gY (m,.int 2) (n,.int 64)=some (.fr,.int 18446744073709551616):=by
 rw[zl (by decide)]
 have:(2:Int)^(64:Int).toNat=18446744073709551616:=by decide
 rw[this]
theorem Wa:f7 (m,.int i) (n,.int j)=some (.fr,.bl (decide (i<j))):=rfl
theorem Wb:pQ (m,.int i) (n,.int j)=some (.fr,.bl (decide (i≤j))):=rfl
theorem vE:iQ (m,.int i) (n,.int j)=some (.fr,.bl (decide (j<i))):=rfl
theorem yM:cT (m,.int i) (n,.int j)=some (.fr,.int (Builtin.bitAnd i j)):=rfl
theorem Ga:jS (m,.int i) (n,.int j)=some (.fr,.int (Builtin.bitOr i j)):=rfl
theorem jN:dN (m,.int i)=some (.fr,.int (-i)):=rfl
theorem Wc:gi (m,.int i)=some (.fr,.int (Builtin.bitNot i)):=rfl
theorem de:ak (m,.lst ds) (n,.int i)=(bE ds i).map fun d=>(aV m,d):=rfl
theorem Wd(h:x.length≤sizeLine):ak (m,.str x) (n,.int i)=(bE x.cps.toList i).map fun c=>(.fr,.str ⟨#[c]⟩):=by simp[ak,h]
theorem dS:bH [(m,.lst ds)]=some (.fr,.int ds.length):=rfl
theorem Wf:lK [(m,.bl b)]=some (.fr,.int (if b then 1 else 0)):=rfl
theorem bx:lW (m,.bl b)=some b:=rfl
theorem jJ:m3 (m,.int i)=some i:=rfl
theorem fm:oI (.fr,d)=some (.fr,d):=rfl
theorem Rc:oI (.al,d)=some (.al,d):=rfl
theorem dR:oI (.un,d)=some (.bo,d):=rfl
theorem oK{e:Ev}:out (.rt e .fr d)=some (.fr,d):=rfl
theorem vf{e:Ev}:out (.rt e .un d)=some (.un,d):=rfl
theorem zm{e:Ev}:out (.rt e .bo d)=some (.un,d):=rfl
theorem Gb{e:Ev}(h:d.cn=true):out (.rt e .al d)=some (.fr,d):=by simp[out,h]
theorem eV:dD .fr d=true:=rfl
theorem vg:dD .al d=d.cn:=rfl
theorem pB:D.cn (.int i)=true:=by simp only[D.cn]
theorem Ie:D.cn (.str x)=true:=by simp only[D.cn]
theorem c9:aV .al=.al:=rfl
theorem lu:aV .fr=.fr:=rfl
theorem Ut:aV .un=.fr:=rfl
theorem gU:aV .bo=.fr:=rfl
theorem Uu(h:D.du ds=true):fO .al ds=some (.un,.lst ds):=by simp[fO,aV,h]
theorem Gd:fO .fr ds=some (.un,.lst ds):=by simp[fO,aV]
theorem Uv:fO .bo ds=some (.un,.lst ds):=by simp[fO,aV]
theorem av{f g:Ev→Option Fl}{e e':Ev}(h:f e=some (.nx e')):aj f g e=g e':=by simp[aj,h]
theorem dG{f g:Ev→Option Fl}{e e':Ev}(h:f e=some (.rt e' m d)):aj f g e=some (.rt e' m d):=by simp[aj,h]
theorem bz{c:Ev→Option Bool}{f g:Ev→Option Fl}{e:Ev}(h:c e=some true):aP c f g e=f e:=by simp[aP,h]
theorem bU{c:Ev→Option Bool}{f g:Ev→Option Fl}{e:Ev}(h:c e=some false):aP c f g e=g e:=by simp[aP,h]
theorem yp:∀ns:List Int,D.du (ns.map .int)=true
 |[]=>by simp only[List.map_nil,D.du]
 |n::ns=>by simp only[List.map_cons,D.du,D.cn,yp ns,Bool.and_self]
theorem mD{α:Type}{l:List α}{k:Nat}(h:k<l.length):L2.bE l (k:Int)=some l[k]:=by
 unfold L2.bE L2.dW
 rw[if_pos (Int.natCast_nonneg k),if_pos (by omega)]
 simp[h]
theorem ig{α:Type}{l:List α}{k:Int}(h0:0≤k)(h1:k<l.length):L2.bE l k=some (l[k.toNat]'(by omega)):=by
 unfold L2.bE L2.dW
 rw[if_pos h0,if_pos h1]
 have:k.toNat<l.length:=by omega
 simp[this]
theorem D9{ns:List Int}{k:Int}(h0:0≤k)(h1:k<ns.length):∃c,L2.bE (ns.map D.int) k=some (.int c):=by
 rw[ig h0 (by simpa using h1)]
 exact⟨ns[k.toNat]'(by omega),by simp⟩
end
theorem cQ{g:M×D→Ev→Option Ev}{b:Ev→Option Fl}{m:M}:∀{ds:List D}{e:Ev} (Iv:Nat→Ev→Prop),Iv 0 e →
  (∀(k:Nat) d e,ds[k]?=some d→Iv k e→∃e1 e2,g (m,d) e=some e1∧b e1=some (.nx e2)∧Iv (k+1) e2)→∃e',forL g b m ds e=some (.nx e')∧Iv ds.length e'
 |[],e,Iv,h0,_=>⟨e,rfl,h0⟩
 |d::ds,e,Iv,h0,hs=>by
  obtain⟨e1,e2,h1,h2,h3⟩:=hs 0 d e rfl h0
  obtain⟨e',h4,h5⟩:=cQ (ds:=ds) (e:=e2) (fun k e=>Iv (k+1) e) h3 fun k d e hd hi=>hs (k+1) d e (by simpa using hd) hi
  refine⟨e',?_,h5⟩
  simp only[forL,h1,h2,Option.bind_some]
  exact h4
theorem kh{lo:Int}{n k:Nat}{d:D}(h:(b0 lo n)[k]?=some d):k<n∧d=.int (lo+k):=by
 unfold b0 at h
 rw[cV]at h
 have hk:k<n:=by
  rcases Nat.lt_or_ge k n with z|z
  ·exact z
  ·rw[List.getElem?_eq_none (by simpa using z)]at h;cases h
 rw[List.getElem?_range hk]at h
 cases h
 exact⟨hk,rfl⟩
theorem iX{lo:Int}{n:Nat}:(b0 lo n).length=n:=by simp[b0]
theorem DH{c:Ev→Option Bool}{b:Ev→Option Fl}{e:Ev}(Iv:Ev→Prop)(μ:Ev→Nat)(h0:Iv e)
  (hs:∀e,Iv e→c e=some false∨(c e=some true∧∃e2,b e=some (.nx e2)∧Iv e2∧μ e2<μ e)):∃e',iu c b e=some (.nx e')∧Iv e'∧c e'=some false:=by
 have:∀(n:Nat) e,μ e≤n→Iv e→∃e',dn c b (n+1) e=some (.nx e')∧Iv e'∧c e'=some false:=by
  intro n
  induction n with
  |zero =>
   intro e hn hi
   rcases hs e hi with h|⟨_,e2,_,_,h⟩
   ·exact⟨e,by simp[dn,h],hi,h⟩
   ·omega
  |succ n ih =>
   intro e hn hi
   rcases hs e hi with h|⟨h,e2,h1,h2,h3⟩
   ·exact⟨e,by simp[dn,h],hi,h⟩
   ·obtain⟨e',q1,q2,q3⟩:=ih e2 (by omega) h2
    refine⟨e',?_,q2,q3⟩
    rw[dn,h,Option.bind_some,if_pos rfl,h1,Option.bind_some]
    exact q1
 obtain⟨e',h1,h2,h3⟩:=this (μ e) e (bf _) h0
 exact⟨e',yo h1,h2,h3⟩
theorem Y2{n:Nat}(h:n≤1000):(n≤sizeLine)=True:=eq_true (Nat.le_trans h (by decide))
end J
namespace J
open PySem PySem.Spec PyProof.Rows L2
section
variable {X:Cx}{pins:List (Addr×Obj)}{σ:L2.St}{H:Hp}{s:Shared}{h':Heap}
theorem M6{fp:List Addr}{t':Nat}(I:L2.Inv X pins σ H s)(k:∀b o,b∉fp→s.heap.get? b=some o→h'.get? b=some o)(hf:∀b∈fp,jQ X pins H b):L2.Inv X pins σ H { s with heap:=h',toks:=t' }:=by
 have lQ:∀b u,H b=some u→b∉fp:=fun b u e z=>by rw[(hf b z).1]at e;cases e
 refine I.step (g':=s.gens) (d':=s.drawn) (ch:=fp) (fun b hb=>?_) (fun b o _ _ hc e _=>k b o hc e) (fun b o _ _ hc e _=>⟨o.slots,k b o hc e⟩) (fun _ _ _ _ n=>n)
  (fun b o hc e=>⟨o,k b o hc e⟩) (fun _ _ e=>e) (fun _ _ _ e=>e) (fun b ps e=>⟨#[],by rw[e];simp⟩) (fun m hm=>?_) (fun b u e=>?_) I.bare
 ·obtain⟨f0,f1,f2,f3,f4,f5⟩:=hf b hb
  exact⟨f3,f1,f4,f5⟩
 ·obtain⟨o,es,ep,ho,r⟩:=hm
  exact⟨o,es,ep,k _ o (fun z=>(hf _ z).2.1 rfl) ho,r⟩
 ·refine(I.aG b u e).lE (fun c v hc q=>k c v ?_ q) (fun _ q=>q) fun _ _ q=>q
  rcases hc with z|z
  ·rw[z];exact lQ b u e
  ·exact lQ c _ z
theorem MB{fp:List Addr}{t':Nat}{o:HO}(I:L2.Inv X pins σ H s)(k:∀b o,b∉fp→s.heap.get? b=some o→h'.get? b=some o)(hf:∀b∈fp,jQ X pins H b)(new:cE X.prog X.w (upd H s.heap.objs.size o) h' s.heap.objs.size o) :
  L2.Inv X pins σ (upd H s.heap.objs.size o) { s with heap:=h',toks:=t' }:=by
 have lQ:∀b u,H b=some u→b∉fp:=fun b u e z=>by rw[(hf b z).1]at e;cases e
 have hT:H s.heap.objs.size=none:=I.aG.fresh (bf _)
 have neT:∀b u,H b=some u→b≠s.heap.objs.size:=fun b u e=>fF e hT
 have Y3:∀b o,s.heap.get? b=some o→b≠s.heap.objs.size:=fun b o e=>Nat.ne_of_lt (cg e)
 refine I.step (g':=s.gens) (d':=s.drawn) (ch:=fp) (fun b hb=>?_) (fun b o _ _ hc e _=>k b o hc e) (fun b o _ _ hc e _=>⟨o.slots,k b o hc e⟩) (fun b o _ e n=>by rw[aK (Y3 b o e)];exact n)
  (fun b o hc e=>⟨o,k b o hc e⟩) (fun b xs e=>by rw[aK (neT b _ e)];exact e) (fun b _ _ e=>by rw[aK (neT b _ e)];exact e) (fun b ps e=>⟨#[],by rw[aK (neT b _ e),e];simp⟩) (fun m hm=>?_) (fun b u e=>?_) I.bare
 ·obtain⟨f0,f1,f2,f3,f4,f5⟩:=hf b hb
  exact⟨f3,f1,f4,f5⟩
 ·obtain⟨o,es,ep,ho,r⟩:=hm
  exact⟨o,es,ep,k _ o (fun z=>(hf _ z).2.1 rfl) ho,r⟩
 ·by_cases hb:b=s.heap.objs.size
  ·subst hb;rw[bS]at e;cases e;exact new
  ·rw[aK hb]at e
   refine(I.aG b u e).lE (fun c v hc q=>k c v ?_ q) (fun c q=>by rw[aK (neT c _ q)];exact q) fun c xs q=>by rw[aK (neT c _ q)];exact q
   rcases hc with z|z
   ·rw[z];exact lQ b u e
   ·exact lQ c _ z
end
noncomputable def Br(K:PySem.W.Frag)(a:Addr):It :=
 ⟨fun i H=>∃xs x,bV K H a xs∧xs[i]?=some x,fun i H x H'=>∃t y,x=.ref t∧H t=none∧H'=upd H t (.tup [.int i,y])∧∀xs,bV K H a xs→xs[i]?=some y,fun i H=>∃xs,bV K H a xs∧xs.length≤i⟩
theorem NZ{P:Program}{w:World}{K:PySem.W.Frag}{elts:List Expr}{x1}{pos:Pos}(a e it:Addr)(j4:e≠it):Turn P w K (.Tuple elts x1 pos) (Br K a) [e,it] e (fun i h=>(∃old,IsEnum h e it i old)∧h.IsListIter it a i) where
 mem:=by simp
 obj:=fun i h st b hb=>by
  obtain⟨⟨old,he⟩,o,ho,c,d⟩:=st
  rcases List.mem_cons.mp hb with rfl|hb
  ·exact⟨_,he,fun v z=>nomatch z⟩
  ·have e:b=it:=by simpa using hb
   subst e
   exact⟨o,ho,fun v z=>by rw[d]at z;cases z⟩
 keep:=fun i h h' st k=>by
  obtain⟨⟨old,he⟩,hit⟩:=st
  exact⟨⟨old,k e (by simp) _ he⟩,hit.at fun o q=>k it (by simp) o q⟩
 item:=by
  intro X hP hw hK hc i pins s σ H E I hf st hg
  subst hP hw hK
  obtain⟨xs,x,hq,hx⟩:=hg
  obtain⟨its,rv,p,hz⟩:=I.list hq
  obtain⟨u,hu,ru⟩:=rv.get hx
  obtain⟨⟨old,he⟩,hit⟩:=st
  have Bs:e<s.heap.objs.size:=cg he
  have Y4:it<s.heap.objs.size:=by obtain⟨_,q,_⟩:=hit;exact cg q
  have hT:H s.heap.objs.size=none:=I.aG.fresh (bf _)
  refine wpAny_pyNext_enum_item he hit p.isList (x:=u) (by simpa using hu) j4 fun h1 ho XX ht hsz hk=>⟨_,rfl,?_⟩
  refine wpAny_letOwnedTupleGo_enum ho fun h2 sO sb=>?_
  have Y5:h2.get? s.heap.objs.size=some { cls:=.type "tuple",data:=.seq #[.int i s.toks,u] }:=(sb.2 _ (Nat.ne_of_gt Bs)).trans ht
  have k2:∀b o,b∉[e,it]→s.heap.get? b=some o→h2.get? b=some o:=fun b o nb q=>by
   have n1:b≠e:=fun z=>nb (by simp[z])
   have n2:b≠it:=fun z=>nb (by simp[z])
   exact(sb.2 b n1).trans (hk b o n1 n2 q)
  refine⟨.ref s.heap.objs.size,upd H s.heap.objs.size (.tup [.int i,x]),?_,rfl,⟨s.heap.objs.size,x,rfl,hT,rfl,fun ys hy=>by rw[I.uM hy hq];exact hx⟩,⟨⟨_,by simpa using sO⟩,XX.at fun o q=>(sb.2 it j4.symm).trans q⟩,fun b hb=>?_⟩
  ·refine MB (t':=s.toks+1) I k2 hf ⟨by show 2≤sizeLine;decide,[.int i s.toks,u],.cons ⟨_,rfl⟩ (.cons ru .nil),⟨_,Y5,rfl,_,rfl⟩⟩
  ·have pT:b<s.heap.objs.size:=by
    rcases List.mem_cons.mp hb with rfl|hb
    ·exact Bs
    ·have e:b=it:=by simpa using hb
     rw[e];exact Y4
   rw[aK (Nat.ne_of_lt pT)]
   exact(hf b hb).1
 done:=by
  intro X hP hw hK hc i pins s σ H E I hf st hg
  subst hP hw hK
  obtain⟨xs,hq,hx⟩:=hg
  obtain⟨its,rv,p,hz⟩:=I.list hq
  obtain⟨⟨old,he⟩,hit⟩:=st
  have hl:=rv.length
  refine wpAny_pyNext_enum_end (I.ok.hd hc) he hit p.isList (by simp;omega) fun h1 eb=>⟨rfl,?_⟩
  exact M6 (fp:=[e,it]) (t':=s.toks) I (fun b o nb q=>eb b o (fun z=>nb (by simp[z])) q) hf
 self:=fun A i s Q E st h=>by
  obtain⟨⟨old,he⟩,_⟩:=st
  exact wpAny_pyIter_enum he h
section
variable {X:Cx}
noncomputable def zN(K:PySem.W.Frag)(ta:TA):TI:=fun σ H R=>ta σ H fun vs H1=>∃a xs,vs=[.ref a]∧bV K H1 a xs∧R (Br K a) H1
theorem Rf {a:Expr}{ta:TA}{p pos pos':Pos}{elts:List Expr} {x1} (hg:Gl X "enumerate") (hm:X.mg "enumerate" = none) (ha:PA X [a] ta) (hs:starEach [a] X.env=[(false,eval a X.env)]:=by rfl):PI X (.Tuple elts x1 pos') (.Call (.Name "enumerate" p) [a] [] pos) (zN X.K ta):=by
 intro pins s σ H R I h
 refine Call_ (ll I hg hm PyProof.Rows.Boot.«enumerate» (PyProof.Rows.callWith_type1 (aI (ha pos pins s σ H _ I h) fun us s1 ⟨vs,H1,I1,r1,q1⟩=>?_) hs rfl))
 obtain⟨l,xs,e,hq,q⟩:=q1
 subst e
 cases r1 with
 |cons r rr =>
  cases rr
  cases r
  obtain⟨its,rv,pl,hz⟩:=I1.list hq
  refine call_enumerate_list pl.isList fun h1 he hit hsz hk=>?_
  have I2:L2.Inv X pins σ H1 { s1 with heap:=h1 }:=I1.kept (t':=s1.toks) hk
  refine wpAny_pyIter_enum he ?_
  have n1:s1.heap.objs.size+1≠s1.heap.objs.size:=by omega
  refine⟨s1.heap.objs.size+1,[s1.heap.objs.size+1,s1.heap.objs.size],_,_,H1,rfl,I2,NZ l _ _ n1,⟨⟨_,he⟩,hit⟩,fun b hb=>?_,q⟩
  have pT:s1.heap.objs.size≤b:=by
   rcases List.mem_cons.mp hb with rfl|hb
   ·omega
   ·have e:b=s1.heap.objs.size:=by simpa using hb
    exact Nat.le_of_eq e.symm
  have z:=I1.oX (H':=H1) pT (I1.aG.fresh pT)
  exact z
theorem Pk {K:PySem.W.Frag}{a:Expr}{ta:TA}{p pos pos':Pos}{elts:List Expr} {x1} (hK:X.K=K) (hg:Gl X "enumerate") (hm:X.mg "enumerate" = none) (ha:PA X [a] ta) (hs:starEach [a] X.env=[(false,eval a X.env)]:=by rfl):PI X (.Tuple elts x1 pos') (.Call (.Name "enumerate" p) [a] [] pos) (zN K ta):=by subst hK;exact Rf hg hm ha hs
end
noncomputable def bT(ds:List D):List D:=ds.mapIdx fun i d=>.tup [.int i,d]
noncomputable def fQ(fs:Ev→Option (List (M×D))):Ev→Option (M×List D):=fun e=>(fs e).bind fun l=>match l with
 |[(m,.lst ds)]=>(b9 m).map fun n=>(n,bT ds)
 |_=>none
section
variable {K:PySem.W.Frag}{H H' H₀:Hp}{O O':Addr→Prop}{σ:L2.St}{env:Ev}
theorem N0{a:Addr}{xs:List V}{ds:List D}{n:M}(e:fK n=true)(on:∀a o,O a→H a=some o→¬iN o)(hr:(Rd H a (.lst xs)∧¬O a)∨wH K a xs)(r:ay K (NM H₀ O n) H xs ds):kC K H₀ O (Br K a) H n (bT ds):=by
 have st:∀{O2:Addr→Prop}{H2:Hp},aS O H O2 H2→bV K H2 a xs:=fun {O2 H2} s=>by
  rcases hr with⟨h|⟨o,h⟩,ha⟩|h
  ·exact .inl (.inl (s _ _ h ha).1)
  ·exact .inl (.inr ⟨o,(s _ _ h ha).1⟩)
  ·exact .inr h
 have l:(bT ds).length=ds.length:=by simp[bT]
 refine⟨fun O2 H2 i s hi=>?_,fun O2 H2 i x H3 s hi y=>?_,fun O2 H2 s=>⟨xs,st s,by rw[r.len,l];exact bf _⟩⟩
 ·rw[l]at hi
  exact⟨xs,xs[i]'(by rw[r.len];exact hi),st s,by simp⟩
 ·rw[l]at hi
  obtain⟨t,z,rfl,ht,rfl,y⟩:=y
  have y:=y xs (st s)
  obtain⟨v,hv,rv⟩:=r.get (i:=i) (d:=ds[i]) (by simp[hi])
  rw[y]at hv;cases hv
  have sm:aL H2 (upd H2 t (.tup [.int i,z])):=cY ht
  have hz:=(uY e on s rv).keep sm
  refine⟨sm,.tup [.int i,ds[i]],by simp[bT,hi],?_⟩
  cases n
  ·exact Rp.tup (bJ.of bS) (.cons (.int _) (.cons hz .nil))
  ·exact Rp.tup (bJ.of bS) (.cons (.int _) (.cons hz .nil))
  ·cases e
  ·cases e
  ·cases e
  ·cases e
  ·cases e
theorem Rg{t:TA}{fs:Ev→Option (List (M×D))}(h:iP K t fs):JI K (zN K t) (fQ fs):=by
 intro H₀ O H σ env R m ds Re e q
 obtain⟨l,el,e⟩:=aB e
 split at e
 ·rename_i m0 d0
  cases em:b9 m0 with
  |none=>rw[em]at e;cases e
  |some n =>
   rw[em]at e;cases e
   refine h H₀ O H σ env _ _ Re el fun vs H1 s1 h1=>?_
   obtain⟨v,rfl,hv⟩:=h1.one
   obtain⟨e1,a,xs,rfl,hr,r⟩:=E1 em hv
   exact⟨a,xs,rfl,hr.elim (fun z=>.inl z.1) .inr,q _ H1 s1 e1 (N0 e1 (Re.keep s1).on hr r)⟩
 ·cases e
end
end J
namespace J
open PySem L2
noncomputable def hZ:D→Bool
 |.lst ds=>D.du ds
 |.dk ks=>D.du (ks.map (·.2))
 |.dt ks=>D.du (ks.map (·.2))
 |_=>false
def jy(io:List Nat)(vs:List V)(a:Addr):Prop:=∃i,i∈io∧vs[i]?=some (.ref a)
structure vh (K:PySem.W.Frag)(H:Hp)(io:List Nat)(vs:List V)(ds:List D):Prop where
 len:vs.length=ds.length
 rd:∀(i:Nat) v d,i∉io→vs[i]?=some v→ds[i]?=some d→Rp K (fun a=>¬jy io vs a) H v d
 cl:∀(i:Nat) d,i∈io→ds[i]?=some d→∃p,vs[i]?=some (.ref p)∧Cell K (fun _=>False) H p d
 dj:∀(i j:Nat) p,i∈io→j∈io→vs[i]?=some (.ref p)→vs[j]?=some (.ref p)→i=j
noncomputable def jH(io:List Nat)(ds:List D):Ev:=ds.mapIdx fun i d=>some (if i∈io then M.bi else M.al,d)
section
variable {K:PySem.W.Frag}{H H' H₀:Hp}{I:Nat→Option Addr}{O O':Addr→Prop}{σ:L2.St}{env:Ev}
theorem Cell.im{N N':Addr→Prop}{p:Addr}{d:D}(e:hZ d=true)(h:Cell K N H p d):Cell K N' H p d:=by
 cases d<;>simp only[hZ]at e<;>try (cases e;done)
 ·obtain⟨xs,q,r⟩:=h;exact⟨xs,q,r.im e⟩
 ·obtain⟨xs,q,z,r⟩:=h;exact⟨xs,q,z,r.im e⟩
 ·obtain⟨xs,q,z,r⟩:=h;exact⟨xs,q,z,r.im e⟩
theorem MC{io:List Nat}{N:List Str}{vs:List V}{ds:List D}(A:vh K H io vs ds):∃I0:Nat→Option Addr,(∀{i p},I0 i=some p→i∈io∧vs[i]?=some (.ref p))∧Rel K H I0 (jy io vs) H (L2.start N vs) (jH io ds++List.replicate (N.length-ds.length) none):=by
 let I0:Nat→Option Addr:=fun i=>if i∈io then (match vs[i]? with|some (.ref p)=>some p|_=>none)else none
 have pU:∀{i p},I0 i=some p→i∈io∧vs[i]?=some (.ref p):=fun {i p} z=>by
  simp only[I0]at z
  split at z
  ·rename_i hi
   split at z
   ·rename_i w hw;cases z;exact⟨hi,hw⟩
   ·cases z
  ·cases z
 have J2:∀{i p},i∈io→vs[i]?=some (.ref p)→I0 i=some p:=fun {i p} hi hv=>by simp only[I0,if_pos hi,hv]
 have qV:∀{i:Nat}{y:M×D},(jH io ds++List.replicate (N.length-ds.length) none)[i]?=some (some y)→ds[i]?=some y.2∧y.1=(if i∈io then M.bi else M.al):=fun {i y} z=>by
  rw[List.getElem?_append]at z
  split at z
  ·rename_i hi
   simp only[jH,List.getElem?_mapIdx,List.length_mapIdx]at z hi
   rw[dU hi]at z ⊢
   simp only[Option.map_some,Option.some.injEq]at z
   subst z;exact⟨rfl,rfl⟩
  ·have:=dO z
   have:=List.eq_of_mem_replicate this
   cases this
 have v5:∀{i:Nat}{v:V},vs[i]?=some v→(L2.start N vs)[i]?=some (some v):=fun {i v} z=>by
  unfold L2.start
  have hi:i<vs.length:=(bB.mp z).1
  rw[List.getElem?_append_left (by simpa using hi),cV,z];rfl
 refine⟨I0,pU,?_⟩
 show Rel K H I0 (jy io vs) H (L2.start N vs) (jH io ds++List.replicate (N.length-ds.length) none)
 refine⟨⟨mw ?_ ?_,?_,fun a o e=>⟨o,e⟩,?_⟩,fun a o _ e=>e,?_,?_,?_,?_⟩
 ·unfold L2.start jH;simp[A.len]
 ·intro j y z hy hz m' d' ey
  subst ey
  obtain⟨hd,hm⟩:=qV hy
  have hj:j<vs.length:=by rw[A.len];exact(bB.mp hd).1
  have hv:vs[j]?=some vs[j]:=dU hj
  rw[v5 hv]at hz;cases hz
  simp only at hm hd
  by_cases hi:j∈io
  ·rw[if_pos hi]at hm;subst hm
   obtain⟨p,hp,c⟩:=A.cl j d' hi hd
   rw[hv]at hp
   refine⟨rfl,_,rfl,p,Option.some.inj hp,⟨j,hi,by rw[hv,hp]⟩,c.wk fun _ z _=>z.elim⟩
  ·rw[if_neg hi]at hm;subst hm
   exact⟨rfl,_,rfl,A.rd j _ d' hi hv hd⟩
 ·rintro a ⟨i,hi,hv⟩
  have aZ:i<ds.length:=by rw[←A.len];exact(bB.mp hv).1
  obtain⟨p,hp,c⟩:=A.cl i ds[i] hi (dU aZ)
  rw[hv]at hp;cases hp
  obtain⟨o,eo,_⟩:=c.some
  exact⟨o,eo⟩
 ·rintro a o ⟨i,hi,hv⟩ eo
  have aZ:i<ds.length:=by rw[←A.len];exact(bB.mp hv).1
  obtain⟨p,hp,c⟩:=A.cl i ds[i] hi (dU aZ)
  rw[hv]at hp;cases hp
  obtain⟨o',J3,nt⟩:=c.some
  rw[eo]at J3;cases J3;exact nt
 ·rintro a ⟨i,hi,hv⟩;exact .inl ⟨i,J2 hi hv⟩
 ·intro i d' p h1 p1
  obtain⟨hd,hm⟩:=qV h1
  by_cases hi:i∈io
  ·obtain⟨p',hp,_⟩:=A.cl i d' hi hd
   rw[v5 hp]at p1;cases p1
   exact J2 hi hp
  ·rw[if_neg hi]at hm;cases hm
 ·intro i j y z p h1 h2 o1 o2 p1 p2
  obtain⟨d1,m1⟩:=qV h1
  obtain⟨d2,m2⟩:=qV h2
  have hi:i∈io:=by
   by_cases hi:i∈io
   ·exact hi
   ·rw[if_neg hi]at m1;rw[m1]at o1;cases o1
  have hj:j∈io:=by
   by_cases hj:j∈io
   ·exact hj
   ·rw[if_neg hj]at m2;rw[m2]at o2;cases o2
  obtain⟨q1,J4,_⟩:=A.cl i _ hi d1
  obtain⟨q2,nA,_⟩:=A.cl j _ hj d2
  rw[v5 J4]at p1;cases p1
  rw[v5 nA]at p2;cases p2
  exact A.dj i j p hi hj J4 nA
 ·have no:∀{i:Nat}{d:D},(jH io ds++List.replicate (N.length-ds.length) none)[i]?=some (some (M.nb,d))→False:=fun {i d} z=>by
   obtain⟨_,hm⟩:=qV z
   simp only at hm
   split at hm<;>cases hm
  exact⟨fun i j d d' h1=>(no h1).elim,fun i j d x p q xs h1=>(no h1).elim⟩
end
section
variable {K:PySem.W.Frag}{H H' H₀:Hp}{I:Nat→Option Addr}{O O':Addr→Prop}{σ:L2.St}{env:Ev}
def lY(K:PySem.W.Frag)(ta:TA)(fs:Ev→Option (List (M×D)))(pos:List (Nat×Nat)):Prop :=
 ∀H₀ O H σ env Q aD,eD K H₀ O H σ env→fs env=some aD→(∀vs H',aL H H'→gg K H₀ O H H' aD vs→(∀ij∈pos,∃v x,vs[ij.1]?=some v∧σ[ij.2]?=some (some v)∧env[ij.2]?=some (some x)∧aD[ij.1]?=some x)→Q vs H')→ta σ H Q
theorem Rh:lY K lF ah []:=by
 intro H₀ O H σ env Q aD R h q
 cases h
 exact q [] H (aL.refl H) .nil (fun _ z=>nomatch z)
noncomputable def wM(pos:List (Nat×Nat)):List (Nat×Nat):=pos.map fun ij=>(ij.1+1,ij.2)
theorem Pl{te:TE}{ta:TA}{f:Ev→Option (M×D)}{g:Ev→Option (List (M×D))}{pos:List (Nat×Nat)}(hf:JT K te f)(hg:lY K ta g pos):lY K (mM te ta) (ae f g) (wM pos):=by
 intro H₀ O H σ env Q aD R h q
 obtain⟨x,ex,h⟩:=aB h
 obtain⟨r,er,h⟩:=aB h
 cases h
 refine hf H₀ O H σ env _ x.1 x.2 R ex fun v H1 s1 h1=>?_
 refine hg H₀ O H1 σ env _ r (R.keep s1) er fun vs H2 s2 h2 hp=>?_
 refine q (v::vs) H2 (s1.trans s2) (.cons (h1.keep s2) (lz (fun _ _ z=>z.hb fun a z=>s1.free z) h2)) (fun ij nH=>?_)
 obtain⟨Bt,hm,rfl⟩:=bZ.mp nH
 obtain⟨w,y,a,b,c,d⟩:=hp Bt hm
 exact⟨w,y,by simpa using a,b,c,by simpa using d⟩
theorem Ri{i:Nat}{ta:TA}{g:Ev→Option (List (M×D))}{pos:List (Nat×Nat)}(hg:lY K ta g pos):lY K (mM (gD i) ta) (ae (jV i) g) ((0,i)::wM pos):=by
 intro H₀ O H σ env Q aD R h q
 obtain⟨x,ex,h⟩:=aB h
 obtain⟨r,er,h⟩:=aB h
 cases h
 have ei:env[i]?=some (some x):=by
  unfold jV at ex
  cases e:env[i]? with
  |none=>rw[e]at ex;cases ex
  |some z=>rw[e]at ex;exact congrArg some ex
 obtain⟨v,hv,n,hm⟩:=R.at ei
 refine⟨v,hv,?_⟩
 refine hg H₀ O H σ env _ r R er fun vs H2 s2 h2 hp=>?_
 refine q (v::vs) H2 s2 (.cons ((hm.G7 n).keep s2) h2) (fun ij nH=>?_)
 rcases List.mem_cons.mp nH with rfl|nH
 ·exact⟨v,x,rfl,hv,ei,rfl⟩
 ·obtain⟨Bt,hm,rfl⟩:=bZ.mp nH
  obtain⟨w,y,a,b,c,d⟩:=hp Bt hm
  exact⟨w,y,by simpa using a,b,c,by simpa using d⟩
end
section
variable {K:PySem.W.Frag}{H H' H₀:Hp}{I:Nat→Option Addr}{O O':Addr→Prop}{σ:L2.St}{env:Ev}
theorem gg.at{Hb:Hp}:∀{aD:List (M×D)}{vs:List V}{i:Nat}{x:M×D},gg K H₀ O Hb H aD vs→aD[i]?=some x→∃v,vs[i]?=some v∧Val K H₀ O Hb H x.1 x.2 v
 |_,_,_,_,.nil,e=>by simp at e
 |_,_,0,_,.cons h _,e=>by simp at e;subst e;exact⟨_,rfl,h⟩
 |_,_,i+1,x,.cons _ r,e=>by
  obtain⟨v,h1,h2⟩:=gg.at (i:=i) (x:=x) r (by simpa using e)
  exact⟨v,by simpa using h1,h2⟩
theorem qC{α:Type}:∀{l:List α}{i j:Nat}{a:α},l.Nodup→l[i]?=some a→l[j]?=some a→i=j
 |[],_,_,_,_,h,_=>by simp at h
 |x::l,0,0,_,_,_,_=>rfl
 |x::l,0,j+1,a,nd,h1,h2=>by
  simp at h1;subst h1
  exact absurd (dO (show l[j]?=some x by simpa using h2)) (List.nodup_cons.mp nd).1
 |x::l,i+1,0,a,nd,h1,h2=>by
  simp at h2;subst h2
  exact absurd (dO (show l[i]?=some x by simpa using h1)) (List.nodup_cons.mp nd).1
 |x::l,i+1,j+1,a,nd,h1,h2=>by
  rw[qC (List.nodup_cons.mp nd).2 (show l[i]?=some a by simpa using h1) (by simpa using h2)]
structure Ig (io sl:List Nat)(pos:List (Nat×Nat))(aD:List (M×D)):Prop where
 c1:∀(k i:Nat),io[k]?=some i→∃j,sl[k]?=some j∧(i,j)∈pos
 c2:sl.Nodup
 c3:∀(i:Nat) x,i∉io→aD[i]?=some x→gO x.1 x.2=true∨(own x.1=true∧∃j,(i,j)∈pos∧j∉sl)
 c4:∀(i:Nat) x,i∈io→aD[i]?=some x→own x.1=true∧hZ x.2=true
 c5:sl.length=io.length
noncomputable def k6(io sl:List Nat)(pos:List (Nat×Nat))(aD:List (M×D)):Bool :=
 decide (sl.length=io.length)&&decide sl.Nodup&&(List.range io.length).all (fun k=>match io[k]?,sl[k]? with|some i,some j=>decide ((i,j)∈pos)|_,_=>false) &&
 (List.range aD.length).all (fun i=>match aD[i]? with
  |some x=>if i∈io then own x.1&&hZ x.2 else gO x.1 x.2||(own x.1&&pos.any fun ij=>decide (ij.1=i)&&!decide (ij.2∈sl))
  |none=>true)
theorem Uw{io sl:List Nat}{pos:List (Nat×Nat)}{aD:List (M×D)}(h:k6 io sl pos aD=true):Ig io sl pos aD:=by
 unfold k6 at h
 simp only[Bool.and_eq_true,decide_eq_true_eq,List.all_eq_true,List.mem_range]at h
 obtain⟨⟨⟨h1,h2⟩,h3⟩,h4⟩:=h
 refine⟨fun k i hk=>?_,h2,fun i x hi hx=>?_,fun i x hi hx=>?_,h1⟩
 ·have aZ:k<io.length:=(bB.mp hk).1
  have q:=h3 k aZ
  rw[hk]at q
  cases e:sl[k]? with
  |none=>rw[e]at q;cases q
  |some j=>rw[e]at q;exact⟨j,rfl,by simpa using q⟩
 ·have aZ:i<aD.length:=(bB.mp hx).1
  have q:=h4 i aZ
  rw[hx]at q
  simp only[if_neg hi,Bool.or_eq_true,Bool.and_eq_true,List.any_eq_true]at q
  rcases q with q|⟨q,ij,hm,z⟩
  ·exact .inl q
  ·refine .inr ⟨q,ij.2,?_,by simpa using z.2⟩
   have e:ij.1=i:=by simpa using z.1
   rw[←e];exact hm
 ·have aZ:i<aD.length:=(bB.mp hx).1
  have q:=h4 i aZ
  rw[hx]at q
  simpa only[if_pos hi,Bool.and_eq_true]using q
theorem Rj{io sl:List Nat}{pos:List (Nat×Nat)}{aD:List (M×D)}{vs:List V}{H1:Hp}(R:Rel K H₀ I O H σ env)(R1:Rel K H₀ I O H1 σ env)(ok:Ig io sl pos aD)(hv:gg K H₀ O H H1 aD vs)
  (hp:∀ij∈pos,∃v x,vs[ij.1]?=some v∧σ[ij.2]?=some (some v)∧env[ij.2]?=some (some x)∧aD[ij.1]?=some x) :
  (∀{i j:Nat},(i,j)∈pos→∀{x:M×D},aD[i]?=some x→own x.1=true→∃p:Addr,vs[i]?=some (V.ref p)∧σ[j]?=some (some (V.ref p))∧env[j]?=some (some x)∧O p∧Cell K (fun a=>¬O a∧H₀ a=none) H1 p x.2) ∧
  (∀{i:Nat}{p:Addr},i∈io→vs[i]?=some (V.ref p)→∃(k j:Nat) (x:M×D),io[k]?=some i∧sl[k]?=some j∧aD[i]?=some x∧σ[j]?=some (some (V.ref p))∧env[j]?=some (some x)∧own x.1=true∧O p∧Cell K (fun a=>¬O a∧H₀ a=none) H1 p x.2∧hZ x.2=true) ∧
  (∀a,jy io vs a→O a)∧vh K H1 io vs (aD.map (·.2)):=by
 have hlen:aD.length=vs.length:=Paired.length hv
 have at_:∀{i:Nat}{x:M×D},aD[i]?=some x→∃v,vs[i]?=some v∧Val K H₀ O H H1 x.1 x.2 v:=fun {i x} hx=>gg.at hv hx
 have rT:∀{i j:Nat},(i,j)∈pos→∀{x:M×D},aD[i]?=some x→own x.1=true→∃p:Addr,vs[i]?=some (V.ref p)∧σ[j]?=some (some (V.ref p))∧env[j]?=some (some x)∧O p∧Cell K (fun a=>¬O a∧H₀ a=none) H1 p x.2:=fun {i j} nH {x} hx ox=>by
  obtain⟨v,x',a,b,c,z⟩:=hp (i,j) nH
  simp only at a b c z
  rw[hx]at z;cases z
  obtain⟨w,hw,_,hm⟩:=R1.e.at (i:=j) (m:=x.1) (d:=x.2) c
  rw[b]at hw;cases hw
  obtain⟨mx,dx⟩:=x
  cases mx<;>simp only[own]at ox<;>try (cases ox;done)
  ·obtain⟨p,rfl,h1,h2,cc⟩:=hm;exact⟨p,a,b,c,h1,cc⟩
  ·obtain⟨p,rfl,h1,cc⟩:=hm;exact⟨p,a,b,c,h1,cc⟩
 have m7:∀{i:Nat}{p:Addr},i∈io→vs[i]?=some (V.ref p)→∃(k j:Nat) (x:M×D),io[k]?=some i∧sl[k]?=some j∧aD[i]?=some x∧σ[j]?=some (some (V.ref p))∧env[j]?=some (some x)∧own x.1=true∧O p∧Cell K (fun a=>¬O a∧H₀ a=none) H1 p x.2∧hZ x.2=true:=fun {i p} hi k7=>by
  obtain⟨k,hk⟩:=List.getElem?_of_mem hi
  obtain⟨j,hj,Ar⟩:=ok.c1 k i hk
  have aZ:i<aD.length:=by rw[hlen];exact(bB.mp k7).1
  have hx:aD[i]?=some aD[i]:=dU aZ
  obtain⟨ox,cx⟩:=ok.c4 i _ hi hx
  obtain⟨p',a,b,c,h1,cc⟩:=rT Ar hx ox
  rw[k7]at a;cases a
  exact⟨k,j,_,hk,hj,hx,b,c,ox,h1,cc,cx⟩
 have sub:∀a,jy io vs a→O a:=fun a ⟨i,hi,k7⟩=>by
  obtain⟨_,_,_,_,_,_,_,_,_,h1,_⟩:=m7 hi k7;exact h1
 have A:vh K H1 io vs (aD.map (·.2)):=by
  refine⟨by rw[List.length_map,hlen],fun i v d hi k7 hd=>?_,fun i d hi hd=>?_,fun i j p hi hj h1 h2=>?_⟩
  ·rw[cV]at hd
   cases hx:aD[i]? with
   |none=>rw[hx]at hd;cases hd
   |some x =>
    rw[hx]at hd;cases hd
    obtain⟨v',gP,XY⟩:=at_ hx
    rw[k7]at gP;cases gP
    rcases ok.c3 i x hi hx with z|⟨z,j,hj,nj⟩
    ·exact(XY.gO z).wk fun a h _=>fun w=>h (sub a w)
    ·obtain⟨p,a,b,c,h1,cc⟩:=rT hj hx z
     rw[k7]at a;cases a
     refine(cc.wk fun a h _=>(fun w=>h.1 (sub a w):¬jy io vs a)).rp (fun⟨i2,Y6,Y7⟩=>?_)
     obtain⟨k,j2,x2,_,Y8,_,s2,e2,o2,_⟩:=m7 Y6 Y7
     have:=R.dj j j2 x x2 p c e2 z o2 b s2
     exact nj (this▸dO Y8)
  ·rw[cV]at hd
   cases hx:aD[i]? with
   |none=>rw[hx]at hd;cases hd
   |some x =>
    rw[hx]at hd;cases hd
    obtain⟨k,hk⟩:=List.getElem?_of_mem hi
    obtain⟨j,hj,Ar⟩:=ok.c1 k i hk
    obtain⟨ox,cx⟩:=ok.c4 i _ hi hx
    obtain⟨p',a,b,c,h1,cc⟩:=rT Ar hx ox
    exact⟨p',a,cc.im cx⟩
  ·obtain⟨k1,j1,x1,Y9,Za,_,Zb,Zc,o1,_⟩:=m7 hi h1
   obtain⟨k2,j2,x2,J5,Zd,_,Ze,Bu,o2,_⟩:=m7 hj h2
   have ej:=R.dj j1 j2 x1 x2 p Zc Bu o1 o2 Zb Ze
   subst ej
   have ek:k1=k2:=qC ok.c2 Za Zd
   subst ek
   rw[Y9]at J5;exact Option.some.inj J5
 exact⟨rT,m7,sub,A⟩
end
mutual
noncomputable def toPy:D→PyData
 |.non=>.none
 |.bl b=>.bool b
 |.int i=>.int i
 |.str x=>.str x
 |.tup ds=>.tuple (dq ds)
 |.lst ds=>.list (dq ds)
 |.ty _=>.none
 |.dk _=>.none
 |.dt _=>.none
noncomputable def dq:List D→List PyData
 |[]=>[]
 |d::ds=>toPy d::dq ds
end
mutual
noncomputable def plain:D→Bool
 |.tup ds=>fH ds
 |.lst ds=>fH ds
 |.ty _=>false
 |.dk _=>false
 |.dt _=>false
 |.non=>true
 |.bl _=>true
 |.int _=>true
 |.str _=>true
noncomputable def fH:List D→Bool
 |[]=>true
 |d::ds=>plain d&&fH ds
end
section
variable {K:PySem.W.Frag}{H H' H₀:Hp}{O O':Addr→Prop}{σ:L2.St}{env:Ev}
mutual
theorem oU{N:Addr→Prop}:∀{v:V}{d:D},plain d=true→Rp K N H v d→Dn K H v (toPy d)
 |_,_,_,.non=>by simp only[toPy];exact .non
 |_,_,_,.bl b=>by simp only[toPy];exact .bl b
 |_,_,_,.int i=>by simp only[toPy];exact .int i
 |_,_,_,.str x=>by simp only[toPy];exact .str x
 |_,.ty n,e,.ty _=>by simp[plain]at e
 |_,.tup ds,e,.tup h r=>by simp only[toPy];exact .tup h (qM (by simpa only[plain]using e) r)
 |_,.lst ds,e,.lst h n r=>by simp only[toPy];exact .lst (.inl h) (qM (by simpa only[plain]using e) r)
 |_,.lst ds,e,.lstK h r=>by simp only[toPy];exact .lst (.inr h) (qM (by simpa only[plain]using e) r)
 |_,.dk ds,e,.dk h n _ r=>by simp[plain]at e
 |_,.dt ds,e,.dt h n _ r=>by simp[plain]at e
theorem qM{N:Addr→Prop}:∀{vs:List V}{ds:List D},fH ds=true→ay K N H vs ds→bQ K H vs (dq ds)
 |_,_,_,.nil=>by simp only[dq];exact .nil
 |_,d::ds,e,.cons h r=>by
  have e':plain d=true∧fH ds=true:=by simpa[fH]using e
  simp only[dq]
  exact .cons (oU e'.1 h) (qM e'.2 r)
end
noncomputable def mR:D→D→Bool
 |.lst _,.lst _=>true
 |.tup _,.tup _=>true
 |.non,.non=>true
 |_,_=>false
theorem E5{a b:D}(h:mR a b=true):mY (toPy a) (toPy b):=by
 cases a<;>cases b<;>simp only[mR]at h<;>try (cases h;done)
 ·simp only[toPy];exact .non
 ·simp only[toPy];exact .tup _ _
 ·simp only[toPy];exact .lst _ _
noncomputable def jT(a b:D):Bool:=plain a&&plain b&&mR a b&&decide (min (toPy a).depth (toPy b).depth≤60)
noncomputable def gZ:M×D→M×D→Option (M×D):=fun a b=>if jT a.2 b.2=true then some (.fr,.bl (PyData.eqv (toPy a.2) (toPy b.2)))else none
noncomputable def gE:M×D→M×D→Option (M×D):=fun a b=>if jT a.2 b.2=true then some (.fr,.bl (!PyData.eqv (toPy a.2) (toPy b.2)))else none
theorem Ea{a b:D}(h:jT a b=true):plain a=true∧plain b=true∧mR a b=true∧min (toPy a).depth (toPy b).depth≤60:=by
 unfold jT at h
 simp only[Bool.and_eq_true,decide_eq_true_eq]at h
 exact⟨h.1.1.1,h.1.1.2,h.1.2,h.2⟩
theorem Ux:JR K (Ag K) gZ:=by
 intro H₀ O H x y a b Q m d _ _ h1 h2 h q
 unfold gZ at h
 split at h
 ·rename_i ok
  cases h
  obtain⟨p1,p2,l,dp⟩:=Ea ok
  exact⟨_,_,oU p1 h1.weak,oU p2 h2.weak,E5 l,dp,q _ H (aL.refl H) fX⟩
 ·cases h
theorem Uy:JR K (Ah K) gE:=by
 intro H₀ O H x y a b Q m d _ _ h1 h2 h q
 unfold gE at h
 split at h
 ·rename_i ok
  cases h
  obtain⟨p1,p2,l,dp⟩:=Ea ok
  exact⟨_,_,oU p1 h1.weak,oU p2 h2.weak,E5 l,dp,q _ H (aL.refl H) fX⟩
 ·cases h
theorem Uz{X:Cx}(h:X.K=K)(hu:X.A.units+64<cLine):bD X (compareOp .Eq) (Ag K):=by subst h;exact Tv hu
theorem UA{X:Cx}(h:X.K=K)(hu:X.A.units+64<cLine):bD X (compareOp .NotEq) (Ah K):=by subst h;exact Tw hu
noncomputable def m8(neg:Bool):M×D→M×D→Option (M×D)
 | (_,d),(_,.lst ds)=>if plain d=true∧fH ds=true∧(toPy d).depth≤50 then some (.fr,.bl (if neg then !((dq ds).any fun e=>PyData.eqv e (toPy d))else (dq ds).any fun e=>PyData.eqv e (toPy d)))else none
 |_,_=>none
theorem UB{neg:Bool}:JR K (Ai K neg) (m8 neg):=by
 intro H₀ O H x y a b Q m d _ _ h1 h2 h q
 obtain⟨ma,da⟩:=a;obtain⟨mb,db⟩:=b
 cases db<;>simp only[m8]at h<;>try (cases h;done)
 split at h
 ·rename_i ok
  cases h
  obtain⟨p,xs,rfl,hs,r⟩:=h2.lst
  exact⟨p,xs,_,_,rfl,hs,qM ok.2.1 r,oU ok.1 h1.weak,ok.2.2,q _ H (aL.refl H) fX⟩
 ·cases h
theorem M7{X:Cx}(h:X.K=K)(hu:X.A.units+64<cLine):bD X (compareOp .NotIn) (Ai K true):=by subst h;exact NP hu
theorem UC{n:Nat}{gs:hX}{fs:M→List D→Ev→Option Ev}(hs:pS K gs fs):JG K (HZ K n gs) (gL n fs):=by
 intro H₀ I O H σ env x v fZ Q R hm hv e q
 obtain⟨m,d⟩:=x
 cases d<;>simp only[gL]at e<;>try (cases e;done)
 split at e
 ·rename_i hl
  obtain⟨a,xs,rfl,pP,r⟩:=hv.lst
  exact⟨a,xs,rfl,pP,by rw[r.len];exact hl,hs H₀ I O H σ env (aV m) _ xs fZ Q R (by cases m<;>first|rfl|cases hm) r e q⟩
 ·cases e
theorem Rk{X:Cx}{tg l:Expr}{tl:TE}(h:X.K=K)(hl:PE X l tl):PI X tg l (zY K tl):=by subst h;exact SR hl
theorem Mj{X:Cx}(h:X.K=K):iy X (.type "list") (fun xs H Q=>∃p ys,xs=[.ref p]∧(bV K H p ys∨bJ K H p ys)∧∀l,H l=none→Q (.ref l) (upd H l (.lst ys))):=by subst h;exact Mp
end
theorem DI{fc:Ev→Option Bool}{fe:Ev→Option (M×D)}{m:M}{fr:Ev}{P:D→Prop}:∀{ds:List D},(∀d∈ds,fc (some (m,d)::fr)=some true∧∃x,fe (some (m,d)::fr)=some (.fr,x)∧P x)→∃xs:List D,dI fc fe m fr ds=some (xs.map fun x=>(M.fr,x))∧xs.length=ds.length∧∀x∈xs,P x
 |[],_=>⟨[],rfl,rfl,fun _ h=>nomatch h⟩
 |d::ds,h=>by
  obtain⟨h1,x,h2,h3⟩:=h d cv
  obtain⟨xs,q1,q2,q3⟩:=DI (ds:=ds) fun e he=>h e (df _ he)
  refine⟨x::xs,?_,by rw[List.length_cons,List.length_cons,q2],fun y hy=>?_⟩
  ·rw[dI,h1,Option.bind_some,if_pos rfl,h2,Option.bind_some,q1,Option.bind_some];rfl
  ·rcases List.mem_cons.mp hy with rfl|hy
   ·exact h3
   ·exact q3 y hy
theorem ip{xs:List D}(h:xs.length≤1000):iA (xs.map fun x=>(M.fr,x))=some (.un,.lst xs):=by
 unfold iA
 rw[if_pos (by rw[List.length_map];exact Nat.le_trans h (by decide)),if_pos (by rw[List.all_map];exact List.all_eq_true.mpr fun _ _=>rfl),List.map_map]
 congr 3
 exact List.map_id xs
def One(d:D):Prop:=∃c:Nat,d=.str ⟨#[c]⟩
theorem yN{m n:M}{x:Str}{i:Int}(hs:x.length≤sizeLine)(h0:0≤i)(h1:i<x.cps.toList.length):∃d,ak (m,.str x) (n,.int i)=some (.fr,d)∧One d:=by
 rw[Wd hs,ig h0 h1]
 exact⟨_,rfl,_,rfl⟩
noncomputable abbrev Ko:=Sum Int Str
noncomputable def kD:Ko→D
 |.inl i=>.int i
 |.inr x=>.str x
theorem qW(k:Ko):(kD k).cn=true:=by cases k<;>simp only[kD,D.cn]
inductive Row where
 |rk (x s:Str) (a b:Ko)|cp (x:Str) (a:Ko)|sy (a:Ko)|go (t:Int)|pt (a:Ko) (t:Int)|en
noncomputable def Row.ds:Row→List D
 |.rk x s a b=>[.str "reckon",.str x,.str s,kD a,kD b]
 |.cp x a=>[.str "copy",.str x,kD a]
 |.sy a=>[.str "say",kD a]
 |.go t=>[.str "go",.int t]
 |.pt a t=>[.str "part",kD a,.int t]
 |.en=>[.str "end"]
noncomputable def Row.d(r:Row):D:=.tup r.ds
theorem Row.cn(r:Row):r.d.cn=true:=by cases r<;>simp only[Row.d,Row.ds,D.cn,D.du,qW,Bool.and_self]
theorem my:∀rs:List Row,D.du (rs.map Row.d)=true
 |[]=>by simp only[List.map_nil,D.du]
 |r::rs=>by simp only[List.map_cons,D.du,Row.cn,my rs,Bool.and_self]
noncomputable def Row.word:Row→Str
 |.rk _ _ _ _ => "reckon"
 |.cp _ _ => "copy"
 |.sy _ => "say"
 |.go _ => "go"
 |.pt _ _ => "part"
 |.en => "end"
theorem Row.Zf(r:Row):L2.bE r.ds 0=some (.str r.word):=by cases r<;>rfl
theorem Pm{ns:List Str}{k:Int}(h0:0≤k)(h1:k<ns.length):∃c,L2.bE (ns.map D.str) k=some (.str c):=by
 rw[ig h0 (by simpa using h1)]
 exact⟨ns[k.toNat]'(by omega),by simp⟩
theorem Pn{rs:List Row}{k:Int}(h0:0≤k)(h1:k<rs.length):L2.bE (rs.map Row.d) k=some (rs[k.toNat]'(by omega)).d:=by
 rw[ig h0 (by simpa using h1)]
 simp
theorem Eb{g:M×D→Ev→Option Ev}{b:Ev→Option Fl}{m:M}{rm:M}{rd:D}:∀{ds:List D}{e:Ev} (Iv:Nat→Ev→Prop) (ok:Nat→Bool),Iv 0 e →
  (∀(k:Nat) d e,ds[k]?=some d→Iv k e→(∀j,j<k→ok j=true)→∃e1,g (m,d) e=some e1∧((ok k=true∧∃e2,b e1=some (.nx e2)∧Iv (k+1) e2)∨(ok k=false∧∃e2,b e1=some (.rt e2 rm rd)))) →
  ((∀k,k<ds.length→ok k=true)∧∃e',forL g b m ds e=some (.nx e')∧Iv ds.length e')∨((∃k,k<ds.length∧ok k=false)∧∃e',forL g b m ds e=some (.rt e' rm rd))
 |[],e,Iv,ok,h0,_=>.inl ⟨fun k h=>absurd h (Nat.not_lt_zero k),e,rfl,h0⟩
 |d::ds,e,Iv,ok,h0,hs=>by
  obtain⟨e1,h1,h2⟩:=hs 0 d e rfl h0 (fun j h=>absurd h (Nat.not_lt_zero j))
  rcases h2 with⟨wN,e2,h2,h3⟩|⟨wN,e2,h2⟩
  ·have ih:=Eb (g:=g) (b:=b) (m:=m) (rm:=rm) (rd:=rd) (ds:=ds) (e:=e2) (fun k e=>Iv (k+1) e) (fun k=>ok (k+1)) h3 (fun k d e hd hi hj=>hs (k+1) d e (by simpa using hd) hi (fun j aZ=>by
    cases j with
    |zero=>exact wN
    |succ j=>exact hj j (by omega)))
   have eq:forL g b m (d::ds) e=forL g b m ds e2:=by simp only[forL,h1,h2,Option.bind_some]
   rw[eq]
   rcases ih with⟨a,e',q1,q2⟩|⟨⟨k,hk,q⟩,r⟩
   ·refine .inl ⟨fun k hk=>?_,e',q1,q2⟩
    cases k with
    |zero=>exact wN
    |succ k=>exact a k (by simpa using hk)
   ·exact .inr ⟨⟨k+1,by simpa using hk,q⟩,r⟩
  ·refine .inr ⟨⟨0,by simp,wN⟩,e2,?_⟩
   simp only[forL,h1,h2,Option.bind_some]
section
variable {K:PySem.W.Frag}{H H' H₀:Hp}{O:Addr→Prop}{σ:L2.St}{env:Ev}
noncomputable def qX:Ev→Option (M×D):=fun _=>some (.un,.dk [])
theorem Pp:JT K FZ qX:=by
 intro H₀ O H σ env Q m d R h q
 cases h
 intro p hp
 refine q _ _ (cY hp) ⟨p,rfl,hp,lh R.hd hp,iW R.od hp,[],bS,rfl,.nil⟩
theorem UD{a:Addr}{xs:List V}{ds:List D}(w:∀H:Hp,bJ K H a xs)(r:∀(N:Addr→Prop) (H:Hp),ay K N H xs ds):JT K (tC (.ref a)) (jC (.tup ds)):=by
 intro H₀ O H σ env Q m d' R h q
 cases h
 exact q _ H (aL.refl H) (Rp.tup (w H) (r _ H))
theorem Dc{N:Addr→Prop}:∀(ys:List Str),ay K N H (ys.map V.str) (ys.map D.str)
 |[]=>.nil
 |y::ys=>.cons (.str y) (Dc ys)
end
theorem Rl{u:Value}{y:Str}(h:oW u=some (V.str y)):RelV (.str y) u:=by
 cases u<;>simp only[oW]at h<;>cases h
 exact⟨_,rfl⟩
theorem Ec:∀{us:List Value}{ys:List Str},us.map oW=ys.map (fun y=>some (V.str y))→Vals (ys.map V.str) us
 |[],[],_=>.nil
 |[],_::_,h=>by cases h
 |_::_,[],h=>by cases h
 |u::us,y::ys,h=>by
  rw[List.map_cons,List.map_cons]at h
  exact .cons (Rl (List.cons.inj h).1) (Ec (List.cons.inj h).2)
theorem Rm {K:PySem.W.Frag}{a:Addr}{od:Option Addr}{its:Array Value}{n:Nat}{sl:Array (Option Value)}{ys:List Str} (l:K.lookup a=some ⟨.type "tuple",od,.seq its n,sl⟩) (v:its.toList.map oW=ys.map (fun y=>some (V.str y))) (hz:4≤ys.length∧ys.length≤1000) (H:Hp):bJ K H a (ys.map V.str):=by
 have r:=Ec v
 have e:=r.length
 simp only[List.length_map,Array.length_toList]at e
 exact .inr ⟨_,its,n,l,rfl,rfl,Nat.le_trans (by omega) (show 1000≤sizeLine by decide),by omega,r⟩
section
variable {K:PySem.W.Frag}{H H₀:Hp}{O:Addr→Prop}
noncomputable def sQ(z:Str):List D:=z.cps.toList.map fun c=>.str ⟨#[c]⟩
theorem Pq{z:Str}:kC K H₀ O (wF z) H .fr (sQ z):=by
 have l:(sQ z).length=z.cps.size:=by simp[sQ]
 refine⟨fun O2 H2 i s hi=>by rw[l]at hi;exact hi,fun O2 H2 i x H3 s hi y=>?_,fun O2 H2 s=>by rw[l];exact bf z.cps.size⟩
 obtain⟨rfl,c,hc,rfl⟩:=y
 refine⟨aL.refl _,.str ⟨#[c]⟩,?_,Rp.str _⟩
 unfold sQ
 rw[cV,Array.getElem?_toList,hc]
 rfl
noncomputable def Bv(f:Ev→Option (M×D)):Ev→Option (M×List D):=fun e=>(f e).bind fun x=>match x.2 with
 |.str z=>some (.fr,sQ z)
 |_=>none
theorem UE{t:TE}{f:Ev→Option (M×D)}(h:JT K t f):JI K (H0 t) (Bv f):=by
 intro H₀ O H σ env R m ds Re e q
 obtain⟨⟨m0,d0⟩,ex,e⟩:=aB e
 cases d0<;>simp only at e<;>try (cases e;done)
 cases e
 refine h H₀ O H σ env _ _ _ Re ex fun v H1 s1 h1=>?_
 exact⟨_,h1.str,q _ H1 s1 rfl Pq⟩
end
end J
namespace L2
open PySem
end L2
namespace J
open PySem L2
section
variable {m n:M}{z:Str}{i:Int}{b:Bool}{ds:List D}{ks:List (Key×D)}{kt:List (List Key×D)}
theorem MD:kE [(m,.int i),(n,.ty "int")]=some (.fr,.bl true):=rfl
theorem Ms:kE [(m,.int i),(n,.ty "bool")]=some (.fr,.bl false):=rfl
end
section
variable {K:PySem.W.Frag}
end
structure gb (X:Cx)(st:Stmt)(t:TS):Prop where
 go:PS X st t
structure kH (X:Cx)(ss:List Stmt)(t:TS):Prop where
 go:gp X ss t
section
variable {X:Cx}{st:Stmt}{rest a b body:List Stmt}{t u tb:TS}{e c iter tg o i value:Expr}{te td ty tv:TE}{tc:TT}{g:TG}{wi:TI}{pos pos':Pos}{k:Nat}{x:Str}
theorem Rn:kH X [] zE:=⟨Qh⟩
theorem Pr(h1:gb X st t)(h2:kH X rest u):kH X (st::rest) (zV t u):=⟨Om h1.go h2.go⟩
theorem Ro(h1:gb X st t):kH X [st] t:=⟨Qi h1.go⟩
theorem u6(he:PE X e te)(hs:swapsWith e none pos.line X.env=pure false:=by rfl):gb X (.Expr e pos) (oQ te):=⟨Qj he hs⟩
theorem Ge(he:PE X e te):gb X (.Return (some e) pos) (vO te):=⟨SJ he⟩
theorem Wg(hc:PT X c tc)(ha:kH X a t)(hb:kH X b u):gb X (.If c a b pos) (zW tc t u):=⟨Vz hc ha.go hb.go⟩
theorem Gf(he:PE X e te)(hg:PG X tg g)(hs:swapsWithSole [tg] e pos.line X.env=pure false:=by rfl)(hw:swappedStores [tg] e X.env=pure none:=by rfl)
 (h1:(assignEach [tg] X.env).map (·.2)=[assign tg X.env]:=by rfl):gb X (.Assign [tg] e pos) (iE te g):=⟨SN he hg hs hw h1⟩
theorem UG{i:Nat}(hN:X.N.Nodup)(hi:X.N[i]?=some x)(hx:Loc X.env.scope x)(he:PE X e te)(hs:swapsWith e (some (.Name x pos')) pos.line X.env=pure false:=by rfl)(hf:X.fn x=true∨X.env.scope.names.lookup x=some .local:=by first|exact .inl rfl|exact .inr rfl|assumption) :
 gb X (.Assign [.Name x pos'] e pos) (iE te (jK i)):=⟨SQ hN hi hx he hs hf⟩
theorem Pt(hp:PassesOwn (model X.prog X.w) X.A X.env X.xe)(hc:PT X c tc)(hb:kH X body tb):gb X (.While c body [] pos) (zf tc tb):=⟨Oq hp hc hb.go⟩
theorem Gg(hp:PassesOwn (model X.prog X.w) X.A X.env X.xe)(hc:X.calm=true)(hi:PI X tg iter wi)(hg:PG X tg g)(hb:kH X body tb)
 (hs:∀x,foldedSetIterable iter X.env x=pure x:=by intro _;rfl):gb X (.For tg iter body [] pos) (oY wi g tb):=⟨SV hp hc hi hg hb.go hs⟩
theorem E6(hu:X.A.units+1<cLine)(ho:PE X o td)(hi:PE X i ty)(hv:PE X value tv)(hs:swapsWith value (some (.Subscript o i pos')) pos.line X.env=pure false) :
 gb X (.Assign [.Subscript o i pos'] value pos) (vy td ty tv):=⟨Qx hu ho hi hv hs⟩
theorem Dg{N':List Str}{aE:Scope}{ix:List Nat}{elt:Expr}{ifs:List Expr}{px:Pos}{i:Nat}{y:Str}{py rN:Pos}(hN:X.N.Nodup)(Bh:X.N[i]?=some y)(hy:X.env.scope.names.lookup y=some .local)(ok:mG X.N N' X.env.scope aE x ix)(hc:X.calm=true)(hi:PI X (.Name x px) iter wi)(iM:∀C s₂ H₂ fp pn,nC (X.cP N' aE C s₂ H₂ fp pn) ifs tc)
 (gM:∀C s₂ H₂ fp pn,PE (X.cP N' aE C s₂ H₂ fp pn) elt te) (Bi:swapsWith (.ListComp elt [⟨.Name x px,iter,ifs,0⟩] aE pos) (some (.Name y py)) rN.line X.env=pure true:=by rfl)
 (hs:∀x,foldedSetIterable iter X.env x=pure x:=by intro _;rfl):gb X (.Assign [.Name y py] (.ListComp elt [⟨.Name x px,iter,ifs,0⟩] aE pos) rN) (iE (oR wi ix tc te) (jK i)):=⟨MZ hN Bh hy ok hc hi iM gM Bi hs⟩
end
noncomputable def keyOf:D→Option Key
 |.int i=>some (.inl i)
 |.str x=>some (.inr x)
 |.non=>some .non
 |_=>none
noncomputable def cB{κ:Type}[DecidableEq κ](ks:List (κ×D))(k:κ):Option D:=(ks.find? fun kv=>decide (kv.1=k)).map (·.2)
noncomputable def putD{κ:Type}[DecidableEq κ](ks:List (κ×D))(k:κ)(d:D):List (κ×D) :=
 if (ks.any fun kv=>decide (kv.1=k))=true then ks.map (fun kv=>if kv.1=k then (kv.1,d)else kv)else ks++[(k,d)]
section
variable {K:PySem.W.Frag}{H H' H₀:Hp}{I:Nat→Option Addr}{O:Addr→Prop}{σ:L2.St}{env:Ev}
theorem oi{N:Addr→Prop}{d:D}{k:Key}{v:V}(e:keyOf d=some k)(h:Rp K N H v d):v=kV k:=by
 cases d<;>simp only[keyOf]at e<;>cases e
 ·exact h.EY
 ·exact h.int_inv
 ·exact h.str_inv
def Ent{κ:Type}(K:PySem.W.Frag)(N:Addr→Prop)(H:Hp)(ai:List (κ×V))(ks:List (κ×D)):Prop:=ai.map (·.1)=ks.map (·.1)∧ay K N H (ai.map (·.2)) (ks.map (·.2))
theorem Ent.cons_inv{κ:Type}{N:Addr→Prop}{p:κ×V}{ai:List (κ×V)}{q:κ×D}{ks:List (κ×D)}(h:Ent K N H (p::ai) (q::ks)):p.1=q.1∧Rp K N H p.2 q.2∧Ent K N H ai ks:=by
 obtain⟨e,r⟩:=h
 rw[List.map_cons,List.map_cons]at e r
 obtain⟨e1,e2⟩:=List.cons.inj e
 cases r with|cons a b=>exact⟨e1,a,e2,b⟩
theorem Ent.len{κ:Type}{N:Addr→Prop}{ai:List (κ×V)}{ks:List (κ×D)}(h:Ent K N H ai ks):ai.length=ks.length:=by
 have:=congrArg List.length h.1
 simpa using this
theorem Ent.val{κ:Type}[DecidableEq κ]{N:Addr→Prop}:∀{ai:List (κ×V)}{ks:List (κ×D)} (k:κ),Ent K N H ai ks→(cB ks k=none∧fI ai k=none)∨∃d v,cB ks k=some d∧fI ai k=some v∧Rp K N H v d
 |[],[],k,_=>.inl ⟨rfl,rfl⟩
 |[],_::_,k,h=>absurd h.len (by simp)
 |_::_,[],k,h=>absurd h.len (by simp)
 |p::ai,q::ks,k,h=>by
  obtain⟨e,r,t⟩:=h.cons_inv
  by_cases z:q.1=k
  ·exact .inr ⟨q.2,p.2,by simp[cB,List.find?_cons,z],uP (e.trans z),r⟩
  ·have e1:cB (q::ks) k=cB ks k:=by simp[cB,List.find?_cons,z]
   rw[e1,uQ (fun w=>z (e.symm.trans w))]
   exact Ent.val k t
theorem Ent.put{κ:Type}[DecidableEq κ]{N:Addr→Prop}{ai:List (κ×V)}{ks:List (κ×D)}{k:κ}{v:V}{d:D}(h:Ent K N H ai ks)(hv:Rp K N H v d):Ent K N H (putK ai k v) (putD ks k d):=by
 have ha:(ai.any fun kv=>decide (kv.1=k))=(ks.any fun kv=>decide (kv.1=k)):=by
  have:∀{α β:Type} (l:List (α×β)) (f:α→Bool),l.any (fun kv=>f kv.1)=(l.map (·.1)).any f:=fun l f=>by rw[List.any_map];rfl
  rw[this ai fun a=>decide (a=k),this ks fun a=>decide (a=k),h.1]
 unfold putK putD
 rw[ha]
 split
 ·have go:∀{ai:List (κ×V)}{ks:List (κ×D)},Ent K N H ai ks→Ent K N H (ai.map fun kv=>if kv.1=k then (kv.1,v)else kv) (ks.map fun kv=>if kv.1=k then (kv.1,d)else kv):=by
   intro ai
   induction ai with
   |nil=>intro ks h;cases ks with
    |nil=>exact⟨rfl,.nil⟩
    |cons _ _=>exact absurd h.len (by simp)
   |cons p ai ih =>
    intro ks h
    cases ks with
    |nil=>exact absurd h.len (by simp)
    |cons q ks =>
     obtain⟨e,r,t⟩:=h.cons_inv
     obtain⟨i1,i2⟩:=ih t
     rw[List.map_cons,List.map_cons]
     by_cases z:q.1=k
     ·rw[if_pos z,if_pos (e.trans z)]
      exact⟨by rw[List.map_cons,List.map_cons,i1,e],.cons hv i2⟩
     ·rw[if_neg z,if_neg (fun w=>z (e.symm.trans w))]
      exact⟨by rw[List.map_cons,List.map_cons,i1,e],.cons r i2⟩
  exact go h
 ·exact⟨by rw[List.map_append,List.map_append,h.1];rfl,by rw[List.map_append,List.map_append];exact h.2.app (.cons hv .nil)⟩
theorem Val.dk{m:M}{ks:List (Key×D)}{v:V}{Hb:Hp}(h:Val K H₀ O Hb H m (.dk ks) v):∃a ai,v=.ref a∧Rd H a (.dK ai)∧Ent K (NM H₀ O (aV m)) H ai ks:=by
 cases m<;>simp only[Val,Cell]at h
 ·cases h with|dk r n e q=>exact⟨_,_,rfl,r,e,q⟩
 ·cases h with|dk r n e q=>exact⟨_,_,rfl,r,e,q⟩
 ·obtain⟨p,rfl,_,_,_,xs,q,e,r⟩:=h;exact⟨_,_,rfl,.inl q,e,r.wk fun a h _=>h.1⟩
 ·obtain⟨p,rfl,_,_,xs,q,e,r⟩:=h;exact⟨_,_,rfl,.inl q,e,r⟩
 ·obtain⟨p,rfl,_,xs,q,e,r⟩:=h;exact⟨_,_,rfl,.inl q,e,r⟩
 ·cases h with|dk r n e q=>exact⟨_,_,rfl,r,e,q⟩
 ·obtain⟨p,qs,aR,rfl,e2,_⟩:=h;cases e2
noncomputable def lL:D→Option (List (Key×D))
 |.dk ks=>some ks
 |_=>none
theorem yO{d:D}{ks:List (Key×D)}(h:lL d=some ks):d=.dk ks:=by cases d<;>simp only[lL]at h<;>cases h;rfl
noncomputable def rC(fd fk:Ev→Option (M×D)):Ev→Option (M×D):=fun e=>(fd e).bind fun x=>(fk e).bind fun y=>(lL x.2).bind fun ks=>(keyOf y.2).bind fun k=>(cB ks k).bind fun d=>some (aV x.1,d)
theorem Rq{td ty:TE}{fd fk:Ev→Option (M×D)}(hd:JT K td fd)(hk:JT K ty fk):JT K (zH td ty) (rC fd fk):=by
 intro H₀ O H σ env Q m d R h q
 obtain⟨x,ex,h⟩:=aB h
 obtain⟨y,ey,h⟩:=aB h
 obtain⟨ks,k8,h⟩:=aB h
 obtain⟨k,ek,h⟩:=aB h
 obtain⟨d',ed,h⟩:=aB h
 cases h
 refine hd H₀ O H σ env _ x.1 x.2 R ex fun v H1 s1 h1=>?_
 refine hk H₀ O H1 σ env _ y.1 y.2 (R.keep s1) ey fun w H2 s2 h2=>?_
 rw[yO k8]at h1
 obtain⟨a,ai,rfl,rd,en⟩:=(h1.keep s2).dk
 obtain rfl:=oi ek h2.weak
 rcases en.val k with⟨z,_⟩|⟨d2,v2,z1,z2,r⟩
 ·rw[z]at ed;cases ed
 ·rw[z1]at ed;cases ed
  exact⟨a,v2,rfl,.inl ⟨ai,k,rd,rfl,z2.symm⟩,q v2 H2 (s1.trans s2) (Val.el r)⟩
noncomputable def gj(neg:Bool)(fk fd:Ev→Option (M×D)):Ev→Option (M×D):=fun e=>(fk e).bind fun y=>(fd e).bind fun x=>(lL x.2).bind fun ks=>(keyOf y.2).bind fun k=>some (.fr,.bl (if neg then !(cB ks k).isSome else (cB ks k).isSome))
theorem Ent.isSome{κ:Type}[DecidableEq κ]{N:Addr→Prop}{ai:List (κ×V)}{ks:List (κ×D)}{k:κ}(h:Ent K N H ai ks):(fI ai k).isSome=(cB ks k).isSome:=by
 rcases h.val k with⟨a,b⟩|⟨d,v,a,b,_⟩<;>rw[a,b]<;>rfl
theorem UH{td ty:TE}{fd fk:Ev→Option (M×D)}(hk:JT K ty fk)(hd:JT K td fd):JT K (HW ty td) (gj false fk fd):=by
 intro H₀ O H σ env Q m d R h q
 obtain⟨y,ey,h⟩:=aB h
 obtain⟨x,ex,h⟩:=aB h
 obtain⟨ks,k8,h⟩:=aB h
 obtain⟨k,ek,h⟩:=aB h
 cases h
 refine hk H₀ O H σ env _ y.1 y.2 R ey fun w H1 s1 h1=>?_
 refine hd H₀ O H1 σ env _ x.1 x.2 (R.keep s1) ex fun v H2 s2 h2=>?_
 rw[yO k8]at h2
 obtain⟨a,ai,rfl,rd,en⟩:=h2.dk
 obtain rfl:=oi ek h1.weak
 refine⟨a,fI ai k,rfl,.inl ⟨ai,k,rd,rfl,rfl⟩,?_⟩
 rw[en.isSome]
 exact q _ H2 (s1.trans s2) fX
theorem N1{td ty:TE}{fd fk:Ev→Option (M×D)}(hk:JT K ty fk)(hd:JT K td fd):JT K (EJ ty td) (gj true fk fd):=by
 intro H₀ O H σ env Q m d R h q
 obtain⟨y,ey,h⟩:=aB h
 obtain⟨x,ex,h⟩:=aB h
 obtain⟨ks,k8,h⟩:=aB h
 obtain⟨k,ek,h⟩:=aB h
 cases h
 refine hk H₀ O H σ env _ y.1 y.2 R ey fun w H1 s1 h1=>?_
 refine hd H₀ O H1 σ env _ x.1 x.2 (R.keep s1) ex fun v H2 s2 h2=>?_
 rw[yO k8]at h2
 obtain⟨a,ai,rfl,rd,en⟩:=h2.dk
 obtain rfl:=oi ek h1.weak
 refine⟨a,fI ai k,rfl,.inl ⟨ai,k,rd,rfl,rfl⟩,?_⟩
 rw[en.isSome]
 exact q _ H2 (s1.trans s2) fX
noncomputable def lM(i:Nat)(e:Ev):Option (M×List (Key×D)):=match e[i]? with
 |some (some (m,.dk ds))=>if own m=true then some (m,ds)else none
 |_=>none
theorem E7{i:Nat}{e:Ev}{m:M}{ds:List (Key×D)}(h:lM i e=some (m,ds)):e[i]?=some (some (m,.dk ds))∧own m=true:=by
 unfold lM at h
 split at h
 ·rename_i e
  split at h
  ·cases h;exact⟨e,by assumption⟩
  ·cases h
 ·cases h
theorem Rel.dct{i:Nat}{m:M}{ds:List (Key×D)}(R:Rel K H₀ I O H σ env)(h:lM i env=some (m,ds)):∃p ai,σ[i]?=some (some (.ref p))∧O p∧H p=some (.dK ai)∧Ent K (fun a=>¬O a∧H₀ a=none) H ai ds:=by
 obtain⟨e,o⟩:=E7 h
 obtain⟨v,hv,n,hm⟩:=R.e.at e
 cases m<;>simp only[own]at o<;>try (cases o;done)
 ·obtain⟨p,rfl,h1,h2,xs,c,z,r⟩:=hm;exact⟨p,xs,hv,h1,c,z,r⟩
 ·obtain⟨p,rfl,h1,xs,c,z,r⟩:=hm;exact⟨p,xs,hv,h1,c,z,r⟩
theorem Rel.XZ{i:Nat}{m:M}{ds:List (Key×D)}{p:Addr}{xs ys:List (Key×V)}{es:List (Key×D)}(R:Rel K H₀ I O H σ env)(h:lM i env=some (m,ds))(hp:σ[i]?=some (some (.ref p)))(hx:H p=some (.dK xs))(r:Ent K (fun a=>¬O a∧H₀ a=none) H ys es) :
  Rel K H₀ I O (L2.upd H p (.dK ys)) σ (env.set i (some (m,.dk es)))∧aS O H O (L2.upd H p (.dK ys)):=by
 obtain⟨e,o⟩:=E7 h
 have hO:=(R.mH e o hp).1
 exact R.mut e o hp ⟨ys,bS,r.1,r.2.upd hO hx (fun z=>z)⟩
noncomputable def lA(i:Nat)(fk fe:Ev→Option (M×D)):Ev→Option Fl:=fun e=>(fe e).bind fun x=>(fk e).bind fun y=>(keyOf y.2).bind fun k=>if dD x.1 x.2=true then (lM i e).bind fun z=>if z.2.length<sizeLine then some (.nx (e.set i (some (z.1,.dk (putD z.2 k x.2)))))else none else none
theorem Rr{i:Nat}{t tk:TE}{f fk:Ev→Option (M×D)}(h:JT K t f)(hk:JT K tk fk):JS K (vy (gD i) tk t) (lA i fk f):=by
 intro H₀ I O H σ env Ds fl R e q
 obtain⟨x,ex,e⟩:=aB e
 obtain⟨y,ey,e⟩:=aB e
 obtain⟨k,ek,e⟩:=aB e
 split at e
 ·rename_i hs
  obtain⟨⟨m,ds⟩,ez,e⟩:=aB e
  split at e
  ·rename_i hl
   cases e
   obtain⟨p,ai,hp,hO,hx,r⟩:=R.dct ez
   refine h H₀ O H σ env _ x.1 x.2 R.e ex fun v H1 s1 h1=>?_
   refine⟨.ref p,hp,?_⟩
   refine hk H₀ O H1 σ env _ y.1 y.2 (R.keep s1).e ey fun w H2 s2 h2=>?_
   obtain rfl:=oi ek h2.weak
   have s:=s1.trans s2
   refine⟨p,_,rfl,.inl ⟨ai,k,s _ _ hx,rfl,by rw[r.len];exact hl,rfl⟩,?_⟩
   obtain⟨R2,st⟩:=(R.keep s).XZ (ys:=putK ai k v) (es:=putD ds k x.2) ez hp (s _ _ hx) (Ent.put ⟨r.1,r.2.keep (.same s)⟩ ((h1.keep s2).dD hs))
   exact q O _ σ R2 ((aS.same s).trans st)
  ·cases e
 ·cases e
noncomputable def zO(fk fv:Ev→Option (M×D)):Ev→Option (M×D):=fun e=>(fk e).bind fun y=>(fv e).bind fun x=>(keyOf y.2).bind fun k=>if x.2.cn=true then some (.un,.dk [(k,x.2)])else none
theorem Ru{tk tv:TE}{fk fv:Ev→Option (M×D)}(hk:JT K tk fk)(hv:JT K tv fv):JT K (G5 [(tk,tv)]) (zO fk fv):=by
 intro H₀ O H σ env Q m d R h q
 obtain⟨y,ey,h⟩:=aB h
 obtain⟨x,ex,h⟩:=aB h
 obtain⟨k,ek,h⟩:=aB h
 split at h
 ·rename_i J6
  cases h
  intro p hp
  have s0:aL H (upd H p (.dK [])):=cY hp
  refine hk H₀ O _ σ env _ y.1 y.2 (R.keep s0) ey fun w H1 s1 h1=>?_
  refine hv H₀ O H1 σ env _ x.1 x.2 ((R.keep s0).keep s1) ex fun v H2 s2 h2=>?_
  obtain rfl:=oi ek h1.weak
  have nA:H2 p=some (.dK []):=s2 _ _ (s1 _ _ bS)
  refine⟨nA,[(k,v)],rfl,by show 1≤15;decide,?_⟩
  have sm:aL H (upd H2 p (.dK (oF [] [(k,v)]))):=fun a o e=>by
   rw[aK (fF e hp)]
   exact s2 _ _ (s1 _ _ (s0 _ _ e))
  refine q _ _ sm ⟨p,rfl,hp,lh R.hd hp,iW R.od hp,[(k,v)],bS,rfl,.cons ?_ .nil⟩
  refine(Rp.im (N':=fun _=>False) J6 h2.weak).keep (fun a o e z=>?_) |>.im J6
  have fM:a≠p:=by
   rintro rfl
   rcases z with z|z
   ·exact z
   ·rw[nA]at e;cases e;exact z
  rw[aK fM];exact e
 ·cases h
end
section
variable {K:PySem.W.Frag}{H H' H₀:Hp}{I:Nat→Option Addr}{O:Addr→Prop}{σ:L2.St}{env:Ev}
theorem Rel.UI{i:Nat}{C:Addr}{qs:List Addr}{aR:List (List D)}{H1:Hp}(R:Rel K H₀ I O H σ env)(s:aL H H1)(nn:∀(j:Nat) d,j≠i→env[j]?≠some (some (.nb,d)))(hC:H C=none)(hq:∀q∈qs,H q=none∧q≠C)(nd:qs.Nodup)
  (e:H1 C=some (.lst (qs.map V.ref))) (hp:Paired (fun q ds=>∃xs,H1 q=some (.lst xs)∧ay K (fun a=>¬(O a∨a=C∨a∈qs)∧H₀ a=none) H1 xs ds) qs aR) :
  Rel K H₀ I (fun a=>O a∨a=C∨a∈qs) H1 (σ.set i (some (.ref C))) (env.set i (some (.nb,.lst (aR.map D.lst))))∧aS O H (fun a=>O a∨a=C∨a∈qs) H1:=by
 have np:∀a,(∃o,H a=some o)→¬(a=C∨a∈qs):=fun a ⟨o,ea⟩ z=>by
  rcases z with rfl|z
  ·rw[hC]at ea;cases ea
  ·rw[(hq a z).1]at ea;cases ea
 have n0:∀a,(a=C∨a∈qs)→H₀ a=none:=fun a z=>by
  cases h0:H₀ a with
  |none=>rfl
  |some o=>exact absurd z (np a (R.e.hd a o h0))
 have nO:∀a,(a=C∨a∈qs)→¬O a:=fun a z ho=>np a (R.e.od a ho) z
 have wk:∀{N:Addr→Prop}{d:D}{v:V},Rp K N H v d→Rp K (fun a=>N a∧¬(a=C∨a∈qs)) H1 v d:=fun r=>(r.wk fun a n e=>⟨n,np a e⟩).keep (.same s)
 have sF:∀{N:Addr→Prop}{d:D}{q:Addr},Cell K N H q d→Cell K (fun a=>N a∧¬(a=C∨a∈qs)) H1 q d:=fun {N d q} r=>by
  obtain⟨o,e,_⟩:=r.some
  exact(r.wk fun a n e=>⟨n,np a e⟩).keep (.same s) ((s _ _ e).trans e.symm)
 have Bw:∀{j:Nat}{d:D},(env.set i (some (M.nb,D.lst (aR.map D.lst))))[j]?=some (some (.nb,d))→j=i:=fun {j d} h=>by
  rcases get_set h with⟨z,_⟩|⟨z,q⟩
  ·exact z
  ·exact absurd q (nn j d z)
 have J7:∀a,(a=C∨a∈qs)→∃o,H1 a=some o∧¬iN o:=fun a z=>by
  rcases z with rfl|z
  ·exact⟨_,e,fun z=>z⟩
  ·obtain⟨ds,xs,hx,_⟩:=yu hp z
   exact⟨_,hx,fun z=>z⟩
 refine⟨⟨⟨mw ?_ ?_,?_,?_,?_⟩,?_,?_,?_,?_,?_⟩,?_⟩
 ·rw[List.length_set,List.length_set];exact Paired.length R.e.sl
 ·intro j y x hy hx m d ey
  subst ey
  rcases get_set hy with⟨rfl,z⟩|⟨nj,q⟩
  ·cases z
   rcases get_set hx with⟨_,z⟩|⟨z,_⟩
   ·subst z
    exact⟨rfl,_,rfl,C,qs,aR,rfl,rfl,.inr (.inl rfl),n0 C (.inl rfl),e,nd,fun q hm=>⟨.inr (.inr hm),n0 q (.inr hm),(hq q hm).2⟩,hp⟩
   ·exact absurd rfl z
  ·rw[fA (fun z=>nj z.symm)]at hx
   obtain⟨v,hv,n,z⟩:=R.e.at q
   rw[hx]at hv;cases hv
   refine⟨n,v,rfl,?_⟩
   cases m
   ·exact(wk z).wk fun a h _=>fun z=>z.elim h.1 h.2
   ·exact(wk z).wk fun a h _=>⟨fun z=>z.elim h.1.1 h.2,h.1.2⟩
   ·cases n
   ·obtain⟨q,rfl,h1,h2,c'⟩:=z
    exact⟨q,rfl,.inl h1,h2,(sF c').wk fun a h _=>⟨fun z=>z.elim h.1.1 h.2,h.1.2⟩⟩
   ·obtain⟨q,rfl,h1,c'⟩:=z
    exact⟨q,rfl,.inl h1,(sF c').wk fun a h _=>⟨fun z=>z.elim h.1.1 h.2,h.1.2⟩⟩
   ·cases n
   ·exact absurd q (nn j d nj)
 ·intro a ha
  rcases ha with ha|ha
  ·obtain⟨o,e⟩:=R.e.od a ha;exact⟨o,s _ _ e⟩
  ·obtain⟨o,eo,_⟩:=J7 a ha;exact⟨o,eo⟩
 ·exact fun a o h=>let ⟨o,e⟩:=R.e.hd a o h;⟨o,s _ _ e⟩
 ·intro a u ha eu
  rcases ha with ha|ha
  ·exact(R.e.keep s).on a u ha eu
  ·obtain⟨o,eo,nt⟩:=J7 a ha
   rw[eu]at eo;cases eo;exact nt
 ·exact fun a o n h=>s _ _ (R.fr a o n h)
 ·intro a ha
  rcases ha with ha|ha
  ·exact R.ow a ha
  ·exact .inr (n0 a ha)
 ·intro i' d' p' h1 p1
  rcases get_set h1 with⟨rfl,q⟩|⟨n1,q1⟩
  ·cases q
  ·rw[fA (fun z=>n1 z.symm)]at p1
   exact R.ba i' d' p' q1 p1
 ·intro i' j x y q h1 h2 o1 o2 p1 p2
  rcases get_set h1 with⟨rfl,q1⟩|⟨n1,q1⟩
  ·cases q1;cases o1
  ·rcases get_set h2 with⟨rfl,q2⟩|⟨n2,q2⟩
   ·cases q2;cases o2
   ·rw[fA (fun z=>n1 z.symm)]at p1
    rw[fA (fun z=>n2 z.symm)]at p2
    exact R.dj i' j x y q q1 q2 o1 o2 p1 p2
 ·refine⟨fun i' j d1 d2 h1 h2=>(Bw h1).trans (Bw h2).symm,fun i' j d1 x p' q xs h1 p1 h2 o2 p2 ex=>?_⟩
  have hi:=Bw h1
  subst hi
  have sR:p'=C:=by
   rcases get_set p1 with⟨_,z⟩|⟨z,_⟩
   ·cases z;rfl
   ·exact absurd rfl z
  subst sR
  rw[e]at ex;cases ex
  rcases get_set h2 with⟨rfl,z⟩|⟨n2,q2⟩
  ·cases z;cases o2
  ·rw[fA (fun z=>n2 z.symm)]at p2
   have hO:=(R.mH q2 o2 p2).1
   refine⟨fun z=>nO q (.inl z) hO,fun z=>?_⟩
   obtain⟨a,ha,ea⟩:=bZ.mp z
   exact nO q (.inr (by cases ea;exact ha)) hO
 ·intro a o h n
  exact⟨s a o h,fun z=>z.elim n (np a ⟨o,h⟩)⟩
noncomputable def As(i:Nat)(e:Ev):Bool:=(List.range e.length).all fun j=>decide (j=i)||(match e[j]? with
 |some (some (.nb,_))=>false
 |_=>true)
theorem Rv{i:Nat}{e:Ev}(h:As i e=true)(j:Nat)(d:D)(hj:j≠i):e[j]?≠some (some (.nb,d)):=fun z=>by
 have hl:j<e.length:=(bB.mp z).1
 have:=List.all_eq_true.mp h j (List.mem_range.mpr hl)
 rw[z,decide_eq_false hj]at this
 cases this
noncomputable def vF(i:Nat)(it:Ev→Option (M×List D)):Ev→Option Fl:=fun e=>(it e).bind fun y=>if As i e=true∧y.2.length<sizeLine then some (.nx (e.set i (some (.nb,.lst ((y.2.map fun _=>([]:List D)).map D.lst)))))else none
theorem Rx{i:Nat}{wi:TI}{ix:List Nat}{it:Ev→Option (M×List D)}(hi:JI K wi it):JS K (iE (oR wi ix vV (vT lF)) (jK i)) (vF i it):=by
 intro H₀ I O H σ env Ds fl R e q
 obtain⟨⟨mi,ds⟩,ei,e⟩:=aB e
 split at e
 ·rename_i hc
  obtain⟨hn,hl⟩:=hc
  cases e
  refine hi H₀ O H σ env _ mi ds R.e ei fun J H1 s1 hm ok C hC=>?_
  refine⟨fun k n H2=>n=ds.length-k∧k≤ds.length∧aL H1 H2∧∃qs:List Addr,H2 C=some (.lst (qs.map V.ref))∧qs.length=k∧qs.Nodup∧∀q∈qs,H1 q=none∧q≠C∧H2 q=some (.lst []),⟨_,rfl,Nat.zero_le _,cY hC,[],bS,rfl,List.nodup_nil,fun _ h=>nomatch h⟩,?_⟩
  rintro k n H2 ⟨rfl,hle,s2,qs,J8,Bx,nE,sU⟩
  have bw:aS O H1 O H2:=aS.same s2
  by_cases aZ:k<ds.length
  ·refine .inr ⟨ok.go O H2 k bw aZ,fun x H3 y=>?_⟩
   obtain⟨s3,_⟩:=ok.jn O H2 k x H3 bw aZ y
   refine My.XT (σ:=some x::fT σ ix) (H:=H3) (A:=fun H3=>vT lF (some x::fT σ ix) H3 _) (B:=fun H3=>_) ?_
   refine⟨Nat.zero_le _,fun p hp=>?_⟩
   have c3:H3 C=some (.lst (qs.map V.ref)):=s3 _ _ J8
   have sR:C≠p:=fF c3 hp
   have Zg:p∉qs:=fun z=>by rw[s3 _ _ (sU p z).2.2]at hp;cases hp
   refine⟨qs.map V.ref,by rw[aK sR];exact c3,by rw[List.length_map,Bx];exact Nat.lt_trans aZ hl,ds.length-(k+1),by omega,rfl,aZ,fun a o ha=>?_,qs++[p],?_,by rw[List.length_append,Bx];rfl,?_,fun a ha=>?_⟩
   ·rw[aK (fF ha hC)]
    have h3:=s3 _ _ (s2 _ _ ha)
    rw[aK (fF h3 hp)];exact h3
   ·rw[bS,List.map_append];rfl
   ·rw[List.nodup_append]
    refine⟨nE,by simp,fun a ha b hb=>?_⟩
    have:b=p:=by simpa using hb
    subst this
    exact fun z=>Zg (z▸ha)
   ·rcases List.mem_append.mp ha with ha|ha
    ·obtain⟨z1,z2,z3⟩:=sU a ha
     refine⟨z1,z2,?_⟩
     have h3:=s3 _ _ z3
     rw[aK z2,aK (fF h3 hp)];exact h3
    ·have:a=p:=by simpa using ha
     subst this
     have Zh:H1 a=none:=by
      cases h1:H1 a with
      |none=>rfl
      |some o=>rw[s3 _ _ (s2 _ _ h1)]at hp;cases hp
     exact⟨Zh,fun z=>sR z.symm,by rw[aK (fun z=>sR z.symm),bS]⟩
  ·have hk:k=ds.length:=by omega
   subst hk
   refine .inl ⟨ok.stop O H2 bw,?_⟩
   have pr:∀(qs:List Addr) (ds:List D) (N:Addr→Prop),qs.length=ds.length→(∀q∈qs,H2 q=some (.lst []))→Paired (fun q (es:List D)=>∃xs,H2 q=some (.lst xs)∧ay K N H2 xs es) qs (ds.map fun _=>([]:List D)):=by
    intro qs
    induction qs with
    |nil=>intro ds N h _;cases ds with
     |nil=>exact .nil
     |cons _ _=>cases h
    |cons a qs ih=>intro ds N h hh;cases ds with
     |nil=>cases h
     |cons d ds=>exact .cons ⟨[],hh a cv,.nil⟩ (ih ds N (by simpa using h) fun q hq=>hh q (df _ hq))
   obtain⟨R',st⟩:=(R.keep s1).UI (i:=i) (C:=C) (qs:=qs) (aR:=ds.map fun _=>[]) s2 (fun j d hj=>Rv hn j d hj) hC (fun a ha=>⟨(sU a ha).1,(sU a ha).2.1⟩) nE J8 (pr qs ds _ Bx fun a ha=>(sU a ha).2.2)
   exact q _ H2 _ R' ((aS.same s1).trans st)
 ·cases e
noncomputable def pC:List D→Option (List (List D))
 |[]=>some []
 |.lst d::r=>(pC r).bind fun x=>some (d::x)
 |_=>none
theorem E8:∀{ds:List D}{aR:List (List D)},pC ds=some aR→ds=aR.map D.lst
 |[],_,h=>by cases h;rfl
 |d::r,aR,h=>by
  cases d<;>simp only[pC]at h<;>try (cases h;done)
  obtain⟨x,ex,h⟩:=aB h
  cases h
  rw[E8 ex,List.map_cons]
theorem Ed:∀aR:List (List D),pC (aR.map D.lst)=some aR
 |[]=>rfl
 |d::r=>by rw[List.map_cons,pC,Ed r];rfl
noncomputable def wO(i:Nat)(e:Ev):Option (List (List D)):=match e[i]? with
 |some (some (.nb,.lst ds))=>pC ds
 |_=>none
theorem UJ{i:Nat}{e:Ev}{aR:List (List D)}(h:wO i e=some aR):e[i]?=some (some (.nb,.lst (aR.map D.lst))):=by
 unfold wO at h
 split at h
 ·rename_i e
  rw[e,E8 h]
 ·cases h
theorem CT:∀{a b:List (List D)},a.map D.lst=b.map D.lst→a=b
 |[],[],_=>rfl
 |[],_::_,h=>by cases h
 |_::_,[],h=>by cases h
 |x::a,y::b,h=>by
  rw[List.map_cons,List.map_cons]at h
  obtain⟨h1,h2⟩:=List.cons.inj h
  rw[D.lst.inj h1,CT h2]
theorem DJ{F:Addr→List D→Prop}:∀{qs:List Addr}{aR:List (List D)}{j:Nat}{ds:List D},Paired F qs aR→aR[j]?=some ds→∃q,qs[j]?=some q∧F q ds
 |_,_,_,_,.nil,h=>by simp at h
 |_,_,0,_,.cons a t,h=>by simp at h;subst h;exact⟨_,rfl,a⟩
 |_,_,j+1,ds,.cons a t,h=>by
  obtain⟨q,h1,h2⟩:=DJ (j:=j) (ds:=ds) t (by simpa using h)
  exact⟨q,by simpa using h1,h2⟩
theorem DK{F G:Addr→List D→Prop}{es:List D}:∀{qs:List Addr}{aR:List (List D)}{j:Nat}{q:Addr},qs.Nodup→Paired F qs aR→qs[j]?=some q→G q es→(∀a ds,a∈qs→a≠q→F a ds→G a ds)→Paired G qs (aR.set j es)
 |_,_,_,_,_,.nil,h,_,_=>by simp at h
 |a::qs,ds::aR,0,q,hn,.cons x t,h,g,w=>by
  simp at h;subst h
  rw[List.nodup_cons]at hn
  exact .cons g (kf (fun b es hb hf=>w b es (df _ hb) (fun z=>hn.1 (z▸hb)) hf) t)
 |a::qs,ds::aR,j+1,q,hn,.cons x t,h,g,w=>by
  rw[List.nodup_cons]at hn
  have h':qs[j]?=some q:=by simpa using h
  have hq:q∈qs:=dO h'
  exact .cons (w a ds cv (fun z=>hn.1 (z▸hq)) x) (DK hn.2 t h' g fun b es hb=>w b es (df _ hb))
theorem Rel.X1{i:Nat}{aR:List (List D)}{p q:Addr}{qs:List Addr}{j:Nat}{xs ys:List V}{es:List D}(R:Rel K H₀ I O H σ env)(hx:env[i]?=some (some (.nb,.lst (aR.map D.lst))))(hp:σ[i]?=some (some (.ref p)))
  (h1:O p) (h2:H₀ p=none) (h3:H p=some (.lst (qs.map V.ref))) (h4:qs.Nodup) (h5:∀q∈qs,O q∧H₀ q=none∧q≠p) (h6:Paired (fun q ds=>∃xs,H q=some (.lst xs)∧ay K (fun a=>¬O a∧H₀ a=none) H xs ds) qs aR)
  (hq:qs[j]?=some q) (eq:H q=some (.lst xs)) (r:ay K (fun a=>¬O a∧H₀ a=none) H ys es) :
  Rel K H₀ I O (upd H q (.lst ys)) σ (env.set i (some (.nb,.lst ((aR.set j es).map D.lst))))∧aS O H O (upd H q (.lst ys)):=by
 have J9:q∈qs:=dO hq
 obtain⟨qO,q0,qp⟩:=h5 q J9
 have kp:∀{N:Addr→Prop},(∀a,N a→¬O a)→Keeps N H (upd H q (.lst ys)):=fun w a u h z=>by
  have fM:a≠q:=by
   rintro rfl
   rcases z with z|z
   ·exact w _ z qO
   ·rw[eq]at h;cases h;exact z
  rw[aK fM];exact h
 have hi:i<env.length:=(bB.mp hx).1
 have Ih:∀{k:Nat}{x:M×D}{p':Addr},env[k]?=some (some x)→own x.1=true→σ[k]?=some (some (.ref p'))→p'≠q:=fun {k x p'} a b c z=>by
  obtain⟨_,z2⟩:=R.nd.2 i k _ x p p' _ hx hp a b c h3
  exact z2 (bZ.mpr ⟨q,J9,by rw[z]⟩)
 have By:∀{k:Nat}{d1:D},(env.set i (some (M.nb,D.lst ((aR.set j es).map D.lst))))[k]?=some (some (.nb,d1))→k=i:=fun {k d1} h=>by
  rcases get_set h with⟨z,_⟩|⟨_,z⟩
  ·exact z
  ·exact R.nd.1 k i d1 _ z hx
 refine⟨⟨⟨mw ?_ ?_,?_,?_,?_⟩,?_,R.ow,?_,?_,?_⟩,?_⟩
 ·rw[List.length_set];exact Paired.length R.e.sl
 ·intro k y x hy sW m d ey
  subst ey
  rcases get_set hy with⟨rfl,z⟩|⟨nk,z⟩
  ·cases z
   rw[hp]at sW;cases sW
   refine⟨rfl,_,rfl,p,qs,aR.set j es,rfl,rfl,h1,h2,by rw[aK (fun z=>qp z.symm)];exact h3,h4,h5,DK h4 h6 hq ⟨ys,bS,r.keep (kp fun a h=>h.1)⟩ fun a ds ha fM ⟨zs,e1,e2⟩=>⟨zs,by rw[aK fM];exact e1,e2.keep (kp fun a h=>h.1)⟩⟩
  ·obtain⟨v,hv,n,hm⟩:=R.e.at z
   rw[sW]at hv;cases hv
   refine⟨n,v,rfl,?_⟩
   cases m
   ·exact Rp.keep (kp fun a h=>h) hm
   ·exact Rp.keep (kp fun a h=>h.1) hm
   ·cases n
   ·obtain⟨p',rfl,h1,h2,c'⟩:=hm
    exact⟨p',rfl,h1,h2,c'.keep (kp fun a h=>h.1) (aK (Ih z rfl sW))⟩
   ·obtain⟨p',rfl,h1,c'⟩:=hm
    exact⟨p',rfl,h1,c'.keep (kp fun a h=>h.1) (aK (Ih z rfl sW))⟩
   ·cases n
   ·exact absurd (R.nd.1 k i d _ z hx) nk
 ·intro a ha
  by_cases z:a=q
  ·subst z;exact⟨_,bS⟩
  ·rw[aK z];exact R.e.od a ha
 ·intro a u h
  by_cases z:a=q
  ·subst z;exact⟨_,bS⟩
  ·rw[aK z];exact R.e.hd a u h
 ·intro a u ha e
  by_cases z:a=q
  ·subst z;rw[bS]at e;cases e;exact fun z=>z
  ·rw[aK z]at e;exact R.e.on a u ha e
 ·intro a u n h
  have z:a≠q:=by rintro rfl;rw[q0]at h;cases h
  rw[aK z];exact R.fr a u n h
 ·intro i' e' p' g1 p1
  rcases get_set g1 with⟨rfl,z⟩|⟨n1,q1⟩
  ·cases z
  ·exact R.ba i' e' p' q1 p1
 ·intro i' k x y a g1 g2 o1 o2 p1 p2
  rcases get_set g1 with⟨rfl,z⟩|⟨_,q1⟩
  ·cases z;cases o1
  ·rcases get_set g2 with⟨rfl,z⟩|⟨_,q2⟩
   ·cases z;cases o2
   ·exact R.dj i' k x y a q1 q2 o1 o2 p1 p2
 ·refine⟨fun i' k d1 d2 g1 g2=>(By g1).trans (By g2).symm,fun i' k d1 x p' a zs g1 p1 g2 o2 p2 e=>?_⟩
  have z:=By g1
  subst z
  rw[hp]at p1;cases p1
  rw[aK (fun z=>qp z.symm)]at e
  rcases get_set g2 with⟨rfl,z⟩|⟨_,q2⟩
  ·cases z;cases o2
  ·exact R.nd.2 i' k _ x p a zs hx hp q2 o2 p2 e
 ·intro a u h n
  have z:a≠q:=by rintro rfl;exact n qO
  exact⟨by rw[aK z];exact h,n⟩
noncomputable def vG(i:Nat)(fk f:Ev→Option (M×D)):Ev→Option Fl:=fun e=>(fk e).bind fun y=>(m3 y).bind fun k=>(f e).bind fun x=>if dD x.1 x.2=true then (wO i e).bind fun aR=>(dW aR.length k).bind fun j=>(aR[j]?).bind fun ds=>if ds.length<sizeLine then some (.nx (e.set i (some (.nb,.lst ((aR.set j (ds++[x.2])).map D.lst)))))else none else none
theorem Ry{i:Nat}{t tk:TE}{f fk:Ev→Option (M×D)}(hk:JT K tk fk)(h:JT K t f):JS K (oQ (wA K "list" uU (pI (wz K) (gD i) tk) (mM t lF))) (vG i fk f):=by
 intro H₀ I O H σ env Ds fl R e q
 obtain⟨y,ey,e⟩:=aB e
 obtain⟨k,ek,e⟩:=aB e
 obtain⟨x,ex,e⟩:=aB e
 split at e
 ·rename_i hs
  obtain⟨aR,ed,e⟩:=aB e
  obtain⟨j,ej,e⟩:=aB e
  obtain⟨ds,Zi,e⟩:=aB e
  split at e
  ·rename_i hl
   cases e
   have hx:=UJ ed
   obtain⟨v,hv,_,p,qs,aaj,rfl,e2,h1,h2,h3,h4,h5,h6⟩:=R.e.at hx
   cases CT (D.lst.inj e2)
   obtain⟨a,ha,xs,Bz,rr⟩:=DJ h6 Zi
   refine⟨.ref p,hv,?_⟩
   refine hk H₀ O H σ env _ y.1 y.2 R.e ey fun w H1 s1 hw=>?_
   rw[yK ek]at hw
   have hlen:qs.length=aR.length:=Paired.length h6
   refine .inl ⟨p,_,k,.ref a,rfl,hw.int,.inl (.inl (s1 _ _ h3)),?_,?_⟩
   ·unfold L2.bE
    rw[List.length_map,hlen,ej]
    show(qs.map V.ref)[j]?=_
    rw[cV,ha];rfl
   refine⟨.inl ⟨rfl,xs,.inl (.inl (s1 _ _ Bz))⟩,?_⟩
   refine h H₀ O H1 σ env _ x.1 x.2 (R.e.keep s1) ex fun u H2 s2 hu=>?_
   have s:=s1.trans s2
   refine⟨a,xs,u,rfl,rfl,s _ _ Bz,by rw[rr.len];exact hl,?_⟩
   have R2:=R.keep s
   obtain⟨R3,st⟩:=R2.X1 (ys:=xs++[u]) (es:=ds++[x.2]) hx hv h1 h2 (s _ _ h3) h4 h5 (kf (fun q ds _ ⟨zs,e1,e2⟩=>⟨zs,s _ _ e1,e2.keep (.same s)⟩) h6) ha (s _ _ Bz) ((rr.keep (.same s)).app (.cons (hu.dD hs) .nil))
   exact q O _ σ R3 ((aS.same s).trans st)
  ·cases e
 ·cases e
end
section
variable {K:PySem.W.Frag}
end
section
variable {K:PySem.W.Frag}{H H' H₀:Hp}{O:Addr→Prop}{σ:L2.St}{env:Ev}
end
end J
namespace J
open PySem PySem.Spec PyProof.Rows L2
section
variable {X:Cx}{pins:List (Addr×Obj)}{σ:L2.St}{H:Hp}{s:Shared}{a d it:Addr}
theorem Gh{o1 o2:HO}(I:L2.Inv X pins σ H s)(e:H a=some o1)(ht:∀xs,o1≠.tup xs)(hb:∀ps,o1≠.kK ps)(hx:∀x,o1≠.own x)(hf:∀o u,X.H₀ a≠some (.bj o u))(ok:cE X.prog X.w (upd H a o2) s.heap a o2):L2.Inv X pins σ (upd H a o2) s:=by
 have ne:∀b,H b=none→b≠a:=fun b h z=>by rw[z,e]at h;cases h
 have nt:∀b xs,H b=some (.tup xs)→b≠a:=fun b xs h z=>by rw[z,e]at h;cases h;exact ht _ rfl
 have nx:∀b x,H b=some (.own x)→b≠a:=fun b x h z=>by rw[z,e]at h;cases h;exact hx _ rfl
 refine⟨I.ok,I.os,I.bare,⟨I.base.keep,I.base.slot,fun b o h n hx=>?_,I.base.there,fun b xs h=>?_,fun b o u h=>?_,fun b ps h=>?_⟩,I.loc,I.cell,?_,fun x c h=>?_,fun p hp=>?_,fun b u h=>?_,I.len⟩
 ·have z:=I.base.free b o h n hx
  rw[aK (ne b z)];exact z
 ·have z:=I.base.ko b xs h
  rw[aK (nt b xs z)];exact z
 ·have z:=I.base.i6 b o u h
  rw[aK (fun(q:b=a)=>hf o u (by rw[←q];exact h))];exact z
 ·obtain⟨m,z⟩:=I.base.kr b ps h
  refine⟨m,?_⟩
  rw[aK (fun q=>by rw[q,e]at z;cases z;exact hb _ rfl)];exact z
 ·rw[aK (ne _ I.free)];exact I.free
 ·rw[aK (ne _ (I.gW x c h))];exact I.gW x c h
 ·obtain⟨h1,h2,h3⟩:=I.pin p hp
  exact⟨h1,by rw[aK (ne _ h2)];exact h2,h3⟩
 ·by_cases z:b=a
  ·subst z;rw[bS]at h;cases h;exact ok
  ·rw[aK z]at h
   exact(I.aG b u h).lE (fun c v _ q=>q) (fun c q=>by rw[aK (nx _ _ q)];exact q) fun c xs q=>by rw[aK (nt _ _ q)];exact q
noncomputable def X2(a:Addr)(o:Obj)(u:HO)(Ds:Ends):Ends where
 nx:=fun σ H=>H a=some (.bj o u)∧Ds.nx σ (upd H a u)
 rt:=fun v H=>H a=some (.bj o u)∧Ds.rt v (upd H a u)
 bk:=fun σ H=>H a=some (.bj o u)∧Ds.bk σ (upd H a u)
 ct:=fun σ H=>H a=some (.bj o u)∧Ds.ct σ (upd H a u)
theorem Gi:∀{ai:List (Key×V)}{vs:List (Key×Value)}{i:Nat}{kv:Key×V},KV ai vs→ai[i]?=some kv→∃u,vs[i]?=some (kv.1,u)∧RelV kv.2 u
 |_,_,_,_,.nil,e=>by simp at e
 |_,_,0,_,.cons (b:=q) h _,e=>by
  simp only[List.getElem?_cons_zero,Option.some.injEq]at e
  subst e
  exact⟨q.2,by rw[List.getElem?_cons_zero,h.1],h.2⟩
 |_,_,i+1,kv,.cons _ t,e=>by
  obtain⟨u,h1,h2⟩:=Gi (i:=i) (kv:=kv) t (by simpa using e)
  exact⟨u,by simpa using h1,h2⟩
end
noncomputable def Au:Key→D
 |.inl i=>.int i
 |.inr x=>.str x
 |.non=>.non
noncomputable def X3:HO→Bool
 |.bj _ _=>false
 |_=>true
def nI(H H':Hp):Prop:=(∀b u,X3 u=true→Rd H b u→Rd H' b u)∧∀b xs,H b=some (.tup xs)→H' b=some (.tup xs)
section
variable {K:PySem.W.Frag}{N:Addr→Prop}{H H' H₀ H₁:Hp}{I:Nat→Option Addr}{O:Addr→Prop}{σ:L2.St}{env:Ev}
mutual
theorem Rp.dh(w:nI H H'):∀{v:V}{d:D},Rp K N H v d→Rp K N H' v d
 |_,_,.non=>.non
 |_,_,.bl b=>.bl b
 |_,_,.int i=>.int i
 |_,_,.str x=>.str x
 |_,_,.ty n=>.ty n
 |_,_,.tup h r=>.tup (h.elim (fun z=>.inl (w.2 _ _ z)) .inr) (ay.dh w r)
 |_,_,.lst h n r=>.lst (w.1 _ _ rfl h) n (ay.dh w r)
 |_,_,.lstK h r=>.lstK h (ay.dh w r)
 |_,_,.dk h n e r=>.dk (w.1 _ _ rfl h) n e (ay.dh w r)
 |_,_,.dt h n e r=>.dt (w.1 _ _ rfl h) n e (ay.dh w r)
theorem ay.dh(w:nI H H'):∀{vs:List V}{ds:List D},ay K N H vs ds→ay K N H' vs ds
 |_,_,.nil=>.nil
 |_,_,.cons h r=>.cons (Rp.dh w h) (ay.dh w r)
end
theorem Cell.dh{p:Addr}{d:D}(w:nI H H')(e:H' p=H p)(h:Cell K N H p d):Cell K N H' p d:=by
 cases d<;>simp only[Cell]at h ⊢
 ·obtain⟨xs,q,r⟩:=h;exact⟨xs,e.trans q,r.dh w⟩
 ·obtain⟨xs,q,z,r⟩:=h;exact⟨xs,e.trans q,z,r.dh w⟩
 ·obtain⟨xs,q,z,r⟩:=h;exact⟨xs,e.trans q,z,r.dh w⟩
theorem Val.dh{m:M}{d:D}{v:V}(w:nI H H')(un:m=.un→∀p d N,Cell K N H p d→H' p=H p)(on:∀p,O p→H' p=H p)(z:∀b,H₀ b=none→H₁ b=none)(h:Val K H₀ O HE H m d v):Val K H₁ O HE H' m d v:=by
 cases m<;>simp only[Val]at h ⊢
 ·exact h.dh w
 ·exact(h.dh w).wk fun a n _=>⟨n.1,z a n.2⟩
 ·obtain⟨p,e,h1,h2,h3,c⟩:=h
  exact⟨p,e,h1,z _ h2,h3,(c.dh w (un rfl _ _ _ c)).wk fun a n _=>⟨⟨n.1.1,z a n.1.2⟩,n.2⟩⟩
 ·obtain⟨p,e,h1,h2,c⟩:=h
  exact⟨p,e,h1,z _ h2,(c.dh w (on _ h1)).wk fun a n _=>⟨n.1,z a n.2⟩⟩
 ·obtain⟨p,e,h1,c⟩:=h
  exact⟨p,e,h1,(c.dh w (on _ h1)).wk fun a n _=>⟨n.1,z a n.2⟩⟩
 ·exact(h.dh w).wk fun a n _=>z a n
 ·obtain⟨p,qs,aR,e1,e2,h1,h2,h3,h4,h5,h6⟩:=h
  exact⟨p,qs,aR,e1,e2,h1,z _ h2,(on _ h1).trans h3,h4,fun q hq=>⟨(h5 q hq).1,z _ (h5 q hq).2.1,(h5 q hq).2.2⟩,kf (fun q ds hq ⟨xs,a,r⟩=>⟨xs,(on _ (h5 q hq).1).trans a,(r.dh w).wk fun a n _=>⟨n.1,z a n.2⟩⟩) h6⟩
theorem Rel.dh(R:Rel K H₀ I O H σ env)(w:nI H H')(on:∀p,O p→H' p=H p)(z:∀b,H₀ b=none↔H₁ b=none)(nn:∀b o,H b=some o→∃o',H' b=some o')(fr:∀b o,(∀i,I i≠some b)→H₁ b=some o→H' b=some o):Rel K H₁ I O H' σ env:=by
 refine⟨⟨lz (fun e x h m d q=>?_) R.e.sl,fun a h=>?_,fun a o h=>?_,fun a o h e=>?_⟩,fr,fun a h=>?_,R.ba,R.dj,R.nd.keep fun i d p h1 h2=>?_⟩
 ·obtain⟨n,v,ev,hv⟩:=h m d q
  exact⟨n,v,ev,hv.dh w (fun q=>by subst q;cases n) on fun b=>(z b).mp⟩
 ·obtain⟨o,q⟩:=R.e.od a h
  exact nn a o q
 ·cases q:H₀ a with
  |none=>rw[(z a).mp q]at h;cases h
  |some o0 =>
   obtain⟨o1,q1⟩:=R.e.hd a o0 q
   exact nn a o1 q1
 ·rw[on a h]at e;exact R.e.on a o h e
 ·exact(R.ow a h).imp id (z a).mp
 ·obtain⟨qs,aR,_,hO,_⟩:=R.e.nest h1 h2
  exact on p hO
theorem Pu{wi:TI}{g:TG}{tb:TS}{fg:M×D→Ev→Option Ev}{b:Ev→Option Fl}{Ds:Ends}{fl:Fl}{m:M}{ds:List D}(hg:JG K g fg)(hb:JS K tb b)(R:Rel K H₀ I O H σ env)(hm:fK m=true)
  (hi:∀R',(∀J H',aL H H'→kC K H₀ O J H' m ds→R' J H')→wi σ H R') (e:forL fg b m ds env=some fl) (q:m5 K H₀ I O H Ds fl):oY wi g tb Ds σ H:=by
 refine hi _ fun J H1 s1 ok=>?_
 have q1:=q.pre (aS.same s1)
 refine⟨fun i n σ2 H2=>∃O2 dB,Rel K H₀ I O2 H2 σ2 dB∧aS O H1 O2 H2∧i≤ds.length∧n=ds.length-i∧forL fg b m (ds.drop i) dB=some fl,⟨_,O,env,R.keep s1,aS.refl,Nat.zero_le _,rfl,e⟩,?_⟩
 rintro i n σ2 H2 ⟨O2,dB,R2,st,hle,rfl,ef⟩
 by_cases aZ:i<ds.length
 ·refine .inr ⟨ok.go O2 H2 i st aZ,fun σ' H'=>∃O2 dB,Rel K H₀ I O2 H' σ' dB∧aS O H1 O2 H'∧forL fg b m (ds.drop (i+1)) dB=some fl,?_,?_⟩
  ·rintro σ' H' ⟨O3,An,R3,bA,Bp⟩
   exact⟨ds.length-(i+1),by omega,O3,An,R3,bA,aZ,rfl,Bp⟩
  ·intro x H3 y
   obtain⟨s3,d,hd,hv⟩:=ok.jn O2 H2 i x H3 st aZ y
   have sJ:ds.drop i=d::ds.drop (i+1):=by
    rw[List.drop_eq_getElem_cons aZ]
    rw[dU aZ]at hd
    cases hd;rfl
   rw[sJ]at ef
   simp only[forL]at ef
   obtain⟨e1,g1,ef⟩:=aB ef
   obtain⟨r,br,ef⟩:=aB ef
   refine hg H₀ I O2 H3 σ2 dB (m,d) x e1 _ (R2.keep s3) hm hv g1 fun σ4 R4=>?_
   have k5:=st.trans (aS.same (O:=O2) s3)
   refine hb H₀ I O2 H3 σ4 e1 _ r R4 br ?_
   cases r with
   |nx e2=>exact fun O5 H5 σ5 R5 fB=>⟨O5,e2,R5,k5.trans fB,ef⟩
   |ct e2=>exact fun O5 H5 σ5 R5 fB=>⟨O5,e2,R5,k5.trans fB,ef⟩
   |bk e2=>cases ef;exact(q1.pre k5)
   |rt e2 m' d'=>cases ef;exact(q1.pre k5)
 ·have hi:i=ds.length:=by omega
  subst hi
  rw[List.drop_length]at ef
  cases ef
  exact .inl ⟨ok.stop O2 H2 st,q1 O2 H2 σ2 R2 st⟩
theorem Ent.at{ai:List (Key×V)}{ks:List (Key×D)}{i:Nat}{kv:Key×V}(h:Ent K N H ai ks)(e:ai[i]?=some kv):∃d,ks[i]?=some (kv.1,d)∧Rp K N H kv.2 d:=by
 induction ai generalizing ks i with
 |nil=>simp at e
 |cons p ai ih =>
  cases ks with
  |nil=>exact absurd h.len (by simp)
  |cons q ks =>
   obtain⟨e1,r,t⟩:=h.cons_inv
   cases i with
   |zero=>simp only[List.getElem?_cons_zero,Option.some.injEq]at e;subst e;exact⟨q.2,by rw[List.getElem?_cons_zero,e1],r⟩
   |succ i=>obtain⟨d,h1,h2⟩:=ih t (by simpa using e);exact⟨d,by simpa using h1,h2⟩
end
end J
namespace J
open PySem
end J
namespace J
open PySem PySem.Spec PyProof.Rows L2
theorem uL:∀(ds:List D),dq ds=ds.map toPy
 |[]=>by simp[dq]
 |d::ds=>by simp[dq,uL ds]
section
variable {X:Cx}{pins:List (Addr×Obj)}{σ:L2.St}{H:Hp}{s:Shared}{N N':Addr→Prop}{A:Around}{a b:Addr}{ai k9:List (Key×V)}{ks ls:List (Key×D)}
end
section
variable {X:Cx}{K:PySem.W.Frag}
end
theorem ints_of:∀{ns:List Int}{us:List Value},Vals (ns.map V.int) us→IntsAre us ns
 |[],_,.nil=>.nil
 |n::ns,_,.cons ⟨t,e⟩ r=>by subst e;exact .cons n t (ints_of r)
noncomputable def oV:List D→Option (List Int)
 |[]=>some []
 |.int x::r=>(oV r).bind fun xs=>some (x::xs)
 |_=>none
section
variable {K:PySem.W.Frag}{H:Hp}
theorem Ee{N:Addr→Prop}:∀{ds:List D}{vs:List V}{ys:List Int},ay K N H vs ds→oV ds=some ys→vs=ys.map V.int
 |_,_,_,.nil,e=>by cases e;rfl
 |d::ds,v::vs,ys,.cons h r,e=>by
  cases d<;>simp only[oV]at e<;>try (cases e;done)
  obtain⟨xs,ex,e⟩:=aB e
  cases e
  rw[Ee r ex,h.int_inv];rfl
end
structure Av (K:PySem.W.Frag)(x:Str)(st:Stmt)(f:Addr)(fd:FuncData):Prop where
 ex:∃(oc:Value) (od:Option Addr) (dV kV doc pm:Value) (an:Option Addr) (bW ct:Value) (jr:Array (Option Value)),
  fd=PySem.W.fnOf x x (gf st) (fG st) (cy st) dV kV doc pm an bW ct∧K.lookup f=some ⟨oc,od,.func fd,jr⟩∧PySem.W.codeIn K bW x=true
 kp:PySem.W.keepIn K (.ref f)=true
theorem Av.ok{P:Program}{w:World}{K:PySem.W.Frag}{mg:Str→Option Value}{base:Heap}{x:Str}{st:Stmt}{f:Addr}{fd:FuncData}{N ps:List Str}{k:Nat}{sp:Sp}(F:Av K x st f fd)(S:qJ N ps (cy st))(len:∀vs H Q E,sp vs H Q E→vs.length=ps.length)
  (rq:∀(bW:Value) (A:Around) (outer:List Env) (s:Shared) (H:Hp) (vs:List V) (Q:VK) (E:XK),eC k (A.deeper (envOfC x (cy st) s.heap.objs.size f bW))→sp vs H Q E →
   ∃t,gp (lG kY P w K mg base N x (cy st) f bW A outer s H E).nr (fG st) t∧t { nx:=fun _ H'=>Q .non H',rt:=Q } (L2.start N vs) H):ky P w K mg base kY (k+1) f fd ps sp:=by
 obtain⟨oc,od,dV,kV,doc,pm,an,bW,ct,jr,rfl,lk,hV⟩:=F.ex
 refine GX lk hV S len fun A outer s H vs Q E hr j0=>?_
 obtain⟨t,h,q⟩:=rq bW A outer s H vs Q E hr j0
 exact⟨t,h.nr,q⟩
structure DfD (K:PySem.W.Frag)(mg:Str→Option Value)(x:Str)(st:Stmt)(ps:List Str)(dv:Value)(f:Addr)(fd:FuncData):Prop where
 mg:mg x=some (.ref f)
 fn:Av K x st f fd
 bd:Binds K fd ps []
 bd1:Binds K fd ps [dv]
end J
namespace J
open PySem PySem.Spec PyProof.Rows L2
open Builtin Builtin.Str
section
variable {K:PySem.W.Frag}{H:Hp}
end
end J
namespace J
open PySem PySem.Spec PyProof.Rows L2
section
variable {prog:Program}{w:World}{A:Around}{E:Value→Shared→Prop}{s:Shared}{d:Addr}
theorem find_none{o:Obj}{es:Array DictEntry}{ep:Nat}{h:Int}{Q:Option Nat→Shared→Prop}(hu:A.units<cLine)(ho:s.heap.get? d=some o)(hd:o.data=.dict es ep)
  (hk:∀e∈es,∃ks b,e.key=.ref b∧(tupleKind (cL prog w)).is s.heap ks b) (hq:Q none s):wpAny (model prog w) A (dictFind d .none h) Q E s:=by
 unfold dictFind
 try with_reducible refine wpAny_holding ?_
 refine ao (wpAny_dictEntries ho hd ?_)
 dsimp only
 have lR:∀v∈(placesWithHash es.size (fun i=>es[i]?.map (·.hash)) h).filterMap (fun i=>es[i]?.map (·.key)),∃ks b,v=.ref b∧(tupleKind (cL prog w)).is s.heap ks b:=by
  intro v hv
  obtain⟨i,_,hi⟩:=List.mem_filterMap.mp hv
  cases j4:es[i]? with
  |none=>rw[j4]at hi;cases hi
  |some e =>
   rw[j4]at hi
   obtain rfl:e.key=v:=by simpa using hi
   exact hk e (Array.mem_of_getElem? j4)
 cases hs:(placesWithHash es.size (fun i=>es[i]?.map (·.hash)) h).filterMap (fun i=>es[i]?.map (·.key)) with
 |nil =>
  rw[if_pos (by rfl)]
  have hp:placesWithHash es.size (fun i=>es[i]?.map (·.hash)) h=[]:=by
   cases hp:placesWithHash es.size (fun i=>es[i]?.map (·.hash)) h with
   |nil=>rfl
   |cons i r =>
    have hi:i∈placesWithHash es.size (fun i=>es[i]?.map (·.hash)) h:=by rw[hp];exact cv
    have aZ:i<es.size:=by
     unfold placesWithHash at hi
     exact List.mem_range.mp (List.mem_filter.mp hi).1
    rw[hp,List.filterMap_cons]at hs
    simp[aZ]at hs
  rw[hp]
  unfold dictWalkPlain
  refine ao ?_
  exact aC (aC hq)
 |cons v r =>
  obtain⟨ks,b,rfl,hb⟩:=lR v (by rw[hs];exact cv)
  rw[if_neg (by simp[carriedByValue])]
  rw[if_neg (by simp)]
  refine ao ?_
  have X4:∀x∈(Value.ref b::r),∃ks b,x=.ref b∧(tupleKind (cL prog w)).is s.heap ks b:=by rw[←hs];exact lR
  have mt:∀{Q':Bool→Shared→Prop},Q' false s→wpAny (model prog w) A (tableMayTell .none (Value.ref b::r)) Q' E s:=fun {Q'} Zj=>by
   unfold tableMayTell
   rw[if_neg (by simp)]
   refine ao (show wpAny _ _ (pure true) _ _ s from aC ?_)
   simp only[Bool.not_true,Bool.false_eq_true,if_false]
   refine ao ?_
   refine wpAny_forIn_list _ (fun rest r s'=>s'=s∧r=(none,())∧∀v∈rest,∃ks b,v=.ref b∧(tupleKind (cL prog w)).is s.heap ks b) _ ?_ ?_ _ _ ⟨rfl,rfl,X4⟩
   ·rintro x rest r s' ⟨rfl,rfl,hr⟩
    obtain⟨k',b,rfl,hb⟩:=hr x cv
    refine ao ((tupleKind (cL prog w)).quiet hb ?_)
    simp only[Bool.not_true,Bool.false_eq_true,if_false]
    exact aC ⟨rfl,rfl,fun v hv=>hr v (df _ hv)⟩
   ·rintro r s' ⟨rfl,rfl,_⟩
    exact aC Zj
  refine mt ?_
  rw[if_neg (by simp)]
  refine ao ?_
  refine wpAny_forIn_list _ (fun rest r s'=>s'=s∧r=(none,none)) _ ?_ ?_ _ _ ⟨rfl,rfl⟩
  ·rintro i rest r s' ⟨rfl,rfl⟩
   cases j4:es[i]? with
   |none=>exact aC ⟨rfl,rfl⟩
   |some e =>
    obtain⟨ks,b,ek,hb⟩:=hk e (Array.mem_of_getElem? j4)
    dsimp only
    by_cases hh:(e.hash==h)=true
    ·rw[if_pos hh,ek]
     obtain⟨ob,its,n,g1,g2,g3,_⟩:=hb
     refine ao (wpAny_dictEpoch ho hd (ao (SeqAt.EqAt.tuple_none (items:=its) ⟨ob,g1,g2,n,g3⟩ hu _ _ _ _ (ao (wpAny_dictEpoch ho hd ?_)))))
     show wpAny _ _ (if (ep != ep)=true then _ else _) _ E _
     rw[if_neg (by simp)]
     simp only[Bool.false_eq_true,if_false]
     refine ao (wpAny_rule ?_)
     simp only[Bool.false_and,Bool.false_eq_true,if_false]
     exact aC ⟨rfl,rfl⟩
    ·rw[if_neg hh]
     exact aC ⟨rfl,rfl⟩
  ·rintro r s' ⟨rfl,rfl⟩
   exact aC hq
theorem get_none{xs:List (List Key×Addr×Value)}{r:Value}{Q:Value→Shared→Prop}(hu:A.units+1<cLine)(hs:(d==sysModules)=false)(dd:s.heap.DictOfH (tupleKind (cL prog w)) d xs)(hq:Q r { s with toks:=s.toks+1 }):wpAny (model prog w) A (call (.builtin "dict.get") [.ref d,.none,r]) Q E s:=by
 refine call_meetsIn PySem.F.slot_dict_get dd.typeIs PySem.F.entry_dict_get (PySem.F.args_dict_get_3 _ _ _) (S:=fun A R s=>A.in1.units<cLine∧s.heap.DictOfH (tupleKind (cL prog w)) d xs∧R (.ok (.ret r)) { s with toks:=s.toks+1 }) (.of_wp fun A R s ⟨hu,hm,h⟩=>?_) ⟨hu,dd,hq⟩
 obtain⟨o,es,ep,ho,_,hd,he,Zk,hn⟩:=hm
 show wpAny _ _ (dictGet d .none >>= _) _ _ s
 refine ao ?_
 unfold dictGet
 try with_reducible refine wpAny_holding ?_
 refine ao (Dv (ao (find_none (s:={ s with toks:=s.toks+1 }) hu ho hd (fun e m=>?_) ?_)))
 ·have:e∈xs.map (entryOfKey (tupleKind (cL prog w))):=he▸Array.mem_toList_iff.mpr m
  obtain⟨x,hx,rfl⟩:=bZ.mp this
  exact⟨x.1,x.2.1,rfl,Zk x hx⟩
 ·refine aC ?_
  show wpAny _ _ (Builtin.Dict.missed d .none >>= _) _ _ _
  exact ao (wpAny_missed_other hs (aC ⟨r,rfl,h⟩))
end
section
variable {prog:Program}{w:World}{A:Around}{E:Value→Shared→Prop}{s:Shared}
inductive i5 {κ:Type}[DecidableEq κ](A:Around)(s:Shared)(kb:List (κ×Addr×Value)):List (κ×Addr×Value)→Bool→Prop
 |nil:i5 A s kb [] true
 |miss {k:κ}{p:Addr×Value}{r:List (κ×Addr×Value)}:atKey kb k=none→i5 A s kb ((k,p)::r) false
 |hit {k:κ}{p q:Addr×Value}{r:List (κ×Addr×Value)}{e b:Bool}:atKey kb k=some q→SeqAt.EqAt A s p.2 q.2 e→i5 A s kb r b→i5 A s kb ((k,p)::r) (e&&b)
theorem i5.inv{κ:Type}[DecidableEq κ]{kb:List (κ×Addr×Value)}{k:κ}{p:Addr×Value}{r:List (κ×Addr×Value)}{b:Bool}(h:i5 A s kb ((k,p)::r) b) :
  (atKey kb k=none∧b=false)∨∃q e b',atKey kb k=some q∧SeqAt.EqAt A s p.2 q.2 e∧i5 A s kb r b'∧b=(e&&b'):=by
 cases h with
 |miss hn=>exact .inl ⟨hn,rfl⟩
 |hit hy he hr=>exact .inr ⟨_,_,_,hy,he,hr,rfl⟩
theorem M8{κ:Type}[DecidableEq κ]{knd:HeapKind prog w κ}{nm:String}{a b:Addr}{ka kb:List (κ×Addr×Value)}{r:Bool}{Q:Bool→Shared→Prop}(hu:knd.room A)(ha:(a==sysModules)=false)(hb:(b==sysModules)=false)
  (da:s.heap.DictOfH knd a ka) (db:s.heap.DictOfH knd b kb) (hits:ka.length=kb.length→i5 A s kb ka r) (h:Q (ka.length==kb.length&&r) s) :
  wpAny (model prog w) A (Builtin.Dict.samePairs nm a b) Q E s:=by
 obtain⟨oa,es,ep,wQ,_,wR,Ka,Zm,_⟩:=da
 obtain⟨ob,lP,sg,BD,_,kO,BE,Zn,Kc⟩:=db
 have iS:ka.length=es.size:=(size_of_entries Ka).symm
 have Kd:kb.length=lP.size:=(size_of_entries BE).symm
 rw[iS,Kd]at h
 unfold Builtin.Dict.samePairs Builtin.Dict.showsAll
 rw[if_neg (show ¬(a==sysModules)=true by rw[ha];exact aX),if_neg (show ¬(b==sysModules)=true by rw[hb];exact aX)]
 refine ao (aC (ao (aC ?_)))
 refine ao (wpAny_dictEntries wQ wR ?_)
 dsimp only
 refine ao (wpAny_dictEntries BD kO ?_)
 by_cases hsz:es.size=lP.size
 case neg =>
  rw[if_pos (by simpa using hsz)]
  have Zo:(es.size==lP.size)=false:=by simpa using hsz
  rw[Zo,Bool.false_and]at h
  exact ao (wpAny_rule (aC h))
 case pos =>
  have h':Q r s:=by simpa[hsz]using h
  have Wh:=hits (by rw[iS,Kd];exact hsz)
  rw[if_neg (by rw[hsz];simp)]
  refine ao (wpAny_dictEpoch wQ wR ?_)
  refine ao ?_
  rw[Std.Legacy.Range.forIn_eq_forIn_range']
  simp only[Std.Legacy.Range.size,Nat.sub_zero,Nat.add_sub_cancel,Nat.div_one]
  refine wpAny_forIn_list _
   (fun rest q s'=>s'=s∧q=(none,())∧∃i,rest=List.range' i (es.size-i)∧i≤es.size∧i5 A s kb (ka.drop i) r)
   _ ?_ ?_ _ _ ⟨rfl,rfl,0,by simp,Nat.zero_le _,Wh⟩
  ·rintro x rest q s' ⟨rfl,rfl,i,hr,hi,jf⟩
   have aZ:i<es.size:=by
    rcases Nat.lt_or_ge i es.size with h|h
    ·exact h
    ·rw[Nat.sub_eq_zero_of_le h]at hr;simp at hr
   obtain⟨rfl,Wi⟩:x=i∧rest=List.range' (i+1) (es.size-(i+1)):=by
    have e:es.size-i=(es.size-(i+1))+1:=by omega
    rw[e,List.range'_succ]at hr
    injection hr with h1 h2
    exact⟨h1,h2⟩
   refine ao (wpAny_dictEntries wQ wR ?_)
   have Ii:x<ka.length:=by rw[iS];exact aZ
   obtain⟨k,p,bR⟩:∃k p,ka[x]=(k,p):=⟨_,_,rfl⟩
   have Ke:ka[x]?=some (k,p):=by rw[dU Ii,bR]
   have Wj:ka.drop x=(k,p)::ka.drop (x+1):=by rw[←bR];exact List.drop_eq_getElem_cons Ii
   have hex:es[x]?=some ⟨knd.hash k,.ref p.1,p.2⟩:=by rw[entry_at Ka x,Ke];rfl
   rw[hex]
   rw[Wj]at jf
   have X5:knd.is s'.heap k p.1:=Zm _ (dO Ke)
   show wpAny _ _ (holding [Value.ref p.1,p.2] _ >>= _) _ _ _
   refine ao (wpAny_holding (ao (wpAny_dictFind_heap hu X5 BD kO BE Zn Kc (fun A5=>?_) (fun j q hj=>?_))))
   ·have hn:=atKey_none_of_get A5
    rcases jf.inv with⟨_,er⟩|⟨y,_,_,hy,_⟩
    ·rw[er]at h'
     refine aC ?_
     show wpAny _ _ (if (!false)=true then _ else _) _ _ _
     rw[if_pos (by decide)]
     exact aC (aC h')
    ·rw[hn]at hy;exact nomatch hy
   ·have hv:=atKey_of_get Kc hj
    refine ao (wpAny_dictEntries BD kO ?_)
    rw[entry_at BE j,hj]
    rcases jf.inv with⟨hn,_⟩|⟨y,e,b',hy,he,Kf,er⟩
    ·rw[hv]at hn;exact nomatch hn
    ·have ey:q=y:=Option.some.inj (hv.symm.trans hy)
     subst ey
     refine wpAny_holding (he prog w _ _ ?_)
     cases e with
     |false =>
      rw[er,Bool.false_and]at h'
      show wpAny _ _ (if (!false)=true then _ else _) _ _ _
      rw[if_pos (by decide)]
      exact aC (aC h')
     |true =>
      rw[Bool.true_and]at er
      rw[←er]at Kf
      show wpAny _ _ (if (!true)=true then _ else _) _ _ _
      rw[if_neg (by decide)]
      refine ao (wpAny_dictEpoch wQ wR ?_)
      rw[if_neg (by simp)]
      exact aC ⟨rfl,rfl,x+1,Wi,aZ,Kf⟩
  ·rintro q s' ⟨rfl,rfl,i,hr,hi,jf⟩
   have Zq:i=es.size:=by
    rcases Nat.lt_or_ge i es.size with h|h
    ·have e:es.size-i=(es.size-(i+1))+1:=by omega
     rw[e,List.range'_succ]at hr;exact nomatch hr
    ·exact Nat.le_antisymm hi h
   refine aC ?_
   rw[Zq,←iS,List.drop_length]at jf
   cases jf
   exact h'
theorem Zr{κ:Type}[DecidableEq κ]{knd:HeapKind prog w κ}{a b:Addr}{ka kb:List (κ×Addr×Value)}{r:Bool}{Q:Value→Shared→Prop}(ha:(a==sysModules)=false)(hb:(b==sysModules)=false)(hr:knd.room A.in1)
  (da:s.heap.DictOfH knd a ka) (db:s.heap.DictOfH knd b kb) (hu:A.units<cLine) (hits:ka.length=kb.length→i5 A.in1 s kb ka r) (h:Q (.bool (!(ka.length==kb.length&&r))) s) :
  wpAny (model prog w) A (compareOp .NotEq (.ref a) (.ref b)) Q E s:=by
 refine wpAny_richCompare_same_room (op:=.NotEq) da.typeIs db.typeIs PySem.F.slot_dict_ne (wpAny_call_entry PySem.F.slot_dict_ne da.typeIs PySem.F.entry_dict_ne ?_ (PySem.F.args_dict_ne_2 _ _)) hu
 show wpAny _ _ (Builtin.Dict.dictSlotArgs "__ne__" ⟨[.ref a,.ref b],[]⟩ >>= _) _ _ s
 refine ao ?_
 unfold Builtin.Dict.dictSlotArgs
 refine ao (wpAny_notOrdered_dict da.typeIs ?_)
 show wpAny _ _ (pure (Value.ref a,Value.ref b)) _ _ s
 refine aC ?_
 refine ao (wpAny_isInstance (T := "dict") db.typeIs PySem.F.sub_dict_dict ?_)
 simp only[Bool.not_true,Bool.false_eq_true,if_false]
 refine ao (aC (ao (aC ?_)))
 refine ao (M8 hr ha hb da db hits ?_)
 refine aC ⟨_,rfl,?_,?_⟩
 ·exact fun x=>nomatch x
 ·simpa using h
theorem UK{d:Addr}{o:Obj}{es:Array DictEntry}{ep:Nat}{Q:Value→Shared→Prop}(ho:s.heap.get? d=some o)(hc:o.ExactDict)(kz:o.data=.dict es ep)(gM:es.size≤sizeLine)
  (h:∀h',(∃o',h'.get? d=some o'∧o'.ExactDict∧o'.data=.dict #[] (ep+1))→Heap.SameBut d s.heap h'→Q .none { s with heap:=h' }):wpAny (model prog w) A (call (.builtin "dict.clear") [.ref d]) Q E s:=by
 have gK:s.TypeIs (.ref d) "dict" := ⟨o,ho,hc.1⟩
 refine call_meetsIn PySem.F.slot_dict_clear gK PySem.F.entry_dict_clear (PySem.F.args_dict_clear_1 _) (S:=fun _ R s=>s.heap.get? d=some o∧∀h',(∃o',h'.get? d=some o'∧o'.ExactDict∧o'.data=.dict #[] (ep+1))→Heap.SameBut d s.heap h'→R (.ok (.ret .none)) { s with heap:=h' }) (.of_wp fun A R s ⟨ho,h⟩=>?_) ⟨ho,h⟩
 have gK:s.TypeIs (.ref d) "dict" := ⟨o,ho,hc.1⟩
 unfold Builtin.«dict.clear»
 refine ao ?_
 unfold Builtin.Dict.noArgs
 refine ao (wpAny_notOrdered_dict gK ?_)
 show wpAny _ _ (pure d) _ _ s
 refine aC ?_
 refine ao (wpAny_dictEntries ho kz ?_)
 refine ao ?_
 unfold bearsInstanceDictMark
 refine ao (wpAny_load ho (aC ?_))
 refine ao (wpAny_updateDictKeys (hz:=gM) ho kz ?_)
 have Ij:∃o',(s.heap.update d (Obj.mapDictKeys fun _=>#[])).get? d=some o'∧o'.ExactDict∧o'.data=.dict #[] (ep+1) :=
  ⟨_,Heap.get?_update_self _ ho (Obj.isFreed_of_dict (Obj.data_mapDictKeys kz _)),hc.mapDictKeys _,Obj.data_mapDictKeys kz _⟩
 split
 ·exact ao (wpAny_letGo (aC ⟨.none,rfl,h _ Ij (Heap.SameBut.update ..)⟩))
 ·exact ao (aC (aC ⟨.none,rfl,h _ Ij (Heap.SameBut.update ..)⟩))
end
def Raw(h:Heap)(d:Addr)(es:Array DictEntry)(ep:Nat):Prop:=∃o,h.get? d=some o∧o.ExactDict∧o.data=.dict es ep
theorem Raw.ty{s:Shared}{d:Addr}{es:Array DictEntry}{ep:Nat}(h:Raw s.heap d es ep):s.TypeIs (.ref d) "dict" := let ⟨o,a,b,_⟩:=h;⟨o,a,b.1⟩
section
variable {prog:Program}{w:World}{A:Around}{E:Value→Shared→Prop}{s:Shared}{d it:Addr}{es:Array DictEntry}{ep i n:Nat}
theorem N2 {Q:Value→Shared→Prop} (lo:(d==sysModules)=false) (r:Raw s.heap d es ep) (hQ:Q (.ref s.heap.objs.size) { s with heap:=s.heap.push { cls:=.type "dict_values",data:=.fields #[.ref d] } }):wpAny (model prog w) A (call (.builtin "dict.values") [.ref d]) Q E s:=by
 refine call_meetsIn PySem.F.slot_dict_values r.ty PySem.F.entry_dict_values (PySem.F.args_dict_values_1 _) (S:=fun _ R s=>Raw s.heap d es ep∧R (.ok (.ret (.ref s.heap.objs.size))) { s with heap:=s.heap.push { cls:=.type "dict_values",data:=.fields #[.ref d] } }) (.of_wp fun A R s ⟨r,h⟩=>?_) ⟨r,hQ⟩
 refine ao ?_
 unfold Builtin.Dict.noArgs
 refine ao (wpAny_notOrdered_dict r.ty (show wpAny _ _ (pure d) _ _ s from aC ?_))
 show wpAny _ _ (Builtin.Dict.showsAll d >>= _) _ _ s
 rw[Builtin.Dict.showsAll,if_neg (by rw[lo];exact aX)]
 exact ao (aC (ao (wpAny_newObj_type (aC ⟨_,rfl,h⟩))))
theorem MF{v:Addr}{Q:Value→Shared→Prop}(hv:s.heap.IsValuesView v d)(r:Raw s.heap d es ep)
  (hQ:Q (.ref s.heap.objs.size) { s with heap:=s.heap.push { cls:=.type "dict_valueiterator",data:=.fields #[.ref d,.int 0 0,.int es.size 0,.int ep 0] } }):wpAny (model prog w) A (pyIter (.ref v)) Q E s:=by
 obtain⟨ov,o1,_,o3⟩:=id hv
 obtain⟨o,ho,_,hd⟩:=r
 refine wpAny_pyIter_slot hv.typeIs PySem.F.slot_dict_values_iter (wpAny_call_entry PySem.F.slot_dict_values_iter hv.typeIs PySem.F.entry_dict_values_iter ?_ (PySem.F.args_dict_values_iter_1 _))
 unfold Builtin.«dict_values.__iter__»
 refine ao (aC (ao ?_))
 rw[Builtin.Dict_items.dictOf]
 refine ao (wpAny_field o1 o3 (x:=.ref d) rfl (aC (ao ?_)))
 rw[Builtin.Dict_items.newIterator]
 refine ao (wpAny_dictEntries ho hd (ao (wpAny_dictEpoch ho hd ?_)))
 simp only[show Builtin.Dict_items.ownsTuple "dict_valueiterator" = false by decide,Bool.false_eq_true,if_false]
 exact wpAny_newObj_type (aC ⟨_,rfl, "dict_valueiterator",_,⟨_,fL _ rfl,rfl⟩,PySem.F.slot_dict_valueiterator_next.lookup,by simpa[rawInt]using hQ⟩)
theorem Dh{Q:Option Value→Shared→Prop}(hit:s.heap.IsValIter it d i es.size ep)(r:Raw s.heap d es ep)
  (Wk:∀e,es[i]?=some e→∀h',h'.IsValIter it d (i+1) es.size ep→Heap.SameBut it s.heap h'→Q (some e.val) { s with heap:=h' })
  (none_:es[i]?=none→A.handled=none∧∀h',Heap.ExtBut it s.heap h'→Q none { s with heap:=h' }):wpAny (model prog w) A (pyNext (.ref it)) Q E s:=by
 obtain⟨o,ho,hc,hd⟩:=id hit
 obtain⟨od,lU,_,lV⟩:=r
 unfold pyNext
 refine ao (wpAny_attempt (wpAny_callSpecial?_slot (name:=Str.ofString "__next__") hit.typeIs PySem.F.slot_dict_valueiterator_next (wpAny_call_entry PySem.F.slot_dict_valueiterator_next hit.typeIs PySem.F.entry_dict_valueiterator_next ?_ (PySem.F.args_dict_valueiterator_next_1 _))))
 refine ao (aC (ao (ao ?_)))
 first|refine ao (wpAny_typeNameOfWhole_valiter hit.typeIs (aC ?_))|refine ao (wpAny_typeNameOf_valiter hit.typeIs (aC ?_))
 refine ao (wpAny_fieldsOf ho hd ?_)
 simp only[show Builtin.Dict_items.ownsTuple "dict_valueiterator" = false by decide,Bool.false_eq_true,if_false]
 show wpAny _ _ (if (Value.ref d==Value.none)=true then _ else _) _ _ s
 rw[if_neg (show ¬((Value.ref d==Value.none)=true)from aX)]
 refine ao (aC (ao (wpAny_dictEntries lU lV ?_)))
 rw[if_neg (by simp)]
 refine ao (aC (ao (wpAny_dictEpoch lU lV ?_)))
 rw[if_neg (by simp)]
 refine aC ?_
 simp only[show ¬((i:Int)<0) by omega,if_false,Int.toNat_natCast]
 cases hx:es[i]? with
 |some e =>
  simp only[]
  refine ao ?_
  first|refine ao (wpAny_typeNameOfWhole_valiter hit.typeIs (aC ?_))|refine ao (wpAny_typeNameOf_valiter hit.typeIs (aC ?_))
  refine ao (wpAny_isOneOf_valiter hit.typeIs ?_)
  show wpAny _ _ (setField (.ref it) 1 (rawInt ((i:Int)+1)) >>= _) _ _ s
  refine ao (wpAny_setField ho hd (by simp) ?_)
  have lH:(s.heap.update it (Obj.mapFields (·.setIfInBounds 1 (rawInt ((i:Int)+1))))).IsValIter it d (i+1) es.size ep :=
   ⟨_,Heap.get?_update_self _ ho (Obj.isFreed_of_fields (Obj.data_mapFields hd _)),(Obj.cls_mapFields ..).trans hc,by rw[Obj.data_mapFields hd];simp[rawInt]⟩
  refine ao (wpAny_holding (ao (wpAny_isOneOf_valiter (s:={ s with heap:=s.heap.update it (Obj.mapFields (·.setIfInBounds 1 (rawInt ((i:Int)+1)))) }) lH.typeIs (ao (wpAny_isOneOf_valiter (s:={ s with heap:=s.heap.update it (Obj.mapFields (·.setIfInBounds 1 (rawInt ((i:Int)+1)))) }) lH.typeIs ?_)))))
  show wpAny _ _ (pure e.val) _ _ _
  exact aC (aC ⟨_,rfl,aC (Wk e hx _ lH (Heap.SameBut.update ..))⟩)
 |none =>
  obtain⟨hh,hq⟩:=none_ hx
  simp only[]
  refine ao ?_
  first|refine ao (wpAny_typeNameOfWhole_valiter hit.typeIs (aC ?_))|refine ao (wpAny_typeNameOf_valiter hit.typeIs (aC ?_))
  show wpAny _ _ (setField (.ref it) 0 .none >>= _) _ _ s
  refine ao (wpAny_setField ho hd (by simp) ?_)
  show wpAny _ _ (newExc (.type "StopIteration") [] >>= _) _ _ _
  refine ao ?_
  simp only[newExc,newTuple]
  refine ao (wpAny_newObj_type ?_ (by size_fits))
  refine ao (m:=firstArgMember _ _) (wpAny_of_eq (a:=Value.none) (by first|rfl | (simp only[firstArgMember];rfl)) ?_)
  refine wpAny_newObj_type ?_ (by size_fits)
  simp only[raiseNew]
  refine ao (wpAny_handled ?_)
  rw[show A.in1.handled=none from hh]
  refine ao (aC (wpAny_throw ?_))
  refine ao (wpAny_isInstance (T := "StopIteration") (b:=true) ⟨_,fL _ rfl,rfl⟩ isSubtype_stop ?_)
  exact aC (hq _ (((Heap.SameBut.update ..).extBut.push _).push _))
end
noncomputable def lN:HO→Bool
 |.dK _=>true
 |.dT _=>true
 |_=>false
noncomputable def hG:HO→List V
 |.dK ai=>ai.map (·.2)
 |.dT ai=>ai.map (·.2)
 |_=>[]
theorem Gj{u:HO}(h:lN u=true):(∀o v,u≠.bj o v)∧(∀xs,u≠.tup xs)∧(∀ps,u≠.kK ps)∧∀x,u≠.own x:=by
 cases u<;>first | (cases h;done)|exact⟨(fun _ _ z=>nomatch z),(fun _ z=>nomatch z),(fun _ z=>nomatch z),(fun _ z=>nomatch z)⟩
section
variable {X:Cx}{pins:List (Addr×Obj)}{σ:L2.St}{H:Hp}{s:Shared}{a it:Addr}
theorem zo{P:Program}{w:World}{h:Heap}{u:HO}(hu:lN u=true)(ok:cE P w H h a u):∃o es ep,h.get? a=some o∧o.ExactDict∧o.data=.dict es ep∧es.size=(hG u).length∧(∀(i:Nat) x,(hG u)[i]?=some x→∃e,es[i]?=some e∧RelV x e.val)∧(a==sysModules)=false:=by
 cases u<;>try (cases hu;done)
 ·rename_i ai
  obtain⟨z,lo,vs,rv,o,es,ep,ho,ex,hd,hk,hp,hn⟩:=ok
  refine⟨o,es,ep,ho,ex,hd,?_,fun i x e=>?_,lo⟩
  ·have e1:=hp.length
   have e2:=rv.length
   simp only[Array.length_toList]at e1
   simp[hG,e1,e2]
  ·simp only[hG,List.getElem?_map,Option.map_eq_some_iff]at e
   obtain⟨kv,bR,rfl⟩:=e
   obtain⟨v,h1,h2⟩:=Gi rv bR
   have hi:i<es.size:=by
    have:=(bB.mp h1).1
    have e1:=hp.length
    simp only[Array.length_toList]at e1
    omega
   exact⟨es[i],by simp[hi],by rw[(hp.get? (e:=es[i]) (by simp[hi]) h1).2];exact h2⟩
 ·rename_i ai
  obtain⟨z,lo,xs,r,o,es,ep,ho,ex,hd,he,hn⟩:=ok
  refine⟨o,es,ep,ho,ex,hd,?_,fun i x e=>?_,lo⟩
  ·rw[←Array.length_toList,he,List.length_map,←Paired.length r];simp[hG]
  ·simp only[hG,List.getElem?_map,Option.map_eq_some_iff]at e
   obtain⟨kv,bR,rfl⟩:=e
   have go:∀{l:List (List Key×V)}{m:List (List Key×Addr×Value)}{i:Nat}{kv:List Key×V},Paired (fun(p:List Key×V) (q:List Key×Addr×Value)=>p.1=q.1∧H q.2.1=some (.tup (p.1.map kV))∧RelV p.2 q.2.2) l m→l[i]?=some kv→∃y,m[i]?=some y∧RelV kv.2 y.2.2:=by
    intro l m i kv q
    induction q generalizing i with
    |nil=>intro e;simp at e
    |cons h t ih =>
     intro e
     cases i with
     |zero=>simp at e;subst e;exact⟨_,rfl,h.2.2⟩
     |succ i=>exact ih (by simpa using e)
   obtain⟨y,h1,h2⟩:=go r bR
   exact⟨entryOfKey (tupleKind (cL P w)) y,by rw[←Array.getElem?_toList,he,cV,h1];rfl,h2⟩
theorem Hh{P:Program}{w:World}{h:Heap}{H':Hp}{u:HO}(hu:lN u=true)(ok:cE P w H h a u)(nt:∀b xs,H b=some (.tup xs)→H' b=some (.tup xs)):cE P w H' h a u:=by
 cases u<;>try (cases hu;done)
 ·exact ok
 ·obtain⟨z,lo,xs,r,m⟩:=ok
  exact⟨z,lo,xs,Paired.vM r fun p q z=>⟨z.1,nt _ _ z.2.1,z.2.2⟩,m⟩
noncomputable def BF(a:Addr)(o:Obj)(u:HO):It :=
 ⟨fun i H=>H a=some (.bj o u)∧i<(hG u).length,fun i H x H'=>H'=H∧(hG u)[i]?=some x,fun i H=>H a=some (.bj o u)∧(hG u).length≤i⟩
theorem Gk{o:Obj}{u:HO}{es:Array DictEntry}{ep:Nat}(hu:lN u=true)(I:L2.Inv X pins σ H s)(e:H a=some (.bj o u))(hd:o.data=.dict es ep):Raw s.heap a es ep∧es.size=(hG u).length∧∀(i:Nat) x,(hG u)[i]?=some x→∃e,es[i]?=some e∧RelV x e.val:=by
 obtain⟨ho,ok⟩:=(I.aG a _ e:cE X.prog X.w H s.heap a (.bj o u))
 obtain⟨o',lP,sg,gn,ex,wm,h1,h2,_⟩:=zo hu ok
 rw[ho]at gn;cases gn
 rw[hd]at wm;cases wm
 exact⟨⟨o,ho,ex,hd⟩,h1,h2⟩
theorem MG{P:Program}{w:World}{K:PySem.W.Frag}{tg:Expr}{o:Obj}{u:HO}{es:Array DictEntry}{ep:Nat}(hu:lN u=true)(hd:o.data=.dict es ep):Turn P w K tg (BF a o u) [it] it (fun i h=>h.IsValIter it a i es.size ep) where
 mem:=by simp
 obj:=fun i h st b hb=>by
  have e:b=it:=by simpa using hb
  subst e
  obtain⟨o,e,c,d⟩:=st
  exact⟨o,e,fun v z=>by rw[d]at z;cases z⟩
 keep:=fun i h h' st k=>st.at fun o e=>k it (by simp) o e
 item:=by
  intro X hP hw hK hc i pins s σ H E I hf st hg
  subst hP hw hK
  obtain⟨r,hz,Zt⟩:=Gk hu I hg.1 hd
  obtain⟨f0,f1,f2,f3,f4,f5⟩:=hf it (by simp)
  refine Dh st r (fun e he h' gH sb=>?_) (fun z=>?_)
  ·have hx:=dU hg.2
   obtain⟨e',h1,h2⟩:=Zt i _ hx
   rw[he]at h1;cases h1
   obtain⟨ob,e1,c1,d1⟩:=id gH
   exact⟨_,rfl,rj (s:={ s with heap:=h' }) e1 c1 d1 (by decide) ⟨_,H,I.turned (t':=s.toks) (fun b o hb e=>(sb.2 b hb).trans e) f0 f1 f3 f4 f5,h2,⟨rfl,hx⟩,gH,fun b hb=>(hf b hb).1⟩⟩
  ·have:=Array.getElem?_eq_none_iff.mp z
   have:=hg.2
   omega
 done:=by
  intro X hP hw hK hc i pins s σ H E I hf st hg
  subst hP hw hK
  obtain⟨r,hz,_⟩:=Gk hu I hg.1 hd
  obtain⟨f0,f1,f2,f3,f4,f5⟩:=hf it (by simp)
  refine Dh st r (fun e he=>?_) (fun _=>⟨I.ok.hd hc,fun h' eb=>⟨rfl,I.turned (t':=s.toks) (fun b o hb e=>eb b o hb e) f0 f1 f3 f4 f5⟩⟩)
  have:=(Array.getElem?_eq_some_iff.mp he).1
  have:=hg.2
  omega
 self:=fun _ _ _ _ _ st h=>wpAny_pyIter_valiter st h
noncomputable def zP(td:TE):TI:=fun σ H R=>td σ H fun x H1=>∃a o u,x=.ref a∧H1 a=some (.bj o u)∧lN u=true∧R (BF a o u) H1
theorem N3 {e:Expr}{td:TE}{apos cM:Pos}{tg:Expr} (he:PE X e td) (rA:attributeBase e "values" X.env (eval e X.env)=eval e X.env) (hline:(apos.endLine==cM.line)=true):PI X tg (.Call (.Attribute e "values" apos) [] [] cM) (zP td):=by
 intro pins s σ H R I h
 refine wpAny_Call_method0_late rA hline (aI (he pins s σ H _ I h) fun v s1 ⟨x,H1,I1,r1,a,o,u,ex,hf,hu,q⟩=>?_)
 subst ex
 obtain rfl:v=Value.ref a:=r1
 obtain⟨ho,ok⟩:=(I1.aG a _ hf:cE X.prog X.w H1 s1.heap a (.bj o u))
 obtain⟨o',es,ep,gn,ex,hd,hz,_,lo⟩:=zo hu ok
 rw[ho]at gn;cases gn
 refine⟨"dict", "dict.values",PySem.F.plainAttrs_dict,PySem.F.slot_dict_values,PySem.F.type_dict_values,⟨o,ho,ex.1⟩,fun a' e2=>by cases e2;exact⟨o,ho,ex.2.1⟩,Calls.callWith_builtin rfl (PySem.evalArgs_none ?_)⟩
 refine N2 lo ⟨o,ho,ex,hd⟩ ?_
 refine MF ⟨_,fL _ rfl,rfl,rfl⟩ ⟨o,dz _ ho,ex,hd⟩ ?_
 have I2:L2.Inv X pins σ H1 { s1 with heap:=s1.heap.push { cls:=.type "dict_values",data:=.fields #[.ref a] } }:=I1.kept (t':=s1.toks) fun b u q=>dz _ q
 have I3:=I2.kept (t':=s1.toks) (h':=(s1.heap.push { cls:=.type "dict_values",data:=.fields #[.ref a] }).push { cls:=.type "dict_valueiterator",data:=.fields #[.ref a,.int 0 0,.int es.size 0,.int ep 0] }) fun b u q=>dz _ q
 refine⟨_,[_],_,_,H1,rfl,I3,MG hu hd,⟨_,fL _ rfl,rfl,rfl⟩,fun b hb=>?_,q⟩
 have pT:b=(s1.heap.push { cls:=.type "dict_values",data:=.fields #[.ref a] }).objs.size:=by simpa using hb
 subst pT
 exact I2.oX (bf _) (I2.aG.fresh (bf _))
noncomputable def Hi(i:Nat)(t:TS):TS:=fun Ds σ H=>∃a u,σ[i]?=some (some (.ref a))∧lN u=true ∧
 ((H a=some u∧∀o,t (X2 a o u Ds) σ (upd H a (.bj o u)))∨((∃o,H a=some (.bj o u))∧t Ds σ H))
theorem Rz{st:Stmt}{t:TS}{i:Nat}(h:gb X st t):gb X st (Hi i t):=by
 refine⟨fun pins s σ H Ds I ht=>?_⟩
 obtain⟨a,u,hs,hu,⟨e,ht⟩|⟨_,ht⟩⟩:=ht
 ·have ok:=I.aG a _ e
  obtain⟨n1,n2,n3,n4⟩:=Gj hu
  obtain⟨o,_,_,ho,_⟩:=zo hu ok
  have hf:∀o v,X.H₀ a≠some (.bj o v):=fun o v z=>by rw[I.base.i6 a o v z]at e;cases e;exact n1 _ _ rfl
  have nt:∀{H':Hp}{z z':HO},H' a=some z→(∀xs,z≠.tup xs)→∀b xs,H' b=some (.tup xs)→upd H' a z' b=some (.tup xs):=fun e' nz b xs q=>by
   rw[aK (vv q e' (fun w=>nz xs w.symm))];exact q
  have I1:L2.Inv X pins σ (upd H a (.bj o u)) s:=Gh I e n2 n3 n4 hf ⟨ho,Hh hu ok (nt e n2)⟩
  have th:∀{σ':L2.St}{H':Hp}{s':Shared},L2.Inv X pins σ' H' s'→H' a=some (.bj o u)→L2.Inv X pins σ' (upd H' a u) s':=fun I' e' =>
   Gh I' e' (fun _ z=>nomatch z) (fun _ z=>nomatch z) (fun _ z=>nomatch z) hf (Hh hu (I'.aG a _ e').2 (nt e' (fun _ z=>nomatch z)))
  refine aI (h.go pins s σ _ _ I1 (ht o)) fun f s' q=>?_
  cases f with
  |next=>obtain⟨σ',H',I',e',q⟩:=q;exact⟨σ',_,th I' e',q⟩
  |brk=>obtain⟨σ',H',I',e',q⟩:=q;exact⟨σ',_,th I' e',q⟩
  |cont=>obtain⟨σ',H',I',e',q⟩:=q;exact⟨σ',_,th I' e',q⟩
  |ret v=>obtain⟨v',σ',H',I',Bn,e',q⟩:=q;exact⟨v',σ',_,th I' e',Bn,q⟩
 ·exact h.go pins s σ H Ds I ht
end
end J
namespace J
open PySem L2
section
variable {K:PySem.W.Frag}{N:Addr→Prop}{H H' H₀ H₁:Hp}{I:Nat→Option Addr}{O:Addr→Prop}{σ:L2.St}{env:Ev}
noncomputable def BG:D→Option (List D)
 |.dk ks=>some (ks.map (·.2))
 |.dt ks=>some (ks.map (·.2))
 |_=>none
noncomputable def DR(K:PySem.W.Frag)(N:Addr→Prop)(H:Hp):HO→D→Prop
 |.dK ai,.dk ks=>Ent K N H ai ks
 |.dT ai,.dt ks=>Ent K N H ai ks
 |_,_=>False
theorem DR.dc{u:HO}{d:D}(h:DR K N H u d):lN u=true:=by cases u<;>cases d<;>first|rfl|exact h.elim
theorem DR.vs{u:HO}{d:D}{ds:List D}(h:DR K N H u d)(e:BG d=some ds):ay K N H (hG u) ds:=by
 cases u<;>cases d<;>first|exact h.elim|skip
 ·cases e;exact h.2
 ·cases e;exact h.2
theorem DR.mono{N':Addr→Prop}{u:HO}{d:D}(h:DR K N H u d)(w:∀{vs:List V}{ds:List D},ay K N H vs ds→ay K N' H' vs ds):DR K N' H' u d:=by
 cases u<;>cases d<;>first|exact h.elim|exact⟨h.1,w h.2⟩
theorem N4{m:M}{a:Addr}{o:Obj}{u:HO}{ds:List D}(hm:fK m=true)(e:H a=some (.bj o u))(ha:¬O a)(r:ay K (NM H₀ O m) H (hG u) ds)(on:∀a o,O a→H a=some o→¬iN o):kC K H₀ O (BF a o u) H m ds where
 go:=fun O2 H2 i st hi=>⟨(st a _ e ha).1,by rw[r.len];exact hi⟩
 jn:=by
  rintro O2 H2 i x H3 st hi ⟨rfl,hx⟩
  obtain⟨v,hv,rv⟩:=r.get (i:=i) (d:=ds[i]) (by simp[hi])
  rw[hx]at hv;cases hv
  exact⟨aL.refl _,ds[i],by simp[hi],uY hm on st rv⟩
 stop:=fun O2 H2 st=>⟨(st a _ e ha).1,by rw[r.len];exact bf _⟩
noncomputable def rD(i:Nat)(g:M×D→Ev→Option Ev)(b:Ev→Option Fl):Ev→Option Fl:=fun e=>match e[i]? with
 |some (some (m,d))=>if fK m=true then (BG d).bind fun ds=>forL g b m ds e else none
 |_=>none
theorem RA{i:Nat}{g:TG}{tb:TS}{fg:M×D→Ev→Option Ev}{b:Ev→Option Fl}(hg:JG K g fg)(hb:JS K tb b):JS K (Hi i (oY (zP (gD i)) g tb)) (rD i fg b):=by
 intro H₀ I O H σ env Ds fl R e q
 unfold rD at e
 split at e
 ·rename_i m d he
  split at e
  ·rename_i hm
   obtain⟨ds,ed,e⟩:=aB e
   obtain⟨v,hv,_,hz⟩:=R.e.at he
   have Zu:∃a u,v=.ref a∧Rd H a u∧¬O a∧DR K (NM H₀ O m) H u d:=by
    cases d<;>try (cases ed;done)
    ·cases m<;>try (cases hm;done)
     ·cases hz with|dk r n e q=>exact⟨_,_,rfl,r,n,e,q⟩
     ·cases hz with|dk r n e q=>exact⟨_,_,rfl,r,n.1,e,q⟩
    ·cases m<;>try (cases hm;done)
     ·cases hz with|dt r n e q=>exact⟨_,_,rfl,r,n,e,q⟩
     ·cases hz with|dt r n e q=>exact⟨_,_,rfl,r,n.1,e,q⟩
   obtain⟨a,u,rfl,rd,na,dr⟩:=Zu
   have hu:=dr.dc
   obtain⟨n1,n2,_,_⟩:=Gj hu
   have run:∀{G H1:Hp}{o:Obj}{Es:Ends},Rel K G I O H1 σ env→H1 a=some (.bj o u)→DR K (NM G O m) H1 u d→m5 K G I O H1 Es fl→oY (zP (gD i)) g tb Es σ H1:=fun R1 e1 BH q1 =>
    Pu hg hb R1 hm (fun R' k=>⟨_,hv,a,_,u,rfl,e1,hu,k _ _ (aL.refl _) (N4 hm e1 na (BH.vs ed) R1.e.on)⟩) e q1
   refine⟨a,u,hv,hu,?_⟩
   rcases rd with e1|⟨o,e1⟩
   ·refine .inl ⟨e1,fun o=>?_⟩
    have w:nI H (upd H a (.bj o u)):=⟨fun b v _ h=>by
     by_cases z:b=a
     ·subst z
      rcases h with h|⟨o',h⟩
      ·rw[e1]at h;cases h;exact .inr ⟨o,bS⟩
      ·rw[e1]at h;cases h;exact absurd rfl (n1 _ _)
     ·unfold Rd at h ⊢;rw[aK z];exact h,fun b xs h=>by rw[aK (vv h e1 (fun z=>n2 _ z.symm))];exact h⟩
    have nO:∀p,O p→p≠a:=fun p h z=>na (z▸h)
    have zz:∀b,H₀ b=none↔(fun b=>if b=a then (H₀ a).map (fun _=>HO.bj o u)else H₀ b) b=none:=fun b=>by
     by_cases z:b=a
     ·subst z;simp
     ·simp[z]
    have R1:Rel K (fun b=>if b=a then (H₀ a).map (fun _=>HO.bj o u)else H₀ b) I O (upd H a (.bj o u)) σ env:=by
     refine R.dh w (fun p h=>aK (nO p h)) zz (fun b v h=>?_) fun b v n h=>?_
     ·by_cases z:b=a
      ·subst z;exact⟨_,bS⟩
      ·exact⟨v,by rw[aK z];exact h⟩
     ·by_cases z:b=a
      ·subst z
       simp only[if_true]at h
       cases q0:H₀ b with
       |none=>rw[q0]at h;cases h
       |some u0=>rw[q0]at h;cases h;exact bS
      ·simp only[z,if_false]at h
       rw[aK z];exact R.fr b v n h
    have back:∀{O':Addr→Prop}{H':Hp},aS O (upd H a (.bj o u)) O' H'→H' a=some (.bj o u)∧aS O H O' (upd H' a u) ∧
      (∀{σ':L2.St}{fZ:Ev},Rel K (fun b=>if b=a then (H₀ a).map (fun _=>HO.bj o u)else H₀ b) I O' H' σ' fZ→Rel K H₀ I O' (upd H' a u) σ' fZ) ∧
      ∀{m:M}{d:D}{v:V},Val K (fun b=>if b=a then (H₀ a).map (fun _=>HO.bj o u)else H₀ b) O' HE H' m d v→Val K H₀ O' HE (upd H' a u) m d v:=fun {O' H'} st=>by
     obtain⟨ha,Kg⟩:=st a _ bS na
     have w':nI H' (upd H' a u):=⟨fun b v nf h=>by
      by_cases z:b=a
      ·subst z
       rcases h with h|⟨o',h⟩
       ·rw[ha]at h;cases h;cases nf
       ·rw[ha]at h;cases h;exact .inl bS
      ·unfold Rd at h ⊢;rw[aK z];exact h,fun b xs h=>by rw[aK (vv h ha (fun z=>nomatch z))];exact h⟩
     have Kh:∀p,O' p→upd H' a u p=H' p:=fun p h=>aK fun z=>Kg (z▸h)
     refine⟨ha,fun b v h n=>?_,fun R'=>?_,fun gP=>gP.dh w' (fun _ p d N c=>?_) Kh fun b=>(zz b).mpr⟩
     ·by_cases z:b=a
      ·subst z;rw[e1]at h;cases h;exact⟨bS,Kg⟩
      ·obtain⟨h1,h2⟩:=st b v (by rw[aK z];exact h) n
       exact⟨by rw[aK z];exact h1,h2⟩
     ·refine R'.dh w' Kh (fun b=>(zz b).symm) (fun b v h=>?_) fun b v n h=>?_
      ·by_cases z:b=a
       ·subst z;exact⟨_,bS⟩
       ·exact⟨v,by rw[aK z];exact h⟩
      ·by_cases z:b=a
       ·subst z
        have h2:=R.fr b v n h
        rw[e1]at h2;cases h2;exact bS
       ·rw[aK z]
        exact R'.fr b v n (by simp only[z,if_false];exact h)
     ·refine aK fun z=>?_
      subst z
      cases d<;>simp only[Cell]at c
      all_goals (obtain⟨xs,q,_⟩:=c;rw[ha]at q;cases q)
    refine run R1 bS (dr.mono fun r=>(r.dh w).wk fun b n _=>?_) ?_
    ·cases m<;>try (cases hm;done)
     ·exact n
     ·exact⟨n.1,(zz b).mp n.2⟩
    ·cases fl with
     |nx e'=>exact fun O' H' σ' R' st=>⟨(back st).1,q _ _ _ ((back st).2.2.1 R') (back st).2.1⟩
     |bk e'=>exact fun O' H' σ' R' st=>⟨(back st).1,q _ _ _ ((back st).2.2.1 R') (back st).2.1⟩
     |ct e'=>exact fun O' H' σ' R' st=>⟨(back st).1,q _ _ _ ((back st).2.2.1 R') (back st).2.1⟩
     |rt e' m' d'=>exact fun O' H' σ' v R' st gP=>⟨(back st).1,q _ _ _ v ((back st).2.2.1 R') (back st).2.1 ((back st).2.2.2 gP)⟩
   ·exact .inr ⟨⟨o,e1⟩,run R e1 dr q⟩
  ·cases e
 ·cases e
end
end J
namespace J
open PySem PySem.Spec PyProof.Rows L2
noncomputable def keysOf:List D→Option (List Key)
 |[]=>some []
 |d::ds=>(keyOf d).bind fun k=>(keysOf ds).map fun ks=>k::ks
noncomputable def lO:D→Option (List Key)
 |.tup ds=>if ds.length<4 then keysOf ds else none
 |_=>none
noncomputable def jU:D→Option (List (List Key×D))
 |.dt ks=>some ks
 |_=>none
theorem E9{d:D}{ks:List (List Key×D)}(h:jU d=some ks):d=.dt ks:=by cases d<;>simp only[jU]at h<;>cases h;rfl
section
variable {K:PySem.W.Frag}{N:Addr→Prop}{H H' H₀:Hp}{I:Nat→Option Addr}{O:Addr→Prop}{σ:L2.St}{env:Ev}
theorem Di:∀{ds:List D}{ks:List Key}{vs:List V},keysOf ds=some ks→ay K N H vs ds→vs=ks.map kV
 |[],_,_,e,.nil=>by cases e;rfl
 |d::ds,_,_,e,.cons h r=>by
  obtain⟨k,e1,e⟩:=aB e
  cases e2:keysOf ds with
  |none=>rw[e2]at e;cases e
  |some l=>rw[e2]at e;cases e;rw[Di e2 r,oi e1 h];rfl
theorem yv{d:D}{ks:List Key}{v:V}(e:lO d=some ks)(h:Rp K N H v d):∃b,v=.ref b∧H b=some (.tup (ks.map kV)):=by
 cases d<;>try (cases e;done)
 rename_i ds
 simp only[lO]at e
 split at e
 ·rename_i hl
  cases h with
  |tup q r =>
   have:=r.len
   have z:=q.own (by omega)
   rw[Di e r]at z
   exact⟨_,rfl,z⟩
 ·cases e
theorem Val.dt{m:M}{ks:List (List Key×D)}{v:V}{Hb:Hp}(h:Val K H₀ O Hb H m (.dt ks) v):∃a ai,v=.ref a∧Rd H a (.dT ai)∧Ent K (NM H₀ O (aV m)) H ai ks:=by
 cases m<;>simp only[Val,Cell]at h
 ·cases h with|dt r n e q=>exact⟨_,_,rfl,r,e,q⟩
 ·cases h with|dt r n e q=>exact⟨_,_,rfl,r,e,q⟩
 ·obtain⟨p,rfl,_,_,_,xs,q,e,r⟩:=h;exact⟨_,_,rfl,.inl q,e,r.wk fun a h _=>h.1⟩
 ·obtain⟨p,rfl,_,_,xs,q,e,r⟩:=h;exact⟨_,_,rfl,.inl q,e,r⟩
 ·obtain⟨p,rfl,_,xs,q,e,r⟩:=h;exact⟨_,_,rfl,.inl q,e,r⟩
 ·cases h with|dt r n e q=>exact⟨_,_,rfl,r,e,q⟩
 ·obtain⟨p,qs,aR,rfl,e2,_⟩:=h;cases e2
noncomputable def lB:Ev→Option (M×D):=fun _=>some (.un,.dt [])
theorem RB:JT K F0 lB:=by
 intro H₀ O H σ env Q m d R h q
 cases h
 intro p hp
 exact q _ _ (cY hp) ⟨p,rfl,hp,lh R.hd hp,iW R.od hp,[],bS,rfl,.nil⟩
noncomputable def fS(fd fk:Ev→Option (M×D)):Ev→Option (M×D):=fun e=>(fd e).bind fun x=>(fk e).bind fun y=>(jU x.2).bind fun ks=>(lO y.2).bind fun k=>(cB ks k).bind fun d=>some (aV x.1,d)
theorem RC{td ty:TE}{fd fk:Ev→Option (M×D)}(hd:JT K td fd)(hk:JT K ty fk):JT K (zH td ty) (fS fd fk):=by
 intro H₀ O H σ env Q m d R h q
 obtain⟨x,ex,h⟩:=aB h
 obtain⟨y,ey,h⟩:=aB h
 obtain⟨ks,k8,h⟩:=aB h
 obtain⟨k,ek,h⟩:=aB h
 obtain⟨d',ed,h⟩:=aB h
 cases h
 refine hd H₀ O H σ env _ x.1 x.2 R ex fun v H1 s1 h1=>?_
 refine hk H₀ O H1 σ env _ y.1 y.2 (R.keep s1) ey fun w H2 s2 h2=>?_
 rw[E9 k8]at h1
 obtain⟨a,ai,rfl,rd,en⟩:=(h1.keep s2).dt
 obtain⟨b,rfl,hb⟩:=yv ek h2.weak
 rcases en.val k with⟨z,_⟩|⟨d2,v2,z1,z2,r⟩
 ·rw[z]at ed;cases ed
 ·rw[z1]at ed;cases ed
  exact⟨a,v2,rfl,.inr ⟨ai,k,b,rd,rfl,hb,z2.symm⟩,q v2 H2 (s1.trans s2) (Val.el r)⟩
def X6(H:Hp)(a:Addr)(y:V)(r:Option V):Prop:=gX H a y r∨∃ai,Rd H a (.dT ai)∧y=.non∧r=none
noncomputable def Gm(td ty tx:TE):TE:=fun σ H Q=>td σ H fun x H1=>∃a,x=.ref a∧JC H1 a∧ty σ H1 fun y H2=>tx σ H2 fun z H3=>∃o,X6 H3 a y o∧Q (o.getD z) H3
theorem Pw {X:Cx}{td ty tx:TE}{o e f:Expr}{apos cM:Pos} (hu:X.A.units+1<cLine) (ho:PE X o td) (he:PE X e ty) (hf:PE X f tx) (m:M2 X o "get" apos e f cM):PE X (.Call (.Attribute o "get" apos) [e,f] [] cM) (Gm td ty tx):=by
 intro pins s σ H Q I h
 refine wpAny_Call_method m.base m.few m.line PySem.F.plainAttrs_dict PySem.F.slot_dict_get PySem.F.type_dict_get (aI (ho pins s σ H _ I h) fun u s1 ⟨x,H1,I1,rx,a,ex,d,q1⟩=>?_)
 subst ex
 obtain rfl:u=Value.ref a:=rx
 obtain⟨t1,t2,_⟩:=Tr I1 d
 refine⟨t1,t2,?_⟩
 rw[m.trees]
 refine Calls.callWith_builtin rfl (Calls.evalArgs_plain (Calls.spliced_cons (aI (he pins s1 σ H1 _ I1 q1) fun iv s2 ⟨y,H2,I2,ry,q2⟩ =>
  Calls.spliced_cons (aI (hf pins s2 σ H2 _ I2 q2) fun fv s3 ⟨z,H3,I3,rz,ov,g,q3⟩=>Calls.spliced_nil ?_))))
 rcases g with g|⟨ai,rd,ey,er⟩
 ·exact Ts hu I3 g ry rz fun w' s4 I4 jv=>⟨_,H3,I4,jv,q3⟩
 ·subst ey er
  cases (show iv=Value.none from ry)
  obtain⟨_,lo,xs,_,dd⟩:=jM I3.aG rd
  exact get_none hu lo dd ⟨_,H3,I3.tok _,rz,q3⟩
noncomputable def qY(fd fk fx:Ev→Option (M×D)):Ev→Option (M×D):=fun e=>(fd e).bind fun x=>(fk e).bind fun y=>(fx e).bind fun z=>(jU x.2).bind fun ks=>match y.2 with
 |.non=>if z.2.cn=true then some (.fr,z.2)else none
 |d=>(lO d).bind fun k=>match cB ks k with
  |some d=>some (aV x.1,d)
  |none=>if z.2.cn=true then some (.fr,z.2)else none
theorem Px{td ty tx:TE}{fd fk fx:Ev→Option (M×D)}(hd:JT K td fd)(hk:JT K ty fk)(hx:JT K tx fx):JT K (Gm td ty tx) (qY fd fk fx):=by
 intro H₀ O H σ env Q m d R h q
 obtain⟨x,ex,h⟩:=aB h
 obtain⟨y,ey,h⟩:=aB h
 obtain⟨z,ez,h⟩:=aB h
 obtain⟨ks,k8,h⟩:=aB h
 refine hd H₀ O H σ env _ x.1 x.2 R ex fun v H1 s1 h1=>?_
 rw[E9 k8]at h1
 obtain⟨a,X7,rfl,Zv,_⟩:=h1.dt
 refine⟨a,rfl,.inr ⟨X7,Zv⟩,hk H₀ O H1 σ env _ y.1 y.2 (R.keep s1) ey fun w H2 s2 h2=>?_⟩
 refine hx H₀ O H2 σ env _ z.1 z.2 ((R.keep s1).keep s2) ez fun u H3 s3 h3=>?_
 obtain⟨a',ai,e',rd,en⟩:=((h1.keep s2).keep s3).dt
 cases e'
 have s:=(s1.trans s2).trans s3
 have dflt:(if z.2.cn=true then some (M.fr,z.2)else none)=some (m,d)→Q u H3:=fun h=>by
  split at h
  ·rename_i hi
   cases h
   exact q u H3 s (show Rp K _ H3 u z.2 from h3.weak.im hi)
  ·cases h
 split at h
 ·rename_i hy
  rw[hy]at h2
  exact⟨none,.inr ⟨ai,rd,h2.non,rfl⟩,dflt h⟩
 ·obtain⟨k,ek,h⟩:=aB h
  obtain⟨b,rfl,hb⟩:=yv ek h2.weak
  refine⟨fI ai k,.inl (.inr ⟨ai,k,b,rd,rfl,s3 _ _ hb,rfl⟩),?_⟩
  rcases en.val k with⟨z1,z2⟩|⟨d2,v2,z1,z2,r⟩
  ·rw[z1]at h
   rw[z2]
   exact dflt h
  ·rw[z1]at h;cases h
   rw[z2]
   exact q v2 H3 s (Val.el r)
noncomputable def hJ(i:Nat)(e:Ev):Option (M×List (List Key×D)):=match e[i]? with
 |some (some (m,.dt ds))=>if own m=true then some (m,ds)else none
 |_=>none
theorem Fc{i:Nat}{e:Ev}{m:M}{ds:List (List Key×D)}(h:hJ i e=some (m,ds)):e[i]?=some (some (m,.dt ds))∧own m=true:=by
 unfold hJ at h
 split at h
 ·rename_i e
  split at h
  ·cases h;exact⟨e,by assumption⟩
  ·cases h
 ·cases h
theorem Rel.Ik{i:Nat}{m:M}{ds:List (List Key×D)}(R:Rel K H₀ I O H σ env)(h:hJ i env=some (m,ds)):∃p ai,σ[i]?=some (some (.ref p))∧O p∧H p=some (.dT ai)∧Ent K (fun a=>¬O a∧H₀ a=none) H ai ds:=by
 obtain⟨e,o⟩:=Fc h
 obtain⟨v,hv,n,hm⟩:=R.e.at e
 cases m<;>simp only[own]at o<;>try (cases o;done)
 ·obtain⟨p,rfl,h1,h2,xs,c,z,r⟩:=hm;exact⟨p,xs,hv,h1,c,z,r⟩
 ·obtain⟨p,rfl,h1,xs,c,z,r⟩:=hm;exact⟨p,xs,hv,h1,c,z,r⟩
theorem Rel.Il{i:Nat}{m:M}{ds:List (List Key×D)}{p:Addr}{xs ys:List (List Key×V)}{es:List (List Key×D)}(R:Rel K H₀ I O H σ env)(h:hJ i env=some (m,ds))(hp:σ[i]?=some (some (.ref p)))(hx:H p=some (.dT xs))(r:Ent K (fun a=>¬O a∧H₀ a=none) H ys es) :
  Rel K H₀ I O (L2.upd H p (.dT ys)) σ (env.set i (some (m,.dt es)))∧aS O H O (L2.upd H p (.dT ys)):=by
 obtain⟨e,o⟩:=Fc h
 have hO:=(R.mH e o hp).1
 exact R.mut e o hp ⟨ys,bS,r.1,r.2.upd hO hx (fun z=>z)⟩
noncomputable def fY(i:Nat)(fk fe:Ev→Option (M×D)):Ev→Option Fl:=fun e=>(fe e).bind fun x=>(fk e).bind fun y=>(lO y.2).bind fun k=>if dD x.1 x.2=true then (hJ i e).bind fun z=>if z.2.length<sizeLine then some (.nx (e.set i (some (z.1,.dt (putD z.2 k x.2)))))else none else none
theorem RD{i:Nat}{t tk:TE}{f fk:Ev→Option (M×D)}(h:JT K t f)(hk:JT K tk fk):JS K (vy (gD i) tk t) (fY i fk f):=by
 intro H₀ I O H σ env Ds fl R e q
 obtain⟨x,ex,e⟩:=aB e
 obtain⟨y,ey,e⟩:=aB e
 obtain⟨k,ek,e⟩:=aB e
 split at e
 ·rename_i hs
  obtain⟨⟨m,ds⟩,ez,e⟩:=aB e
  split at e
  ·rename_i hl
   cases e
   obtain⟨p,ai,hp,hO,hx,r⟩:=R.Ik ez
   refine h H₀ O H σ env _ x.1 x.2 R.e ex fun v H1 s1 h1=>?_
   refine⟨.ref p,hp,?_⟩
   refine hk H₀ O H1 σ env _ y.1 y.2 (R.keep s1).e ey fun w H2 s2 h2=>?_
   obtain⟨b,rfl,hb⟩:=yv ek h2.weak
   have s:=s1.trans s2
   refine⟨p,_,rfl,.inr ⟨ai,k,b,s _ _ hx,rfl,hb,by rw[r.len];exact hl,rfl⟩,?_⟩
   obtain⟨R2,st⟩:=(R.keep s).Il (ys:=putK ai k v) (es:=putD ds k x.2) ez hp (s _ _ hx) (Ent.put ⟨r.1,r.2.keep (.same s)⟩ ((h1.keep s2).dD hs))
   exact q O _ σ R2 ((aS.same s).trans st)
  ·cases e
 ·cases e
end
section
variable {K:PySem.W.Frag}{N:Addr→Prop}{H H' H₀:Hp}{I:Nat→Option Addr}{O:Addr→Prop}{σ:L2.St}{env:Ev}
noncomputable def Aw(k:List Key):D:=.tup (k.map Au)
theorem UL{N:Addr→Prop}(k:Key):Rp K N H (kV k) (Au k):=by
 cases k with
 |inl i=>exact .int i
 |inr x=>exact .str x
 |non=>exact .non
theorem Ef{N:Addr→Prop}:∀ks:List Key,ay K N H (ks.map kV) (ks.map Au)
 |[]=>.nil
 |k::ks=>.cons (UL k) (Ef ks)
noncomputable def qZ:List (M×D)→Option (M×D)
 |[(m,.dt ks)]=>if own m=true∨m=.un then some (.un,.lst (ks.map fun kv=>Aw kv.1))else none
 |_=>none
theorem M9{X:Cx}(h:X.K=K)(hc:X.calm=true):iy X (.type "list") (fun xs H Q=>∃d ai,xs=[.ref d]∧H d=some (.dT ai)∧∀l bs,H l=none→qU H (ai.map (·.1)) bs→Q (.ref l) (upd H l (.lst (bs.map V.ref)))):=Mr hc
theorem Dj{N:Addr→Prop}{p:Addr}{o:HO}(hp:H p=none):∀{ks:List (List Key)}{bs:List Addr},qU H ks bs→ay K N (upd H p o) (bs.map V.ref) (ks.map Aw)
 |_,_,.nil=>.nil
 |_,_,.cons h t=>.cons (.tup (.inl (by rw[aK (fF h hp)];exact h)) (Ef _)) (Dj hp t)
theorem N5:kZ K (fun xs H Q=>∃d ai,xs=[.ref d]∧H d=some (.dT ai)∧∀l bs,H l=none→qU H (ai.map (·.1)) bs→Q (.ref l) (upd H l (.lst (bs.map V.ref)))) qZ:=by
 intro H₀ O H vs aD Q m d od hd hv h q
 unfold qZ at h
 split at h
 ·rename_i m0 ks
  split at h
  ·rename_i hm
   cases h
   obtain⟨v,rfl,hw⟩:=hv.one
   have:∃p ai,v=.ref p∧H p=some (.dT ai)∧ai.map (·.1)=ks.map (·.1):=by
    cases m0<;>simp only[own,Bool.false_eq_true,false_or,reduceCtorEq,or_false,or_self]at hm<;>simp only[Val,Cell]at hw
    ·obtain⟨p,rfl,_,_,_,xs,c,z,_⟩:=hw;exact⟨p,xs,rfl,c,z⟩
    ·obtain⟨p,rfl,_,_,xs,c,z,_⟩:=hw;exact⟨p,xs,rfl,c,z⟩
    ·obtain⟨p,rfl,_,xs,c,z,_⟩:=hw;exact⟨p,xs,rfl,c,z⟩
   obtain⟨p,ai,rfl,e,ek⟩:=this
   refine⟨p,ai,rfl,e,fun l bs hl ka=>q _ _ (cY hl) ⟨l,rfl,hl,lh hd hl,iW od hl,_,bS,?_⟩⟩
   rw[ek]at ka
   have:=Dj (K:=K) (N:=fun a=>(¬O a∧H₀ a=none)∧a≠l) (o:=.lst (bs.map V.ref)) hl ka
   rw[List.map_map]at this
   exact this
  ·cases h
 ·cases h
noncomputable def mS(ls:List (List Key×D)):List (List Key×D)→Bool
  |[]=>true
  | (k,d)::r=>match cB ls k,d with
    |some (.int j),.int i=>(i==j)&&mS ls r
    |_,_=>false
noncomputable def jW(ks:List (List Key×D)):Bool:=ks.all fun kv=>match kv.2 with
 |.int _=>true
 |_=>false
noncomputable def pD:M×D→M×D→Option (M×D)
 | (_,.dt ks),(_,.dt ls)=>if jW ks=true∧jW ls=true then some (.fr,.bl (!(ks.length==ls.length&&mS ls ks)))else none
 |_,_=>none
theorem RH{ls:List (List Key×D)}{k:List Key}{d:D}(h:jW ls=true)(e:cB ls k=some d):∃j,d=.int j:=by
 unfold cB at e
 cases f:ls.find? fun kv=>decide (kv.1=k) with
 |none=>rw[f]at e;cases e
 |some kv =>
  rw[f]at e;cases e
  have:=List.all_eq_true.mp h kv (List.mem_of_find?_eq_some f)
  show ∃j,kv.2=.int j
  cases q:kv.2<;>rw[q]at this<;>first|exact⟨_,rfl⟩|cases this
theorem Gn{A:Around}{s:Shared}{N N':Addr→Prop}{k9:List (List Key×V)}{ls:List (List Key×D)}{ys:List (List Key×Addr×Value)}(Ki:KT H k9 ys)(Kj:Ent K N' H k9 ls)(il:jW ls=true):∀{ai:List (List Key×V)}{ks:List (List Key×D)}{xs:List (List Key×Addr×Value)},KT H ai xs→Ent K N H ai ks→jW ks=true→i5 A s ys xs (mS ls ks)
  |[],ks,_,.nil,en,_=>by
    cases ks with
    |nil=>exact .nil
    |cons _ _=>exact absurd en.len (by simp)
  |p::ai,ks,q::xs,.cons h t,en,ik=>by
    cases ks with
    |nil=>exact absurd en.len (by simp)
    |cons z ks =>
      obtain⟨e,r,BH⟩:=en.cons_inv
      have BI:(match z.2 with|.int _=>true|_=>false)=true∧jW ks=true:=by simpa[jW]using ik
      have ih:=Gn (A:=A) (s:=s) Ki Kj il t BH BI.2
      obtain⟨k,d⟩:=z
      obtain⟨k2,b,u⟩:=q
      obtain⟨k3,x⟩:=p
      obtain⟨h1,_,h2⟩:=h
      simp only at e h1 h2 r BI
      subst e h1
      cases d<;>try (exact absurd BI.1 aX)
      rename_i i
      obtain rfl:=r.int_inv
      obtain⟨tk,rfl⟩:=(show ∃t,u=Value.int i t from h2)
      have rel:=Ki.val k3
      simp only[mS]
      rcases Kj.val k3 with⟨z1,z2⟩|⟨d',v',z1,z2,r'⟩
      · rw[z2]at rel
        rw[z1]
        refine .miss ?_
        cases w:atKey ys k3 with
        |none=>rfl
        |some y=>rw[w]at rel;exact rel.elim
      · rw[z2]at rel
        rw[z1]
        obtain⟨j,rfl⟩:=RH il z1
        obtain rfl:=r'.int_inv
        cases w:atKey ys k3 with
        |none=>rw[w]at rel;exact rel.elim
        |some y =>
          rw[w]at rel
          obtain⟨Zw,e'⟩:=(show ∃t,y.2=Value.int j t from rel)
          refine .hit w ?_ ih
          rw[e']
          exact SeqAt.EqAt.int_int i tk j Zw
noncomputable def Im(K:PySem.W.Frag):R2:=fun x y H Q=>∃a b ai k9 ks ls,x=.ref a∧y=.ref b∧Rd H a (.dT ai)∧Rd H b (.dT k9)∧Ent K (fun _=>True) H ai ks∧Ent K (fun _=>True) H k9 ls∧jW ks=true∧jW ls=true∧Q (.bl (!(ks.length==ls.length&&mS ls ks))) H
theorem UM{X:Cx}(h:X.K=K)(hu:X.A.units+64<cLine):bD X (compareOp .NotEq) (Im K):=by
 subst h
 intro pins s σ H x y v u Q I rx ry h
 obtain⟨a,b,ai,k9,ks,ls,rfl,rfl,ra,rb,ea,eb,ia,ib,q⟩:=h
 cases rx
 cases ry
 obtain⟨_,la,xs,ka,da⟩:=jM I.aG ra
 obtain⟨_,lb,ys,kb,db⟩:=jM I.aG rb
 have e1:xs.length=ks.length:=by rw[←Paired.length ka,ea.len]
 have e2:ys.length=ls.length:=by rw[←Paired.length kb,eb.len]
 refine Zr la lb (tupleKind_room_in1 (show X.A.units+1<cLine by omega)) da db (by omega) (fun _=>Gn kb eb ib ka ea ia) ?_
 rw[e1,e2]
 exact⟨.bl _,H,I,rfl,q⟩
theorem UN:JR K (Im K) pD:=by
 intro H₀ O H x y a b Q m d _ _ h1 h2 h q
 unfold pD at h
 split at h
 ·split at h
  ·rename_i hi
   cases h
   obtain⟨p,ai,rfl,ra,ea⟩:=h1.dt
   obtain⟨p',k9,rfl,rb,eb⟩:=h2.dt
   exact⟨p,p',ai,k9,_,_,rfl,rfl,ra,rb,⟨ea.1,ea.2.wk fun _ _ _=>trivial⟩,⟨eb.1,eb.2.wk fun _ _ _=>trivial⟩,hi.1,hi.2,q _ H (aL.refl H) fX⟩
  ·cases h
 ·cases h
def Fd:V→List V→Hp→VK→Prop:=fun x xs H Q=>∃a ai,x=.ref a∧xs=[]∧H a=some (.dT ai)∧Q .non (upd H a (.dT []))
theorem N6{X:Cx}:wy X "dict.clear" Fd:=by
 intro pins s σ H x xs v us Q I rx r h
 obtain⟨a,ai,rfl,rfl,e,q⟩:=h
 cases rx
 cases r
 obtain⟨z,lo,ys,rel,o,es,ep,ho,ex,hd,he,hn⟩:=(I.aG a _ e:cE X.prog X.w H s.heap a (.dT ai))
 have gM:es.size≤sizeLine:=by rw[←Array.length_toList,he,List.length_map,←Paired.length rel];exact z
 refine UK ho ex hd gM fun h' ⟨o',g1,g2,g3⟩ sb=>⟨.non,_,uV (ob:=.dT []) (t':=s.toks) I (by rw[e];exact True.intro) sb ⟨o',g1⟩ ⟨Nat.zero_le _,lo,[],.nil,o',#[],ep+1,g1,g2,g3,rfl,List.nodup_nil⟩,rfl,q⟩
noncomputable def yP(i:Nat):Ev→Option Fl:=fun e=>(hJ i e).bind fun y=>some (.nx (e.set i (some (y.1,.dt []))))
theorem N7{i:Nat}:JS K (oQ (rL K "dict" Fd (gD i))) (yP i):=by
 intro H₀ I O H σ env Ds fl R e q
 obtain⟨⟨m,ds⟩,ey,e⟩:=aB e
 cases e
 obtain⟨p,ai,hp,hO,hx,r⟩:=R.Ik ey
 refine⟨.ref p,hp,.inr (.inr (.inl ⟨rfl,.inr ⟨ai,hx⟩⟩)),p,ai,rfl,rfl,hx,?_⟩
 obtain⟨R2,st⟩:=R.Il (ys:=[]) (es:=[]) ey hp hx ⟨rfl,.nil⟩
 exact q O _ σ R2 st
theorem N8{X:Cx}(h:X.K=K)(hc:X.calm=true):iy X (.builtin "sum") (fun xs H Q=>∃(p:Addr) (ns:List Int),xs=[.ref p]∧bV K H p (ns.map V.int)∧Q (.int ns.sum) H):=by
 subst h
 intro pins s σ H xs us Q I r h
 obtain⟨p,ns,rfl,hq,q⟩:=h
 obtain⟨u,rfl,ru⟩:=vals1 r
 cases ru
 obtain⟨its,rv,pl,hz⟩:=I.list hq
 have hi:=ints_of rv
 obtain⟨ys,ey⟩:=hi.allInts.items
 refine sum_intListG (I.ok.hd hc) (by rw[←ey];exact pl.isList) fun h' tk t' hk=>⟨.int ns.sum,H,I.kept (t':=tk) hk,⟨t',?_⟩,q⟩
 rw[preSum_eq,List.take_of_length_le (by simp),←nums_intItems,←ey]
 rw[show its.toArray.toList=its from rfl,hi.numsOf]
noncomputable def rV:List (M×D)→Option (M×D)
 |[(_,.lst ds)]=>(oV ds).bind fun ns=>some (.fr,.int ns.sum)
 |_=>none
theorem RJ:kZ K (fun xs H Q=>∃(p:Addr) (ns:List Int),xs=[.ref p]∧bV K H p (ns.map V.int)∧Q (.int ns.sum) H) rV:=by
 intro H₀ O H vs aD Q m d _ _ hv h q
 unfold rV at h
 split at h
 ·obtain⟨ns,en,h⟩:=aB h
  cases h
  obtain⟨v,rfl,hw⟩:=hv.one
  obtain⟨p,xs,rfl,hs,r⟩:=hw.lst
  rw[Ee r en]at hs
  exact⟨p,ns,rfl,hs,q _ H (aL.refl H) iZ⟩
 ·cases h
end
section
variable {K:PySem.W.Frag}{N:Addr→Prop}{H H' H₀:Hp}{I:Nat→Option Addr}{O:Addr→Prop}{σ:L2.St}{env:Ev}
noncomputable def Hj(K:PySem.W.Frag)(te:TE)(ts:TO):TE:=fun σ H Q=>te σ H fun x H1=>ts σ H1 fun k H2=>k=some (-1)∧∃a xs,x=.ref a∧bV K H2 a xs∧∀p,H2 p=none→Q (.ref p) (upd H2 p (.lst xs.reverse))
theorem RK{X:Cx}{e st:Expr}{te:TE}{ts:TO}{p2 pos:Pos}(hk:X.K=K)(he:PE X e te)(hs:PO X (some st) ts):PE X (.Subscript e (.Slice none none (some st) p2) pos) (Hj K te ts):=by
 subst hk
 intro pins s σ H Q I h
 refine Subscript_ (aI (he pins s σ H _ I h) fun v s1 ⟨x,H1,I1,r1,q1⟩=>?_)
 refine wpAny_Slice ?_
 rw[evalPart_none]
 refine aC (aC (aI (hs pins s1 σ H1 _ I1 q1) fun vk s2 ⟨k,H2,I2,pk,ek,a,xs,ex,hx,q⟩=>?_))
 subst ek ex
 cases r1
 have I4:L2.Inv X pins σ H2 { s2 with heap:=s2.heap.push { cls:=.type "slice",data:=.fields #[.none,.none,vk] } }:=I2.kept (t':=s2.toks) fun b ob q=>dz _ q
 obtain⟨its,r,ht,hz⟩:=I4.list hx
 have hlen:=r.length
 show wpAny (model X.prog X.w) X.A (subscriptTail e (.Slice none none (some st) p2) (.ref a) (.ref s2.heap.objs.size)) (EP X pins σ Q) X.xe { s2 with heap:=s2.heap.push { cls:=.type "slice",data:=.fields #[.none,.none,vk] } }
 refine tail_any (ops:=[.ref a,.ref s2.heap.objs.size]) ht.isList.typeIs slot_list_getitem.lookup (wpAny_getItem_list_slice ht.isList (Heap.IsSliceOf.new ..) .none .none pk (by decide) ?_ (by rw[List.size_toArray]<;>omega)) (by with_unfolding_all rfl)
 rw[PySem.W.krv_pick]
 refine⟨.ref _,_,I4.laid (t':=s2.toks) (o:=.lst xs.reverse) (fun b ob q=>dz _ q) (bf _) ?_,rfl,q _ (I4.aG.fresh (bf _))⟩
 exact⟨by rw[List.length_reverse];exact hz,_,0,r.reverse,fL _ rfl⟩
noncomputable def Hk:M×D→Option (M×D)
 | (m,.lst ds)=>fO m ds.reverse
 |_=>none
noncomputable def vH(f:Ev→Option (M×D))(l:Ev→Option (Option Int)):Ev→Option (M×D):=fun e=>(f e).bind fun x=>(l e).bind fun k=>if k=some (-1)then Hk x else none
theorem RL{te:TE}{ts:TO}{f:Ev→Option (M×D)}{l:Ev→Option (Option Int)}(he:JT K te f)(hs:pR K ts l):JT K (Hj K te ts) (vH f l):=by
 intro H₀ O H σ env Q m d R h q
 obtain⟨x,ex,h⟩:=aB h
 obtain⟨k,ek,h⟩:=aB h
 split at h
 ·rename_i hk
  refine he H₀ O H σ env _ x.1 x.2 R ex fun v H1 s1 h1=>?_
  refine hs H₀ O H1 σ env _ k (R.keep s1) ek fun H2 s2=>⟨hk,?_⟩
  have R2:=(R.keep s1).keep s2
  have h2:=(h1.keep s2).h0
  obtain⟨mx,dx⟩:=x
  cases dx<;>try (cases h;done)
  obtain⟨p,xs,rfl,r,s⟩:=h2.lst
  exact⟨p,xs,rfl,r,fun l hl=>q _ _ ((s1.trans s2).trans (cY hl)) ((qL R2.od R2.hd hl s.rev h).hb fun a z=>(s1.trans s2).free z)⟩
 ·cases h
noncomputable def rE(n:Nat):List V:=(List.range n).map fun(k:Nat)=>.int (0+(k:Int))
noncomputable def Kk(ta:TA):TE:=fun σ H Q=>ta σ H fun vs H1=>∃j:Int,vs=[.int j]∧-(2^62)≤j∧j≤16777216∧∀l,H1 l=none→Q (.ref l) (upd H1 l (.lst (rE j.toNat)))
theorem qv:∀{n:Nat}{acc:List Value}{c:Int},acc.length=n→(∀(j:Nat) v,acc[j]?=some v→∃t,v=.int (c+(j:Int)) t)→Vals ((List.range n).map fun(k:Nat)=>V.int (c+(k:Int))) acc
 |_,[],_,e,_=>by subst e;exact .nil
 |_,v::acc,c,e,h=>by
  subst e
  rw[List.length_cons,List.range_succ_eq_map,List.map_cons,List.map_map]
  refine .cons (h 0 v rfl) ?_
  have:=qv (c:=c+1) (acc:=acc) rfl fun j w hw=>by
   obtain⟨t,e⟩:=h (j+1) w (by simpa using hw)
   exact⟨t,by rw[e];congr 1;omega⟩
  have e2:((fun(k:Nat)=>V.int (c+(k:Int)))∘Nat.succ)=fun(k:Nat)=>V.int (c+1+(k:Int)):=funext fun k=>by
   show V.int (c+((k+1:Nat):Int))=_
   congr 1;omega
  rw[e2]
  exact this
theorem Wm {X:Cx}{a:Expr}{ta:TA}{p pos p' pos':Pos} (hc:X.calm=true) (Zx:Gl X "list") (nJ:X.mg "list" = none) (hg:Gl X "range") (hm:X.mg "range" = none) (ha:PA X [a] ta) (hs:starEach [a] X.env=[(false,eval a X.env)]:=by rfl):PE X (.Call (.Name "list" p') [.Call (.Name "range" p) [a] [] pos] [] pos') (Kk ta):=by
 intro pins s σ H Q I h
 refine Call_ (ll I Zx nJ PyProof.Rows.Boot.«list» (PyProof.Rows.callWith_type1 ?_ rfl rfl))
 show wpAny _ _ (spliced ((false,eval (.Call (.Name "range" p) [a] [] pos) X.env)::backTo pos' (starEach [] X.env))) _ _ s
 refine Calls.spliced_cons ?_
 refine Call_ (ll I hg hm boot_range (PyProof.Rows.callWith_type1 (aI (ha pos pins s σ H _ I h) fun us s1 ⟨vs,H1,I1,r1,q1⟩=>?_) hs rfl))
 obtain⟨j,e,q1,q2,q⟩:=q1
 subst e
 cases r1 with
 |cons r rr =>
  cases rr
  obtain⟨t,rfl⟩:=r
  refine call_range_1 (args_nil ?_)
  have h62:(2:Int)^62=4611686018427387904:=by decide
  have en:Builtin.Range.rangeSize 0 j 1=(j.toNat:Int):=by rw[rangeSize_one];split<;>omega
  refine call_list_range (I1.ok.hd hc) (IsRange.new ..) (small_one (by omega) (by omega) q1 (by omega)) en (by rw[show(2:Nat)^24=16777216 by decide];omega) fun h' tk acc c hk hS hI=>?_
  have I2:L2.Inv X pins σ H1 { s1 with heap:=s1.heap.push { cls:=.type "range",data:=.fields #[.int 0 s1.toks,.int j t,.int 1 (s1.toks+1)] },toks:=s1.toks+1+1 }:=I1.kept (t':=s1.toks+1+1) fun b o e=>dz _ e
  refine⟨.ref _,_,I2.laid (t':=tk) (o:=.lst (rE j.toNat)) hk (bf _) ?_,rfl,q _ (I2.aG.fresh (bf _))⟩
  refine⟨?_,acc.toList,c,qv (by rw[Array.length_toList];exact hI.1) (fun i v hv=>?_),by rw[Array.toArray_toList];exact hS⟩
  ·have:sizeLine=16777216:=by decide
   rw[this,rE,List.length_map,List.length_range];omega
  ·obtain⟨t',e⟩:=hI.2 i v (by rw[←Array.getElem?_toList];exact hv)
   exact⟨t',by rw[e,Int.mul_one]⟩
noncomputable def wU(fs:Ev→Option (List (M×D))):Ev→Option (M×D):=fun e=>(fs e).bind fun l=>match l with
 |[(_,.int j)]=>if -4611686018427387904≤j∧j≤16777216 then some (.un,.lst (b0 0 j.toNat))else none
 |_=>none
theorem RM:∀n,ay K N H (rE n) (b0 0 n):=fun n=>by
 unfold rE b0
 induction (List.range n) with
 |nil=>exact .nil
 |cons a l ih=>exact .cons (.int _) ih
theorem Wn{t:TA}{fs:Ev→Option (List (M×D))}(h:iP K t fs):JT K (Kk t) (wU fs):=by
 intro H₀ O H σ env Q m d R e q
 obtain⟨l,el,e⟩:=aB e
 split at e
 ·split at e
  ·rename_i hj
   cases e
   refine h H₀ O H σ env _ _ R el fun vs H1 s1 h1=>?_
   obtain⟨v,rfl,hv⟩:=h1.one
   obtain rfl:=hv.int
   have R1:=R.keep s1
   exact⟨_,rfl,by rw[wK];exact hj.1,hj.2,fun l hl=>q _ _ (s1.trans (cY hl)) ((qE R1.od R1.hd hl (RM _)).hb fun a z=>s1.free z)⟩
  ·cases e
 ·cases e
end
end J
namespace J
open PySem L2
noncomputable def v7(K:PySem.W.Frag)(n:Nat)(F:List D→Option D):Sp:=fun vs H Q _=>vs.length=n∧∃ds d,vh K H [0] vs ds∧F ds=some d ∧
 ∀p H',(jy [0] vs p∨H p=none)→(∀a o,¬jy [0] vs a→H a=some o→H' a=some o)→(∀a o,H a=some o→∃o',H' a=some o')→Cell K (fun _=>False) H' p d→Q (.ref p) H'
noncomputable def lC:Fl→Option D
 |.rt _ m d=>if own m=true∧hZ d=true then some d else none
 |_=>none
noncomputable def jX(L:Nat)(g:Ev→Option Fl):List D→Option D:=fun ds=>(g (jH [0] ds++List.replicate (L-ds.length) none)).bind lC
section
variable {K:PySem.W.Frag}{H H' H₀:Hp}{I:Nat→Option Addr}{O O':Addr→Prop}{σ:L2.St}{env:Ev}
theorem N9{ts:TS}{g:Ev→Option Fl}{n:Nat}{N:List Str}{vs:List V}{Q:VK}{E:XK}(h:JS K ts g)(hs:v7 K n (jX N.length g) vs H Q E):ts { nx:=fun _ H'=>Q .non H',rt:=Q } (L2.start N vs) H:=by
 obtain⟨hl,ds,d,A,e,q⟩:=hs
 obtain⟨fl,ef,eo⟩:=aB e
 obtain⟨I0,pU,R⟩:=MC (N:=N) A
 refine h H I0 (jy [0] vs) H _ _ _ fl R ef ?_
 cases fl with
 |nx e'=>cases eo
 |bk e'=>cases eo
 |ct e'=>cases eo
 |rt e' m' d' =>
  intro O' H' σ' v R' st hv
  unfold lC at eo
  simp only at eo
  split at eo
  ·rename_i hm
   cases eo
   have hc:∃p,v=.ref p∧O' p∧Cell K (fun _=>False) H' p d:=by
    cases m'<;>try (cases hm.1;done)
    ·obtain⟨p,rfl,o,_,c⟩:=hv;exact⟨p,rfl,o,c.im hm.2⟩
    ·obtain⟨p,rfl,o,c⟩:=hv;exact⟨p,rfl,o,c.im hm.2⟩
   obtain⟨p,rfl,o,c⟩:=hc
   refine q p H' ?_ (fun a o n e=>R'.fr a o (fun i z=>n ⟨i,(pU z).1,(pU z).2⟩) e) R'.e.hd c
   rcases R'.ow p o with⟨i,z⟩|z
   ·exact .inl ⟨i,(pU z).1,(pU z).2⟩
   ·exact .inr z
  ·cases eo
noncomputable def kj(sl:List Nat)(pos:List (Nat×Nat))(F:List D→Option D)(fs:Ev→Option (List (M×D))):Ev→Option Fl:=fun e=>(fs e).bind fun aD=>if k6 [0] sl pos aD=true then (F (aD.map (·.2))).bind fun d=>match aD with
 | (m,_)::_=>some (.rt (e.map fun _=>none) m d)
 |[]=>none else none
theorem qF{i:Nat}{x:M×D}(h:(env.map fun _=>(none:Option (M×D)))[i]?=some (some x)):False:=by
 rw[cV]at h
 cases q:env[i]? with
 |none=>rw[q]at h;cases h
 |some y=>rw[q]at h;cases h
theorem Py{n:Nat}{sl:List Nat}{pos:List (Nat×Nat)}{F:List D→Option D}{fs:Ev→Option (List (M×D))}{ta:TA}{E:XK}(ha:lY K ta fs pos)(hl:∀e aD,fs e=some aD→aD.length=n):JS K (vO (rn (v7 K n F) [] E ta)) (kj sl pos F fs):=by
 intro H₀ I O H σ env Ds fl R e q
 obtain⟨aD,em,e⟩:=aB e
 split at e
 ·rename_i hb
  have ok:=Uw hb
  obtain⟨d,eF,e⟩:=aB e
  cases aD with
  |nil=>cases e
  |cons x0 rest =>
   obtain⟨m0,d0⟩:=x0
   cases e
   refine ha H₀ O H σ env _ _ R.e em fun vs H1 s1 hv hp=>?_
   have R1:=R.keep s1
   obtain⟨rT,m7,sub,A⟩:=Rj R R1 ok hv hp
   rw[List.append_nil]
   refine⟨by rw[←Paired.length hv];exact hl _ _ em,_,d,A,eF,fun p H2 BJ kp Zy c=>?_⟩
   obtain⟨om,cm⟩:=ok.c4 0 _ (List.mem_singleton.mpr rfl) rfl
   have Zz:¬O p→H1 p=none:=fun z=>BJ.elim (fun w=>absurd (sub p w) z) id
   have ZC:O p∨H₀ p=none:=by
    rcases BJ with w|w
    ·exact .inl (sub p w)
    ·right
     cases z:H₀ p with
     |none=>rfl
     |some o=>obtain⟨o',z⟩:=R1.e.hd p o z;rw[w]at z;cases z
   have ZD:m0=.bo→H₀ p=none:=fun hm=>by
    rcases BJ with⟨i,hi,k7⟩|w
    ·obtain⟨k,j,x,hk,hj,hx,hs,he,_⟩:=m7 hi k7
     have ZE:i=0:=List.mem_singleton.mp hi
     subst ZE
     simp at hx
     subst hx
     obtain⟨v,gP,_,hz⟩:=R1.e.at he
     rw[hs]at gP;cases gP
     rw[hm]at hz
     obtain⟨p',e',_,z,_⟩:=hz
     cases e';exact z
    ·cases z:H₀ p with
     |none=>rfl
     |some o=>obtain⟨o',z⟩:=R1.e.hd p o z;rw[w]at z;cases z
   have R2:Rel K H₀ I (fun a=>a=p∨(O a∧¬jy [0] vs a)) H2 σ (env.map fun _=>none):=by
    refine⟨⟨mw (by rw[List.length_map];exact Paired.length R.e.sl) (fun j a b h1 _ m d ea=>by subst ea;exact(qF h1).elim),?_,?_,?_⟩,?_,?_,fun i d p h1=>(qF h1).elim,fun i j x y p h1=>(qF h1).elim,⟨fun i j d d' h1=>(qF h1).elim,fun i j d x p q xs h1=>(qF h1).elim⟩⟩
    ·rintro a (rfl|⟨ho,ni⟩)
     ·obtain⟨o,eo,_⟩:=c.some;exact⟨o,eo⟩
     ·obtain⟨o,eo⟩:=R1.e.od a ho;exact⟨o,kp a o ni eo⟩
    ·intro a o h0
     obtain⟨o',h1⟩:=R1.e.hd a o h0
     exact Zy a o' h1
    ·rintro a o (rfl|⟨ho,ni⟩) ea
     ·obtain⟨o',eo,nt⟩:=c.some;rw[eo]at ea;cases ea;exact nt
     ·obtain⟨o',eo⟩:=R1.e.od a ho
      have:=kp a o' ni eo
      rw[this]at ea;cases ea
      exact R1.e.on a _ ho eo
    ·intro a o ni h0
     refine kp a o (fun w=>?_) (R1.fr a o ni h0)
     rcases R1.ow a (sub a w) with⟨i,z⟩|z
     ·exact ni i z
     ·rw[z]at h0;cases h0
    ·rintro a (rfl|⟨ho,_⟩)
     ·rcases ZC with z|z
      ·exact R1.ow a z
      ·exact .inr z
     ·exact R1.ow a ho
   refine q (fun a=>a=p∨(O a∧¬jy [0] vs a)) H2 σ (.ref p) R2 (fun a o ha no=>⟨kp a o (fun w=>no (sub a w)) (s1 _ _ ha),?_⟩) ?_
   ·rintro(rfl|⟨ho,_⟩)
    ·have:=Zz no
     rw[s1 _ _ ha]at this;cases this
    ·exact no ho
   ·cases m0<;>try (cases om;done)
    ·exact⟨p,rfl,.inl rfl,ZD rfl,c.wk fun _ z _=>z.elim⟩
    ·exact⟨p,rfl,.inl rfl,c.wk fun _ z _=>z.elim⟩
 ·cases e
end
end J
set_option genInjectivity false
set_option genSizeOf false
namespace C
open PySem PySem.Spec L2 J
inductive Bo where|add|sub|mul|div|mod|pow|shl|shr|band|bor
inductive Co where|lt|le|gt|eq|ne|sY|lZ|wV|pV|nL|wW|neT
inductive Uo where|neg|inv
inductive Fb where|int|list|len|pW|max|vI|sum
noncomputable def Bo.op:Bo→Operator
 |.add=>.Add
 |.sub=>.Sub
 |.mul=>.Mult
 |.div=>.FloorDiv
 |.mod=>.Mod
 |.pow=>.Pow
 |.shl=>.LShift
 |.shr=>.RShift
 |.band=>.BitAnd
 |.bor=>.BitOr
noncomputable def Bo.g:Bo→M×D→M×D→Option (M×D)
 |.add=>bO
 |.sub=>iF
 |.mul=>fJ
 |.div=>cA
 |.mod=>aW
 |.pow=>gY
 |.shl=>mZ
 |.shr=>jR
 |.band=>cT
 |.bor=>jS
theorem Bo.ok{K:PySem.W.Frag}:∀o:Bo,∃r,(∀Z:Cx,Z.K=K→bD Z (binaryOp o.op) r)∧JR K r o.g
 |.add=>⟨_,fun _ h=>Q9 h,Ra⟩
 |.sub=>⟨_,fun _ _=>SX,TH⟩
 |.mul=>⟨_,fun _ _=>SY,TJ⟩
 |.div=>⟨_,fun _ _=>O8,QW⟩
 |.mod=>⟨_,fun _ _=>S0,TK⟩
 |.pow=>⟨_,fun _ _=>S1,TL⟩
 |.shl=>⟨_,fun _ _=>S2,TN⟩
 |.shr=>⟨_,fun _ _=>S3,TQ⟩
 |.band=>⟨_,fun _ _=>S4,QV⟩
 |.bor=>⟨_,fun _ _=>VC,Ul⟩
noncomputable def Co.op:Co→CmpOp
 |.lt=>.Lt
 |.le=>.LtE
 |.gt=>.Gt
 |.eq=>.Eq
 |.ne=>.NotEq
 |.sY=>.IsNot
 |.lZ=>.In
 |.wV=>.NotIn
 |.pV=>.Eq
 |.nL=>.NotEq
 |.wW=>.NotIn
 |.neT=>.NotEq
noncomputable def Co.g:Co→M×D→M×D→Option (M×D)
 |.lt=>f7
 |.le=>pQ
 |.gt=>iQ
 |.eq=>aM
 |.ne=>iR
 |.sY=>rB
 |.lZ=>fu false
 |.wV=>fu true
 |.pV=>gZ
 |.nL=>gE
 |.wW=>m8 true
 |.neT=>pD
theorem Co.ok{K:PySem.W.Frag}:∀o:Co,∃r,(∀Z:Cx,Z.K=K→Z.A.units+64<cLine→bD Z (compareOp o.op) r)∧JR K r o.g
 |.lt=>⟨_,fun _ _ _=>VG,VX⟩
 |.le=>⟨_,fun _ _ _=>VH,VY⟩
 |.gt=>⟨_,fun _ _ _=>VJ,VZ⟩
 |.eq=>⟨_,fun _ _ _=>VD,V0⟩
 |.ne=>⟨_,fun _ _ _=>VF,V1⟩
 |.sY=>⟨_,fun _ _ _=>Qm,QC⟩
 |.lZ=>⟨_,fun _ h _=>M4 h,Hd⟩
 |.wV=>⟨_,fun _ h _=>Mi h,Hd⟩
 |.pV=>⟨_,fun _ h u=>Uz h u,Ux⟩
 |.nL=>⟨_,fun _ h u=>UA h u,Uy⟩
 |.wW=>⟨_,fun _ h u=>M7 h u,UB⟩
 |.neT=>⟨_,fun _ h u=>UM h u,UN⟩
noncomputable def Uo.op:Uo→UnaryOp
 |.neg=>.USub
 |.inv=>.Invert
noncomputable def Uo.g:Uo→M×D→Option (M×D)
 |.neg=>dN
 |.inv=>gi
theorem Uo.ok{K:PySem.W.Frag}:∀o:Uo,∃r,(∀Z:Cx,sr Z (unaryOp o.op) r)∧JU K r o.g
 |.neg=>⟨_,fun _=>S5,Uj⟩
 |.inv=>⟨_,fun _=>S6,Uk⟩
noncomputable def Fb.nm:Fb→String
 |.int => "int"
 |.list => "list"
 |.len => "len"
 |.pW => "isinstance"
 |.max => "max"
 |.vI => "list"
 |.sum => "sum"
noncomputable def Fb.g:Fb→List (M×D)→Option (M×D)
 |.int=>lK
 |.list=>mQ
 |.len=>bH
 |.pW=>kE
 |.max=>rP
 |.vI=>qZ
 |.sum=>rV
inductive Gv where|s (x:Str)|t (l:List Str)
noncomputable def Gv.d:Gv→D
 |.s x=>.str x
 |.t l=>.tup (l.map .str)
mutual
inductive X where|v (i:Nat)|ki (i:Int)|ks (s:Str)|kb (b:Bool)|kn|ty (n:String)|bo (o:Bo) (a b:X)|co (o:Co) (a b:X)|uo (o:Uo) (a:X)|an (a b:X)|or (a b:X)|nt (a:X)|ie (t:T) (a b:X)|tu (l:A)|li (l:A)|dK|d1 (a b:X)|ix (a b:X)|dg (a b:X)|sl (a:X) (lo hi:P)|dT|tg (a b:X)|wX (d k x:X)|rs (a:X) (p:P)|lr (l:A)|fb (f:Fb) (l:A)|ca (f:Nat) (l:A)|cp (i:I) (ix:List Nat) (t:T) (e:X)
inductive A where|n|c (a:X) (l:A)
inductive T where|b (x:X)|c (o:Co) (a b:X)|d (n:Bool) (a b:X)|h (o p:Co) (a b c:X)|an (a b:T)|or (a b:T)|nt (a:T)|y
inductive P where|n|s (x:X)
inductive I where|r1 (l:A)|r2 (l:A)|en (l:A)|s (x:X)|t (x:X)|l (x:X)
end
mutual
inductive G where|n (i:Nat)|t (k:Nat) (l:Gs)|l (k:Nat) (l:Gs)
inductive Gs where|n|c (g:G) (l:Gs)
end
inductive L where|rt (x:X)|st (i:Nat) (x:X)|sc (j:Nat) (i:I) (ix:List Nat) (q:T) (e:X)|as (g:G) (x:X)|si (k:Nat) (i x:X)|dp (k:Nat) (i x:X)|ap (k:Nat) (x:X)|na (k:Nat) (i x:X)|po (i k:Nat)|cl (k:Nat)|ne (i:Nat) (it:I)|tp (k:Nat) (i x:X)|tc (k:Nat)|rO (f:Nat) (sl:List Nat) (l:A)
mutual
inductive S where|l (x:L)|ie (t:T) (a b:B)|fo (i:I) (g:G) (b:B)|fv (k:Nat) (g:G) (b:B)|wh (t:T) (b:B)|fz (k:Nat) (s:S)
inductive B where|n|o (s:S)|c (s:S) (b:B)
end
inductive FT where
 |p (F:List D→Option (M×D))|oo (F:List D→Option D)
noncomputable def FT.f:Option FT→List D→Option (M×D)
 |some (.p F)=>F
 |_=>fun _=>none
noncomputable def FT.q:Option FT→List D→Option D
 |some (.oo F)=>F
 |_=>fun _=>none
mutual
noncomputable def eX(t:List FT):X→Ev→Option (M×D)
 |.v i=>jV i
 |.ki i=>jC (.int i)
 |.ks s=>jC (.str s)
 |.kb b=>jC (.bl b)
 |.kn=>jC .non
 |.ty n=>jC (.ty n)
 |.bo o a b=>ag o.g (eX t a) (eX t b)
 |.co o a b=>ag o.g (eX t a) (eX t b)
 |.uo o a=>bt o.g (eX t a)
 |.an a b=>lJ (eX t a) (eX t b)
 |.or a b=>sE (eX t a) (eX t b)
 |.nt a=>Aj (eX t a)
 |.ie c a b=>iH (eT t c) (eX t a) (eX t b)
 |.tu l=>aQ (eA t l)
 |.li l=>bN (eA t l)
 |.dK=>qX
 |.d1 a b=>zO (eX t a) (eX t b)
 |.ix a b=>ag ak (eX t a) (eX t b)
 |.dg a b=>rC (eX t a) (eX t b)
 |.sl a lo hi=>f9 gQ (eX t a) (eP t lo) (eP t hi)
 |.dT=>lB
 |.tg a b=>fS (eX t a) (eX t b)
 |.wX d k x=>qY (eX t d) (eX t k) (eX t x)
 |.rs a p=>vH (eX t a) (eP t p)
 |.lr l=>wU (eA t l)
 |.fb f l=>aO f.g (eA t l)
 |.ca f l=>au (FT.f t[f]?) (eA t l)
 |.cp i ix c e=>cF (eI t i) ix (eT t c) (eX t e)
noncomputable def eA(t:List FT):A→Ev→Option (List (M×D))
 |.n=>ah
 |.c a l=>ae (eX t a) (eA t l)
noncomputable def eT(t:List FT):T→Ev→Option Bool
 |.b x=>jB (eX t x)
 |.c o a b=>jB (ag o.g (eX t a) (eX t b))
 |.d n a b=>jB (gj n (eX t a) (eX t b))
 |.h o p a b c=>jB (oH o.g p.g (eX t a) (eX t b) (eX t c))
 |.an a b=>dM (eT t a) (eT t b)
 |.or a b=>cX (eT t a) (eT t b)
 |.nt a=>iG (eT t a)
 |.y=>eE
noncomputable def eP(t:List FT):P→Ev→Option (Option Int)
 |.n=>iI
 |.s x=>ft (eX t x)
noncomputable def eI(t:List FT):I→Ev→Option (M×List D)
 |.r1 l=>bY (eA t l)
 |.r2 l=>rR (eA t l)
 |.en l=>fQ (eA t l)
 |.s x=>Bv (eX t x)
 |.t x=>JZ (eX t x)
 |.l x=>bF (eX t x)
end
mutual
noncomputable def eG:G→M×D→Ev→Option Ev
 |.n i=>gN i
 |.t k l=>gT k (wY l)
 |.l k l=>gL k (wY l)
noncomputable def wY:Gs→M→List D→Ev→Option Ev
 |.n=>dH
 |.c g l=>bG (eG g) (wY l)
end
noncomputable def rW:A→List (Nat×Nat)
 |.n=>[]
 |.c (.v i) l=>(0,i)::wM (rW l)
 |.c _ l=>wM (rW l)
noncomputable def eL(t:List FT):L→Ev→Option Fl
 |.rt x=>aH (eX t x)
 |.st i x=>aq i (eX t x)
 |.sc j i ix q e=>aq j (eX t (.cp i ix q e))
 |.as g x=>m6 (eG g) (eX t x)
 |.si k i x=>eU k (eX t i) (eX t x)
 |.dp k i x=>lA k (eX t i) (eX t x)
 |.ap k x=>cI k (eX t x)
 |.na k i x=>vG k (eX t i) (eX t x)
 |.po i k=>rQ i k
 |.cl k=>zj k
 |.ne i it=>vF i (eI t it)
 |.tp k i x=>fY k (eX t i) (eX t x)
 |.tc k=>yP k
 |.rO f sl l=>kj sl (rW l) (FT.q t[f]?) (eA t l)
mutual
noncomputable def eS(t:List FT):S→Ev→Option Fl
 |.l x=>eL t x
 |.ie c a b=>aP (eT t c) (eB t a) (eB t b)
 |.fo i g b=>aT (eI t i) (eG g) (eB t b)
 |.fv k g b=>rD k (eG g) (eB t b)
 |.wh c b=>iu (eT t c) (eB t b)
 |.fz k s=>cU k (eS t s)
noncomputable def eB(t:List FT):B→Ev→Option Fl
 |.n=>aU
 |.o s=>eS t s
 |.c s b=>aj (eS t s) (eB t b)
end
end C
set_option genInjectivity true
set_option genSizeOf true
namespace C
open PySem PySem.Spec L2 J
noncomputable def eW:Expr→Bool
 |.Starred ..=>false
 |_=>true
noncomputable def mh:Expr→Bool
 |.Slice ..=>false
 |_=>true
noncomputable def sZ:Expr→Bool
 |.Name ..=>true
 |.Call ..=>true
 |.Subscript ..=>true
 |_=>false
noncomputable def tf:Expr→Bool
 |.Name ..=>true
 |.Constant ..=>true
 |.Subscript ..=>true
 |.Call _ (_::_) _ _=>true
 |_=>false
noncomputable def kJ:Expr→Bool
 |.Set ..=>false
 |_=>true
noncomputable def mU:Expr→Bool
 |.ListComp ..=>false
 |.SetComp ..=>false
 |.DictComp ..=>false
 |_=>true
noncomputable def zQ:Expr→Bool
 |.Tuple ..=>true
 |_=>false
theorem cZ{e:Expr}(h:eW e=true){es:List Expr}{env:Env}:starEach (e::es) env=(false,eval e env)::starEach es env:=by
 cases e<;>first|rfl|cases h
theorem Hl{i:Expr}(h:mh i=true):EI i:=by
 intro o v;cases i<;>first|rfl|cases h
theorem Fe{i:Expr}(h:mh i=true):Aa i:=by
 intro o v;cases i<;>first|rfl|cases h
theorem UO{i o:Expr}{pos:Pos}{env:Env}(h:mh i=true)(v:Value):assign (Expr.Subscript o i pos) env v=(do
  let ov ←holding [v] (eval o env)
  let iv ←holding [v,ov] (eval i env)
  standAt pos
  holding [v,ov,iv] (setItem ov iv v)
  PySem.release [v,ov,iv] []):=by
 cases i<;>first|rfl|cases h
theorem UQ{a:Expr}{env:Env}(h:sZ a=true)(whole:Sem Value):PySem.isTrue a env whole=(do
  let v ←whole
  standAt (Expr.pos a)
  holding [v] (truthy v)):=by
 cases a<;>first|rfl|cases h
theorem q8{o:Expr}{m:Str}{env:Env}{w:Sem Value}(h:tf o=true):attributeBase o m env w=w:=by
 cases o<;>first|rfl | (cases h;done)|skip
 rename_i f l kw p
 cases l with
 |nil=>cases h
 |cons a l=>cases f<;>rfl
theorem u9{op:CmpOp}{e:Expr}(h:kJ e=true):behindInMarks op e=false:=by
 cases e<;>first|rfl|cases h
theorem lj{e:Expr}{env:Env}(h:kJ e=true)(x:Value):foldedSetIterable e env x=pure x:=by
 cases e<;>first|rfl|cases h
noncomputable def BK(sc:Scope)(x:Str):Bool:=match sc.names.lookup x with
 |some .local=>true
 |some .cell=>true
 |some .free=>true
 |_=>false
theorem Gp{sc:Scope}{x:Str}(h:BK sc x=true):wg sc x:=by
 unfold BK at h;unfold wg
 split at h<;>first|exact absurd h aX|simp_all
noncomputable def gl(sc:Scope)(x:Str):Bool:=match sc.names.lookup x with
 |some .globalImplicit=>true
 |_=>false
theorem Wo{sc:Scope}{x:Str}(h:gl sc x=true):sc.names.lookup x=some .globalImplicit:=by
 unfold gl at h
 split at h<;>first|exact absurd h aX|assumption
noncomputable def rl(sc aE:Scope):Scope :=
  { kind:=aE.kind,names:=aE.names.map (fun(n,k)=>if (k==NameKind.free&&sc.kind==ScopeKind.function&&sc.names.lookup n==some NameKind.cell)=true then (n,NameKind.cell)else (n,k)),
    isGenerator:=aE.isGenerator,isCoroutine:=aE.isCoroutine,more:=aE.more }
noncomputable def BL(N N':List Str)(sc aE:Scope)(x:Str)(ix:List Nat):Bool :=
 decide (aE.kind=.function∧(∀y∈aE.names,y.2≠.cell)∧(∀y∈aE.names,y.2=.local→aE.names.lookup y.1=some .local)∧aE.names.lookup x=some .local ∧
  (∀y∈aE.names,y.2=.free→sc.names.lookup y.1=some .cell)∧N'.Nodup∧N'[0]?=some x∧N'.length=ix.length+1 ∧
  (∀p∈ix.zip N'.tail,N[p.1]?=some p.2∧sc.names.lookup p.2=some .cell∧aE.names.lookup p.2=some .free))
theorem zp{N N':List Str}{sc aE:Scope}{x:Str}{ix:List Nat}(h:BL N N' sc aE x ix=true):mG N N' sc aE x ix:=by
 obtain⟨h1,h2,h3,h4,h5,h6,h7,h8,h9⟩:=bC h
 exact⟨h1,h2,h3,h4,h5,h6,h7,h8,h9⟩
structure Fi where
 nm:Str
 ar:Nat
 lv:Nat
 io:Option (List Nat):=none
noncomputable def Gv.is:Gv→Gv→Bool
 |.s x,.s y=>decide (x=y)
 |.t x,.t y=>decide (x=y)
 |_,_=>false
structure Cf where
 bs:List String
 gs:List (Str×Gv)
 fs:List Fi
noncomputable def ns(N:List Str)(x:Str)(ix:List Nat):List Str:=x::ix.map fun i=>(N[i]?).getD ""
noncomputable def tys:List String:=["bool", "int", "str", "tuple", "list", "dict"]
noncomputable def nin(n:Bool):CmpOp:=if n then .NotIn else .In
noncomputable def on{α:Type}(o:Option α)(f:α→Bool):Bool:=match o with
 |some a=>f a
 |none=>false
theorem aF{α:Type}{o:Option α}{f:α→Bool}(h:on o f=true):∃a,o=some a∧f a=true:=by
 cases o with
 |none=>cases h
 |some a=>exact⟨a,rfl,h⟩
noncomputable def pX:Expr→Option Str
 |.Name x _=>some x
 |_=>none
noncomputable def eK:Expr→Option Const
 |.Constant c _ _=>some c
 |_=>none
noncomputable def Kl:Const→Option Int
 |.int i=>some i
 |_=>none
noncomputable def Km:Const→Option Str
 |.str i=>some i
 |_=>none
noncomputable def Kn:Const→Option Bool
 |.bool i=>some i
 |_=>none
noncomputable def Kp:Const→Bool
 |.none=>true
 |_=>false
noncomputable def Kq:Expr→Option (Expr×Operator×Expr)
 |.BinOp l op r _=>some (l,op,r)
 |_=>none
noncomputable def wZ:Expr→Option (UnaryOp×Expr)
 |.UnaryOp op e _=>some (op,e)
 |_=>none
noncomputable def BM:Expr→Option (Expr×List CmpOp×List Expr)
 |.Compare l ops rs _=>some (l,ops,rs)
 |_=>none
noncomputable def l1{α:Type}:List α→Option α
 |[a]=>some a
 |_=>none
noncomputable def l2{α:Type}:List α→Option (α×α)
 |[a,b]=>some (a,b)
 |_=>none
noncomputable def pY{α:Type}:List α→Option (α×List α)
 |a::l=>some (a,l)
 |_=>none
noncomputable def w4(e:Expr):Option (Expr×CmpOp×Expr):=(BM e).bind fun q=>(l1 q.2.1).bind fun op=>(l1 q.2.2).map fun r=>(q.1,op,r)
noncomputable def Kr(e:Expr):Option (Expr×CmpOp×CmpOp×Expr×Expr):=(BM e).bind fun q=>(l2 q.2.1).bind fun op=>(l2 q.2.2).map fun r=>(q.1,op.1,op.2,r.1,r.2)
noncomputable def Ks:Expr→Option (BoolOp×List Expr×Pos)
 |.BoolOp op vs pos=>some (op,vs,pos)
 |_=>none
noncomputable def rX(o:BoolOp)(e:Expr):Option (Expr×Expr):=(Ks e).bind fun q=>if q.1=o then (pY q.2.1).bind fun a=>(pY a.2).map fun b=>(a.1,match b.2 with
 |[]=>b.1
 |_=>.BoolOp o (b.1::b.2) q.2.2)else none
noncomputable def Kt:Expr→Option (Expr×Expr×Expr)
 |.IfExp e l r _=>some (e,l,r)
 |_=>none
noncomputable def w5:Expr→Option (List Expr)
 |.Tuple es _ _=>some es
 |_=>none
noncomputable def Ku:Expr→Option (List Expr)
 |.List es _=>some es
 |_=>none
noncomputable def w6:Expr→Option (List (Option Expr)×List Expr)
 |.Dict ks vs _=>some (ks,vs)
 |_=>none
noncomputable def j5:Expr→Option (Expr×Expr)
 |.Subscript l r _=>some (l,r)
 |_=>none
noncomputable def Kv:Expr→Option (Option Expr×Option Expr)
 |.Slice lo hi none _=>some (lo,hi)
 |_=>none
noncomputable def BO:Expr→Option Expr
 |.Slice none none (some s) _=>some s
 |_=>none
noncomputable def BP:Expr→Option (Expr×List Expr×List Keyword×Pos)
 |.Call f as kw cp=>some (f,as,kw,cp)
 |_=>none
noncomputable def Kw:Expr→Option (Expr×Str×Pos)
 |.Attribute o m ap=>some (o,m,ap)
 |_=>none
noncomputable def eM(nm:String)(e:Expr):Option (Expr×List Expr):=(BP e).bind fun q=>(Kw q.1).bind fun a=>if a.2.1=Str.ofString nm∧q.2.2.1.isEmpty=true∧tf a.1=true∧(a.2.2.endLine==q.2.2.2.line)=true∧q.2.1.all eW=true then some (a.1,q.2.1)else none
noncomputable def eN(e:Expr):Option (Str×List Expr):=(BP e).bind fun q=>(pX q.1).bind fun x=>if q.2.2.1.isEmpty=true∧q.2.1.all eW=true then some (x,q.2.1)else none
noncomputable def v8:Expr→Option (Expr×Str×Pos×Expr×List Expr×Scope×Pos)
 |.ListComp el [⟨.Name z pz,it,ifs,0⟩] aE ep=>some (el,z,pz,it,ifs,aE,ep)
 |_=>none
theorem iY{α β:Type}{o:Option α}{f:α→Option β}{b:β}(h:o.bind f=some b):∃a,o=some a∧f a=some b:=by
 cases o with
 |none=>cases h
 |some a=>exact⟨a,rfl,h⟩
theorem vi{α β:Type}{o:Option α}{f:α→β}{b:β}(h:o.map f=some b):∃a,o=some a∧f a=b:=by
 cases o with
 |none=>cases h
 |some a=>exact⟨a,rfl,by simpa using h⟩
theorem oM{e:Expr}{x:Str}(h:pX e=some x):∃p,e=.Name x p:=by
 cases e<;>cases h;exact⟨_,rfl⟩
theorem vJ{e:Expr}{k:Const}(h:eK e=some k):∃j p,e=.Constant k j p:=by
 cases e<;>cases h;exact⟨_,_,rfl⟩
theorem Wq{k:Const}{i:Int}(h:Kl k=some i):k=.int i:=by
 cases k<;>cases h;rfl
theorem Wr{k:Const}{i:Str}(h:Km k=some i):k=.str i:=by
 cases k<;>cases h;rfl
theorem Ws{k:Const}{i:Bool}(h:Kn k=some i):k=.bool i:=by
 cases k<;>cases h;rfl
theorem Wt{k:Const}(h:Kp k=true):k=.none:=by
 cases k<;>first|rfl|exact absurd h aX
theorem UR{e l r:Expr}{op:Operator}(h:Kq e=some (l,op,r)):∃p,e=.BinOp l op r p:=by
 cases e<;>cases h;exact⟨_,rfl⟩
theorem zq{e a:Expr}{op:UnaryOp}(h:wZ e=some (op,a)):∃p,e=.UnaryOp op a p:=by
 cases e<;>cases h;exact⟨_,rfl⟩
theorem jO{α:Type}{l:List α}{a:α}(h:l1 l=some a):l=[a]:=by
 cases l with
 |nil=>cases h
 |cons b l=>cases l<;>cases h;rfl
theorem zR{α:Type}{l:List α}{a:α×α}(h:l2 l=some a):l=[a.1,a.2]:=by
 cases l with
 |nil=>cases h
 |cons b l =>
  cases l with
  |nil=>cases h
  |cons d l=>cases l<;>cases h;rfl
theorem mI{α:Type}{l:List α}{a:α×List α}(h:pY l=some a):l=a.1::a.2:=by
 cases l<;>cases h;rfl
theorem Gq{e:Expr}{q:Expr×List CmpOp×List Expr}(h:BM e=some q):∃p,e=.Compare q.1 q.2.1 q.2.2 p:=by
 cases e<;>cases h;exact⟨_,rfl⟩
theorem zr{e l r:Expr}{op:CmpOp}(h:w4 e=some (l,op,r)):∃p,e=.Compare l [op] [r] p:=by
 obtain⟨q,h1,h⟩:=iY h
 obtain⟨a,h2,h⟩:=iY h
 obtain⟨b,h3,h⟩:=vi h
 cases h
 obtain⟨p,rfl⟩:=Gq h1
 exact⟨p,by rw[jO h2,jO h3]⟩
theorem UT{e l m r:Expr}{op op':CmpOp}(h:Kr e=some (l,op,op',m,r)):∃p,e=.Compare l [op,op'] [m,r] p:=by
 obtain⟨q,h1,h⟩:=iY h
 obtain⟨a,h2,h⟩:=iY h
 obtain⟨b,h3,h⟩:=vi h
 cases h
 obtain⟨p,rfl⟩:=Gq h1
 exact⟨p,by rw[zR h2,zR h3]⟩
theorem UU{e:Expr}{q:BoolOp×List Expr×Pos}(h:Ks e=some q):e=.BoolOp q.1 q.2.1 q.2.2:=by
 cases e<;>cases h;rfl
theorem vb{o:BoolOp}{e a b:Expr}(h:rX o e=some (a,b)):∃m rest pos,e=.BoolOp o (a::m::rest) pos∧((rest=[]∧b=m)∨b=.BoolOp o (m::rest) pos):=by
 obtain⟨q,h1,g⟩:=iY h
 have e0:=UU h1
 by_cases e:q.1=o
 ·rw[if_pos e]at g
  obtain⟨x,h2,g⟩:=iY g
  obtain⟨y,h3,g⟩:=vi g
  have e2:q.2.1=x.1::y.1::y.2:=by rw[mI h2,mI h3]
  have ea:x.1=a:=congrArg Prod.fst g
  have eb:=congrArg Prod.snd g
  refine⟨y.1,y.2,q.2.2,by rw[e0,e2,e,ea],?_⟩
  cases hy:y.2 with
  |nil=>rw[hy]at eb;exact .inl ⟨rfl,eb.symm⟩
  |cons z zs=>rw[hy]at eb;exact .inr eb.symm
 ·rw[if_neg e]at g;cases g
theorem UW{e a b d:Expr}(h:Kt e=some (a,b,d)):∃p,e=.IfExp a b d p:=by
 cases e<;>cases h;exact⟨_,rfl⟩
theorem zt{e:Expr}{es:List Expr}(h:w5 e=some es):∃k p,e=.Tuple es k p:=by
 cases e<;>cases h;exact⟨_,_,rfl⟩
theorem UX{e:Expr}{es:List Expr}(h:Ku e=some es):∃p,e=.List es p:=by
 cases e<;>cases h;exact⟨_,rfl⟩
theorem zu{e:Expr}{q:List (Option Expr)×List Expr}(h:w6 e=some q):∃p,e=.Dict q.1 q.2 p:=by
 cases e<;>cases h;exact⟨_,rfl⟩
theorem kl{e l r:Expr}(h:j5 e=some (l,r)):∃p,e=.Subscript l r p:=by
 cases e<;>cases h;exact⟨_,rfl⟩
theorem UY{e:Expr}{lo hi:Option Expr}(h:Kv e=some (lo,hi)):∃p,e=.Slice lo hi none p:=by
 cases e with
 |Slice a b st p=>cases st<;>cases h;exact⟨_,rfl⟩
 |_=>cases h
theorem UZ{e s:Expr}(h:BO e=some s):∃p,e=.Slice none none (some s) p:=by
 unfold BO at h
 split at h
 ·cases h;exact⟨_,rfl⟩
 ·cases h
theorem Gu{e:Expr}{q:Expr×List Expr×List Keyword×Pos}(h:BP e=some q):e=.Call q.1 q.2.1 q.2.2.1 q.2.2.2:=by
 cases e<;>cases h;rfl
theorem U0{e:Expr}{q:Expr×Str×Pos}(h:Kw e=some q):e=.Attribute q.1 q.2.1 q.2.2:=by
 cases e<;>cases h;rfl
theorem mV{nm:String}{e o:Expr}{as:List Expr}(h:eM nm e=some (o,as)):∃ap cp,e=.Call (.Attribute o (Str.ofString nm) ap) as [] cp∧tf o=true∧(ap.endLine==cp.line)=true∧as.all eW=true:=by
 obtain⟨q,h1,h⟩:=iY h
 obtain⟨a,h2,h⟩:=iY h
 split at h
 ·rename_i g
  cases h
  refine⟨a.2.2,q.2.2.2,?_,g.2.2.1,g.2.2.2.1,g.2.2.2.2⟩
  rw[Gu h1,U0 h2,g.1,List.isEmpty_iff.mp g.2.1]
 ·cases h
theorem lD{e:Expr}{x:Str}{as:List Expr}(h:eN e=some (x,as)):∃p cp,e=.Call (.Name x p) as [] cp∧as.all eW=true:=by
 obtain⟨q,h1,h⟩:=iY h
 obtain⟨y,h2,h⟩:=iY h
 split at h
 ·rename_i g
  cases h
  obtain⟨p,e2⟩:=oM h2
  exact⟨p,q.2.2.2,by rw[Gu h1,e2,List.isEmpty_iff.mp g.1],g.2⟩
 ·cases h
theorem yQ{e el it:Expr}{z:Str}{pz ep:Pos}{ifs:List Expr}{aE:Scope}(h:v8 e=some (el,z,pz,it,ifs,aE,ep)):e=.ListComp el [⟨.Name z pz,it,ifs,0⟩] aE ep:=by
 unfold v8 at h
 split at h
 ·cases h;rfl
 ·cases h
noncomputable def BQ:T→Bool
 |.y=>true
 |_=>false
mutual
noncomputable def kX(c:Cf)(lv:Nat):X→Scope→List Str→Expr→Bool
 |.v i,sc,N,e=>on (pX e) fun x=>decide (N[i]?=some x)&&BK sc x&&!(x == "__debug__")&&!(x == "__classdict__")
 |.ki i,_,_,e=>on (eK e) fun k=>on (Kl k) fun j=>decide (i=j)
 |.ks i,_,_,e=>on (eK e) fun k=>on (Km k) fun j=>decide (i=j)
 |.kb i,_,_,e=>on (eK e) fun k=>on (Kn k) fun j=>decide (i=j)
 |.kn,_,_,e=>on (eK e) Kp
 |.ty n,sc,_,e=>on (pX e) fun x=>decide (x=Str.ofString n)&&gl sc x&&c.bs.contains n&&tys.contains n
 |.bo o a b,sc,N,e=>on (Kq e) fun q=>decide (q.2.1=o.op)&&kX c lv a sc N q.1&&kX c lv b sc N q.2.2
 |.co o a b,sc,N,e=>on (w4 e) fun q=>decide (q.2.1=o.op)&&kJ q.2.2&&kX c lv a sc N q.1&&kX c lv b sc N q.2.2
 |.uo o a,sc,N,e=>on (wZ e) fun q=>decide (q.1=o.op)&&kX c lv a sc N q.2
 |.an a b,sc,N,e=>on (rX .And e) fun q=>kX c lv a sc N q.1&&kX c lv b sc N q.2
 |.or a b,sc,N,e=>on (rX .Or e) fun q=>kX c lv a sc N q.1&&kX c lv b sc N q.2
 |.nt a,sc,N,e=>on (wZ e) fun q=>decide (q.1=.Not)&&kX c lv a sc N q.2
 |.ie t a b,sc,N,e=>on (Kt e) fun q=>kT c lv t sc N q.1&&kX c lv a sc N q.2.1&&kX c lv b sc N q.2.2
 |.tu l,sc,N,e=>on (w5 e) fun es=>kA c lv l sc N es
 |.li l,sc,N,e=>on (Ku e) fun es=>kA c lv l sc N es
 |.dK,_,_,e=>on (w6 e) fun q=>q.1.isEmpty&&q.2.isEmpty
 |.d1 a b,sc,N,e=>on (w6 e) fun q=>on (l1 q.1) fun k=>on k fun k=>on (l1 q.2) fun v=>kX c lv a sc N k&&kX c lv b sc N v
 |.ix a b,sc,N,e=>on (j5 e) fun q=>mh q.2&&kX c lv a sc N q.1&&kX c lv b sc N q.2
 |.dg a b,sc,N,e=>on (j5 e) fun q=>mh q.2&&kX c lv a sc N q.1&&kX c lv b sc N q.2
 |.sl a lo hi,sc,N,e=>on (j5 e) fun q=>on (Kv q.2) fun s=>kX c lv a sc N q.1&&kP c lv lo sc N s.1&&kP c lv hi sc N s.2
 |.dT,_,_,e=>on (w6 e) fun q=>q.1.isEmpty&&q.2.isEmpty
 |.tg a b,sc,N,e=>on (j5 e) fun q=>mh q.2&&kX c lv a sc N q.1&&kX c lv b sc N q.2
 |.wX d k x,sc,N,e=>on (eM "get" e) fun q=>on (l2 q.2) fun a=>kX c lv d sc N q.1&&kX c lv k sc N a.1&&kX c lv x sc N a.2
 |.rs a p,sc,N,e=>on (j5 e) fun q=>on (BO q.2) fun s=>kX c lv a sc N q.1&&kP c lv p sc N (some s)
 |.lr l,sc,N,e=>on (eN e) fun q=>on (l1 q.2) fun r=>on (eN r) fun u=>decide (q.1 = "list")&&gl sc q.1&&c.bs.contains "list" && decide (u.1 = "range")&&gl sc u.1&&(c.bs.contains "range" && decide (u.2.length=1)&&kA c lv l sc N u.2)
 |.fb f l,sc,N,e=>on (eN e) fun q=>decide (q.1=Str.ofString f.nm)&&gl sc q.1&&c.bs.contains f.nm&&!q.2.isEmpty&&kA c lv l sc N q.2
 |.ca f l,sc,N,e=>on (eN e) fun q=>on c.fs[f]? fun i=>decide (q.1=i.nm)&&gl sc q.1&&!(q.1 == "__debug__")&&decide (i.lv≤lv)&&decide (q.2.length=i.ar)&&decide (i.io=none)&&!q.2.isEmpty&&kA c lv l sc N q.2
 |.cp i ix t e,sc,N,x=>on (v8 x) fun q=>BL N (ns N q.2.1 ix) sc q.2.2.2.2.2.1 q.2.1 ix&&kJ q.2.2.2.1&&kI c lv i false sc N q.2.2.2.1&&((q.2.2.2.2.1.isEmpty&&BQ t)||on (l1 q.2.2.2.2.1) fun y=>kT c lv t (rl sc q.2.2.2.2.2.1) (ns N q.2.1 ix) y)&&kX c lv e (rl sc q.2.2.2.2.2.1) (ns N q.2.1 ix) q.1
noncomputable def kA(c:Cf)(lv:Nat):A→Scope→List Str→List Expr→Bool
 |.n,_,_,es=>es.isEmpty
 |.c a l,sc,N,es=>on (pY es) fun q=>eW q.1&&kX c lv a sc N q.1&&kA c lv l sc N q.2
noncomputable def kT(c:Cf)(lv:Nat):T→Scope→List Str→Expr→Bool
 |.b x,sc,N,e=>sZ e&&kX c lv x sc N e
 |.c o a b,sc,N,e=>on (w4 e) fun q=>decide (q.2.1=o.op)&&kJ q.2.2&&kX c lv a sc N q.1&&kX c lv b sc N q.2.2
 |.d n a b,sc,N,e=>on (w4 e) fun q=>decide (q.2.1=nin n)&&kJ q.2.2&&kX c lv a sc N q.1&&kX c lv b sc N q.2.2
 |.h o p a b d,sc,N,e=>on (Kr e) fun q=>decide (q.2.1=o.op)&&decide (q.2.2.1=p.op)&&!lastMarks [q.2.1,q.2.2.1] [q.2.2.2.1,q.2.2.2.2]&&kX c lv a sc N q.1&&kX c lv b sc N q.2.2.2.1&&kX c lv d sc N q.2.2.2.2
 |.an a b,sc,N,e=>on (rX .And e) fun q=>kT c lv a sc N q.1&&kT c lv b sc N q.2
 |.or a b,sc,N,e=>on (rX .Or e) fun q=>kT c lv a sc N q.1&&kT c lv b sc N q.2
 |.nt a,sc,N,e=>on (wZ e) fun q=>decide (q.1=.Not)&&kT c lv a sc N q.2
 |.y,_,_,_=>false
noncomputable def kP(c:Cf)(lv:Nat):P→Scope→List Str→Option Expr→Bool
 |.n,_,_,o=>o.isNone
 |.s x,sc,N,o=>on o fun e=>kX c lv x sc N e
noncomputable def kI(c:Cf)(lv:Nat):I→Bool→Scope→List Str→Expr→Bool
 |.r1 l,_,sc,N,e=>on (eN e) fun q=>decide (q.1 = "range")&&gl sc q.1&&c.bs.contains "range" && decide (q.2.length=1)&&kA c lv l sc N q.2
 |.r2 l,_,sc,N,e=>on (eN e) fun q=>decide (q.1 = "range")&&gl sc q.1&&c.bs.contains "range" && decide (q.2.length=2)&&kA c lv l sc N q.2
 |.en l,tg,sc,N,e=>on (eN e) fun q=>tg&&decide (q.1 = "enumerate")&&gl sc q.1&&c.bs.contains "enumerate" && decide (q.2.length=1)&&kA c lv l sc N q.2
 |.s x,_,sc,N,e=>kX c lv x sc N e
 |.t x,_,sc,N,e=>kX c lv x sc N e
 |.l x,_,sc,N,e=>kX c lv x sc N e
end
def Kx(P:Program)(w:World)(K:PySem.W.Frag)(mg:Str→Option Value)(base:Heap)(i:Fi)(sp:Sp):Prop :=
 ∃f fd ps,ky P w K mg base kY i.lv f fd ps sp∧mg i.nm=some (.ref f)∧PySem.W.keepIn K (.ref f)=true∧Binds K fd ps []
noncomputable def nM(P:Program)(w:World)(K:PySem.W.Frag)(mg:Str→Option Value)(base:Heap)(i:Fi):FT→Prop
 |.p F=>i.io=none∧Kx P w K mg base i (nF K i.ar F)
 |.oo F=>i.io=some []∧Kx P w K mg base i (v7 K i.ar F)
def GV(K:PySem.W.Frag)(mg:Str→Option Value)(va:List V)(gs:List (Str×Gv)):Prop:=∀(i:Nat) g,gs[i]?=some g→∃x u,va[i]?=some x∧mg g.1=some u∧RelV x u∧JT K (tC x) (jC g.2.d)
structure CE (c:Cf)(lv:Nat)(K:PySem.W.Frag)(t:List FT)(va:List V)(sc:Scope)(N:List Str)(Z:Cx):Prop where
 k:Z.K=K
 sc:Z.env.scope=sc
 n:Z.N=N
 calm:Z.calm=true
 rm:eC lv Z.A
 bl:∀b,b∈c.bs→Z.mg (Str.ofString b)=none
 gv:GV K Z.mg va c.gs
 fs:∀(i:Nat) fi,c.fs[i]?=some fi→∃F,t[i]?=some F∧nM Z.prog Z.w Z.K Z.mg Z.base fi F
section
variable {c:Cf}{lv:Nat}{K:PySem.W.Frag}{t:List FT}{va:List V}{sc:Scope}{N:List Str}{Z:Cx}
theorem CE.cP(E:CE c lv K t va sc N Z){N':List Str}{aE:Scope}{C:Addr}{s₂:Shared}{H₂:Hp}{fp:List Addr}{pn:List (Addr×Obj)}:CE c lv K t va (rl sc aE) N' (Z.cP N' aE C s₂ H₂ fp pn) :=
 ⟨E.k,by rw[←E.sc];rfl,rfl,E.calm,E.rm,E.bl,E.gv,E.fs⟩
theorem CE.gl(E:CE c lv K t va sc N Z){x:Str}(h:gl sc x=true):Gl Z x:=by
 have:=Wo h
 rw[←E.sc]at this
 exact this
theorem CE.mg(E:CE c lv K t va sc N Z){b:String}(h:c.bs.contains b=true):Z.mg (Str.ofString b)=none:=E.bl b (by simpa using h)
theorem jG:∀{es:List Expr}{env:Env},es.all eW=true→∀pos:Pos,((backTo pos (starEach es env)).any fun x=>x.1)=false
 |[],_,_,_=>rfl
 |e::es,env,h,pos=>by
  rw[List.all_cons,Bool.and_eq_true]at h
  rw[cZ h.1]
  show(false||(backTo pos (starEach es env)).any fun x=>x.1)=false
  rw[jG h.2,Bool.or_false]
theorem U1{n:String}(h:tys.contains n=true):bootBuiltins (Str.ofString n)=some (.type n)∧Str.ofString n ≠ "__name__" ∧ (Str.ofString n==("__debug__" : Str))=false:=by
 have h:n∈tys:=by simpa using h
 simp only[tys,List.mem_cons,List.not_mem_nil,or_false]at h
 rcases h with rfl|rfl|rfl|rfl|rfl|rfl
 ·exact⟨PyProof.Rows.Boot.«bool»,by decide,by decide⟩
 ·exact⟨PyProof.Rows.Boot.«int»,by decide,by decide⟩
 ·exact⟨PyProof.Rows.Boot.«str»,by decide,by decide⟩
 ·exact⟨PyProof.Rows.Boot.«tuple»,by decide,by decide⟩
 ·exact⟨PyProof.Rows.Boot.«list»,by decide,by decide⟩
 ·exact⟨PyProof.Rows.Boot.«dict»,by decide,by decide⟩
theorem Fb.ok:∀f:Fb,∃r,(∀{sc:Scope}{N:List Str} (Z:Cx),CE c lv K t va sc N Z→∀{p pos:Pos}{e:Expr}{es:List Expr}{ta:TA},C.gl sc (Str.ofString f.nm)=true→c.bs.contains f.nm=true→eW e=true→es.all eW=true→PA Z (e::es) ta→PE Z (.Call (.Name (Str.ofString f.nm) p) (e::es) [] pos) (wu r ta))∧kZ K r f.g
 |.int=>⟨_,fun _ E _ _ _ _ _ hg hb h1 h2 ha=>@yn _ _ _ _ _ _ _ _ _ Nu (E.gl hg) (E.mg hb) PyProof.Rows.Boot.«int» ha (by decide) (by decide) (cZ h1) (jG h2 _),QI⟩
 |.list=>⟨_,fun _ E _ _ _ _ _ hg hb h1 h2 ha=>@yn _ _ _ _ _ _ _ _ _ (Mj E.k) (E.gl hg) (E.mg hb) PyProof.Rows.Boot.«list» ha (by decide) (by decide) (cZ h1) (jG h2 _),OU⟩
 |.len=>⟨_,fun _ E _ _ _ _ _ hg hb h1 h2 ha=>@uO _ _ _ _ _ _ _ _ _ (NQ E.k) (E.gl hg) (E.mg hb) PyProof.Rows.Boot.«len» ha (by decide) (by decide) (cZ h1) (jG h2 _),QH⟩
 |.pW=>⟨_,fun _ E _ _ _ _ _ hg hb h1 h2 ha=>@uO _ _ _ _ _ _ _ _ _ (NX E.k) (E.gl hg) (E.mg hb) PyProof.Rows.Boot.«isinstance» ha (by decide) (by decide) (cZ h1) (jG h2 _),Rb⟩
 |.max=>⟨_,fun _ E _ _ _ _ _ hg hb h1 h2 ha=>@uO _ _ _ _ _ _ _ _ _ (Nt E.calm) (E.gl hg) (E.mg hb) PyProof.Rows.Boot.«max» ha (by decide) (by decide) (cZ h1) (jG h2 _),QJ⟩
 |.vI=>⟨_,fun _ E _ _ _ _ _ hg hb h1 h2 ha=>@yn _ _ _ _ _ _ _ _ _ (M9 E.k E.calm) (E.gl hg) (E.mg hb) PyProof.Rows.Boot.«list» ha (by decide) (by decide) (cZ h1) (jG h2 _),N5⟩
 |.sum=>⟨_,fun _ E _ _ _ _ _ hg hb h1 h2 ha=>@uO _ _ _ _ _ _ _ _ _ (N8 E.k E.calm) (E.gl hg) (E.mg hb) PyProof.Rows.Boot.«sum» ha (by decide) (by decide) (cZ h1) (jG h2 _),RJ⟩
theorem U2{a:Expr}{env:Env}{cM:Pos}(h:eW a=true):(((List.all (backTo cM (starEach [a] env)) fun x=>!x.1)&&List.all (backToKw cM (keywordEach [] env)) fun x=>Option.isSome x.1)&&decide ((List.length [a]+List.length ([]:List Keyword)+if List.isEmpty ([]:List Keyword)=true then 0 else 1)<30))=true:=by
 rw[cZ h];rfl
theorem U3{env:Env}{cp:Pos}:((backTo cp (starEach [] env)).any fun x=>x.1)=false:=rfl
theorem Ax:∀{l:A}{sc:Scope}{N:List Str}{es:List Expr},kA c lv l sc N es=true→∀(e:Ev) (aD:List (M×D)),eA t l e=some aD→aD.length=es.length
 |.n,_,_,es,h=>by cases List.isEmpty_iff.mp h;exact QY
 |.c a l,sc,N,es,h=>by
  have hh:=aF h;clear h;obtain⟨⟨e,r⟩,q,h⟩:=hh
  cases mI q
  have h:(eW e&&kX c lv a sc N e&&kA c lv l sc N r)=true:=h
  rw[Bool.and_eq_true]at h
  exact Ph (Ax h.2)
end
section
variable {c:Cf}{lv:Nat}{K:PySem.W.Frag}{t:List FT}{va:List V}
theorem di{a b:Bool}(h:(a&&b)=true):a=true∧b=true:=by simpa using h
theorem gw{a b d:Bool}(h:(a&&b&&d)=true):a=true∧b=true∧d=true:=by simpa[and_assoc]using h
theorem gx{a b d e:Bool}(h:(a&&b&&d&&e)=true):a=true∧b=true∧d=true∧e=true:=by simpa[and_assoc]using h
theorem pZ{a b d e f:Bool}(h:(a&&b&&d&&e&&f)=true):a=true∧b=true∧d=true∧e=true∧f=true:=by simpa[and_assoc]using h
theorem w9{a b d e f g:Bool}(h:(a&&b&&d&&e&&f&&g)=true):a=true∧b=true∧d=true∧e=true∧f=true∧g=true:=by simpa[and_assoc]using h
theorem Ky{a b d e f g i j:Bool}(h:(a&&b&&d&&e&&f&&g&&i&&j)=true):a=true∧b=true∧d=true∧e=true∧f=true∧g=true∧i=true∧j=true:=by simpa[and_assoc]using h
theorem nb{a:Bool}(h:(!a)=true):a=false:=by simpa using h
theorem Hm{Z:Cx}{op:BoolOp}{vs:List Expr}{pos:Pos}{tt:TT}(h:PT Z (.BoolOp op vs pos) tt):PW Z (.BoolOp op vs pos) tt:=fun _=>h
theorem all1{a:Expr}{l:List Expr}(h:(a::l).all eW=true):eW a=true∧l.all eW=true:=by
 rw[List.all_cons,Bool.and_eq_true]at h;exact h
theorem yR{α:Type}{l:List α}(h:(!l.isEmpty)=true):∃a r,l=a::r:=by
 cases l with
 |nil=>cases h
 |cons a r=>exact⟨a,r,rfl⟩
theorem Ay{α:Type}{l:List α}(h:l.length=1):∃a,l=[a]:=List.length_eq_one_iff.mp h
theorem X8{α:Type}{l:List α}(h:l.length=2):∃a b,l=[a,b]:=by
 match l,h with
 |[a,b],_=>exact⟨a,b,rfl⟩
mutual
theorem sX:∀(x:X) {sc:Scope}{N:List Str}{e:Expr},kX c lv x sc N e=true→∃te,(∀Z,CE c lv K t va sc N Z→PE Z e te)∧JT K te (eX t x)
 |.v i,sc,N,e,h=>by
  have hh:=aF h;clear h;obtain⟨x,q,h⟩:=hh
  obtain⟨p,rfl⟩:=oM q
  obtain⟨h1,h2,h3,h4⟩:=gx h
  have h1:=bC h1
  have h2:=Gp h2
  exact⟨_,fun Z E=>@FK _ _ _ _ (E.n▸h1) (E.sc▸h2) (nb h3) (nb h4),TC⟩
 |.ki i,sc,N,e,h=>by
  have hh:=aF h;clear h;obtain⟨k,q,h⟩:=hh
  obtain⟨j,p,rfl⟩:=vJ q
  have hh:=aF h;clear h;obtain⟨y,q,h⟩:=hh
  cases Wq q
  cases bC h
  exact⟨_,fun Z E=>Sv,pj rfl⟩
 |.ks i,sc,N,e,h=>by
  have hh:=aF h;clear h;obtain⟨k,q,h⟩:=hh
  obtain⟨j,p,rfl⟩:=vJ q
  have hh:=aF h;clear h;obtain⟨y,q,h⟩:=hh
  cases Wr q
  cases bC h
  exact⟨_,fun Z E=>Sx,pj rfl⟩
 |.kb i,sc,N,e,h=>by
  have hh:=aF h;clear h;obtain⟨k,q,h⟩:=hh
  obtain⟨j,p,rfl⟩:=vJ q
  have hh:=aF h;clear h;obtain⟨y,q,h⟩:=hh
  cases Ws q
  cases bC h
  exact⟨_,fun Z E=>Vw,pj rfl⟩
 |.kn,sc,N,e,h=>by
  have hh:=aF h;clear h;obtain⟨k,q,h⟩:=hh
  obtain⟨j,p,rfl⟩:=vJ q
  cases Wt h
  exact⟨_,fun Z E=>Sw,pj rfl⟩
 |.ty n,sc,N,e,h=>by
  have hh:=aF h;clear h;obtain⟨x,q,h⟩:=hh
  obtain⟨p,rfl⟩:=oM q
  obtain⟨h1,h2,h3,h4⟩:=gx h
  cases bC h1
  obtain⟨q1,q2,q3⟩:=U1 h4
  exact⟨_,fun Z E=>@Qf _ _ (.ty n) _ _ (E.gl h2) (E.mg h3) q1 rfl q2 q3,pj rfl⟩
 |.bo o a b,sc,N,e,h=>by
  have hh:=aF h;clear h;obtain⟨⟨l,op,r⟩,q,h⟩:=hh
  obtain⟨p,rfl⟩:=UR q
  obtain⟨h1,h2,h3⟩:=gw h
  cases bC h1
  obtain⟨ta,pa,ja⟩:=sX a h2
  obtain⟨tb,pb,jb⟩:=sX b h3
  obtain⟨r,o1,o2⟩:=o.ok (K:=K)
  exact⟨_,fun Z E=>VA (o1 Z E.k) (pa Z E) (pb Z E),vz o2 ja jb⟩
 |.co o a b,sc,N,e,h=>by
  have hh:=aF h;clear h;obtain⟨⟨l,op,r⟩,q,h⟩:=hh
  obtain⟨p,rfl⟩:=zr q
  obtain⟨h1,h0,h2,h3⟩:=gx h
  cases bC h1
  obtain⟨ta,pa,ja⟩:=sX a h2
  obtain⟨tb,pb,jb⟩:=sX b h3
  obtain⟨r,o1,o2⟩:=o.ok (K:=K)
  exact⟨_,fun Z E=>Qn (o1 Z E.k E.rm.units) (pa Z E) (pb Z E) (u9 h0),vz o2 ja jb⟩
 |.uo o a,sc,N,e,h=>by
  have hh:=aF h;clear h;obtain⟨⟨op,r⟩,q,h⟩:=hh
  obtain⟨p,rfl⟩:=zq q
  obtain⟨h1,h2⟩:=di h
  cases bC h1
  obtain⟨ta,pa,ja⟩:=sX a h2
  obtain⟨r,o1,o2⟩:=o.ok (K:=K)
  exact⟨_,fun Z E=>VB (o1 Z) (pa Z E),VW o2 ja⟩
 |.an a b,sc,N,e,h=>by
  have hh:=aF h;clear h;obtain⟨⟨x,y⟩,q,h⟩:=hh
  obtain⟨m,rest,pos,rfl,w⟩:=vb q
  obtain⟨h1,h2⟩:=di h
  obtain⟨ta,pa,ja⟩:=sX a h1
  obtain⟨tb,pb,jb⟩:=sX b h2
  refine⟨_,fun Z E=>@SF _ _ _ _ tb _ _ (pa Z E) ?_,TV ja jb⟩
  rcases w with⟨rfl,rfl⟩|rfl
  ·exact @FN _ _ _ _ _ (pb Z E)
  ·exact pb Z E
 |.or a b,sc,N,e,h=>by
  have hh:=aF h;clear h;obtain⟨⟨x,y⟩,q,h⟩:=hh
  obtain⟨m,rest,pos,rfl,w⟩:=vb q
  obtain⟨h1,h2⟩:=di h
  obtain⟨ta,pa,ja⟩:=sX a h1
  obtain⟨tb,pb,jb⟩:=sX b h2
  refine⟨_,fun Z E=>@Vy _ _ _ _ tb _ _ (pa Z E) ?_,V3 ja jb⟩
  rcases w with⟨rfl,rfl⟩|rfl
  ·exact @FN _ _ _ _ _ (pb Z E)
  ·exact pb Z E
 |.nt a,sc,N,e,h=>by
  have hh:=aF h;clear h;obtain⟨⟨op,r⟩,q,h⟩:=hh
  obtain⟨p,rfl⟩:=zq q
  obtain⟨h1,h2⟩:=di h
  cases bC h1
  obtain⟨ta,pa,ja⟩:=sX a h2
  exact⟨_,fun Z E=>SG (pa Z E),TX ja⟩
 |.ie t' a b,sc,N,e,h=>by
  have hh:=aF h;clear h;obtain⟨⟨x,l,r⟩,q,h⟩:=hh
  obtain⟨p,rfl⟩:=UW q
  obtain⟨h1,h2,h3⟩:=gw h
  obtain⟨tq,pq,jq⟩:=sT t' h1
  obtain⟨ta,pa,ja⟩:=sX a h2
  obtain⟨tb,pb,jb⟩:=sX b h3
  exact⟨_,fun Z E=>Ol (pq Z E) (pa Z E) (pb Z E),T4 jq ja jb⟩
 |.tu l,sc,N,e,h=>by
  have hh:=aF h;clear h;obtain⟨es,q,h⟩:=hh
  obtain⟨k,p,rfl⟩:=zt q
  obtain⟨ta,pa,ja⟩:=sA l h
  exact⟨_,fun Z E=>S8 (pa Z E),T6 ja⟩
 |.li l,sc,N,e,h=>by
  have hh:=aF h;clear h;obtain⟨es,q,h⟩:=hh
  obtain⟨p,rfl⟩:=UX q
  obtain⟨ta,pa,ja⟩:=sA l h
  exact⟨_,fun Z E=>zg (pa Z E),T5 ja⟩
 |.dK,sc,N,e,h=>by
  have hh:=aF h;clear h;obtain⟨⟨ks,vs⟩,q,h⟩:=hh
  obtain⟨p,rfl⟩:=zu q
  obtain⟨h1,h2⟩:=di h
  cases List.isEmpty_iff.mp h1
  cases List.isEmpty_iff.mp h2
  exact⟨_,fun _ _=>OB,Pp⟩
 |.d1 a b,sc,N,e,h=>by
  have hh:=aF h;clear h;obtain⟨⟨ks,vs⟩,q,h⟩:=hh
  obtain⟨p,rfl⟩:=zu q
  have hh:=aF h;clear h;obtain⟨k,q1,h⟩:=hh
  cases jO q1
  have hh:=aF h;clear h;obtain⟨k',rfl,h⟩:=hh
  have hh:=aF h;clear h;obtain⟨v,q2,h⟩:=hh
  cases jO q2
  obtain⟨h1,h2⟩:=di h
  obtain⟨ta,pa,ja⟩:=sX a h1
  obtain⟨tb,pb,jb⟩:=sX b h2
  exact⟨_,fun Z E=>Qz (OG (pa Z E) (pb Z E) Qy) rfl rfl (List.cons_ne_nil _ _) (by show 1≤15;decide),Ru ja jb⟩
 |.ix a b,sc,N,e,h=>by
  have hh:=aF h;clear h;obtain⟨⟨l,r⟩,q,h⟩:=hh
  obtain⟨p,rfl⟩:=kl q
  obtain⟨h1,h2,h3⟩:=gw h
  obtain⟨ta,pa,ja⟩:=sX a h2
  obtain⟨tb,pb,jb⟩:=sX b h3
  exact⟨_,fun Z E=>GZ (EX E.k) (pa Z E) (pb Z E) (Hl h1),vz V2 ja jb⟩
 |.dg a b,sc,N,e,h=>by
  have hh:=aF h;clear h;obtain⟨⟨l,r⟩,q,h⟩:=hh
  obtain⟨p,rfl⟩:=kl q
  obtain⟨h1,h2,h3⟩:=gw h
  obtain⟨ta,pa,ja⟩:=sX a h2
  obtain⟨tb,pb,jb⟩:=sX b h3
  exact⟨_,fun Z E=>EK (mP E.rm) (pa Z E) (pb Z E) (Fe h1),Rq ja jb⟩
 |.sl a lo hi,sc,N,e,h=>by
  have hh:=aF h;clear h;obtain⟨⟨l,r⟩,q,h⟩:=hh
  obtain⟨p,rfl⟩:=kl q
  have hh:=aF h;clear h;obtain⟨⟨lo',tm⟩,q,h⟩:=hh
  obtain⟨p',rfl⟩:=UY q
  obtain⟨h1,h2,h3⟩:=gw h
  obtain⟨ta,pa,ja⟩:=sX a h1
  obtain⟨tl,pl,jl⟩:=sP lo h2
  obtain⟨tu,pu,ju⟩:=sP hi h3
  exact⟨_,fun Z E=>Ox (XW E.k) (pa Z E) (pl Z E) (pu Z E),V5 V7 ja jl ju⟩
 |.dT,sc,N,e,h=>by
  have hh:=aF h;clear h;obtain⟨⟨ks,vs⟩,q,h⟩:=hh
  obtain⟨p,rfl⟩:=zu q
  obtain⟨h1,h2⟩:=di h
  cases List.isEmpty_iff.mp h1
  cases List.isEmpty_iff.mp h2
  exact⟨_,fun _ _=>OD,RB⟩
 |.tg a b,sc,N,e,h=>by
  have hh:=aF h;clear h;obtain⟨⟨l,r⟩,q,h⟩:=hh
  obtain⟨p,rfl⟩:=kl q
  obtain⟨h1,h2,h3⟩:=gw h
  obtain⟨ta,pa,ja⟩:=sX a h2
  obtain⟨tb,pb,jb⟩:=sX b h3
  exact⟨_,fun Z E=>EK (mP E.rm) (pa Z E) (pb Z E) (Fe h1),RC ja jb⟩
 |.wX d k x,sc,N,e,h=>by
  have hh:=aF h;clear h;obtain⟨⟨o,as⟩,q,h⟩:=hh
  obtain⟨ap,cp,rfl,h2,h3,h4⟩:=mV q
  have hh:=aF h;clear h;obtain⟨a,q1,h⟩:=hh
  cases zR q1
  obtain⟨h4,lg⟩:=all1 h4
  have lg:=(all1 lg).1
  obtain⟨h5,h6,h7⟩:=gw h
  obtain⟨td,pd,jd⟩:=sX d h5
  obtain⟨tk,pk,jk⟩:=sX k h6
  obtain⟨tx,px,jx⟩:=sX x h7
  exact⟨_,fun Z E=>Pw (mP E.rm) (pd Z E) (pk Z E) (px Z E) ⟨q8 h2,by rw[cZ h4,cZ lg];rfl,h3,by rw[cZ h4,cZ lg];rfl⟩,Px jd jk jx⟩
 |.rs a p,sc,N,e,h=>by
  have hh:=aF h;clear h;obtain⟨⟨l,r⟩,q,h⟩:=hh
  obtain⟨pp,rfl⟩:=kl q
  have hh:=aF h;clear h;obtain⟨s,q,h⟩:=hh
  obtain⟨p',rfl⟩:=UZ q
  obtain⟨h1,h2⟩:=di h
  obtain⟨ta,pa,ja⟩:=sX a h1
  obtain⟨tl,pl,jl⟩:=sP p h2
  exact⟨_,fun Z E=>RK E.k (pa Z E) (pl Z E),RL ja jl⟩
 |.lr l,sc,N,e,h=>by
  have hh:=aF h;clear h;obtain⟨⟨x,as⟩,q,h⟩:=hh
  obtain⟨p,cp,rfl,h4⟩:=lD q
  have hh:=aF h;clear h;obtain⟨r,q1,h⟩:=hh
  cases jO q1
  have hh:=aF h;clear h;obtain⟨⟨y,bs⟩,q,h⟩:=hh
  obtain⟨p',cp',rfl,h5⟩:=lD q
  obtain⟨g1,g2,g3,g4,g5,g6⟩:=w9 h
  obtain⟨g7,g8,g9⟩:=gw g6
  cases bC g1
  cases bC g4
  obtain⟨a,rfl⟩:=Ay (bC g8)
  obtain⟨ta,pa,ja⟩:=sA l g9
  exact⟨_,fun Z E=>@Wm _ _ _ _ _ _ _ E.calm (E.gl g2) (E.mg g3) (E.gl g5) (E.mg g7) (pa Z E) (cZ (all1 h5).1),Wn ja⟩
 |.fb f l,sc,N,e,h=>by
  have hh:=aF h;clear h;obtain⟨⟨x,as⟩,q,h⟩:=hh
  obtain⟨p,cp,rfl,h4⟩:=lD q
  obtain⟨h1,h2,h3,h0,h6⟩:=pZ h
  cases bC h1
  obtain⟨a,r,rfl⟩:=yR h0
  obtain⟨h4,h5⟩:=all1 h4
  obtain⟨ta,pa,ja⟩:=sA l h6
  obtain⟨r,q1,q2⟩:=Fb.ok (c:=c) (lv:=lv) (t:=t) (va:=va) (K:=K) f
  exact⟨_,fun Z E=>q1 Z E h2 h3 h4 h5 (pa Z E),V4 q2 ja⟩
 |.ca f l,sc,N,e,h=>by
  have hh:=aF h;clear h;obtain⟨⟨x,as⟩,q,h⟩:=hh
  obtain⟨p,cp,rfl,BR⟩:=lD q
  have hh:=aF h;clear h;obtain⟨i,hf,h⟩:=hh
  obtain⟨h1,h2,h3,h4,h5,BU,h0,h8⟩:=Ky h
  obtain⟨a,r,rfl⟩:=yR h0
  obtain⟨h6,h7⟩:=all1 BR
  have h1:=bC h1
  obtain⟨ta,pa,ja⟩:=sA l h8
  have hl:=Ax (t:=t) h8
  rw[show(a::r).length=i.ar from bC h5]at hl
  refine⟨rn (nF K i.ar (FT.f t[f]?)) [] E0 ta,fun Z E=>?_,QT ja hl⟩
  obtain⟨F,hF,q⟩:=E.fs f i hf
  cases F with
  |oo F=>rw[nM,bC BU]at q;cases q.1
  |p F =>
   obtain⟨_,a,fd,ps,k1,k2,k3,k4⟩:=q
   rw[←h1]at k2
   rw[hF,←E.k]
   exact @EE _ _ _ _ _ _ _ _ _ _ _ _ _ _ _ _ k1 (E.rm.mono (bC h4)) (E.gl h2) k2 k3 k4 .nil G6 (pa Z E) (nb h3) (cZ h6) (jG h7 _)
 |.cp i ix t' d,sc,N,e,h=>by
  have hh:=aF h;clear h;obtain⟨⟨el,x,px,it,ifs,aE,ep⟩,q,h⟩:=hh
  cases yQ q
  obtain⟨h1,h2,h3,h4,h5⟩:=pZ h
  have h1:=zp h1
  obtain⟨ti,pi,ji⟩:=sI i h3
  obtain⟨te,pe,je⟩:=sX d h5
  have h4:(ifs.isEmpty=true∧BQ t'=true)∨(on (l1 ifs) fun y=>kT c lv t' (rl sc aE) (ns N x ix) y)=true:=by simpa using h4
  rcases h4 with⟨w1,w2⟩|h4
  ·cases List.isEmpty_iff.mp w1
   cases t'<;>first|exact absurd w2 aX|skip
   exact⟨_,fun Z E=>@uX _ (ns N x ix) _ _ ix _ _ _ _ _ _ _ _ (by rw[E.n,E.sc];exact h1) E.calm (pi Z (.Name x px) E (fun z=>absurd z aX)) (fun C s₂ H₂ fp pn=>uW) (fun C s₂ H₂ fp pn=>pe _ E.cP) (lj h2),uZ ji E4 je⟩
  ·have hh:=aF h4;clear h4;obtain⟨y,q,h4⟩:=hh
   cases jO q
   obtain⟨tq,pq,jq⟩:=sT t' h4
   exact⟨_,fun Z E=>@uX _ (ns N x ix) _ _ ix _ _ _ _ _ _ _ _ (by rw[E.n,E.sc];exact h1) E.calm (pi Z (.Name x px) E (fun z=>absurd z aX)) (fun C s₂ H₂ fp pn=>ER (pq _ E.cP)) (fun C s₂ H₂ fp pn=>pe _ E.cP) (lj h2),uZ ji jq je⟩
theorem sA:∀(l:A) {sc:Scope}{N:List Str}{es:List Expr},kA c lv l sc N es=true→∃ta,(∀Z,CE c lv K t va sc N Z→PA Z es ta)∧iP K ta (eA t l)
 |.n,_,_,es,h=>by
  cases List.isEmpty_iff.mp h
  exact⟨_,fun _ _=>qT,QG⟩
 |.c a l,sc,N,es,h=>by
  have hh:=aF h;clear h;obtain⟨⟨e,r⟩,q,h⟩:=hh
  cases mI q
  obtain⟨h0,h1,h2⟩:=gw h
  obtain⟨ta,pa,ja⟩:=sX a h1
  obtain⟨tl,pl,jl⟩:=sA l h2
  exact⟨_,fun Z E=>@uT _ _ _ _ _ (pa Z E) (pl Z E) (cZ h0),OS ja jl⟩
theorem sT:∀(q:T) {sc:Scope}{N:List Str}{e:Expr},kT c lv q sc N e=true→∃tt,(∀Z,CE c lv K t va sc N Z→PT Z e tt)∧fN K tt (eT t q)
 |.b x,sc,N,e,h=>by
  obtain⟨h1,h2⟩:=di h
  obtain⟨ta,pa,ja⟩:=sX x h2
  exact⟨_,fun Z E=>@NR _ K _ _ E.k (pa Z E) (UQ h1),NS ja⟩
 |.c o a b,sc,N,e,h=>by
  have hh:=aF h;clear h;obtain⟨⟨l,op,r⟩,q,h⟩:=hh
  obtain⟨p,rfl⟩:=zr q
  obtain⟨h1,h0,h2,h3⟩:=gx h
  cases bC h1
  obtain⟨ta,pa,ja⟩:=sX a h2
  obtain⟨tb,pb,jb⟩:=sX b h3
  obtain⟨r,o1,o2⟩:=o.ok (K:=K)
  exact⟨_,fun Z E=>Qo (o1 Z E.k E.rm.units) (pa Z E) (pb Z E) (u9 h0),D7 (vz o2 ja jb)⟩
 |.d n a b,sc,N,e,h=>by
  have hh:=aF h;clear h;obtain⟨⟨l,op,r⟩,q,h⟩:=hh
  obtain⟨p,rfl⟩:=zr q
  obtain⟨h1,h0,h2,h3⟩:=gx h
  cases bC h1
  obtain⟨ta,pa,ja⟩:=sX a h2
  obtain⟨tb,pb,jb⟩:=sX b h3
  cases n with
  |false=>exact⟨_,fun Z E=>@FL _ _ _ _ _ _ (Tq (mP E.rm) (pa Z E) (pb Z E)) (u9 h0),zL (UH ja jb)⟩
  |true=>exact⟨_,fun Z E=>@FL _ _ _ _ _ _ (Nz (mP E.rm) (pa Z E) (pb Z E)) (u9 h0),zL (N1 ja jb)⟩
 |.h o p a b d,sc,N,e,h=>by
  have hh:=aF h;clear h;obtain⟨⟨l,op,op',m,r⟩,q,h⟩:=hh
  obtain⟨p',rfl⟩:=UT q
  obtain⟨h1,h2,h3,h4,h5,h6⟩:=w9 h
  cases bC h1
  cases bC h2
  obtain⟨ta,pa,ja⟩:=sX a h4
  obtain⟨tb,pb,jb⟩:=sX b h5
  obtain⟨td,pd,jd⟩:=sX d h6
  obtain⟨r,o1,o2⟩:=o.ok (K:=K)
  obtain⟨r',ZF,ZG⟩:=p.ok (K:=K)
  exact⟨_,fun Z E=>@Ot _ _ _ _ _ _ _ _ _ _ _ _ (o1 Z E.k E.rm.units) (ZF Z E.k E.rm.units) (pa Z E) (pb Z E) (pd Z E) (nb h3),D7 (Pa o2 ZG ja jb jd)⟩
 |.an a b,sc,N,e,h=>by
  have hh:=aF h;clear h;obtain⟨⟨x,y⟩,q,h⟩:=hh
  obtain⟨m,rest,pos,rfl,w⟩:=vb q
  obtain⟨h1,h2⟩:=di h
  obtain⟨ta,pa,ja⟩:=sT a h1
  obtain⟨tb,pb,jb⟩:=sT b h2
  refine⟨_,fun Z E=>@PW.pt _ _ _ (@Sz _ _ _ _ _ tb _ (pa Z E) ?_),QD ja jb⟩
  rcases w with⟨rfl,rfl⟩|rfl
  ·exact @Qg _ _ _ _ (pb Z E)
  ·exact Hm (pb Z E)
 |.or a b,sc,N,e,h=>by
  have hh:=aF h;clear h;obtain⟨⟨x,y⟩,q,h⟩:=hh
  obtain⟨m,rest,pos,rfl,w⟩:=vb q
  obtain⟨h1,h2⟩:=di h
  obtain⟨ta,pa,ja⟩:=sT a h1
  obtain⟨tb,pb,jb⟩:=sT b h2
  refine⟨_,fun Z E=>@PW.pt _ _ _ (@Vx _ _ _ _ _ tb _ (pa Z E) ?_),TY ja jb⟩
  rcases w with⟨rfl,rfl⟩|rfl
  ·exact @Sy _ _ _ _ (pb Z E)
  ·exact Hm (pb Z E)
 |.nt a,sc,N,e,h=>by
  have hh:=aF h;clear h;obtain⟨⟨op,r⟩,q,h⟩:=hh
  obtain⟨p,rfl⟩:=zq q
  obtain⟨h1,h2⟩:=di h
  cases bC h1
  obtain⟨ta,pa,ja⟩:=sT a h2
  exact⟨_,fun Z E=>SD (pa Z E),QF ja⟩
 |.y,sc,N,e,h=>absurd h aX
theorem sP:∀(l:P) {sc:Scope}{N:List Str}{e:Option Expr},kP c lv l sc N e=true→∃ta,(∀Z,CE c lv K t va sc N Z→PO Z e ta)∧pR K ta (eP t l)
 |.n,_,_,o,h=>by
  cases o with
  |some _=>cases h
  |none=>exact⟨_,fun _ _=>Qq,OV⟩
 |.s x,sc,N,o,h=>by
  have hh:=aF h;clear h;obtain⟨e,rfl,h⟩:=hh
  obtain⟨ta,pa,ja⟩:=sX x h
  exact⟨_,fun Z E=>Qr (pa Z E),OW ja⟩
theorem sI:∀(i:I) {tg:Bool}{sc:Scope}{N:List Str}{e:Expr},kI c lv i tg sc N e=true→∃ti,(∀Z g,CE c lv K t va sc N Z→(tg=true→zQ g=true)→PI Z g e ti)∧JI K ti (eI t i)
 |.r1 l,tg,sc,N,e,h=>by
  have hh:=aF h;clear h;obtain⟨⟨x,as⟩,q,h⟩:=hh
  obtain⟨p,cp,rfl,h4⟩:=lD q
  obtain⟨h1,h2,h3,h0,h5⟩:=pZ h
  cases bC h1
  obtain⟨a,rfl⟩:=Ay (bC h0)
  obtain⟨ta,pa,ja⟩:=sA l h5
  exact⟨_,fun Z g E _=>@Np _ _ _ _ _ _ (E.gl h2) (E.mg h3) (pa Z E) (cZ (all1 h4).1),QO ja⟩
 |.r2 l,tg,sc,N,e,h=>by
  have hh:=aF h;clear h;obtain⟨⟨x,as⟩,q,h⟩:=hh
  obtain⟨p,cp,rfl,h4⟩:=lD q
  obtain⟨h1,h2,h3,h0,h5⟩:=pZ h
  cases bC h1
  obtain⟨a,b,rfl⟩:=X8 (bC h0)
  obtain⟨h4,lg⟩:=all1 h4
  have lg:=(all1 lg).1
  obtain⟨ta,pa,ja⟩:=sA l h5
  exact⟨_,fun Z g E _=>@Nq _ _ _ _ _ _ _ (E.gl h2) (E.mg h3) (pa Z E) (by rw[cZ h4,cZ lg];rfl) (cZ lg),QP ja⟩
 |.en l,tg,sc,N,e,h=>by
  have hh:=aF h;clear h;obtain⟨⟨x,as⟩,q,h⟩:=hh
  obtain⟨p,cp,rfl,h4⟩:=lD q
  obtain⟨h0,h1,h2,h3,h6,h5⟩:=w9 h
  cases bC h1
  obtain⟨a,rfl⟩:=Ay (bC h6)
  obtain⟨ta,pa,ja⟩:=sA l h5
  refine⟨_,fun Z g E hg=>?_,Rg ja⟩
  have hg:=hg h0
  cases g<;>first|exact absurd hg aX|skip
  exact @Pk _ K _ _ _ _ _ _ _ E.k (E.gl h2) (E.mg h3) (pa Z E) (cZ (all1 h4).1)
 |.s x,tg,sc,N,e,h=>by
  obtain⟨ta,pa,ja⟩:=sX x (e:=e) h
  exact⟨_,fun Z g E _=>Tx (pa Z E),UE ja⟩
 |.t x,tg,sc,N,e,h=>by
  obtain⟨ta,pa,ja⟩:=sX x (e:=e) h
  exact⟨_,fun Z g E _=>Rk E.k (pa Z E),Ue ja⟩
 |.l x,tg,sc,N,e,h=>by
  obtain⟨ta,pa,ja⟩:=sX x (e:=e) h
  exact⟨_,fun Z g E _=>OL E.k (pa Z E),QN ja⟩
end
end
noncomputable def loc(sc:Scope)(x:Str):Bool:=match sc.names.lookup x with
 |some .local=>true
 |some .cell=>true
 |_=>false
theorem Gw{sc:Scope}{x:Str}(h:loc sc x=true):L2.Loc sc x:=by
 unfold loc at h;unfold L2.Loc
 split at h<;>first|exact absurd h aX|simp_all
mutual
noncomputable def kG:G→Scope→List Str→Expr→Bool
 |.n i,sc,N,e=>on (pX e) fun x=>decide (N[i]?=some x)&&loc sc x
 |.t k l,sc,N,e=>on (w5 e) fun es=>decide (es.length=k)&&es.all eW&&xa l sc N es
 |.l k l,sc,N,e=>on (w5 e) fun es=>decide (es.length=k)&&es.all eW&&xa l sc N es
noncomputable def xa:Gs→Scope→List Str→List Expr→Bool
 |.n,_,_,es=>es.isEmpty
 |.c g l,sc,N,es=>on (pY es) fun q=>eW q.1&&kG g sc N q.1&&xa l sc N q.2
end
noncomputable def Az:Expr→Bool
 |.List [] _=>true
 |_=>false
theorem RN{e:Expr}(h:Az e=true):∃p,e=.List [] p:=by
 unfold Az at h
 split at h
 ·exact⟨_,rfl⟩
 ·cases h
noncomputable def nP:Stmt→Option (Expr×Expr×Pos)
 |.Assign [tg] e pos=>some (tg,e,pos)
 |_=>none
noncomputable def tD(st:Stmt):Option (Str×Expr):=(nP st).bind fun q=>(pX q.1).map fun x=>(x,q.2.1)
noncomputable def tE:Stmt→Option Expr
 |.Expr e _=>some e
 |_=>none
noncomputable def BV:Stmt→Option (Option Expr)
 |.Return e _=>some e
 |_=>none
noncomputable def Kz:Stmt→Option (Expr×List Stmt×List Stmt)
 |.If e a b _=>some (e,a,b)
 |_=>none
noncomputable def xc:Stmt→Option (Expr×Expr×List Stmt)
 |.For tg it b [] _=>some (tg,it,b)
 |_=>none
noncomputable def BW:Stmt→Option (Expr×List Stmt)
 |.While e b [] _=>some (e,b)
 |_=>none
theorem rg{st:Stmt}{q:Expr×Expr×Pos}(h:nP st=some q):st=.Assign [q.1] q.2.1 q.2.2:=by
 unfold nP at h
 split at h
 ·cases h;rfl
 ·cases h
theorem vj{st:Stmt}{y:Str}{e:Expr}(h:tD st=some (y,e)):∃p pos,st=.Assign [.Name y p] e pos:=by
 obtain⟨q,h1,h⟩:=iY h
 obtain⟨x,h2,h⟩:=vi h
 cases h
 obtain⟨p,e⟩:=oM h2
 exact⟨p,q.2.2,by rw[rg h1,e]⟩
theorem vm{st:Stmt}{e:Expr}(h:tE st=some e):∃p,st=.Expr e p:=by
 cases st<;>cases h;exact⟨_,rfl⟩
theorem Gx{st:Stmt}{e:Option Expr}(h:BV st=some e):∃p,st=.Return e p:=by
 cases st<;>cases h;exact⟨_,rfl⟩
theorem U4{st:Stmt}{e:Expr}{a b:List Stmt}(h:Kz st=some (e,a,b)):∃p,st=.If e a b p:=by
 cases st<;>cases h;exact⟨_,rfl⟩
theorem Gy{st:Stmt}{a b:Expr}{l:List Stmt}(h:xc st=some (a,b,l)):∃p,st=.For a b l [] p:=by
 unfold xc at h
 split at h
 ·cases h;exact⟨_,rfl⟩
 ·cases h
theorem U5{st:Stmt}{e:Expr}{l:List Stmt}(h:BW st=some (e,l)):∃p,st=.While e l [] p:=by
 unfold BW at h
 split at h
 ·cases h;exact⟨_,rfl⟩
 ·cases h
noncomputable def KC(c:Cf)(lv:Nat)(f:Nat)(l:A)(sc:Scope)(N:List Str)(e:Expr):Bool :=
 on (eN e) fun q=>on c.fs[f]? fun i=>decide (q.1=i.nm)&&gl sc q.1&&!(q.1 == "__debug__")&&decide (i.lv≤lv)&&decide (q.2.length=i.ar)&&decide (i.io=some [])&&!q.2.isEmpty&&kA c lv l sc N q.2
noncomputable def kL(c:Cf)(lv:Nat):L→Scope→List Str→Stmt→Bool
 |.rt x,sc,N,st=>on (BV st) fun o=>on o fun e=>kX c lv x sc N e
 |.st i x,sc,N,st=>on (tD st) fun s=>decide (N[i]?=some s.1)&&loc sc s.1&&mU s.2&&kX c lv x sc N s.2
 |.sc j i ix q e,sc,N,st=>on (tD st) fun s=>decide (N[j]?=some s.1)&&loc sc s.1&&kX c lv (.cp i ix q e) sc N s.2
 |.as g x,sc,N,st=>on (nP st) fun s=>zQ s.1&&sZ s.2.1&&kG g sc N s.1&&kX c lv x sc N s.2.1
 |.si k i x,sc,N,st=>on (nP st) fun s=>on (j5 s.1) fun u=>mh u.2&&mU s.2.1&&kX c lv (.v k) sc N u.1&&kX c lv i sc N u.2&&kX c lv x sc N s.2.1
 |.dp k i x,sc,N,st=>on (nP st) fun s=>on (j5 s.1) fun u=>mU s.2.1&&kX c lv (.v k) sc N u.1&&kX c lv i sc N u.2&&kX c lv x sc N s.2.1
 |.ap k x,sc,N,st=>on (tE st) fun e=>on (eM "append" e) fun q=>on (l1 q.2) fun a=>kX c lv (.v k) sc N q.1&&kX c lv x sc N a
 |.na k i x,sc,N,st=>on (tE st) fun e=>on (eM "append" e) fun q=>on (l1 q.2) fun a=>on (j5 q.1) fun u=>mh u.2&&kX c lv (.v k) sc N u.1&&kX c lv i sc N u.2&&kX c lv x sc N a
 |.po i k,sc,N,st=>on (tD st) fun s=>on (eM "pop" s.2) fun q=>decide (N[i]?=some s.1)&&loc sc s.1&&q.2.isEmpty&&kX c lv (.v k) sc N q.1
 |.cl k,sc,N,st=>on (tE st) fun e=>on (eM "clear" e) fun q=>q.2.isEmpty&&kX c lv (.v k) sc N q.1
 |.ne i it,sc,N,st=>on (tD st) fun s=>on (v8 s.2) fun q=>decide (N[i]?=some s.1)&&loc sc s.1&&q.2.2.2.2.1.isEmpty&&Az q.1&&BL N (ns N q.2.1 []) sc q.2.2.2.2.2.1 q.2.1 []&&(kJ q.2.2.2.1&&kI c lv it false sc N q.2.2.2.1)
 |.tp k i x,sc,N,st=>on (nP st) fun s=>on (j5 s.1) fun u=>mU s.2.1&&kX c lv (.v k) sc N u.1&&kX c lv i sc N u.2&&kX c lv x sc N s.2.1
 |.tc k,sc,N,st=>on (tE st) fun e=>on (eM "clear" e) fun q=>q.2.isEmpty&&kX c lv (.v k) sc N q.1
 |.rO f _ l,sc,N,st=>on (BV st) fun o=>on o fun e=>KC c lv f l sc N e
mutual
noncomputable def kS(c:Cf)(lv:Nat):S→Scope→List Str→Stmt→Bool
 |.l x,sc,N,st=>kL c lv x sc N st
 |.ie t a b,sc,N,st=>on (Kz st) fun q=>kT c lv t sc N q.1&&kB c lv a sc N q.2.1&&kB c lv b sc N q.2.2
 |.fo i g b,sc,N,st=>on (xc st) fun q=>kI c lv i (zQ q.1) sc N q.2.1&&kJ q.2.1&&kG g sc N q.1&&kB c lv b sc N q.2.2
 |.fv k g b,sc,N,st=>on (xc st) fun q=>on (eM "values" q.2.1) fun u=>u.2.isEmpty&&kX c lv (.v k) sc N u.1&&kG g sc N q.1&&kB c lv b sc N q.2.2
 |.wh t b,sc,N,st=>on (BW st) fun q=>kT c lv t sc N q.1&&kB c lv b sc N q.2
 |.fz _ s,sc,N,st=>kS c lv s sc N st
noncomputable def kB(c:Cf)(lv:Nat):B→Scope→List Str→List Stmt→Bool
 |.n,_,_,ss=>ss.isEmpty
 |.o s,sc,N,ss=>on (l1 ss) fun st=>kS c lv s sc N st
 |.c s b,sc,N,ss=>on (pY ss) fun q=>kS c lv s sc N q.1&&kB c lv b sc N q.2
end
structure CS (c:Cf)(lv:Nat)(K:PySem.W.Frag)(t:List FT)(va:List V)(sc:Scope)(N:List Str)(Z:Cx):Prop where
 e:CE c lv K t va sc N Z
 nd:N.Nodup
 fn:∀x,Z.fn x=true
 po:PassesOwn (model Z.prog Z.w) Z.A Z.env Z.xe
 kd:sc.kind=.function
section
variable {c:Cf}{lv:Nat}{K:PySem.W.Frag}{t:List FT}{va:List V}
theorem sV{k:Nat}{sc:Scope}{N:List Str}{e:Expr}(h:kX c lv (.v k) sc N e=true)(Z:Cx)(E:CE c lv K t va sc N Z):PE Z e (gD k):=by
 have hh:=aF h;clear h;obtain⟨x,q,h⟩:=hh
 obtain⟨p,rfl⟩:=oM q
 obtain⟨h1,h2,h3,h4⟩:=gx h
 have h1:=bC h1
 have h2:=Gp h2
 exact @FK _ _ _ _ (E.n▸h1) (E.sc▸h2) (nb h3) (nb h4)
theorem DL{e:Expr}(h:eW e=true){es:List Expr}{env:Env}:assignEach (e::es) env=(false,assign e env)::assignEach es env:=by
 cases e<;>first|rfl|cases h
theorem qk{env:Env}:∀{es:List Expr},es.all eW=true→(assignEach es env).length=es.length∧(assignEach es env).findIdx? (fun x=>x.1)=none
 |[],_=>⟨rfl,rfl⟩
 |e::es,h=>by
  rw[List.all_cons,Bool.and_eq_true]at h
  obtain⟨h1,h2⟩:=qk (env:=env) h.2
  rw[DL h.1]
  refine⟨by simp[h1],?_⟩
  rw[List.findIdx?_cons,h2]
  rfl
mutual
theorem sG:∀(g:G) {sc:Scope}{N:List Str}{e:Expr},kG g sc N e=true→∃tg,(∀Z,CS c lv K t va sc N Z→PG Z e tg)∧JG K tg (eG g)
 |.n i,sc,N,e,h=>by
  have hh:=aF h;clear h;obtain⟨x,q,h⟩:=hh
  obtain⟨p,rfl⟩:=oM q
  obtain⟨h1,h2⟩:=di h
  have h1:=bC h1
  exact⟨_,fun Z E=>@EA _ _ i _ (E.e.n▸E.nd) (E.e.n▸h1) (E.e.sc▸Gw h2) (.inl (E.fn _)),QQ⟩
 |.t k l,sc,N,e,h=>by
  have hh:=aF h;clear h;obtain⟨es,q,h⟩:=hh
  obtain⟨k',p,rfl⟩:=zt q
  obtain⟨h1,h2,h3⟩:=gw h
  cases bC h1
  obtain⟨tg,pg,jg⟩:=BX l h3
  exact⟨_,fun Z E=>E.e.k▸@SK _ _ _ _ _ _ E.e.calm (pg Z E) (qk h2).1 (qk h2).2,Ug jg⟩
 |.l k l,sc,N,e,h=>by
  have hh:=aF h;clear h;obtain⟨es,q,h⟩:=hh
  obtain⟨k',p,rfl⟩:=zt q
  obtain⟨h1,h2,h3⟩:=gw h
  cases bC h1
  obtain⟨tg,pg,jg⟩:=BX l h3
  exact⟨_,fun Z E=>E.e.k▸@Tt _ _ _ _ _ _ E.e.calm (pg Z E) (qk h2).1 (qk h2).2,UC jg⟩
theorem BX:∀(l:Gs) {sc:Scope}{N:List Str}{es:List Expr},xa l sc N es=true→∃tg,(∀Z,CS c lv K t va sc N Z→pH Z es tg)∧pS K tg (wY l)
 |.n,_,_,es,h=>by
  cases List.isEmpty_iff.mp h
  exact⟨_,fun _ _=>Qk,QR⟩
 |.c g l,sc,N,es,h=>by
  have hh:=aF h;clear h;obtain⟨⟨e,r⟩,q,h⟩:=hh
  cases mI q
  obtain⟨h0,h1,h2⟩:=gw h
  obtain⟨ta,pa,ja⟩:=sG g h1
  obtain⟨tl,pl,jl⟩:=BX l h2
  exact⟨_,fun Z E=>@Oo _ _ _ _ _ (pa Z E) (pl Z E) (by rw[DL h0];rfl),O6 ja jl⟩
end
theorem KD:∀(l:A) {sc:Scope}{N:List Str}{es:List Expr},kA c lv l sc N es=true→∃ta,(∀Z,CE c lv K t va sc N Z→PA Z es ta)∧lY K ta (eA t l) (rW l)
 |.n,_,_,es,h=>by
  cases List.isEmpty_iff.mp h
  exact⟨_,fun _ _=>qT,Rh⟩
 |.c a l,sc,N,es,h=>by
  have hh:=aF h;clear h;obtain⟨⟨e,r⟩,q,h⟩:=hh
  cases mI q
  obtain⟨h0,h1,h2⟩:=gw h
  obtain⟨tl,pl,jl⟩:=KD l h2
  cases a with
  |v i=>exact⟨_,fun Z E=>@uT _ _ _ _ _ (sV h1 Z E) (pl Z E) (cZ h0),Ri jl⟩
  |_ =>
   obtain⟨ta,pa,ja⟩:=sX _ h1
   exact⟨_,fun Z E=>@uT _ _ _ _ _ (pa Z E) (pl Z E) (cZ h0),Pl ja jl⟩
theorem rF{e:Expr}{o:Option Expr}{n:Nat}{env:Env}(h:mU e=true):swapsWith e o n env=pure false:=by
 cases e<;>first|rfl|cases h
end
end C
set_option maxHeartbeats 4000000
namespace C
open PySem PySem.Spec L2 J
section
variable {c:Cf}{lv:Nat}{K:PySem.W.Frag}{t:List FT}{va:List V}
theorem Ff{el:Expr}{gs:List Comprehension}{aE:Scope}{ep py:Pos}{y:Str}{n:Nat}{env:Env} :
  swapsWith (.ListComp el gs aE ep) (some (.Name y py)) n env=pure true∧env.scope.names.lookup y=some .local∨swapsWith (.ListComp el gs aE ep) (some (.Name y py)) n env=pure false:=by
 have e:swapsWith (.ListComp el gs aE ep) (some (.Name y py)) n env=pure (env.blockKind==.function&&env.kindOf y==some .local&&py.line==ep.line&&!(aE.names.any fun x=>match x with | (n,k)=>n==y&&(k==NameKind.local||k==NameKind.cell))):=rfl
 rw[e]
 generalize hb:(env.blockKind==.function&&env.kindOf y==some .local&&py.line==ep.line&&!(aE.names.any fun x=>match x with | (n,k)=>n==y&&(k==NameKind.local||k==NameKind.cell)))=b
 cases b with
 |false=>exact .inr rfl
 |true =>
  obtain⟨_,h,_,_⟩:=gx hb
  exact .inl ⟨rfl,by simpa[Env.kindOf]using h⟩
theorem ZH{i:I}{ix:List Nat}{t':T}{d:X}{sc:Scope}{N:List Str}{e:Expr}(h:kX c lv (.cp i ix t' d) sc N e=true) :
  ∃el x px it ifs aE ep wi tc te,e=.ListComp el [⟨.Name x px,it,ifs,0⟩] aE ep∧(∀Z,CE c lv K t va sc N Z→mG Z.N (ns N x ix) Z.env.scope aE x ix∧PI Z (.Name x px) it wi∧(∀C s₂ H₂ fp pn,nC (Z.cP (ns N x ix) aE C s₂ H₂ fp pn) ifs tc)∧(∀C s₂ H₂ fp pn,PE (Z.cP (ns N x ix) aE C s₂ H₂ fp pn) el te))∧kJ it=true∧JT K (oR wi ix tc te) (eX t (.cp i ix t' d)):=by
 have hh:=aF h;clear h;obtain⟨⟨el,x,px,it,ifs,aE,ep⟩,q,h⟩:=hh
 cases yQ q
 obtain⟨h1,h2,h3,h4,h5⟩:=pZ h
 have h1:=zp h1
 obtain⟨ti,pi,ji⟩:=sI i h3
 obtain⟨te,pe,je⟩:=sX d h5
 have h4:(ifs.isEmpty=true∧BQ t'=true)∨(on (l1 ifs) fun y=>kT c lv t' (rl sc aE) (ns N x ix) y)=true:=by simpa using h4
 rcases h4 with⟨w1,w2⟩|h4
 ·cases List.isEmpty_iff.mp w1
  cases t'<;>first|exact absurd w2 aX|skip
  exact⟨el,x,px,it,[],aE,ep,_,_,_,rfl,fun Z E=>⟨by rw[E.n,E.sc];exact h1,pi Z (.Name x px) E (fun z=>absurd z aX),(fun C s₂ H₂ fp pn=>uW),(fun C s₂ H₂ fp pn=>pe _ E.cP)⟩,h2,uZ ji E4 je⟩
 ·have hh:=aF h4;clear h4;obtain⟨y,q,h4⟩:=hh
  cases jO q
  obtain⟨tq,pq,jq⟩:=sT t' h4
  exact⟨el,x,px,it,[y],aE,ep,_,_,_,rfl,fun Z E=>⟨by rw[E.n,E.sc];exact h1,pi Z (.Name x px) E (fun z=>absurd z aX),(fun C s₂ H₂ fp pn=>ER (pq _ E.cP)),(fun C s₂ H₂ fp pn=>pe _ E.cP)⟩,h2,uZ ji jq je⟩
theorem ZI{f:Nat}{l:A}{sc:Scope}{N:List Str}{e:Expr}(h:KC c lv f l sc N e=true):∃n ta,(∀Z,CE c lv K t va sc N Z→PE Z e (rn (v7 K n (FT.q t[f]?)) [] E0 ta))∧lY K ta (eA t l) (rW l)∧mU e=true∧∀(e:Ev) (aD:List (M×D)),eA t l e=some aD→aD.length=n:=by
 have hh:=aF h;clear h;obtain⟨⟨x,as⟩,q,h⟩:=hh
 obtain⟨p,cp,rfl,BR⟩:=lD q
 have hh:=aF h;clear h;obtain⟨i,hf,h⟩:=hh
 obtain⟨h1,h2,h3,h4,h5,BU,h0,h8⟩:=Ky h
 obtain⟨a,r,rfl⟩:=yR h0
 obtain⟨h6,h7⟩:=all1 BR
 have h1:=bC h1
 obtain⟨ta,pa,ja⟩:=KD l h8
 have hl:=Ax (t:=t) h8
 rw[show(a::r).length=i.ar from bC h5]at hl
 refine⟨i.ar,ta,fun Z E=>?_,ja,rfl,hl⟩
 obtain⟨F,hF,q⟩:=E.fs f i hf
 cases F with
 |p F=>rw[nM,bC BU]at q;cases q.1
 |oo F =>
  obtain⟨_,a,fd,ps,k1,k2,k3,k4⟩:=q
  rw[←h1]at k2
  rw[hF,←E.k]
  exact @EE _ _ _ _ _ _ _ _ _ _ _ _ _ _ _ _ k1 (E.rm.mono (bC h4)) (E.gl h2) k2 k3 k4 .nil G6 (pa Z E) (nb h3) (cZ h6) (jG h7 _)
theorem U6{e:Expr}(h:sZ e=true):mU e=true:=by
 cases e<;>first|rfl|cases h
theorem U7{e:Expr}{es:List Expr}{k:Nat}{p:Pos}{env:Env}(h:sZ e=true):swappedStores [.Tuple es k p] e env=pure none:=by
 cases e<;>first|rfl|cases h
theorem KG {o:Expr}{nm:Str}{ap cp:Pos}{to:TE}{id:String}{r:V→List V→Hp→VK→Prop}{Z:Cx} (k:Z.K=K) (h1:Slot "list" nm id) (h2:typeOf (.builtin id)=pure (.type "method_descriptor")) (h3:wy Z id r) (ho:PE Z o to) (h4:tf o=true) (h5:(ap.endLine==cp.line)=true):PE Z (.Call (.Attribute o nm ap) [] [] cp) (rL K "list" r to) :=
 k▸@FW _ _ _ _ _ _ _ _ _ PySem.F.plainAttrs_list h1 h2 h3 ho (q8 h4) h5
theorem wG{o a:Expr}{ap cp:Pos}{to ta:TE}{Z:Cx}(k:Z.K=K)(ho:PE Z o to)(ha:PE Z a ta)(h4:tf o=true)(h5:(ap.endLine==cp.line)=true)(h6:eW a=true):PE Z (.Call (.Attribute o "append" ap) [a] [] cp) (wA K "list" uU to (mM ta lF)) :=
 k▸@VN _ _ _ _ _ _ _ _ _ _ _ _ PySem.F.plainAttrs_list PySem.F.slot_list_append PySem.F.type_list_append DC ho (@uT _ _ _ _ _ ha qT (cZ h6)) (q8 h4) (U2 h6) h5 (cZ h6) U3
theorem v9{Z:Cx}{sc:Scope}{N:List Str}{e:Expr}{te:TE}{pos py:Pos}{y:Str}{i:Nat}(E:CS c lv K t va sc N Z)(h1:N[i]?=some y)(h2:loc sc y=true)(h:PE Z e te)(hs:swapsWith e (some (Expr.Name y py)) pos.line Z.env=pure false):gb Z (.Assign [.Name y py] e pos) (iE te (jK i)) :=
 @UG _ _ _ _ _ _ i (E.e.n▸E.nd) (E.e.n▸h1) (E.e.sc▸Gw h2) h hs (.inl (E.fn _))
theorem sL:∀(s:L) {sc:Scope}{N:List Str}{st:Stmt},kL c lv s sc N st=true→∃ts,(∀Z,CS c lv K t va sc N Z→gb Z st ts)∧JS K ts (eL t s)
 |.rt x,sc,N,st,h=>by
  have hh:=aF h;clear h;obtain⟨o,q,h⟩:=hh
  obtain⟨p,rfl⟩:=Gx q
  have hh:=aF h;clear h;obtain⟨e,rfl,h⟩:=hh
  obtain⟨te,pe,je⟩:=sX x h
  exact⟨_,fun Z E=>Ge (pe Z E.e),T9 je⟩
 |.st i x,sc,N,st,h=>by
  have hh:=aF h;clear h;obtain⟨⟨y,e⟩,q,h⟩:=hh
  obtain⟨py,pos,rfl⟩:=vj q
  obtain⟨h1,h2,h3,h4⟩:=gx h
  obtain⟨te,pe,je⟩:=sX x h4
  exact⟨_,fun Z E=>v9 E (bC h1) h2 (pe Z E.e) (rF h3),F6 je⟩
 |.sc j i ix t' d,sc,N,st,h=>by
  have hh:=aF h;clear h;obtain⟨⟨y,e⟩,q,h⟩:=hh
  obtain⟨py,pos,rfl⟩:=vj q
  obtain⟨h1,h2,h3⟩:=gw h
  have h1:=bC h1
  obtain⟨el,z,pz,it,ifs,aE,ep,wi,tc,te,e,pe,ns,je⟩:=ZH h3
  have e:_=Expr.ListComp el [⟨.Name z pz,it,ifs,0⟩] aE ep:=e
  subst e
  refine⟨_,fun Z E=>?_,F6 je⟩
  obtain⟨p1,p2,p3,p4⟩:=pe Z E.e
  rcases Ff (el:=el) (gs:=[⟨.Name z pz,it,ifs,0⟩]) (aE:=aE) (ep:=ep) (py:=py) (y:=y) (n:=pos.line) (env:=Z.env) with⟨w,l⟩|w
  ·exact @Dg _ _ _ _ _ _ _ _ _ _ _ _ _ j _ _ _ (E.e.n▸E.nd) (E.e.n▸h1) l p1 E.e.calm p2 p3 p4 w (lj ns)
  ·exact v9 E h1 h2 (@uX _ _ _ _ _ _ _ _ _ _ _ _ _ p1 E.e.calm p2 p3 p4 (lj ns)) w
 |.as g x,sc,N,st,h=>by
  have hh:=aF h;clear h;obtain⟨⟨tg,e,pos⟩,q,h⟩:=hh
  cases rg q
  obtain⟨h1,h2,h3,h4⟩:=gx h
  obtain⟨te,pe,je⟩:=sX x h4
  obtain⟨KH,pg,jg⟩:=sG g h3
  refine⟨_,fun Z E=>@Gf _ _ _ _ _ _ (pe Z E.e) (pg Z E) ?_ ?_ ?_,Uh je jg⟩
  ·exact(show swapsWith e (some tg) pos.line Z.env=pure false from rF (U6 h2))
  ·cases tg<;>first|exact absurd h1 aX|skip
   exact U7 h2
  ·cases tg<;>first|rfl|exact absurd h1 aX
 |.si k i x,sc,N,st,h=>by
  have hh:=aF h;clear h;obtain⟨⟨tg,e,pos⟩,q,h⟩:=hh
  cases rg q
  have hh:=aF h;clear h;obtain⟨⟨o,ie⟩,q,h⟩:=hh
  obtain⟨p,r⟩:=kl q
  have r:tg=_:=r
  subst r
  obtain⟨h1,h2,h3,h4,h5⟩:=pZ h
  obtain⟨ti,pi,ji⟩:=sX i h4
  obtain⟨te,pe,je⟩:=sX x h5
  refine⟨_,fun Z E=>@Gf _ _ _ _ _ _ (pe Z E.e) (@SM _ _ _ _ _ _ _ (sV h3 Z E.e) (pi Z E.e) set_list (UO h1)) ?_ ?_ rfl,OY je ji⟩
  ·exact(show swapsWith e (some (Expr.Subscript o ie p)) pos.line Z.env=pure false from rF h2)
  ·cases e<;>rfl
 |.dp k i x,sc,N,st,h=>by
  have hh:=aF h;clear h;obtain⟨⟨tg,e,pos⟩,q,h⟩:=hh
  cases rg q
  have hh:=aF h;clear h;obtain⟨⟨o,ie⟩,q,h⟩:=hh
  obtain⟨p,r⟩:=kl q
  have r:tg=_:=r
  subst r
  obtain⟨h2,h3,h4,h5⟩:=gx h
  obtain⟨ti,pi,ji⟩:=sX i h4
  obtain⟨te,pe,je⟩:=sX x h5
  exact⟨_,fun Z E=>E6 (mP E.e.rm) (sV h3 Z E.e) (pi Z E.e) (pe Z E.e) (rF h2),Rr je ji⟩
 |.ap k x,sc,N,st,h=>by
  have hh:=aF h;clear h;obtain⟨e,q,h⟩:=hh
  obtain⟨pos,rfl⟩:=vm q
  have hh:=aF h;clear h;obtain⟨⟨o,as⟩,q,h⟩:=hh
  obtain⟨ap,cp,rfl,h2,h3,h4⟩:=mV q
  have hh:=aF h;clear h;obtain⟨a,q1,h⟩:=hh
  cases jO q1
  obtain⟨h5,h6⟩:=di h
  obtain⟨te,pe,je⟩:=sX x h6
  exact⟨_,fun Z E=>@u6 _ _ _ _ (wG E.e.k (sV h5 Z E.e) (pe Z E.e) h2 h3 (all1 h4).1) rfl,Ub je⟩
 |.na k i x,sc,N,st,h=>by
  have hh:=aF h;clear h;obtain⟨e,q,h⟩:=hh
  obtain⟨pos,rfl⟩:=vm q
  have hh:=aF h;clear h;obtain⟨⟨o,as⟩,q,h⟩:=hh
  obtain⟨ap,cp,rfl,h2,h3,h4⟩:=mV q
  have hh:=aF h;clear h;obtain⟨a,q1,h⟩:=hh
  cases jO q1
  have hh:=aF h;clear h;obtain⟨⟨o',ie⟩,q,h⟩:=hh
  obtain⟨p,r⟩:=kl q
  have r:o=_:=r
  subst r
  obtain⟨h0,h5,h6,h7⟩:=gx h
  obtain⟨ti,pi,ji⟩:=sX i h6
  obtain⟨te,pe,je⟩:=sX x h7
  exact⟨_,fun Z E=>@u6 _ _ _ _ (wG E.e.k (@GZ _ _ _ _ _ _ _ (EX E.e.k) (sV h5 Z E.e) (pi Z E.e) (Hl h0)) (pe Z E.e) h2 h3 (all1 h4).1) rfl,Ry ji je⟩
 |.po i k,sc,N,st,h=>by
  have hh:=aF h;clear h;obtain⟨⟨y,e⟩,q,h⟩:=hh
  obtain⟨py,pos,rfl⟩:=vj q
  have hh:=aF h;clear h;obtain⟨⟨o,as⟩,q,h⟩:=hh
  obtain⟨ap,cp,r,h2,h3,h4⟩:=mV q
  have r:e=_:=r
  subst r
  obtain⟨h1,h5,h0,h6⟩:=gx h
  cases List.isEmpty_iff.mp h0
  exact⟨_,fun Z E=>v9 E (bC h1) h5 (KG E.e.k PySem.F.slot_list_pop PySem.F.type_list_pop Tp (sV h6 Z E.e) h2 h3) rfl,Uc⟩
 |.cl k,sc,N,st,h=>by
  have hh:=aF h;clear h;obtain⟨e,q,h⟩:=hh
  obtain⟨pos,rfl⟩:=vm q
  have hh:=aF h;clear h;obtain⟨⟨o,as⟩,q,h⟩:=hh
  obtain⟨ap,cp,rfl,h2,h3,h4⟩:=mV q
  obtain⟨h0,h6⟩:=di h
  cases List.isEmpty_iff.mp h0
  exact⟨_,fun Z E=>@u6 _ _ _ _ (KG E.e.k PySem.F.slot_list_clear PySem.F.type_list_clear Oy (sV h6 Z E.e) h2 h3) rfl,OZ⟩
 |.ne i it,sc,N,st,h=>by
  have hh:=aF h;clear h;obtain⟨⟨y,e⟩,q,h⟩:=hh
  obtain⟨py,pos,rfl⟩:=vj q
  have hh:=aF h;clear h;obtain⟨⟨el,z,pz,ie,ifs,aE,ep⟩,q,h⟩:=hh
  have r:e=_:=yQ q
  subst r
  obtain⟨h1,h2,q1,q2,h6,h7⟩:=w9 h
  obtain⟨h4,h5⟩:=di h7
  have h1:=bC h1
  obtain⟨lp,r⟩:=RN q2
  have r:el=_:=r
  subst r
  cases List.isEmpty_iff.mp q1
  have h6:=zp h6
  obtain⟨ti,pi,ji⟩:=sI it h5
  refine⟨_,fun Z E=>?_,Rx (ix:=[]) ji⟩
  have p1:mG Z.N (ns N z []) Z.env.scope aE z []:=by rw[E.e.n,E.e.sc];exact h6
  have p2:=pi Z (.Name z pz) E.e (fun z=>absurd z aX)
  rcases Ff (el:=.List [] lp) (gs:=[⟨.Name z pz,ie,[],0⟩]) (aE:=aE) (ep:=ep) (py:=py) (y:=y) (n:=pos.line) (env:=Z.env) with⟨w,l⟩|w
  ·exact @Dg _ _ _ _ _ _ _ _ _ _ _ _ _ i _ _ _ (E.e.n▸E.nd) (E.e.n▸h1) l p1 E.e.calm p2 (fun C s₂ H₂ fp pn=>uW) (fun C s₂ H₂ fp pn=>zg qT) w (lj h4)
  ·exact v9 E h1 h2 (@uX _ _ _ _ _ _ _ _ _ _ _ _ _ p1 E.e.calm p2 (fun C s₂ H₂ fp pn=>uW) (fun C s₂ H₂ fp pn=>zg qT) (lj h4)) w
 |.tp k i x,sc,N,st,h=>by
  have hh:=aF h;clear h;obtain⟨⟨tg,e,pos⟩,q,h⟩:=hh
  cases rg q
  have hh:=aF h;clear h;obtain⟨⟨o,ie⟩,q,h⟩:=hh
  obtain⟨p,r⟩:=kl q
  have r:tg=_:=r
  subst r
  obtain⟨h2,h3,h4,h5⟩:=gx h
  obtain⟨ti,pi,ji⟩:=sX i h4
  obtain⟨te,pe,je⟩:=sX x h5
  exact⟨_,fun Z E=>E6 (mP E.e.rm) (sV h3 Z E.e) (pi Z E.e) (pe Z E.e) (rF h2),RD je ji⟩
 |.tc k,sc,N,st,h=>by
  have hh:=aF h;clear h;obtain⟨e,q,h⟩:=hh
  obtain⟨pos,rfl⟩:=vm q
  have hh:=aF h;clear h;obtain⟨⟨o,as⟩,q,h⟩:=hh
  obtain⟨ap,cp,rfl,h2,h3,h4⟩:=mV q
  obtain⟨h0,h6⟩:=di h
  cases List.isEmpty_iff.mp h0
  exact⟨_,fun Z E=>@u6 _ _ _ _ (E.e.k▸@FW _ _ _ _ _ _ _ _ _ PySem.F.plainAttrs_dict PySem.F.slot_dict_clear PySem.F.type_dict_clear N6 (sV h6 Z E.e) (q8 h2) h3) rfl,N7⟩
 |.rO f sl l,sc,N,st,h=>by
  have hh:=aF h;clear h;obtain⟨o,q,h⟩:=hh
  obtain⟨pos,rfl⟩:=Gx q
  have hh:=aF h;clear h;obtain⟨e,rfl,h⟩:=hh
  obtain⟨n,ta,p1,p2,nc,p3⟩:=ZI h
  exact⟨_,fun Z E=>Ge (p1 Z E.e),Py p2 p3⟩
mutual
theorem sS:∀(s:S) {sc:Scope}{N:List Str}{st:Stmt},kS c lv s sc N st=true→∃ts,(∀Z,CS c lv K t va sc N Z→gb Z st ts)∧JS K ts (eS t s)
 |.l x,sc,N,st,h=>sL x (st:=st) h
 |.ie t' a b,sc,N,st,h=>by
  have hh:=aF h;clear h;obtain⟨⟨e,as,bs⟩,q,h⟩:=hh
  obtain⟨p,rfl⟩:=U4 q
  obtain⟨h1,h2,h3⟩:=gw h
  obtain⟨tq,pq,jq⟩:=sT t' h1
  obtain⟨ta,pa,ja⟩:=sB a h2
  obtain⟨tb,pb,jb⟩:=sB b h3
  exact⟨_,fun Z E=>Wg (pq Z E.e) (pa Z E) (pb Z E),V6 jq ja jb⟩
 |.fo i g b,sc,N,st,h=>by
  have hh:=aF h;clear h;obtain⟨⟨tg,it,body⟩,q,h⟩:=hh
  obtain⟨p,rfl⟩:=Gy q
  obtain⟨h1,h2,h3,h4⟩:=gx h
  obtain⟨ti,pi,ji⟩:=sI i h1
  obtain⟨KH,pg,jg⟩:=sG g h3
  obtain⟨tb,pb,jb⟩:=sB b h4
  exact⟨_,fun Z E=>@Gg _ _ _ _ _ _ _ _ E.po E.e.calm (pi Z tg E.e id) (pg Z E) (pb Z E) (lj h2),Ui ji jg jb⟩
 |.fv k g b,sc,N,st,h=>by
  have hh:=aF h;clear h;obtain⟨⟨tg,it,body⟩,q,h⟩:=hh
  obtain⟨p,rfl⟩:=Gy q
  have hh:=aF h;clear h;obtain⟨⟨o,as⟩,q,h⟩:=hh
  obtain⟨ap,cp,r,h2,h3,_⟩:=mV q
  have r:it=_:=r
  subst r
  obtain⟨h0,h5,h6,h7⟩:=gx h
  cases List.isEmpty_iff.mp h0
  obtain⟨KH,pg,jg⟩:=sG g h6
  obtain⟨tb,pb,jb⟩:=sB b h7
  exact⟨_,fun Z E=>Rz (@Gg _ _ _ _ _ _ _ _ E.po E.e.calm (@N3 _ _ _ _ _ _ (sV h5 Z E.e) (q8 h2) h3) (pg Z E) (pb Z E) (lj rfl)),RA (i:=k) jg jb⟩
 |.wh t' b,sc,N,st,h=>by
  have hh:=aF h;clear h;obtain⟨⟨e,body⟩,q,h⟩:=hh
  obtain⟨p,rfl⟩:=U5 q
  obtain⟨h1,h2⟩:=di h
  obtain⟨tq,pq,jq⟩:=sT t' h1
  obtain⟨tb,pb,jb⟩:=sB b h2
  exact⟨_,fun Z E=>Pt E.po (pq Z E.e) (pb Z E),O7 jq jb⟩
 |.fz k s,sc,N,st,h=>by
  obtain⟨ts,ps,js⟩:=sS s (st:=st) h
  exact⟨_,ps,Ud js⟩
theorem sB:∀(b:B) {sc:Scope}{N:List Str}{ss:List Stmt},kB c lv b sc N ss=true→∃ts,(∀Z,CS c lv K t va sc N Z→kH Z ss ts)∧JS K ts (eB t b)
 |.n,_,_,ss,h=>by
  cases List.isEmpty_iff.mp h
  exact⟨_,fun _ _=>Rn,QM⟩
 |.o s,_,_,ss,h=>by
  have hh:=aF h;clear h;obtain⟨st,q,h⟩:=hh
  cases jO q
  obtain⟨ts,ps,js⟩:=sS s h
  exact⟨_,fun Z E=>Ro (ps Z E),js⟩
 |.c s b,_,_,ss,h=>by
  have hh:=aF h;clear h;obtain⟨⟨st,r⟩,q,h⟩:=hh
  cases mI q
  obtain⟨h1,h2⟩:=di h
  obtain⟨ts,ps,js⟩:=sS s h1
  obtain⟨tb,pb,jb⟩:=sB b h2
  exact⟨_,fun Z E=>Pr (ps Z E) (pb Z E),T8 js jb⟩
end
end
end C
namespace C
open PySem PySem.Spec L2 J My
def iC(P:Program)(w:World)(K:PySem.W.Frag)(mg:Str→Option Value)(base:Heap)(fs:List Fi)(t:List FT):Prop :=
 ∀(i:Nat) fi,fs[i]?=some fi→∃F,t[i]?=some F∧nM P w K mg base fi F
noncomputable def kF(c:Cf)(lv:Nat)(N ps:List Str)(st:Stmt)(b:B):Bool :=
 decide ((cy st).kind=.function∧(cy st).isCoroutine=false∧(cy st).isGenerator=false∧N.Nodup∧N.take ps.length=ps ∧
  (∀x∈ps,(cy st).names.lookup x=some .local∨(cy st).names.lookup x=some .cell)∧(∀y∈(cy st).names,y.2≠.free))&&kB c lv b (cy st) N (fG st)
section
variable {P:Program}{w:World}{K:PySem.W.Frag}{mg:Str→Option Value}{base:Heap}{t:List FT}{va:List V}
theorem iC.nil:iC P w K mg base [] t:=fun i fi h=>by simp at h
theorem iC.cons{fs:List Fi}{f:Fi}{F:FT}(h:iC P w K mg base fs t)(q:nM P w K mg base f F):iC P w K mg base (f::fs) (F::t)
 |0,fi,e=>by cases e;exact⟨F,rfl,q⟩
 |i+1,fi,e=>h i fi e
theorem ctx{bs:List String}{gs:List (Str×Gv)}{fs:List Fi}{lv:Nat}{N ps:List Str}{st:Stmt}{b:B}{qual:Str}{f:Addr}{cd:Value}{A:Around}{outer:List Env}{s:Shared}{H:Hp}{E:XK}(h:iC P w K mg base fs t)(hb:∀x∈bs,mg (Str.ofString x)=none)(hg:GV K mg va gs)(k:kF ⟨bs,gs,fs⟩ lv N ps st b=true)
  (hr:eC lv (A.deeper (PyProof.Rows.envOfC qual (cy st) s.heap.objs.size f cd))):CS ⟨bs,gs,fs⟩ lv K t va (cy st) N ((lG kY P w K mg base N qual (cy st) f cd A outer s H E).nr):=by
 obtain⟨k1,k2⟩:=di k
 obtain⟨h1,h2,h3,h4,h5,h6,h7⟩:=bC k1
 exact⟨⟨rfl,rfl,rfl,rfl,hr,hb,hg,h⟩,h4,fun _=>rfl,PassesOwn.never,h1⟩
theorem AA{c:Cf}{lv:Nat}{N ps:List Str}{st:Stmt}{b:B}(k:kF c lv N ps st b=true):qJ N ps (cy st):=by
 obtain⟨h1,h2,h3,h4,h5,h6,h7⟩:=bC (di k).1
 exact⟨h1,h2,h3,h4,h5,h6,h7⟩
theorem Wu{bs:List String}{gs:List (Str×Gv)}{fs:List Fi}{lv:Nat}{N ps:List Str}{x:Str}{st:Stmt}{b:B}{f:Addr}{fd:FuncData}(h:iC P w K mg base fs t)(hb:∀x∈bs,mg (Str.ofString x)=none)(hg:GV K mg va gs)(Df:Df K mg x st ps f fd)(k:kF ⟨bs,gs,fs⟩ lv N ps st b=true) :
  nM P w K mg base ⟨x,ps.length,lv+1,none⟩ (.p (fn N.length (eB t b))):=by
 refine⟨rfl,f,fd,ps,?_,Df.mg,Df.fn.kp,Df.bd⟩
 refine Df.fn.ok (AA k) (fun vs H Q E h=>h.1) (fun bW A outer s H vs Q E hr q=>?_)
 obtain⟨ts,p1,p2⟩:=sB (t:=t) (va:=va) (K:=K) b (di k).2
 exact⟨ts,(p1 _ (ctx h hb hg k hr)).go,E2 p2 q⟩
theorem Wv{bs:List String}{gs:List (Str×Gv)}{fs:List Fi}{lv:Nat}{N ps:List Str}{x:Str}{st:Stmt}{b:B}{f:Addr}{fd:FuncData}(h:iC P w K mg base fs t)(hb:∀x∈bs,mg (Str.ofString x)=none)(hg:GV K mg va gs)(Df:Df K mg x st ps f fd)(k:kF ⟨bs,gs,fs⟩ lv N ps st b=true) :
  nM P w K mg base ⟨x,ps.length,lv+1,some []⟩ (.oo (jX N.length (eB t b))):=by
 refine⟨rfl,f,fd,ps,?_,Df.mg,Df.fn.kp,Df.bd⟩
 refine Df.fn.ok (AA k) (fun vs H Q E h=>h.1) (fun bW A outer s H vs Q E hr q=>?_)
 obtain⟨ts,p1,p2⟩:=sB (t:=t) (va:=va) (K:=K) b (di k).2
 exact⟨ts,(p1 _ (ctx h hb hg k hr)).go,N9 p2 q⟩
end
structure Dd where
 nm:Str
 st:Stmt
 ps:List Str
 N:List Str
 lv:Nat
 io:Option (List Nat)
 b:B
noncomputable def rY(t:List FT)(d:Dd):FT:=match d.io with
 |none=>.p (fn d.N.length (eB t d.b))
 |some _=>.oo (jX d.N.length (eB t d.b))
noncomputable def AF(d:Dd):Fi:=⟨d.nm,d.ps.length,d.lv+1,d.io.map fun _=>[]⟩
noncomputable def tab:List Dd→List FT
 |[]=>[]
 |d::ds=>rY (tab ds) d::tab ds
noncomputable def vK(bs:List String)(gs:List (Str×Gv)):List Dd→Bool
 |[]=>true
 |d::ds=>kF ⟨bs,gs,ds.map AF⟩ d.lv d.N d.ps d.st d.b&&vK bs gs ds
def BA(d:Str)(s:Stmt)(ps:List Str):Prop:=∀(kV doc pm:Value) (an:Option Addr) (bW ct:Value) (us:List Value),us.length=ps.length→bindArgs (PySem.W.fnOf d d (gf s) (fG s) (cy s) .none kV doc pm an bW ct) ⟨us,[]⟩=pure (ps.zip us)
theorem dY{d:Str}{s:Stmt}{p0:Str}(h:∀k o p n c t u0,bindArgs (PySem.W.fnOf d d (gf s) (fG s) (cy s) .none k o p n c t) ⟨[u0],[]⟩=pure (List.zip [p0] [u0])):BA d s [p0]:=by
 intro _ _ _ _ _ _ us hl
 obtain _|⟨_,us⟩:=us
 ·cases hl
 obtain _|_:=us
 ·exact h _ _ _ _ _ _ _
 ·simp at hl
theorem eQ{d:Str}{s:Stmt}{p0 p1:Str}(h:∀k o p n c t u0 u1,bindArgs (PySem.W.fnOf d d (gf s) (fG s) (cy s) .none k o p n c t) ⟨[u0,u1],[]⟩=pure (List.zip [p0,p1] [u0,u1])):BA d s [p0,p1]:=by
 intro _ _ _ _ _ _ us hl
 obtain _|⟨_,us⟩:=us
 ·cases hl
 obtain _|⟨_,us⟩:=us
 ·cases hl
 obtain _|_:=us
 ·exact h _ _ _ _ _ _ _ _
 ·simp at hl
theorem ZJ{d:Str}{s:Stmt}{p0 p1 p2:Str}(h:∀k o p n c t u0 u1 u2,bindArgs (PySem.W.fnOf d d (gf s) (fG s) (cy s) .none k o p n c t) ⟨[u0,u1,u2],[]⟩=pure (List.zip [p0,p1,p2] [u0,u1,u2])):BA d s [p0,p1,p2]:=by
 intro _ _ _ _ _ _ us hl
 obtain _|⟨_,us⟩:=us
 ·cases hl
 obtain _|⟨_,us⟩:=us
 ·cases hl
 obtain _|⟨_,us⟩:=us
 ·cases hl
 obtain _|_:=us
 ·exact h _ _ _ _ _ _ _ _ _
 ·simp at hl
theorem ZK{d:Str}{s:Stmt}{p0 p1 p2 p3:Str}(h:∀k o p n c t u0 u1 u2 u3,bindArgs (PySem.W.fnOf d d (gf s) (fG s) (cy s) .none k o p n c t) ⟨[u0,u1,u2,u3],[]⟩=pure (List.zip [p0,p1,p2,p3] [u0,u1,u2,u3])):BA d s [p0,p1,p2,p3]:=by
 intro _ _ _ _ _ _ us hl
 obtain _|⟨_,us⟩:=us
 ·cases hl
 obtain _|⟨_,us⟩:=us
 ·cases hl
 obtain _|⟨_,us⟩:=us
 ·cases hl
 obtain _|⟨_,us⟩:=us
 ·cases hl
 obtain _|_:=us
 ·exact h _ _ _ _ _ _ _ _ _ _
 ·simp at hl
theorem ZL{d:Str}{s:Stmt}{p0 p1 p2 p3 p4:Str}(h:∀k o p n c t u0 u1 u2 u3 u4,bindArgs (PySem.W.fnOf d d (gf s) (fG s) (cy s) .none k o p n c t) ⟨[u0,u1,u2,u3,u4],[]⟩=pure (List.zip [p0,p1,p2,p3,p4] [u0,u1,u2,u3,u4])):BA d s [p0,p1,p2,p3,p4]:=by
 intro _ _ _ _ _ _ us hl
 obtain _|⟨_,us⟩:=us
 ·cases hl
 obtain _|⟨_,us⟩:=us
 ·cases hl
 obtain _|⟨_,us⟩:=us
 ·cases hl
 obtain _|⟨_,us⟩:=us
 ·cases hl
 obtain _|⟨_,us⟩:=us
 ·cases hl
 obtain _|_:=us
 ·exact h _ _ _ _ _ _ _ _ _ _ _
 ·simp at hl
theorem ZM{d:Str}{s:Stmt}{p0 p1 p2 p3 p4 p5:Str}(h:∀k o p n c t u0 u1 u2 u3 u4 u5,bindArgs (PySem.W.fnOf d d (gf s) (fG s) (cy s) .none k o p n c t) ⟨[u0,u1,u2,u3,u4,u5],[]⟩=pure (List.zip [p0,p1,p2,p3,p4,p5] [u0,u1,u2,u3,u4,u5])):BA d s [p0,p1,p2,p3,p4,p5]:=by
 intro _ _ _ _ _ _ us hl
 obtain _|⟨_,us⟩:=us
 ·cases hl
 obtain _|⟨_,us⟩:=us
 ·cases hl
 obtain _|⟨_,us⟩:=us
 ·cases hl
 obtain _|⟨_,us⟩:=us
 ·cases hl
 obtain _|⟨_,us⟩:=us
 ·cases hl
 obtain _|⟨_,us⟩:=us
 ·cases hl
 obtain _|_:=us
 ·exact h _ _ _ _ _ _ _ _ _ _ _ _
 ·simp at hl
noncomputable def xg:List Dd→Prop
 |[]=>True
 |d::ds=>BA d.nm d.st d.ps∧xg ds
def DE(K:PySem.W.Frag)(d:Str)(s:Stmt):Prop:=∃(f:Addr) (oc:Value) (od:Option Addr) (kV dc pm:Value) (an:Option Addr) (cd ct:Value) (sl:Array (Option Value)),
 PySem.W.nsIn K mainGlobals d=some (some (.ref f))∧K.lookup f=some ⟨oc,od,.func (PySem.W.fnOf d d (gf s) (fG s) (cy s) .none kV dc pm an cd ct),sl⟩∧PySem.W.codeIn K cd d=true∧PySem.W.keepIn K (.ref f)=true
theorem X9{K:PySem.W.Frag}{d:Str}{s:Stmt}{f:Addr}{oc:Value}{od:Option Addr}{kV dc pm:Value}{an:Option Addr}{cd ct:Value}{sl:Array (Option Value)}(a:PySem.W.nsIn K mainGlobals d=some (some (.ref f)))(l:K.lookup f=some ⟨oc,od,.func (PySem.W.fnOf d d (gf s) (fG s) (cy s) .none kV dc pm an cd ct),sl⟩)(c:PySem.W.codeIn K cd d=true)(k:PySem.W.keepIn K (.ref f)=true):DE K d s :=
 ⟨f,oc,od,kV,dc,pm,an,cd,ct,sl,a,l,c,k⟩
noncomputable def xh(K:PySem.W.Frag):List Dd→Prop
 |[]=>True
 |d::ds=>DE K d.nm d.st∧xh K ds
noncomputable def xi(K:PySem.W.Frag):List String→Prop
 |[]=>True
 |b::bs=>PySem.W.nsIn K mainGlobals (Str.ofString b)=some none∧xi K bs
noncomputable def GE(K:PySem.W.Frag)(x:Str):Gv→Prop
 |.s y=>∃tk,PySem.W.nsIn K mainGlobals x=some (some (.str y tk))
 |.t l=>∃(a:Addr) (od:Option Addr) (it:Array Value) (n:Nat) (sl:Array (Option Value)),PySem.W.nsIn K mainGlobals x=some (some (.ref a))∧K.lookup a=some ⟨.type "tuple",od,.seq it n,sl⟩∧it.toList.map oW=l.map (fun y=>some (V.str y))∧4≤l.length∧l.length≤1000
noncomputable def xj(K:PySem.W.Frag):List (Str×Gv)→Prop
 |[]=>True
 |g::gs=>GE K g.1 g.2∧xj K gs
section
variable {P:Program}{w:World}{K:PySem.W.Frag}{mg:Str→Option Value}{base:Heap}
theorem Gz{h:Heap}(X:K.In h)(G:h.Ns mainGlobals mg):∀{bs:List String},xi K bs→∀x∈bs,mg (Str.ofString x)=none
 |[],_,_,m=>nomatch m
 |b::bs,q,x,m=>by
  rcases List.mem_cons.mp m with rfl|m
  ·exact PySem.W.mg_none_of X G q.1
  ·exact Gz X G q.2 x m
theorem Hn{h:Heap}(X:K.In h)(G:h.Ns mainGlobals mg):∀{gs:List (Str×Gv)},xj K gs→∃va,GV K mg va gs
  |[],_=>⟨[],fun i g e=>by simp at e⟩
  | (x,g)::gs,q=>by
    obtain⟨va,r⟩:=Hn X G q.2
    have one:∃v u,mg x=some u∧RelV v u∧JT K (tC v) (jC g.d):=by
      cases g with
      |s y =>
        obtain⟨tk,e⟩:=q.1
        exact⟨.str y,_,PySem.W.mg_of X G e,⟨_,rfl⟩,pj rfl⟩
      |t l =>
        obtain⟨a,od,it,n,sl,e,lk,m,hl⟩:=q.1
        exact⟨.ref a,_,PySem.W.mg_of X G e,rfl,UD (Rm lk m hl) fun _ _=>Dc l⟩
    obtain⟨v,u,h1,h2,h3⟩:=one
    refine⟨v::va,fun i g' e=>?_⟩
    cases i with
    |zero=>cases e;exact⟨v,u,rfl,h1,h2,h3⟩
    |succ i=>exact r i g' e
theorem Ww{h:Heap}{d:Str}{s:Stmt}{ps:List Str}(X:K.In h)(G:h.Ns mainGlobals mg)(e:DE K d s)(b:BA d s ps):∃f fd,Df K mg d s ps f fd:=by
 obtain⟨f,oc,od,kV,dc,pm,an,cd,ct,sl,q1,q2,q3,q4⟩:=e
 exact⟨f,_,PySem.W.mg_of X G q1,zi q2 q3 q4,(zi q2 q3 q4).binds b⟩
theorem Ho{h:Heap}{bs:List String}{gs:List (Str×Gv)}{va:List V}(X:K.In h)(G:h.Ns mainGlobals mg)(hb:∀x∈bs,mg (Str.ofString x)=none)(hg:GV K mg va gs):∀{ds:List Dd},xh K ds→xg ds→vK bs gs ds=true→iC P w K mg base (ds.map AF) (tab ds)
 |[],_,_,_=>iC.nil
 |d::ds,q,b,k=>by
  obtain⟨k1,k2⟩:=di k
  have r:=Ho X G hb hg q.2 b.2 k2
  obtain⟨f,fd,D⟩:=Ww X G q.1 b.1
  refine iC.cons r ?_
  obtain⟨nm,st,ps,N,lv,io,bd⟩:=d
  cases io with
  |none=>exact Wu r hb hg D k1
  |some io=>exact Wv r hb hg D k1
theorem bK{d:Dd}{ds:List Dd}{t:List FT}{g:Ev→Option Fl}{F:List D→Option (M×D)}(e:tab ds=t)(h:d.io=none)(q:eB t d.b=g)(r:fn d.N.length g=F):tab (d::ds)=.p F::t:=by
 subst e q r
 show rY (tab ds) d::tab ds=_
 unfold rY
 rw[h]
theorem zv{d:Dd}{ds:List Dd}{t:List FT}{g:Ev→Option Fl}{F:List D→Option D}(e:tab ds=t)(h:d.io=some [])(q:eB t d.b=g)(r:jX d.N.length g=F):tab (d::ds)=.oo F::t:=by
 subst e q r
 show rY (tab ds) d::tab ds=_
 unfold rY
 rw[h]
theorem Wx {h:Heap}{bs:List String}{gs:List (Str×Gv)}{ds:List Dd}{st:Stmt}{N:List Str}{lv:Nat}{b:B}{t:List FT}{F:List D→Option (M×D)}{x:Str}{fa:Addr} (X:K.In h) (G:h.Ns mainGlobals mg) (BZ:mg "law" = some (.ref fa)) (hb:xi K bs) (hg:xj K gs) (q:xh K (⟨"law",st,[x],N,lv,none,b⟩::ds)) (ba:xg (⟨"law",st,[x],N,lv,none,b⟩::ds)) (k:vK bs gs (⟨"law",st,[x],N,lv,none,b⟩::ds)=true)
  (e:tab (⟨"law",st,[x],N,lv,none,b⟩::ds)=.p F::t) (hs:∀(kV doc pm:Value) (an:Option Addr) (bW ct:Value) (s:Shared) (v:Value),BindsTo s (PySem.W.fnOf "law" "law" (gf st) (fG st) (cy st) .none kV doc pm an bW ct) ⟨[v],[]⟩ [(x,v)]) :
  ∃fd:FuncData,(∀(s:Shared) (v:Value),BindsTo s fd ⟨[v],[]⟩ [(x,v)])∧∀base:Heap,K.In base→base.Ns mainGlobals mg→ky P w K mg base kY (lv+1) fa fd [x] (nF K 1 F):=by
 obtain⟨k1,k2⟩:=di k
 have hb:=Gz X G hb
 obtain⟨va,hg⟩:=Hn X G hg
 obtain⟨⟨f,oc,od,kV,dc,pm,an,cd,ct,sl,q1,q2,q3,q4⟩,qs⟩:=q
 have ef:=BZ.symm.trans (PySem.W.mg_of X G q1)
 cases ef
 refine⟨_,fun s v=>hs kV dc pm an cd ct s v,fun base _ _=>?_⟩
 have r:iC P w K mg base (ds.map AF) (tab ds):=Ho X G hb hg qs ba.2 k2
 have ht:fn N.length (eB (tab ds) b)=F:=by
  have e:FT.p (fn N.length (eB (tab ds) b))::tab ds=.p F::t:=e
  cases e;rfl
 have fk:=zi (x := "law") (qual := "law") (st:=st) q2 q3 q4
 refine fk.ok (AA k1) (fun vs H Q E h=>h.1) (fun bW A outer s H vs Q E hr q=>?_)
 obtain⟨ts,p1,p2⟩:=sB (t:=tab ds) (va:=va) (K:=K) b (di k1).2
 rw[←ht]at q
 exact⟨ts,(p1 _ (ctx r hb hg k1 hr)).go,E2 p2 q⟩
end
end C
namespace aN
open PySem PySem.Spec L2 My J
noncomputable def top(i:Nat):PySem.Stmt:=PySem.Challenge.pw_lazyhoist_k40_first_places.main.body.getD i (.Pass ⟨0,0,0,0⟩)
noncomputable def bs:List String:=["bool", "dict", "enumerate", "int", "isinstance", "len", "list", "max", "range", "sum"]
noncomputable def gs:List (Str×C.Gv):=[]
noncomputable def t0:List C.FT:=[]
noncomputable def KJ:List C.Dd:=[]
theorem e0:C.tab KJ=t0:=rfl
noncomputable def Cu:Ev→Option Fl :=
 (aj (aP (jB (ag aM (ag ak (jV 0) (jC (.int 0))) (jC (.str "reckon"))))
  (aH (aQ (ae (ag ak (jV 0) (jC (.int 2))) (ae (ag ak (jV 0) (jC (.int 3))) (ae (ag ak (jV 0) (jC (.int 4))) ah)))))
  aU)
 (aH (jC .non)))
noncomputable def nX:List D→Option (M×D):=fn 1 Cu
noncomputable def d1:C.Dd:=⟨"reckoning_of",top 1,["row"],["row"],0,none,(.c (.ie (.c .eq (.ix (.v 0) (.ki 0)) (.ks "reckon")) (.o (.l (.rt (.tu (.c (.ix (.v 0) (.ki 2)) (.c (.ix (.v 0) (.ki 3)) (.c (.ix (.v 0) (.ki 4)) .n))))))) .n) (.o (.l (.rt .kn))))⟩
noncomputable def KL:List C.Dd:=d1::KJ
noncomputable def t1:List C.FT:=.p nX::t0
theorem e1:C.tab KL=t1:=C.bK e0 rfl rfl rfl
noncomputable def U8:Ev→Option Fl :=
 (aj (aP (cX (jB (ag aM (ag ak (jV 0) (jC (.int 0))) (jC (.str "reckon")))) (jB (ag aM (ag ak (jV 0) (jC (.int 0))) (jC (.str "copy")))))
  (aH (ag ak (jV 0) (jC (.int 1))))
  aU)
 (aH (jC .non)))
noncomputable def vn:List D→Option (M×D):=fn 1 U8
noncomputable def d2:C.Dd:=⟨"sets",top 2,["row"],["row"],0,none,(.c (.ie (.or (.c .eq (.ix (.v 0) (.ki 0)) (.ks "reckon")) (.c .eq (.ix (.v 0) (.ki 0)) (.ks "copy"))) (.o (.l (.rt (.ix (.v 0) (.ki 1))))) .n) (.o (.l (.rt .kn))))⟩
noncomputable def KN:List C.Dd:=d2::KL
noncomputable def t2:List C.FT:=.p vn::t1
theorem e2:C.tab KN=t2:=C.bK e1 rfl rfl rfl
noncomputable def DM:Ev→Option Fl :=
 (aj (aq 2 (au vn (ae (jV 0) ah)))
 (aH (lJ (ag rB (jV 2) (jC .non)) (sE (ag aM (jV 2) (ag ak (jV 1) (jC (.int 1)))) (ag aM (jV 2) (ag ak (jV 1) (jC (.int 2))))))))
noncomputable def qw:List D→Option (M×D):=fn 3 DM
noncomputable def d3:C.Dd:=⟨"changes",top 3,["row", "reckoning"],["row", "reckoning", "name"],1,none,(.c (.l (.st 2 (.ca 0 (.c (.v 0) .n)))) (.o (.l (.rt (.an (.co .sY (.v 2) .kn) (.or (.co .eq (.v 2) (.ix (.v 1) (.ki 1))) (.co .eq (.v 2) (.ix (.v 1) (.ki 2)))))))))⟩
noncomputable def KP:List C.Dd:=d3::KN
noncomputable def t3:List C.FT:=.p qw::t2
theorem e3:C.tab KP=t3:=C.bK e2 rfl rfl rfl
noncomputable def CV:Ev→Option Fl :=
 (aj (aq 2 (ag ak (jV 0) (jV 1)))
 (aj (aP (jB (ag aM (ag ak (jV 2) (jC (.int 0))) (jC (.str "end"))))
  (aH (bN ah))
  aU)
 (aj (aP (jB (ag aM (ag ak (jV 2) (jC (.int 0))) (jC (.str "go"))))
  (aH (bN (ae (ag ak (jV 2) (jC (.int 1))) ah)))
  aU)
 (aj (aP (jB (ag aM (ag ak (jV 2) (jC (.int 0))) (jC (.str "part"))))
  (aH (bN (ae (ag bO (jV 1) (jC (.int 1))) (ae (ag ak (jV 2) (jC (.int 2))) ah))))
  aU)
 (aH (bN (ae (ag bO (jV 1) (jC (.int 1))) ah)))))))
noncomputable def n6:List D→Option (M×D):=fn 3 CV
noncomputable def d4:C.Dd:=⟨"followers",top 5,["program", "n"],["program", "n", "row"],0,none,(.c (.l (.st 2 (.ix (.v 0) (.v 1)))) (.c (.ie (.c .eq (.ix (.v 2) (.ki 0)) (.ks "end")) (.o (.l (.rt (.li .n)))) .n) (.c (.ie (.c .eq (.ix (.v 2) (.ki 0)) (.ks "go")) (.o (.l (.rt (.li (.c (.ix (.v 2) (.ki 1)) .n))))) .n) (.c (.ie (.c .eq (.ix (.v 2) (.ki 0)) (.ks "part")) (.o (.l (.rt (.li (.c (.bo .add (.v 1) (.ki 1)) (.c (.ix (.v 2) (.ki 2)) .n)))))) .n) (.o (.l (.rt (.li (.c (.bo .add (.v 1) (.ki 1)) .n)))))))))⟩
noncomputable def KQ:List C.Dd:=d4::KP
noncomputable def t4:List C.FT:=.p n6::t3
theorem e4:C.tab KQ=t4:=C.bK e3 rfl rfl rfl
noncomputable def Cm:Ev→Option Fl :=
 (aH (cF (bY (ae (aO bH (ae (jV 0) ah)) ah)) [0] eE (au n6 (ae (jV 1) (ae (jV 0) ah)))))
noncomputable def nU:List D→Option (M×D):=fn 1 Cm
noncomputable def d5:C.Dd:=⟨"all_followers",top 6,["program"],["program"],1,none,(.o (.l (.rt (.cp (.r1 (.c (.fb .len (.c (.v 0) .n)) .n)) [0] .y (.ca 0 (.c (.v 1) (.c (.v 0) .n)))))))⟩
noncomputable def KR:List C.Dd:=d5::KQ
noncomputable def t5:List C.FT:=.p nU::t4
theorem e5:C.tab KR=t5:=C.bK e4 rfl rfl rfl
noncomputable def ql:Ev→Option Fl :=
 (cI 1 (aQ (ae (jV 2) (ae (jV 4) ah))))
noncomputable def yh:Ev→Option Fl :=
 (cU 3 (aT (bF (jV 3)) (gN 4)
  ql))
noncomputable def Eg:Ev→Option Fl :=
 (aj (aq 1 (bN (ae (aQ (ae (bt dN (jC (.int 1))) (ae (jC (.int 0)) ah))) ah)))
 (aj (aT (fQ (ae (au nU (ae (jV 0) ah)) ah)) (gT 2 (bG (gN 2) (bG (gN 3) dH)))
  yh)
 (aH (jV 1))))
noncomputable def ot:List D→Option (M×D):=fn 5 Eg
noncomputable def d6:C.Dd:=⟨"places",top 7,["program"],["program", "told", "n", "targets", "m"],2,none,(.c (.l (.st 1 (.li (.c (.tu (.c (.uo .neg (.ki 1)) (.c (.ki 0) .n))) .n)))) (.c (.fo (.en (.c (.ca 0 (.c (.v 0) .n)) .n)) (.t 2 (.c (.n 2) (.c (.n 3) .n))) (.o (.fz 3 (.fo (.l (.v 3)) (.n 4) (.o (.l (.ap 1 (.tu (.c (.v 2) (.c (.v 4) .n)))))))))) (.o (.l (.rt (.v 1))))))⟩
noncomputable def KS:List C.Dd:=d6::KR
noncomputable def t6:List C.FT:=.p ot::t5
theorem e6:C.tab KS=t6:=C.bK e5 rfl rfl rfl
noncomputable def ub:Ev→Option Fl :=
 (aj (aq 3 (au nX (ae (jV 2) ah)))
 (aP (jB (ag rB (jV 3) (jC .non)))
  (fY 1 (jV 3) (jC (.bl true)))
  aU))
noncomputable def CJ:Ev→Option Fl :=
 (aj (aq 1 lB)
 (aj (cU 0 (aT (bF (jV 0)) (gN 2)
  ub))
 (aH (aO qZ (ae (jV 1) ah)))))
noncomputable def nZ:List D→Option (M×D):=fn 4 CJ
noncomputable def d7:C.Dd:=⟨"reckonings",top 8,["program"],["program", "told", "row", "reckoning"],1,none,(.c (.l (.st 1 .dT)) (.c (.fz 0 (.fo (.l (.v 0)) (.n 2) (.c (.l (.st 3 (.ca 5 (.c (.v 2) .n)))) (.o (.ie (.c .sY (.v 3) .kn) (.o (.l (.tp 1 (.v 3) (.kb true)))) .n))))) (.o (.l (.rt (.fb .vI (.c (.v 1) .n)))))))⟩
noncomputable def KW:List C.Dd:=d7::KS
noncomputable def t7:List C.FT:=.p nZ::t6
theorem e7:C.tab KW=t7:=C.bK e6 rfl rfl rfl
noncomputable def qm:Ev→Option Fl :=
 (vG 1 (jV 4) (jV 2))
noncomputable def yi:Ev→Option Fl :=
 (cU 3 (aT (bF (jV 3)) (gN 4)
  qm))
noncomputable def Eh:Ev→Option Fl :=
 (aj (vF 1 (bY (ae (aO bH (ae (jV 0) ah)) ah)))
 (aj (cU 0 (aT (fQ (ae (jV 0) ah)) (gT 2 (bG (gN 2) (bG (gN 3) dH)))
  yi))
 (aH (jV 1))))
noncomputable def uR:List D→Option (M×D):=fn 5 Eh
noncomputable def d8:C.Dd:=⟨"turned",top 9,["steps"],["steps", "back", "n", "targets", "m"],0,none,(.c (.l (.ne 1 (.r1 (.c (.fb .len (.c (.v 0) .n)) .n)))) (.c (.fz 0 (.fo (.en (.c (.v 0) .n)) (.t 2 (.c (.n 2) (.c (.n 3) .n))) (.o (.fz 3 (.fo (.l (.v 3)) (.n 4) (.o (.l (.na 1 (.v 4) (.v 2))))))))) (.o (.l (.rt (.v 1))))))⟩
noncomputable def KY:List C.Dd:=d8::KW
noncomputable def t8:List C.FT:=.p uR::t7
theorem e8:C.tab KY=t8:=C.bK e7 rfl rfl rfl
noncomputable def uB:Ev→Option Fl :=
 (aP (jB (jV 3))
  (aq 1 (ag jS (jV 1) (ag mZ (jC (.int 1)) (jV 2))))
  aU)
noncomputable def DN:Ev→Option Fl :=
 (aj (aq 1 (jC (.int 0)))
 (aj (cU 0 (aT (fQ (ae (jV 0) ah)) (gT 2 (bG (gN 2) (bG (gN 3) dH)))
  uB))
 (aH (jV 1))))
noncomputable def qx:List D→Option (M×D):=fn 4 DN
noncomputable def d9:C.Dd:=⟨"bits_of",top 11,["truths"],["truths", "bits", "k", "there"],0,none,(.c (.l (.st 1 (.ki 0))) (.c (.fz 0 (.fo (.en (.c (.v 0) .n)) (.t 2 (.c (.n 2) (.c (.n 3) .n))) (.o (.ie (.b (.v 3)) (.o (.l (.st 1 (.bo .bor (.v 1) (.bo .shl (.ki 1) (.v 2)))))) .n)))) (.o (.l (.rt (.v 1))))))⟩
noncomputable def KZ:List C.Dd:=d9::KY
noncomputable def t9:List C.FT:=.p qx::t8
theorem e9:C.tab KZ=t9:=C.bK e8 rfl rfl rfl
noncomputable def CW:Ev→Option Fl :=
 (aH (au qx (ae (cF (bF (au nZ (ae (jV 0) ah))) [] eE (jC (.bl true))) ah)))
noncomputable def jD:List D→Option (M×D):=fn 1 CW
noncomputable def xk:C.Dd:=⟨"every_bit",top 12,["program"],["program"],2,none,(.o (.l (.rt (.ca 0 (.c (.cp (.l (.ca 2 (.c (.v 0) .n))) [] .y (.kb true)) .n)))))⟩
noncomputable def Io:List C.Dd:=xk::KZ
noncomputable def K0:List C.FT:=.p jD::t9
theorem ZN:C.tab Io=K0:=C.bK e9 rfl rfl rfl
noncomputable def tM:Ev→Option Fl :=
 (fY 1 (jV 3) (ag mZ (jC (.int 1)) (jV 2)))
noncomputable def Cp:Ev→Option Fl :=
 (aj (aq 1 lB)
 (aj (aT (fQ (ae (au nZ (ae (jV 0) ah)) ah)) (gT 2 (bG (gN 2) (bG (gN 3) dH)))
  tM)
 (aH (cF (bF (jV 0)) [1] eE (qY (jV 1) (au nX (ae (jV 0) ah)) (jC (.int 0)))))))
noncomputable def nV:List D→Option (M×D):=fn 4 Cp
noncomputable def xm:C.Dd:=⟨"reckoned_bits",top 13,["program"],["program", "by_reckoning", "k", "reckoning"],2,none,(.c (.l (.st 1 .dT)) (.c (.fo (.en (.c (.ca 3 (.c (.v 0) .n)) .n)) (.t 2 (.c (.n 2) (.c (.n 3) .n))) (.o (.l (.tp 1 (.v 3) (.bo .shl (.ki 1) (.v 2)))))) (.o (.l (.rt (.cp (.l (.v 0)) [1] .y (.wX (.v 1) (.ca 9 (.c (.v 0) .n)) (.ki 0))))))))⟩
noncomputable def Ip:List C.Dd:=xm::Io
noncomputable def K1:List C.FT:=.p nV::K0
theorem ZO:C.tab Ip=K1:=C.bK ZN rfl rfl rfl
noncomputable def tS:Ev→Option Fl :=
 (aj (aq 5 (au vn (ae (jV 4) ah)))
 (aj (aP (jB (gj true (jV 5) (jV 2)))
  (cU 1 (lA 2 (jV 5) (au qx (ae (cF (bF (jV 1)) [4] eE (au qw (ae (jV 1) (ae (jV 0) ah)))) ah))))
  aU)
 (cI 3 (rC (jV 2) (jV 5)))))
noncomputable def Cv:Ev→Option Fl :=
 (aj (aq 1 (au nZ (ae (jV 0) ah)))
 (aj (aq 2 qX)
 (aj (aq 3 (bN ah))
 (aj (cU 0 (aT (bF (jV 0)) (gN 4)
  tS))
 (aH (jV 3))))))
noncomputable def ml:List D→Option (M×D):=fn 6 Cv
noncomputable def xn:C.Dd:=⟨"changed_bits",top 14,["program"],["program", "told", "by_name", "bits", "row", "name"],2,none,(.c (.l (.st 1 (.ca 4 (.c (.v 0) .n)))) (.c (.l (.st 2 .dK)) (.c (.l (.st 3 (.li .n))) (.c (.fz 0 (.fo (.l (.v 0)) (.n 4) (.c (.l (.st 5 (.ca 9 (.c (.v 4) .n)))) (.c (.ie (.d true (.v 5) (.v 2)) (.o (.fz 1 (.l (.dp 2 (.v 5) (.ca 2 (.c (.cp (.l (.v 1)) [4] .y (.ca 8 (.c (.v 1) (.c (.v 0) .n)))) .n)))))) .n) (.o (.l (.ap 3 (.dg (.v 2) (.v 5))))))))) (.o (.l (.rt (.v 3))))))))⟩
noncomputable def Iq:List C.Dd:=xn::Ip
noncomputable def K2:List C.FT:=.p ml::K1
theorem ZP:C.tab Iq=K2:=C.bK ZO rfl rfl rfl
noncomputable def qo:Ev→Option Fl :=
 (aj (aq 7 (ag jS (ag ak (jV 3) (jV 6)) (ag cT (ag ak (jV 3) (jV 5)) (ag ak (jV 2) (jV 6)))))
 (aP (jB (ag iR (jV 7) (ag ak (jV 3) (jV 6))))
  (aj (eU 3 (jV 6) (jV 7))
 (cI 4 (jV 6)))
  aU))
noncomputable def yj:Ev→Option Fl :=
 (aj (rQ 5 4)
 (aT (bF (ag ak (jV 0) (jV 5))) (gN 6)
  qo))
noncomputable def qq:Ev→Option Bool :=
 (jB (ag iQ (aO bH (ae (jV 4) ah)) (jC (.int 0))))
noncomputable def Ei:Ev→Option Fl :=
 (aj (aq 3 (aO mQ (ae (jV 1) ah)))
 (aj (aq 4 (wU (ae (aO bH (ae (jV 1) ah)) ah)))
 (aj (iu qq
  yj)
 (aH (jV 3)))))
noncomputable def qG:List D→Option (M×D):=fn 8 Ei
noncomputable def xo:C.Dd:=⟨"spread",top 15,["steps", "made", "passed"],["steps", "made", "passed", "told", "waiting", "n", "m", "more"],0,none,(.c (.l (.st 3 (.fb .list (.c (.v 1) .n)))) (.c (.l (.st 4 (.lr (.c (.fb .len (.c (.v 1) .n)) .n)))) (.c (.wh (.c .gt (.fb .len (.c (.v 4) .n)) (.ki 0)) (.c (.l (.po 5 4)) (.o (.fo (.l (.ix (.v 0) (.v 5))) (.n 6) (.c (.l (.st 7 (.bo .bor (.ix (.v 3) (.v 6)) (.bo .band (.ix (.v 3) (.v 5)) (.ix (.v 2) (.v 6)))))) (.o (.ie (.c .ne (.v 7) (.ix (.v 3) (.v 6))) (.c (.l (.si 3 (.v 6) (.v 7))) (.o (.l (.ap 4 (.v 6))))) .n))))))) (.o (.l (.rt (.v 3)))))))⟩
noncomputable def Ir:List C.Dd:=xo::Iq
noncomputable def K3:List C.FT:=.p qG::K2
theorem ZQ:C.tab Ir=K3:=C.bK ZP rfl rfl rfl
noncomputable def Ce:Ev→Option Fl :=
 (aj (aq 1 (au jD (ae (jV 0) ah)))
 (aj (aq 2 (cF (bF (au nV (ae (jV 0) ah))) [1] eE (ag cT (jV 1) (bt gi (jV 0)))))
 (aj (aq 3 (au ml (ae (jV 0) ah)))
 (aj (eU 3 (jC (.int 0)) (ag jS (ag ak (jV 3) (jC (.int 0))) (ag ak (jV 2) (jC (.int 0)))))
 (aH (au qG (ae (au nU (ae (jV 0) ah)) (ae (jV 3) (ae (jV 2) ah)))))))))
noncomputable def tN:List D→Option (M×D):=fn 4 Ce
noncomputable def xq:C.Dd:=⟨"unstanding_bits",top 18,["program"],["program", "every", "passed", "made"],3,none,(.c (.l (.st 1 (.ca 3 (.c (.v 0) .n)))) (.c (.l (.sc 2 (.l (.ca 2 (.c (.v 0) .n))) [1] .y (.bo .band (.v 1) (.uo .inv (.v 0))))) (.c (.l (.st 3 (.ca 1 (.c (.v 0) .n)))) (.c (.l (.si 3 (.ki 0) (.bo .bor (.ix (.v 3) (.ki 0)) (.ix (.v 2) (.ki 0))))) (.o (.l (.rt (.ca 0 (.c (.ca 8 (.c (.v 0) .n)) (.c (.v 3) (.c (.v 2) .n)))))))))))⟩
noncomputable def Iu:List C.Dd:=xq::Ir
noncomputable def K4:List C.FT:=.p tN::K3
theorem ZR:C.tab Iu=K4:=C.bK ZQ rfl rfl rfl
noncomputable def ur:Ev→Option Fl :=
 (fY 3 (jV 4) (iH (jB (ag aM (ag ak (jV 4) (jC (.int 0))) (bt dN (jC (.int 1))))) (jC (.int 0)) (ag cT (jV 1) (bt gi (ag ak (jV 2) (ag ak (jV 4) (jC (.int 0))))))))
noncomputable def Dk:Ev→Option Fl :=
 (aj (aq 1 (au jD (ae (jV 0) ah)))
 (aj (aq 2 (au tN (ae (jV 0) ah)))
 (aj (aq 3 lB)
 (aj (aT (bF (au ot (ae (jV 0) ah))) (gN 4)
  ur)
 (aH (jV 3))))))
noncomputable def mv:List D→Option (M×D):=fn 5 Dk
noncomputable def xr:C.Dd:=⟨"standing",top 17,["program"],["program", "every", "missing", "told", "place"],4,none,(.c (.l (.st 1 (.ca 4 (.c (.v 0) .n)))) (.c (.l (.st 2 (.ca 0 (.c (.v 0) .n)))) (.c (.l (.st 3 .dT)) (.c (.fo (.l (.ca 8 (.c (.v 0) .n))) (.n 4) (.o (.l (.tp 3 (.v 4) (.ie (.c .eq (.ix (.v 4) (.ki 0)) (.uo .neg (.ki 1))) (.ki 0) (.bo .band (.v 1) (.uo .inv (.ix (.v 2) (.ix (.v 4) (.ki 0)))))))))) (.o (.l (.rt (.v 3))))))))⟩
noncomputable def Iw:List C.Dd:=xr::Iu
noncomputable def K5:List C.FT:=.p mv::K4
theorem ZS:C.tab Iw=K5:=C.bK ZR rfl rfl rfl
noncomputable def tO:Ev→Option Fl :=
 (cI 4 (iH (jB (ag aM (ag ak (jV 6) (jC (.int 0))) (jC (.str "end")))) (ag ak (jV 2) (jV 5)) (ag cT (ag ak (jV 2) (jV 5)) (ag ak (jV 3) (jV 5)))))
noncomputable def Cq:Ev→Option Fl :=
 (aj (aq 1 (au jD (ae (jV 0) ah)))
 (aj (aq 2 (cF (bF (au nV (ae (jV 0) ah))) [1] eE (ag cT (jV 1) (bt gi (jV 0)))))
 (aj (aq 3 (au ml (ae (jV 0) ah)))
 (aj (aq 4 (bN ah))
 (aj (cU 0 (aT (fQ (ae (jV 0) ah)) (gT 2 (bG (gN 5) (bG (gN 6) dH)))
  tO))
 (aH (au qG (ae (au uR (ae (au nU (ae (jV 0) ah)) ah)) (ae (jV 4) (ae (jV 2) ah))))))))))
noncomputable def tX:List D→Option (M×D):=fn 7 Cq
noncomputable def xt:C.Dd:=⟨"unwanted_bits",top 21,["program"],["program", "every", "passed", "stopping", "made", "n", "row"],3,none,(.c (.l (.st 1 (.ca 5 (.c (.v 0) .n)))) (.c (.l (.sc 2 (.l (.ca 4 (.c (.v 0) .n))) [1] .y (.bo .band (.v 1) (.uo .inv (.v 0))))) (.c (.l (.st 3 (.ca 3 (.c (.v 0) .n)))) (.c (.l (.st 4 (.li .n))) (.c (.fz 0 (.fo (.en (.c (.v 0) .n)) (.t 2 (.c (.n 5) (.c (.n 6) .n))) (.o (.l (.ap 4 (.ie (.c .eq (.ix (.v 6) (.ki 0)) (.ks "end")) (.ix (.v 2) (.v 5)) (.bo .band (.ix (.v 2) (.v 5)) (.ix (.v 3) (.v 5))))))))) (.o (.l (.rt (.ca 2 (.c (.ca 7 (.c (.ca 10 (.c (.v 0) .n)) .n)) (.c (.v 4) (.c (.v 2) .n))))))))))))⟩
noncomputable def Iy:List C.Dd:=xt::Iw
noncomputable def K6:List C.FT:=.p tX::K5
theorem ZT:C.tab Iy=K6:=C.bK ZS rfl rfl rfl
noncomputable def uH:Ev→Option Fl :=
 (fY 3 (jV 4) (ag cT (jV 1) (bt gi (ag ak (jV 2) (ag ak (jV 4) (jC (.int 1)))))))
noncomputable def Ej:Ev→Option Fl :=
 (aj (aq 1 (au jD (ae (jV 0) ah)))
 (aj (aq 2 (au tX (ae (jV 0) ah)))
 (aj (aq 3 lB)
 (aj (aT (bF (au ot (ae (jV 0) ah))) (gN 4)
  uH)
 (aH (jV 3))))))
noncomputable def mz:List D→Option (M×D):=fn 5 Ej
noncomputable def xu:C.Dd:=⟨"wanted",top 20,["program"],["program", "every", "missing", "told", "place"],4,none,(.c (.l (.st 1 (.ca 6 (.c (.v 0) .n)))) (.c (.l (.st 2 (.ca 0 (.c (.v 0) .n)))) (.c (.l (.st 3 .dT)) (.c (.fo (.l (.ca 10 (.c (.v 0) .n))) (.n 4) (.o (.l (.tp 3 (.v 4) (.bo .band (.v 1) (.uo .inv (.ix (.v 2) (.ix (.v 4) (.ki 1))))))))) (.o (.l (.rt (.v 3))))))))⟩
noncomputable def Iz:List C.Dd:=xu::Iy
noncomputable def K7:List C.FT:=.p mz::K6
theorem ZU:C.tab Iz=K7:=C.bK ZT rfl rfl rfl
noncomputable def tP:Ev→Option Fl :=
 (aq 7 (ag jS (jV 7) (ag cT (jV 2) (bt gi (fS (jV 1) (aQ (ae (jV 6) (ae (jV 8) ah))))))))
noncomputable def tQ:Ev→Option Fl :=
 (aj (aq 7 (jC (.int 0)))
 (aj (aT (bF (au n6 (ae (jV 0) (ae (jV 6) ah)))) (gN 8)
  tP)
 (cI 5 (ag jS (ag ak (jV 4) (jV 6)) (ag cT (jV 7) (bt gi (ag ak (jV 3) (jV 6))))))))
noncomputable def Cr:Ev→Option Fl :=
 (aj (aq 2 (au jD (ae (jV 0) ah)))
 (aj (aq 3 (au nV (ae (jV 0) ah)))
 (aj (aq 4 (au ml (ae (jV 0) ah)))
 (aj (aq 5 (bN ah))
 (aj (aT (bY (ae (aO bH (ae (jV 0) ah)) ah)) (gN 6)
  tQ)
 (aH (jV 5)))))))
noncomputable def tY:List D→Option (M×D):=fn 9 Cr
noncomputable def xv:C.Dd:=⟨"starting_bits",top 24,["program", "wanted_at"],["program", "wanted_at", "every", "reckoned", "changed", "told", "n", "missing", "f"],3,none,(.c (.l (.st 2 (.ca 7 (.c (.v 0) .n)))) (.c (.l (.st 3 (.ca 6 (.c (.v 0) .n)))) (.c (.l (.st 4 (.ca 5 (.c (.v 0) .n)))) (.c (.l (.st 5 (.li .n))) (.c (.fo (.r1 (.c (.fb .len (.c (.v 0) .n)) .n)) (.n 6) (.c (.l (.st 7 (.ki 0))) (.c (.fo (.l (.ca 13 (.c (.v 0) (.c (.v 6) .n)))) (.n 8) (.o (.l (.st 7 (.bo .bor (.v 7) (.bo .band (.v 2) (.uo .inv (.tg (.v 1) (.tu (.c (.v 6) (.c (.v 8) .n))))))))))) (.o (.l (.ap 5 (.bo .bor (.ix (.v 4) (.v 6)) (.bo .band (.v 7) (.uo .inv (.ix (.v 3) (.v 6))))))))))) (.o (.l (.rt (.v 5)))))))))⟩
noncomputable def IA:List C.Dd:=xv::Iz
noncomputable def K8:List C.FT:=.p tY::K7
theorem ZV:C.tab IA=K8:=C.bK ZU rfl rfl rfl
noncomputable def uI:Ev→Option Fl :=
 (aj (aq 6 (iH (jB (ag aM (ag ak (jV 5) (jC (.int 0))) (bt dN (jC (.int 1))))) (au jD (ae (jV 0) ah)) (ag ak (jV 3) (ag ak (jV 5) (jC (.int 0))))))
 (fY 4 (jV 5) (ag cT (ag cT (fS (jV 1) (jV 5)) (bt gi (fS (jV 2) (jV 5)))) (jV 6))))
noncomputable def Ek:Ev→Option Fl :=
 (aj (aq 1 (au mz (ae (jV 0) ah)))
 (aj (aq 2 (au mv (ae (jV 0) ah)))
 (aj (aq 3 (au tY (ae (jV 0) (ae (jV 1) ah))))
 (aj (aq 4 lB)
 (aj (aT (bF (au ot (ae (jV 0) ah))) (gN 5)
  uI)
 (aH (jV 4)))))))
noncomputable def mB:List D→Option (M×D):=fn 7 Ek
noncomputable def xx:C.Dd:=⟨"firsts",top 23,["program"],["program", "wanted_at", "standing_at", "starting", "told", "place", "may_start"],5,none,(.c (.l (.st 1 (.ca 1 (.c (.v 0) .n)))) (.c (.l (.st 2 (.ca 3 (.c (.v 0) .n)))) (.c (.l (.st 3 (.ca 0 (.c (.v 0) (.c (.v 1) .n))))) (.c (.l (.st 4 .dT)) (.c (.fo (.l (.ca 12 (.c (.v 0) .n))) (.n 5) (.c (.l (.st 6 (.ie (.c .eq (.ix (.v 5) (.ki 0)) (.uo .neg (.ki 1))) (.ca 8 (.c (.v 0) .n)) (.ix (.v 3) (.ix (.v 5) (.ki 0)))))) (.o (.l (.tp 4 (.v 5) (.bo .band (.bo .band (.tg (.v 1) (.v 5)) (.uo .inv (.tg (.v 2) (.v 5)))) (.v 6))))))) (.o (.l (.rt (.v 4)))))))))⟩
noncomputable def IC:List C.Dd:=xx::IA
noncomputable def K9:List C.FT:=.p mB::K8
theorem ZW:C.tab IC=K9:=C.bK ZV rfl rfl rfl
noncomputable def Dl:Ev→Option Fl :=
 (aj (aP (jB (ag f7 (jV 1) (aO bH (ae (jV 0) ah))))
  (aH (ag ak (jV 0) (jV 1)))
  aU)
 (aH (ag bO (ag fJ (jV 1) (jC (.int 7919))) (jC (.int 11)))))
noncomputable def jF:List D→Option (M×D):=fn 2 Dl
noncomputable def xA:C.Dd:=⟨"_law_cell",top 26,["_law_script", "_law_k"],["_law_script", "_law_k"],0,none,(.c (.ie (.c .lt (.v 1) (.fb .len (.c (.v 0) .n))) (.o (.l (.rt (.ix (.v 0) (.v 1))))) .n) (.o (.l (.rt (.bo .add (.bo .mul (.v 1) (.ki 7919)) (.ki 11))))))⟩
noncomputable def IE:List C.Dd:=xA::IC
noncomputable def La:List C.FT:=.p jF::K9
theorem ZX:C.tab IE=La:=C.bK ZW rfl rfl rfl
noncomputable def CY:Ev→Option Fl :=
 (aH (ag aW (ag fJ (ag bO (ag bO (jV 0) (ag fJ (jC (.int 7)) (jV 1))) (jC (.int 11))) (jC (.int 2862933555777941757))) (jC (.int 999999999999999989))))
noncomputable def jE:List D→Option (M×D):=fn 2 CY
noncomputable def xB:C.Dd:=⟨"_law_mixed",top 27,["_law_cell_here", "_law_k"],["_law_cell_here", "_law_k"],0,none,(.o (.l (.rt (.bo .mod (.bo .mul (.bo .add (.bo .add (.v 0) (.bo .mul (.ki 7) (.v 1))) (.ki 11)) (.ki 2862933555777941757)) (.ki 999999999999999989)))))⟩
noncomputable def IG:List C.Dd:=xB::IE
noncomputable def Lb:List C.FT:=.p jE::La
theorem ZY:C.tab IG=Lb:=C.bK ZX rfl rfl rfl
noncomputable def Cz:Ev→Option Fl :=
 (aH (ag aM (ag aW (au jF (ae (jV 0) (ae (jC (.int 0)) ah))) (jC (.int 2))) (jC (.int 1))))
noncomputable def nY:List D→Option (M×D):=fn 1 Cz
noncomputable def xC:C.Dd:=⟨"_law_is_free",top 28,["_law_script"],["_law_script"],1,none,(.o (.l (.rt (.co .eq (.bo .mod (.ca 1 (.c (.v 0) (.c (.ki 0) .n))) (.ki 2)) (.ki 1)))))⟩
noncomputable def II:List C.Dd:=xC::IG
noncomputable def Lc:List C.FT:=.p nY::Lb
theorem ZZ:C.tab II=Lc:=C.bK ZY rfl rfl rfl
noncomputable def qd:Ev→Option Fl :=
 (aj (aq 8 (ag bO (ag cA (ag cA (jV 0) (jC (.int 192))) (ag bO (jV 7) (jC (.int 1)))) (ag fJ (jC (.int 5)) (jV 7))))
 (aP (cX (jB (ag aM (jV 7) (jV 3))) (jB (ag aM (jV 7) (jC (.int 0)))))
  (aq 6 (ag bO (jV 6) (ag ak (jV 1) (ag aW (ag bO (jV 8) (ag fJ (jV 5) (aO lK (ae (ag aM (jV 7) (jV 3)) ah)))) (jC (.int 26))))))
  (aq 6 (ag bO (jV 6) (ag ak (ag bO (jV 1) (jC (.str "0123456789"))) (ag aW (jV 8) (jC (.int 36))))))))
noncomputable def ug:Ev→Option Fl :=
 (aj (aq 6 (jC (.str "")))
 (aj (aT (bY (ae (jV 2) ah)) (gN 7)
  qd)
 (aj (aP (jB (ag (fu false) (jV 6) (aQ (ae (jC (.str "say")) (ae (jC (.str "go")) (ae (jC (.str "part")) (ae (jC (.str "end")) ah)))))))
  (aq 6 (ag bO (jV 6) (jC (.str "1"))))
  aU)
 (cI 4 (jV 6)))))
noncomputable def CZ:Ev→Option Fl :=
 (aj (aq 1 (jC (.str "abcdefghijklmnopqrstuvwxyz")))
 (aj (aq 0 (au jE (ae (jV 0) (ae (jC (.int 3)) ah))))
 (aj (aq 2 (ag bO (jC (.int 1)) (ag aW (jV 0) (jC (.int 8)))))
 (aj (aq 3 (ag aW (ag cA (jV 0) (jC (.int 8))) (jV 2)))
 (aj (aq 4 (bN ah))
 (aj (aT (bY (ae (ag bO (jC (.int 3)) (ag aW (ag cA (jV 0) (jC (.int 64))) (jC (.int 3)))) ah)) (gN 5)
  ug)
 (aH (jV 4))))))))
noncomputable def n8:List D→Option (M×D):=fn 9 CZ
noncomputable def xD:C.Dd:=⟨"_law_names",top 29,["_law_cell_here"],["_law_cell_here", "_law_signs", "_law_size", "_law_at", "_law_names_here", "_law_k", "_law_name", "_law_j", "_law_step"],1,none,(.c (.l (.st 1 (.ks "abcdefghijklmnopqrstuvwxyz"))) (.c (.l (.st 0 (.ca 1 (.c (.v 0) (.c (.ki 3) .n))))) (.c (.l (.st 2 (.bo .add (.ki 1) (.bo .mod (.v 0) (.ki 8))))) (.c (.l (.st 3 (.bo .mod (.bo .div (.v 0) (.ki 8)) (.v 2)))) (.c (.l (.st 4 (.li .n))) (.c (.fo (.r1 (.c (.bo .add (.ki 3) (.bo .mod (.bo .div (.v 0) (.ki 64)) (.ki 3))) .n)) (.n 5) (.c (.l (.st 6 (.ks ""))) (.c (.fo (.r1 (.c (.v 2) .n)) (.n 7) (.c (.l (.st 8 (.bo .add (.bo .div (.bo .div (.v 0) (.ki 192)) (.bo .add (.v 7) (.ki 1))) (.bo .mul (.ki 5) (.v 7))))) (.o (.ie (.or (.c .eq (.v 7) (.v 3)) (.c .eq (.v 7) (.ki 0))) (.o (.l (.st 6 (.bo .add (.v 6) (.ix (.v 1) (.bo .mod (.bo .add (.v 8) (.bo .mul (.v 5) (.fb .int (.c (.co .eq (.v 7) (.v 3)) .n)))) (.ki 26))))))) (.o (.l (.st 6 (.bo .add (.v 6) (.ix (.bo .add (.v 1) (.ks "0123456789")) (.bo .mod (.v 8) (.ki 36))))))))))) (.c (.ie (.c .lZ (.v 6) (.tu (.c (.ks "say") (.c (.ks "go") (.c (.ks "part") (.c (.ks "end") .n)))))) (.o (.l (.st 6 (.bo .add (.v 6) (.ks "1"))))) .n) (.o (.l (.ap 4 (.v 6)))))))) (.o (.l (.rt (.v 4))))))))))⟩
noncomputable def IJ:List C.Dd:=xD::II
noncomputable def Ld:List C.FT:=.p n8::Lc
theorem Z0:C.tab IJ=Ld:=C.bK ZZ rfl rfl rfl
noncomputable def CB:Ev→Option Fl :=
 (aj (aP (jB (ag aM (ag aW (jV 0) (jC (.int 6))) (jC (.int 0))))
  (aH (ag ak (bN (ae (jC (.int 0)) (ae (jC (.int 1)) (ae (ag iF (ag gY (jC (.int 2)) (jC (.int 64))) (jC (.int 1))) (ae (ag aW (ag fJ (ag cA (jV 0) (jC (.int 24))) (jC (.int 48271))) (ag gY (jC (.int 2)) (jC (.int 64)))) ah))))) (ag aW (ag cA (jV 0) (jC (.int 6))) (jC (.int 4)))))
  aU)
 (aH (ag ak (jV 1) (ag aW (ag cA (jV 0) (jC (.int 6))) (aO bH (ae (jV 1) ah))))))
noncomputable def iV:List D→Option (M×D):=fn 2 CB
noncomputable def xE:C.Dd:=⟨"_law_operand",top 30,["_law_cell_here", "_law_names_here"],["_law_cell_here", "_law_names_here"],0,none,(.c (.ie (.c .eq (.bo .mod (.v 0) (.ki 6)) (.ki 0)) (.o (.l (.rt (.ix (.li (.c (.ki 0) (.c (.ki 1) (.c (.bo .sub (.bo .pow (.ki 2) (.ki 64)) (.ki 1)) (.c (.bo .mod (.bo .mul (.bo .div (.v 0) (.ki 24)) (.ki 48271)) (.bo .pow (.ki 2) (.ki 64))) .n))))) (.bo .mod (.bo .div (.v 0) (.ki 6)) (.ki 4)))))) .n) (.o (.l (.rt (.ix (.v 1) (.bo .mod (.bo .div (.v 0) (.ki 6)) (.fb .len (.c (.v 1) .n))))))))⟩
noncomputable def IK:List C.Dd:=xE::IJ
noncomputable def Le:List C.FT:=.p iV::Ld
theorem Z1:C.tab IK=Le:=C.bK Z0 rfl rfl rfl
noncomputable def uh:Ev→Option Fl :=
 (aj (aq 7 (au jE (ae (jV 4) (ae (jV 6) ah))))
 (aj (aq 8 (au jE (ae (jV 4) (ae (ag bO (jV 6) (jC (.int 20))) ah))))
 (aj (aq 9 (ag aW (au jE (ae (jV 4) (ae (ag bO (jV 6) (jC (.int 40))) ah))) (jC (.int 8))))
 (aj (aP (jB (au nY (ae (jV 0) ah)))
  (aj (aq 7 (ag aW (jV 4) (ag gY (jC (.int 10)) (jC (.int 21)))))
 (aj (aq 8 (ag aW (ag cA (jV 4) (ag gY (jC (.int 10)) (jC (.int 21)))) (ag gY (jC (.int 10)) (jC (.int 21)))))
 (aj (aq 9 (ag aW (ag cA (jV 4) (ag gY (jC (.int 10)) (jC (.int 42)))) (jC (.int 8))))
 (aq 4 (ag cA (jV 4) (ag fJ (jC (.int 8)) (ag gY (jC (.int 10)) (jC (.int 42)))))))))
  aU)
 (cI 5 (aQ (ae (ag ak (jC (.str "+-*&|^<=")) (jV 9)) (ae (au iV (ae (jV 7) (ae (jV 1) ah))) (ae (au iV (ae (jV 8) (ae (jV 1) ah))) ah)))))))))
noncomputable def C0:Ev→Option Fl :=
 (aj (aq 2 (au jF (ae (jV 0) (ae (jC (.int 1)) ah))))
 (aj (aq 3 (ag bO (jC (.int 1)) (ag aW (jV 2) (jC (.int 4)))))
 (aj (aP (jB (ag aM (ag aW (ag cA (jV 2) (jC (.int 4))) (jC (.int 6))) (jC (.int 1))))
  (aq 3 (jC (.int 12)))
  aU)
 (aj (aq 4 (ag cA (jV 2) (jC (.int 24))))
 (aj (aq 5 (bN ah))
 (aj (aT (bY (ae (jV 3) ah)) (gN 6)
  uh)
 (aj (aP (dM (jB (ag aM (aO bH (ae (jV 5) ah)) (jC (.int 2)))) (jB (ag aM (ag aW (ag cA (jV 2) (jC (.int 4))) (jC (.int 3))) (jC (.int 0)))))
  (eU 5 (jC (.int 1)) (aQ (ae (ag ak (ag ak (jV 5) (jC (.int 0))) (jC (.int 0))) (ae (ag ak (ag ak (jV 5) (jC (.int 0))) (jC (.int 2))) (ae (ag ak (ag ak (jV 5) (jC (.int 0))) (jC (.int 1))) ah)))))
  aU)
 (aH (jV 5)))))))))
noncomputable def n9:List D→Option (M×D):=fn 10 C0
noncomputable def xF:C.Dd:=⟨"_law_deeds",top 31,["_law_script", "_law_names_here"],["_law_script", "_law_names_here", "_law_cell_here", "_law_many", "_law_rest", "_law_found", "_law_k", "_law_one", "_law_other", "_law_sign"],2,none,(.c (.l (.st 2 (.ca 4 (.c (.v 0) (.c (.ki 1) .n))))) (.c (.l (.st 3 (.bo .add (.ki 1) (.bo .mod (.v 2) (.ki 4))))) (.c (.ie (.c .eq (.bo .mod (.bo .div (.v 2) (.ki 4)) (.ki 6)) (.ki 1)) (.o (.l (.st 3 (.ki 12)))) .n) (.c (.l (.st 4 (.bo .div (.v 2) (.ki 24)))) (.c (.l (.st 5 (.li .n))) (.c (.fo (.r1 (.c (.v 3) .n)) (.n 6) (.c (.l (.st 7 (.ca 3 (.c (.v 4) (.c (.v 6) .n))))) (.c (.l (.st 8 (.ca 3 (.c (.v 4) (.c (.bo .add (.v 6) (.ki 20)) .n))))) (.c (.l (.st 9 (.bo .mod (.ca 3 (.c (.v 4) (.c (.bo .add (.v 6) (.ki 40)) .n))) (.ki 8)))) (.c (.ie (.b (.ca 2 (.c (.v 0) .n))) (.c (.l (.st 7 (.bo .mod (.v 4) (.bo .pow (.ki 10) (.ki 21))))) (.c (.l (.st 8 (.bo .mod (.bo .div (.v 4) (.bo .pow (.ki 10) (.ki 21))) (.bo .pow (.ki 10) (.ki 21))))) (.c (.l (.st 9 (.bo .mod (.bo .div (.v 4) (.bo .pow (.ki 10) (.ki 42))) (.ki 8)))) (.o (.l (.st 4 (.bo .div (.v 4) (.bo .mul (.ki 8) (.bo .pow (.ki 10) (.ki 42)))))))))) .n) (.o (.l (.ap 5 (.tu (.c (.ix (.ks "+-*&|^<=") (.v 9)) (.c (.ca 0 (.c (.v 7) (.c (.v 1) .n))) (.c (.ca 0 (.c (.v 8) (.c (.v 1) .n))) .n)))))))))))) (.c (.ie (.an (.c .eq (.fb .len (.c (.v 5) .n)) (.ki 2)) (.c .eq (.bo .mod (.bo .div (.v 2) (.ki 4)) (.ki 3)) (.ki 0))) (.o (.l (.si 5 (.ki 1) (.tu (.c (.ix (.ix (.v 5) (.ki 0)) (.ki 0)) (.c (.ix (.ix (.v 5) (.ki 0)) (.ki 2)) (.c (.ix (.ix (.v 5) (.ki 0)) (.ki 1)) .n))))))) .n) (.o (.l (.rt (.v 5)))))))))))⟩
noncomputable def IL:List C.Dd:=xF::IK
noncomputable def Lf:List C.FT:=.p n9::Le
theorem Z2:C.tab IL=Lf:=C.bK Z1 rfl rfl rfl
noncomputable def DP:Ev→Option Fl :=
 (aj (aq 4 (ag ak (jV 2) (ag aW (ag aW (jV 1) (jC (.int 60))) (aO bH (ae (jV 2) ah)))))
 (aj (aq 5 (au iV (ae (ag cA (jV 1) (jC (.int 43200))) (ae (jV 2) ah))))
 (aj (aP (jB (ag f7 (ag aW (jV 0) (jC (.int 11))) (jC (.int 5))))
  (aj (m6 (gT 3 (bG (gN 6) (bG (gN 7) (bG (gN 8) dH)))) (ag ak (jV 3) (ag aW (ag aW (ag cA (jV 1) (jC (.int 60))) (jC (.int 12))) (aO bH (ae (jV 3) ah)))))
 (aH (aQ (ae (jC (.str "reckon")) (ae (jV 4) (ae (jV 6) (ae (jV 7) (ae (jV 8) ah))))))))
  aU)
 (aj (aP (jB (ag aM (ag aW (jV 0) (jC (.int 11))) (jC (.int 5))))
  (aH (aQ (ae (jC (.str "copy")) (ae (jV 4) (ae (jV 5) ah)))))
  aU)
 (aj (aP (jB (ag aM (ag aW (jV 0) (jC (.int 11))) (jC (.int 6))))
  (aH (aQ (ae (jC (.str "say")) (ae (jV 5) ah))))
  aU)
 (aj (aP (jB (ag f7 (ag aW (jV 0) (jC (.int 11))) (jC (.int 9))))
  (aH (aQ (ae (jC (.str "part")) (ae (jV 5) (ae (ag aW (ag cA (jV 1) (jC (.int 720))) (jC (.int 60))) ah)))))
  aU)
 (aH (aQ (ae (jC (.str "part")) (ae (jV 5) (ae (bt dN (jC (.int 1))) ah)))))))))))
noncomputable def qy:List D→Option (M×D):=fn 9 DP
noncomputable def xG:C.Dd:=⟨"_law_row",top 32,["_law_cell_here", "_law_other", "_law_names_here", "_law_deeds_here"],["_law_cell_here", "_law_other", "_law_names_here", "_law_deeds_here", "_law_name", "_law_operand_here", "_law_s", "_law_a", "_law_b"],1,none,(.c (.l (.st 4 (.ix (.v 2) (.bo .mod (.bo .mod (.v 1) (.ki 60)) (.fb .len (.c (.v 2) .n)))))) (.c (.l (.st 5 (.ca 1 (.c (.bo .div (.v 1) (.ki 43200)) (.c (.v 2) .n))))) (.c (.ie (.c .lt (.bo .mod (.v 0) (.ki 11)) (.ki 5)) (.c (.l (.as (.t 3 (.c (.n 6) (.c (.n 7) (.c (.n 8) .n)))) (.ix (.v 3) (.bo .mod (.bo .mod (.bo .div (.v 1) (.ki 60)) (.ki 12)) (.fb .len (.c (.v 3) .n)))))) (.o (.l (.rt (.tu (.c (.ks "reckon") (.c (.v 4) (.c (.v 6) (.c (.v 7) (.c (.v 8) .n)))))))))) .n) (.c (.ie (.c .eq (.bo .mod (.v 0) (.ki 11)) (.ki 5)) (.o (.l (.rt (.tu (.c (.ks "copy") (.c (.v 4) (.c (.v 5) .n))))))) .n) (.c (.ie (.c .eq (.bo .mod (.v 0) (.ki 11)) (.ki 6)) (.o (.l (.rt (.tu (.c (.ks "say") (.c (.v 5) .n)))))) .n) (.c (.ie (.c .lt (.bo .mod (.v 0) (.ki 11)) (.ki 9)) (.o (.l (.rt (.tu (.c (.ks "part") (.c (.v 5) (.c (.bo .mod (.bo .div (.v 1) (.ki 720)) (.ki 60)) .n))))))) .n) (.o (.l (.rt (.tu (.c (.ks "part") (.c (.v 5) (.c (.uo .neg (.ki 1)) .n)))))))))))))⟩
noncomputable def IQ:List C.Dd:=xG::IL
noncomputable def Lg:List C.FT:=.p qy::Lf
theorem Z3:C.tab IQ=Lg:=C.bK Z2 rfl rfl rfl
noncomputable def Dm:Ev→Option Fl :=
 (aj (aq 2 (cF (bY (ae (aO bH (ae (jV 0) ah)) ah)) [0] (jB (ag aM (ag ak (ag ak (jV 1) (jV 0)) (jC (.int 0))) (jC (.str "end")))) (jV 0)))
 (aj (aP (cX (jB (ag gZ (jV 2) (bN ah))) (jB (ag iQ (ag aW (jV 1) (jC (.int 3))) (jC (.int 0)))))
  (aH (aQ (ae (jC (.str "end")) ah)))
  aU)
 (aH (aQ (ae (jC (.str "go")) (ae (ag aW (ag cA (jV 1) (jC (.int 3))) (ag ak (jV 2) (jC (.int 0)))) ah))))))
noncomputable def uJ:List D→Option (M×D):=fn 3 Dm
noncomputable def xH:C.Dd:=⟨"_law_last",top 33,["_law_rows", "_law_number_here"],["_law_rows", "_law_number_here", "_law_ends"],0,none,(.c (.l (.sc 2 (.r1 (.c (.fb .len (.c (.v 0) .n)) .n)) [0] (.c .eq (.ix (.ix (.v 1) (.v 0)) (.ki 0)) (.ks "end")) (.v 0))) (.c (.ie (.or (.c .pV (.v 2) (.li .n)) (.c .gt (.bo .mod (.v 1) (.ki 3)) (.ki 0))) (.o (.l (.rt (.tu (.c (.ks "end") .n))))) .n) (.o (.l (.rt (.tu (.c (.ks "go") (.c (.bo .mod (.bo .div (.v 1) (.ki 3)) (.ix (.v 2) (.ki 0))) .n))))))))⟩
noncomputable def IU:List C.Dd:=xH::IQ
noncomputable def Lh:List C.FT:=.p uJ::Lg
theorem Z4:C.tab IU=Lh:=C.bK Z3 rfl rfl rfl
noncomputable def CK:Ev→Option Fl :=
 (aj (aP (jB (au nY (ae (jV 0) ah)))
  (aH (au jF (ae (jV 0) (ae (jV 1) ah))))
  aU)
 (aH (au jE (ae (aO rV (ae (f9 gQ (jV 0) iI (ft (jC (.int 4)))) ah)) (ae (jV 1) ah)))))
noncomputable def n5:List D→Option (M×D):=fn 2 CK
noncomputable def xI:C.Dd:=⟨"_law_number",top 35,["_law_script", "_law_k"],["_law_script", "_law_k"],2,none,(.c (.ie (.b (.ca 5 (.c (.v 0) .n))) (.o (.l (.rt (.ca 7 (.c (.v 0) (.c (.v 1) .n)))))) .n) (.o (.l (.rt (.ca 6 (.c (.fb .sum (.c (.sl (.v 0) .n (.s (.ki 4))) .n)) (.c (.v 1) .n)))))))⟩
noncomputable def IV:List C.Dd:=xI::IU
noncomputable def Li:List C.FT:=.p n5::Lh
theorem Z5:C.tab IV=Li:=C.bK Z4 rfl rfl rfl
noncomputable def ui:Ev→Option Fl :=
 (aj (aq 7 (au jE (ae (jV 6) (ae (jV 5) ah))))
 (aj (cI 4 (au qy (ae (jV 6) (ae (jV 7) (ae (jV 2) (ae (jV 3) ah))))))
 (aj (aP (jB (ag aM (ag aW (jV 6) (jC (.int 11))) (jC (.int 9))))
  (cI 4 (aQ (ae (jC (.str "end")) ah)))
  aU)
 (aP (jB (ag aM (ag aW (jV 6) (jC (.int 11))) (jC (.int 10))))
  (cI 4 (aQ (ae (jC (.str "go")) (ae (ag aW (ag cA (jV 7) (jC (.int 720))) (jC (.int 60))) ah))))
  aU))))
noncomputable def C1:Ev→Option Fl :=
 (aj (aq 2 (au n8 (ae (au jF (ae (jV 0) (ae (jC (.int 0)) ah))) ah)))
 (aj (aq 3 (au n9 (ae (jV 0) (ae (jV 2) ah))))
 (aj (aq 4 (bN ah))
 (aj (cU 1 (aT (fQ (ae (jV 1) ah)) (gT 2 (bG (gN 5) (bG (gN 6) dH)))
  ui))
 (aH (ag bO (jV 4) (bN (ae (au uJ (ae (jV 4) (ae (au n5 (ae (jV 0) (ae (jC (.int 58)) ah))) ah))) ah))))))))
noncomputable def uC:List D→Option (M×D):=fn 8 C1
noncomputable def xJ:C.Dd:=⟨"_law_rough",top 34,["_law_script", "_law_cells"],["_law_script", "_law_cells", "_law_names_here", "_law_deeds_here", "_law_rows", "_law_k", "_law_cell_here", "_law_other"],3,none,(.c (.l (.st 2 (.ca 5 (.c (.ca 8 (.c (.v 0) (.c (.ki 0) .n))) .n)))) (.c (.l (.st 3 (.ca 3 (.c (.v 0) (.c (.v 2) .n))))) (.c (.l (.st 4 (.li .n))) (.c (.fz 1 (.fo (.en (.c (.v 1) .n)) (.t 2 (.c (.n 5) (.c (.n 6) .n))) (.c (.l (.st 7 (.ca 7 (.c (.v 6) (.c (.v 5) .n))))) (.c (.l (.ap 4 (.ca 2 (.c (.v 6) (.c (.v 7) (.c (.v 2) (.c (.v 3) .n))))))) (.c (.ie (.c .eq (.bo .mod (.v 6) (.ki 11)) (.ki 9)) (.o (.l (.ap 4 (.tu (.c (.ks "end") .n))))) .n) (.o (.ie (.c .eq (.bo .mod (.v 6) (.ki 11)) (.ki 10)) (.o (.l (.ap 4 (.tu (.c (.ks "go") (.c (.bo .mod (.bo .div (.v 7) (.ki 720)) (.ki 60)) .n)))))) .n))))))) (.o (.l (.rt (.bo .add (.v 4) (.li (.c (.ca 1 (.c (.v 4) (.c (.ca 0 (.c (.v 0) (.c (.ki 58) .n))) .n))) .n))))))))))⟩
noncomputable def IW:List C.Dd:=xJ::IV
noncomputable def Lj:List C.FT:=.p uC::Li
theorem Z6:C.tab IW=Lj:=C.bK Z5 rfl rfl rfl
noncomputable def yf:Ev→Option Fl :=
 (aq 1 (ag iF (jV 1) (jC (.int 1))))
noncomputable def uv:Ev→Option Bool :=
 (jB (ag aM (ag ak (ag ak (jV 0) (jV 1)) (jC (.int 0))) (jC (.str "go"))))
noncomputable def Dp:Ev→Option Fl :=
 (aj (aq 1 (ag aW (jV 1) (aO bH (ae (jV 0) ah))))
 (aj (iu uv
  yf)
 (aH (jV 1))))
noncomputable def uK:List D→Option (M×D):=fn 2 Dp
noncomputable def xK:C.Dd:=⟨"_law_goal",top 36,["_law_rough_here", "_law_to"],["_law_rough_here", "_law_to"],0,none,(.c (.l (.st 1 (.bo .mod (.v 1) (.fb .len (.c (.v 0) .n))))) (.c (.wh (.c .eq (.ix (.ix (.v 0) (.v 1)) (.ki 0)) (.ks "go")) (.o (.l (.st 1 (.bo .sub (.v 1) (.ki 1)))))) (.o (.l (.rt (.v 1))))))⟩
noncomputable def IX:List C.Dd:=xK::IW
noncomputable def Lk:List C.FT:=.p uK::Lj
theorem Z7:C.tab IX=Lk:=C.bK Z6 rfl rfl rfl
noncomputable def Cj:Ev→Option Fl :=
 (aj (aq 2 (cF (rR (ae (jC (.int 2)) (ae (aO bH (ae (jV 0) ah)) ah))) [0] (jB (ag (fu false) (ag ak (ag ak (jV 1) (jV 0)) (jC (.int 0))) (aQ (ae (jC (.str "reckon")) (ae (jC (.str "copy")) (ae (jC (.str "say")) ah)))))) (jV 0)))
 (aj (aP (cX (jB (ag gZ (jV 2) (bN ah))) (jB (ag (fu true) (ag ak (ag ak (jV 0) (jC (.int 0))) (jC (.int 0))) (aQ (ae (jC (.str "reckon")) (ae (jC (.str "copy")) (ae (jC (.str "say")) ah)))))))
  (aH (jV 0))
  aU)
 (aj (aq 3 (ag ak (jV 2) (ag aW (ag cA (jV 1) (jC (.int 4))) (aO bH (ae (jV 2) ah)))))
 (aj (eU 0 (jV 3) (aQ (ae (jC (.str "part")) (ae (ag ak (ag ak (jV 0) (jV 3)) (jC (.int 1))) (ae (jC (.int 1)) ah)))))
 (aj (eU 0 (jC (.int 0)) (aQ (ae (jC (.str "go")) (ae (jV 3) ah))))
 (aH (jV 0)))))))
noncomputable def tT:List D→Option D:=jX 4 Cj
noncomputable def xM:C.Dd:=⟨"_law_with_while",top 37,["_law_rows", "_law_cell_here"],["_law_rows", "_law_cell_here", "_law_flat", "_law_last_here"],0,some [],(.c (.l (.sc 2 (.r2 (.c (.ki 2) (.c (.fb .len (.c (.v 0) .n)) .n))) [0] (.c .lZ (.ix (.ix (.v 1) (.v 0)) (.ki 0)) (.tu (.c (.ks "reckon") (.c (.ks "copy") (.c (.ks "say") .n))))) (.v 0))) (.c (.ie (.or (.c .pV (.v 2) (.li .n)) (.c .wV (.ix (.ix (.v 0) (.ki 0)) (.ki 0)) (.tu (.c (.ks "reckon") (.c (.ks "copy") (.c (.ks "say") .n)))))) (.o (.l (.rt (.v 0)))) .n) (.c (.l (.st 3 (.ix (.v 2) (.bo .mod (.bo .div (.v 1) (.ki 4)) (.fb .len (.c (.v 2) .n)))))) (.c (.l (.si 0 (.v 3) (.tu (.c (.ks "part") (.c (.ix (.ix (.v 0) (.v 3)) (.ki 1)) (.c (.ki 1) .n)))))) (.c (.l (.si 0 (.ki 0) (.tu (.c (.ks "go") (.c (.v 3) .n))))) (.o (.l (.rt (.v 0)))))))))⟩
noncomputable def IY:List C.Dd:=xM::IX
noncomputable def Ln:List C.FT:=.oo tT::Lk
theorem Z8:C.tab IY=Ln:=C.zv Z7 rfl rfl rfl
noncomputable def Ct:Ev→Option Fl :=
 (aj (aq 2 (cF (bY (ae (aO bH (ae (jV 0) ah)) ah)) [0] (jB (ag (fu false) (ag ak (ag ak (jV 1) (jV 0)) (jC (.int 0))) (aQ (ae (jC (.str "reckon")) (ae (jC (.str "copy")) (ae (jC (.str "say")) ah)))))) (jV 0)))
 (aj (aP (jB (ag aM (ag aW (jV 1) (jC (.int 4))) (jC (.int 3))))
  (kj [0] [(0,0),(1,1)] tT (ae (jV 0) (ae (jV 1) ah)))
  aU)
 (aj (aP (cX (jB (ag f7 (aO bH (ae (jV 2) ah)) (jC (.int 2)))) (jB (ag aM (ag aW (jV 1) (jC (.int 2))) (jC (.int 0)))))
  (aH (jV 0))
  aU)
 (aj (aq 3 (ag ak (jV 2) (ag aW (ag cA (jV 1) (jC (.int 4))) (ag iF (aO bH (ae (jV 2) ah)) (jC (.int 1))))))
 (aj (cU 2 (aq 4 (cF (bF (jV 2)) [3] (jB (ag iQ (jV 0) (jV 1))) (jV 0))))
 (aj (aq 5 (ag ak (jV 4) (ag aW (ag cA (jV 1) (jC (.int 256))) (aO bH (ae (jV 4) ah)))))
 (aj (aq 6 (ag aW (ag cA (jV 1) (jC (.int 16384))) (aO bH (ae (jV 0) ah))))
 (aj (aP (jB (ag aM (ag ak (ag ak (jV 0) (bt dN (jC (.int 1)))) (jC (.int 0))) (jC (.str "go"))))
  (aq 6 (ag aW (jV 6) (ag bO (jV 3) (jC (.int 1)))))
  aU)
 (aj (aP (jB (oH f7 pQ (jV 3) (jV 6) (jV 5)))
  (aq 6 (ag bO (jV 5) (jC (.int 1))))
  aU)
 (aj (aP (jB (ag aM (ag ak (ag ak (jV 0) (jV 6)) (jC (.int 0))) (jC (.str "go"))))
  (aq 6 (jC (.int 0)))
  aU)
 (aj (eU 0 (jV 3) (aQ (ae (jC (.str "part")) (ae (ag ak (ag ak (jV 0) (jV 3)) (jC (.int 1))) (ae (ag bO (jV 5) (jC (.int 1))) ah)))))
 (aj (eU 0 (jV 5) (aQ (ae (jC (.str "go")) (ae (jV 6) ah))))
 (aH (jV 0))))))))))))))
noncomputable def tZ:List D→Option D:=jX 7 Ct
noncomputable def xN:C.Dd:=⟨"_law_with_else",top 38,["_law_rows", "_law_cell_here"],["_law_rows", "_law_cell_here", "_law_flat", "_law_first_here", "_law_later", "_law_last_here", "_law_to"],1,some [],(.c (.l (.sc 2 (.r1 (.c (.fb .len (.c (.v 0) .n)) .n)) [0] (.c .lZ (.ix (.ix (.v 1) (.v 0)) (.ki 0)) (.tu (.c (.ks "reckon") (.c (.ks "copy") (.c (.ks "say") .n))))) (.v 0))) (.c (.ie (.c .eq (.bo .mod (.v 1) (.ki 4)) (.ki 3)) (.o (.l (.rO 0 [0] (.c (.v 0) (.c (.v 1) .n))))) .n) (.c (.ie (.or (.c .lt (.fb .len (.c (.v 2) .n)) (.ki 2)) (.c .eq (.bo .mod (.v 1) (.ki 2)) (.ki 0))) (.o (.l (.rt (.v 0)))) .n) (.c (.l (.st 3 (.ix (.v 2) (.bo .mod (.bo .div (.v 1) (.ki 4)) (.bo .sub (.fb .len (.c (.v 2) .n)) (.ki 1)))))) (.c (.fz 2 (.l (.sc 4 (.l (.v 2)) [3] (.c .gt (.v 0) (.v 1)) (.v 0)))) (.c (.l (.st 5 (.ix (.v 4) (.bo .mod (.bo .div (.v 1) (.ki 256)) (.fb .len (.c (.v 4) .n)))))) (.c (.l (.st 6 (.bo .mod (.bo .div (.v 1) (.ki 16384)) (.fb .len (.c (.v 0) .n))))) (.c (.ie (.c .eq (.ix (.ix (.v 0) (.uo .neg (.ki 1))) (.ki 0)) (.ks "go")) (.o (.l (.st 6 (.bo .mod (.v 6) (.bo .add (.v 3) (.ki 1)))))) .n) (.c (.ie (.h .lt .le (.v 3) (.v 6) (.v 5)) (.o (.l (.st 6 (.bo .add (.v 5) (.ki 1))))) .n) (.c (.ie (.c .eq (.ix (.ix (.v 0) (.v 6)) (.ki 0)) (.ks "go")) (.o (.l (.st 6 (.ki 0)))) .n) (.c (.l (.si 0 (.v 3) (.tu (.c (.ks "part") (.c (.ix (.ix (.v 0) (.v 3)) (.ki 1)) (.c (.bo .add (.v 5) (.ki 1)) .n)))))) (.c (.l (.si 0 (.v 5) (.tu (.c (.ks "go") (.c (.v 6) .n))))) (.o (.l (.rt (.v 0))))))))))))))))⟩
noncomputable def IZ:List C.Dd:=xN::IY
noncomputable def Lp:List C.FT:=.oo tZ::Ln
theorem Z9:C.tab IZ=Lp:=C.zv Z8 rfl rfl rfl
noncomputable def uc:Ev→Option Fl :=
 (aj (aq 6 (au jF (ae (jV 0) (ae (ag bO (jC (.int 2)) (jV 5)) ah))))
 (aj (cI 4 (au qy (ae (ag bO (ag fJ (ag cA (jV 6) (jC (.int 11))) (jC (.int 11))) (ag aW (jV 6) (jC (.int 7)))) (ae (au jE (ae (jV 6) (ae (jV 5) ah))) (ae (jV 2) (ae (jV 3) ah))))))
 (cI 4 (aQ (ae (jC (.str "go")) (ae (ag iF (ag fJ (jC (.int 2)) (jV 5)) (jC (.int 1))) ah))))))
noncomputable def CL:Ev→Option Fl :=
 (aj (aq 2 (au n8 (ae (au jF (ae (jV 0) (ae (jC (.int 0)) ah))) ah)))
 (aj (aq 3 (au n9 (ae (jV 0) (ae (jV 2) ah))))
 (aj (aq 4 (bN (ae (aQ (ae (jC (.str "go")) (ae (ag iF (ag fJ (jC (.int 2)) (jV 1)) (jC (.int 1))) ah))) ah)))
 (aj (aT (bY (ae (jV 1) ah)) (gN 5)
  uc)
 (aj (eU 4 (jC (.int 2)) (aQ (ae (jC (.str "go")) (ae (ag bO (ag fJ (jC (.int 2)) (jV 1)) (jC (.int 1))) ah))))
 (aH (ag bO (jV 4) (bN (ae (aQ (ae (jC (.str "end")) ah)) ah)))))))))
noncomputable def uw:List D→Option (M×D):=fn 7 CL
noncomputable def xO:C.Dd:=⟨"_law_stairs",top 39,["_law_script", "_law_many"],["_law_script", "_law_many", "_law_names_here", "_law_deeds_here", "_law_rows", "_law_k", "_law_cell_here"],3,none,(.c (.l (.st 2 (.ca 9 (.c (.ca 12 (.c (.v 0) (.c (.ki 0) .n))) .n)))) (.c (.l (.st 3 (.ca 7 (.c (.v 0) (.c (.v 2) .n))))) (.c (.l (.st 4 (.li (.c (.tu (.c (.ks "go") (.c (.bo .sub (.bo .mul (.ki 2) (.v 1)) (.ki 1)) .n))) .n)))) (.c (.fo (.r1 (.c (.v 1) .n)) (.n 5) (.c (.l (.st 6 (.ca 12 (.c (.v 0) (.c (.bo .add (.ki 2) (.v 5)) .n))))) (.c (.l (.ap 4 (.ca 6 (.c (.bo .add (.bo .mul (.bo .div (.v 6) (.ki 11)) (.ki 11)) (.bo .mod (.v 6) (.ki 7))) (.c (.ca 11 (.c (.v 6) (.c (.v 5) .n))) (.c (.v 2) (.c (.v 3) .n))))))) (.o (.l (.ap 4 (.tu (.c (.ks "go") (.c (.bo .sub (.bo .mul (.ki 2) (.v 5)) (.ki 1)) .n))))))))) (.c (.l (.si 4 (.ki 2) (.tu (.c (.ks "go") (.c (.bo .add (.bo .mul (.ki 2) (.v 1)) (.ki 1)) .n))))) (.o (.l (.rt (.bo .add (.v 4) (.li (.c (.tu (.c (.ks "end") .n)) .n)))))))))))⟩
noncomputable def Ja:List C.Dd:=xO::IZ
noncomputable def Lq:List C.FT:=.p uw::Lp
theorem e33:C.tab Ja=Lq:=C.bK Z9 rfl rfl rfl
noncomputable def CD:Ev→Option Fl :=
 (aj (aq 5 (ag aW (jV 0) (jC (.int 14))))
 (aj (aq 6 (ag cA (jV 0) (jC (.int 14))))
 (aj (aP (jB (ag f7 (jV 5) (jC (.int 6))))
  (aj (m6 (gT 3 (bG (gN 7) (bG (gN 8) (bG (gN 9) dH)))) (ag ak (jV 4) (ag aW (ag cA (jV 6) (aO bH (ae (jV 3) ah))) (aO bH (ae (jV 4) ah)))))
 (aH (aQ (ae (jC (.str "reckon")) (ae (ag ak (jV 3) (ag aW (jV 6) (aO bH (ae (jV 3) ah)))) (ae (jV 7) (ae (jV 8) (ae (jV 9) ah))))))))
  aU)
 (aj (aP (jB (ag f7 (jV 5) (jC (.int 8))))
  (aH (aQ (ae (jC (.str "copy")) (ae (ag ak (jV 3) (ag aW (jV 6) (aO bH (ae (jV 3) ah)))) (ae (au iV (ae (ag cA (jV 6) (aO bH (ae (jV 3) ah))) (ae (jV 3) ah))) ah)))))
  aU)
 (aj (aP (jB (ag f7 (jV 5) (jC (.int 10))))
  (aH (aQ (ae (jC (.str "say")) (ae (au iV (ae (jV 6) (ae (jV 3) ah))) ah))))
  aU)
 (aj (aP (dM (jB (ag f7 (jV 5) (jC (.int 12)))) (jB (ag iQ (jV 2) (jC (.int 1)))))
  (aH (aQ (ae (jC (.str "part")) (ae (au iV (ae (ag cA (jV 6) (ag iF (jV 2) (jC (.int 1)))) (ae (jV 3) ah))) (ae (ag aW (ag bO (ag bO (jV 1) (jC (.int 2))) (ag aW (jV 6) (ag iF (jV 2) (jC (.int 1))))) (jV 2)) ah)))))
  aU)
 (aj (aP (jB (ag aM (jV 5) (jC (.int 12))))
  (aH (aQ (ae (jC (.str "go")) (ae (ag aW (jV 6) (jV 2)) ah))))
  aU)
 (aH (aQ (ae (jC (.str "end")) ah))))))))))
noncomputable def qe:List D→Option (M×D):=fn 10 CD
noncomputable def xP:C.Dd:=⟨"_law_any_row",top 40,["_law_cell_here", "_law_n", "_law_many", "_law_names_here", "_law_deeds_here"],["_law_cell_here", "_law_n", "_law_many", "_law_names_here", "_law_deeds_here", "_law_kind", "_law_rest", "_law_s", "_law_a", "_law_b"],1,none,(.c (.l (.st 5 (.bo .mod (.v 0) (.ki 14)))) (.c (.l (.st 6 (.bo .div (.v 0) (.ki 14)))) (.c (.ie (.c .lt (.v 5) (.ki 6)) (.c (.l (.as (.t 3 (.c (.n 7) (.c (.n 8) (.c (.n 9) .n)))) (.ix (.v 4) (.bo .mod (.bo .div (.v 6) (.fb .len (.c (.v 3) .n))) (.fb .len (.c (.v 4) .n)))))) (.o (.l (.rt (.tu (.c (.ks "reckon") (.c (.ix (.v 3) (.bo .mod (.v 6) (.fb .len (.c (.v 3) .n)))) (.c (.v 7) (.c (.v 8) (.c (.v 9) .n)))))))))) .n) (.c (.ie (.c .lt (.v 5) (.ki 8)) (.o (.l (.rt (.tu (.c (.ks "copy") (.c (.ix (.v 3) (.bo .mod (.v 6) (.fb .len (.c (.v 3) .n)))) (.c (.ca 9 (.c (.bo .div (.v 6) (.fb .len (.c (.v 3) .n))) (.c (.v 3) .n))) .n))))))) .n) (.c (.ie (.c .lt (.v 5) (.ki 10)) (.o (.l (.rt (.tu (.c (.ks "say") (.c (.ca 9 (.c (.v 6) (.c (.v 3) .n))) .n)))))) .n) (.c (.ie (.an (.c .lt (.v 5) (.ki 12)) (.c .gt (.v 2) (.ki 1))) (.o (.l (.rt (.tu (.c (.ks "part") (.c (.ca 9 (.c (.bo .div (.v 6) (.bo .sub (.v 2) (.ki 1))) (.c (.v 3) .n))) (.c (.bo .mod (.bo .add (.bo .add (.v 1) (.ki 2)) (.bo .mod (.v 6) (.bo .sub (.v 2) (.ki 1)))) (.v 2)) .n))))))) .n) (.c (.ie (.c .eq (.v 5) (.ki 12)) (.o (.l (.rt (.tu (.c (.ks "go") (.c (.bo .mod (.v 6) (.v 2)) .n)))))) .n) (.o (.l (.rt (.tu (.c (.ks "end") .n))))))))))))⟩
noncomputable def Jb:List C.Dd:=xP::Ja
noncomputable def Lr:List C.FT:=.p qe::Lq
theorem e34:C.tab Jb=Lr:=C.bK e33 rfl rfl rfl
noncomputable def Mg:Ev→Option Fl :=
 (aj (aq 2 (ag ak (jV 0) (jV 1)))
 (aj (aP (jB (ag aM (ag ak (jV 2) (jC (.int 0))) (jC (.str "end"))))
  (aH (bN ah))
  aU)
 (aj (aP (jB (ag aM (ag ak (jV 2) (jC (.int 0))) (jC (.str "go"))))
  (aH (bN (ae (ag ak (jV 2) (jC (.int 1))) ah)))
  aU)
 (aj (aP (jB (ag aM (ag ak (jV 2) (jC (.int 0))) (jC (.str "part"))))
  (aH (bN (ae (ag bO (jV 1) (jC (.int 1))) (ae (ag ak (jV 2) (jC (.int 2))) ah))))
  aU)
 (aH (bN (ae (ag bO (jV 1) (jC (.int 1))) ah)))))))
noncomputable def nW:List D→Option (M×D):=fn 3 Mg
noncomputable def xQ:C.Dd:=⟨"_law_followers",top 45,["_law_program_here", "_law_n"],["_law_program_here", "_law_n", "_law_row_here"],0,none,(.c (.l (.st 2 (.ix (.v 0) (.v 1)))) (.c (.ie (.c .eq (.ix (.v 2) (.ki 0)) (.ks "end")) (.o (.l (.rt (.li .n)))) .n) (.c (.ie (.c .eq (.ix (.v 2) (.ki 0)) (.ks "go")) (.o (.l (.rt (.li (.c (.ix (.v 2) (.ki 1)) .n))))) .n) (.c (.ie (.c .eq (.ix (.v 2) (.ki 0)) (.ks "part")) (.o (.l (.rt (.li (.c (.bo .add (.v 1) (.ki 1)) (.c (.ix (.v 2) (.ki 2)) .n)))))) .n) (.o (.l (.rt (.li (.c (.bo .add (.v 1) (.ki 1)) .n)))))))))⟩
noncomputable def Jc:List C.Dd:=xQ::Jb
noncomputable def Ls:List C.FT:=.p nW::Lr
theorem e35:C.tab Jc=Ls:=C.bK e34 rfl rfl rfl
noncomputable def qa:Ev→Option Fl :=
 (aP (jB (ag aM (ag ak (ag ak (jV 0) (jV 3)) (jC (.int 0))) (jC (.str "end"))))
  (lA 2 (jV 3) (jC (.bl true)))
  aU)
noncomputable def tU:Ev→Option Fl :=
 (aj (m6 (gT 2 (bG (gN 6) (bG (gN 7) dH))) (ag ak (bN (ae (aQ (ae (jV 5) (ae (jV 3) ah))) (ae (aQ (ae (jV 3) (ae (jV 5) ah))) ah))) (aO lK (ae (jV 1) ah))))
 (aP (dM (jB (gj false (jV 6) (jV 2))) (jB (gj true (jV 7) (jV 2))))
  (aj (lA 2 (jV 7) (jC (.bl true)))
 (aq 4 (jC (.bl true))))
  aU))
noncomputable def tV:Ev→Option Fl :=
 (aT (bF (au nW (ae (jV 0) (ae (jV 3) ah)))) (gN 5)
  tU)
noncomputable def tW:Ev→Option Fl :=
 (aj (aq 4 (jC (.bl false)))
 (aT (bY (ae (aO bH (ae (jV 0) ah)) ah)) (gN 3)
  tV))
noncomputable def ye:Ev→Option Bool :=
 (jB (jV 4))
noncomputable def Cw:Ev→Option Fl :=
 (aj (aq 2 (zO (jC (.int 0)) (jC (.bl true))))
 (aj (aP (iG (jB (jV 1)))
  (aj (aq 2 qX)
 (aT (bY (ae (aO bH (ae (jV 0) ah)) ah)) (gN 3)
  qa))
  aU)
 (aj (aq 4 (jC (.bl true)))
 (aj (iu ye
  tW)
 (aH (jV 2))))))
noncomputable def qb:List D→Option (M×D):=fn 8 Cw
noncomputable def xR:C.Dd:=⟨"_law_comes_to",top 41,["_law_rows", "_law_ahead"],["_law_rows", "_law_ahead", "_law_seen", "_law_n", "_law_more", "_law_m", "_law_one", "_law_other"],1,none,(.c (.l (.st 2 (.d1 (.ki 0) (.kb true)))) (.c (.ie (.nt (.b (.v 1))) (.c (.l (.st 2 .dK)) (.o (.fo (.r1 (.c (.fb .len (.c (.v 0) .n)) .n)) (.n 3) (.o (.ie (.c .eq (.ix (.ix (.v 0) (.v 3)) (.ki 0)) (.ks "end")) (.o (.l (.dp 2 (.v 3) (.kb true)))) .n))))) .n) (.c (.l (.st 4 (.kb true))) (.c (.wh (.b (.v 4)) (.c (.l (.st 4 (.kb false))) (.o (.fo (.r1 (.c (.fb .len (.c (.v 0) .n)) .n)) (.n 3) (.o (.fo (.l (.ca 0 (.c (.v 0) (.c (.v 3) .n)))) (.n 5) (.c (.l (.as (.t 2 (.c (.n 6) (.c (.n 7) .n))) (.ix (.li (.c (.tu (.c (.v 5) (.c (.v 3) .n))) (.c (.tu (.c (.v 3) (.c (.v 5) .n))) .n))) (.fb .int (.c (.v 1) .n))))) (.o (.ie (.an (.d false (.v 6) (.v 2)) (.d true (.v 7) (.v 2))) (.c (.l (.dp 2 (.v 7) (.kb true))) (.o (.l (.st 4 (.kb true))))) .n))))))))) (.o (.l (.rt (.v 2))))))))⟩
noncomputable def Jd:List C.Dd:=xR::Jc
noncomputable def Lv:List C.FT:=.p qb::Ls
theorem e36:C.tab Jd=Lv:=C.bK e35 rfl rfl rfl
noncomputable def qc:Ev→Option Fl :=
 (aj (aq 3 (au qb (ae (jV 0) (ae (jC (.bl true)) ah))))
 (aj (aq 4 (au qb (ae (jV 0) (ae (jC (.bl false)) ah))))
 (aj (aq 5 (cF (bY (ae (aO bH (ae (jV 0) ah)) ah)) [3] (jB (gj true (jV 0) (jV 1))) (jV 0)))
 (aj (aq 6 (cF (bY (ae (aO bH (ae (jV 0) ah)) ah)) [4] (jB (gj true (jV 0) (jV 1))) (jV 0)))
 (aP (jB (ag gE (jV 5) (bN ah)))
  (eU 0 (ag iF (ag ak (jV 5) (jC (.int 0))) (jC (.int 1))) (aQ (ae (jC (.str "say")) (ae (jV 2) ah))))
  (aP (dM (jB (ag gE (jV 6) (bN ah))) (jB (ag aM (ag ak (jV 6) (bt dN (jC (.int 1)))) (jV 1))))
  (eU 0 (jV 1) (aQ (ae (jC (.str "end")) ah)))
  (aP (jB (ag gE (jV 6) (bN ah)))
  (eU 0 (ag ak (jV 6) (bt dN (jC (.int 1)))) (aQ (ae (jC (.str "say")) (ae (jV 2) ah))))
  (aH (jV 0)))))))))
noncomputable def CM:Ev→Option Fl :=
 (aj (aq 1 (ag iF (aO bH (ae (jV 0) ah)) (jC (.int 1))))
 (aj (aP (jB (ag iR (ag ak (ag ak (jV 0) (jV 1)) (jC (.int 0))) (jC (.str "go"))))
  (eU 0 (jV 1) (aQ (ae (jC (.str "end")) ah)))
  aU)
 (aj (aT (bY (ae (ag fJ (jC (.int 2)) (aO bH (ae (jV 0) ah))) ah)) (gN 2)
  qc)
 (aH (jV 0)))))
noncomputable def qi:List D→Option D:=jX 7 CM
noncomputable def xS:C.Dd:=⟨"_law_mended",top 42,["_law_rows"],["_law_rows", "_law_last_here", "_law_turn", "_law_seen", "_law_near", "_law_lost", "_law_dead"],2,some [],(.c (.l (.st 1 (.bo .sub (.fb .len (.c (.v 0) .n)) (.ki 1)))) (.c (.ie (.c .ne (.ix (.ix (.v 0) (.v 1)) (.ki 0)) (.ks "go")) (.o (.l (.si 0 (.v 1) (.tu (.c (.ks "end") .n))))) .n) (.c (.fo (.r1 (.c (.bo .mul (.ki 2) (.fb .len (.c (.v 0) .n))) .n)) (.n 2) (.c (.l (.st 3 (.ca 0 (.c (.v 0) (.c (.kb true) .n))))) (.c (.l (.st 4 (.ca 0 (.c (.v 0) (.c (.kb false) .n))))) (.c (.l (.sc 5 (.r1 (.c (.fb .len (.c (.v 0) .n)) .n)) [3] (.d true (.v 0) (.v 1)) (.v 0))) (.c (.l (.sc 6 (.r1 (.c (.fb .len (.c (.v 0) .n)) .n)) [4] (.d true (.v 0) (.v 1)) (.v 0))) (.o (.ie (.c .nL (.v 5) (.li .n)) (.o (.l (.si 0 (.bo .sub (.ix (.v 5) (.ki 0)) (.ki 1)) (.tu (.c (.ks "say") (.c (.v 2) .n)))))) (.o (.ie (.an (.c .nL (.v 6) (.li .n)) (.c .eq (.ix (.v 6) (.uo .neg (.ki 1))) (.v 1))) (.o (.l (.si 0 (.v 1) (.tu (.c (.ks "end") .n))))) (.o (.ie (.c .nL (.v 6) (.li .n)) (.o (.l (.si 0 (.ix (.v 6) (.uo .neg (.ki 1))) (.tu (.c (.ks "say") (.c (.v 2) .n)))))) (.o (.l (.rt (.v 0))))))))))))))) (.o (.l (.rt (.v 0)))))))⟩
noncomputable def Je:List C.Dd:=xS::Jd
noncomputable def Lw:List C.FT:=.oo qi::Lv
theorem e37:C.tab Je=Lw:=C.zv e36 rfl rfl rfl
noncomputable def Cg:Ev→Option Fl :=
 (aj (aq 2 (au n8 (ae (au jF (ae (jV 0) (ae (jC (.int 0)) ah))) ah)))
 (aj (aq 3 (au n9 (ae (jV 0) (ae (jV 2) ah))))
 (aj (aq 4 (aO rP (ae (jC (.int 1)) (ae (aO bH (ae (jV 1) ah)) ah))))
 (aj (aq 5 (bN (ae (aQ (ae (jC (.str "end")) ah)) ah)))
 (aj (aP (jB (ag iQ (aO bH (ae (jV 1) ah)) (jC (.int 0))))
  (aq 5 (cF (bY (ae (jV 4) ah)) [4,2,3,1] eE (au qe (ae (ag ak (jV 4) (jV 0)) (ae (jV 0) (ae (jV 1) (ae (jV 2) (ae (jV 3) ah))))))))
  aU)
 (kj [5] [(0,5)] qi (ae (jV 5) ah)))))))
noncomputable def tR:List D→Option (M×D):=fn 6 Cg
noncomputable def xT:C.Dd:=⟨"_law_any_program",top 43,["_law_script", "_law_cells"],["_law_script", "_law_cells", "_law_names_here", "_law_deeds_here", "_law_many", "_law_rows"],3,none,(.c (.l (.st 2 (.ca 14 (.c (.ca 17 (.c (.v 0) (.c (.ki 0) .n))) .n)))) (.c (.l (.st 3 (.ca 12 (.c (.v 0) (.c (.v 2) .n))))) (.c (.l (.st 4 (.fb .max (.c (.ki 1) (.c (.fb .len (.c (.v 1) .n)) .n))))) (.c (.l (.st 5 (.li (.c (.tu (.c (.ks "end") .n)) .n)))) (.c (.ie (.c .gt (.fb .len (.c (.v 1) .n)) (.ki 0)) (.o (.l (.sc 5 (.r1 (.c (.v 4) .n)) [4,2,3,1] .y (.ca 3 (.c (.ix (.v 4) (.v 0)) (.c (.v 0) (.c (.v 1) (.c (.v 2) (.c (.v 3) .n))))))))) .n) (.o (.l (.rO 0 [5] (.c (.v 5) .n)))))))))⟩
noncomputable def Jf:List C.Dd:=xT::Je
noncomputable def Lx:List C.FT:=.p tR::Lw
theorem e38:C.tab Jf=Lx:=C.bK e37 rfl rfl rfl
noncomputable def ua:Ev→Option Fl :=
 (aj (aP (dM (jB (ag aM (ag ak (jV 6) (jC (.int 0))) (jC (.str "part")))) (jB (ag aM (ag ak (jV 6) (jC (.int 2))) (bt dN (jC (.int 1))))))
  (aq 6 (aQ (ae (jC (.str "part")) (ae (ag ak (jV 6) (jC (.int 1))) (ae (ag bO (jV 5) (jC (.int 2))) ah)))))
  (aP (dM (jB (ag aM (ag ak (jV 6) (jC (.int 0))) (jC (.str "part")))) (jB (ag aM (ag aW (ag ak (jV 6) (jC (.int 2))) (aO bH (ae (jV 3) ah))) (ag bO (jV 5) (jC (.int 1))))))
  (aq 6 (aQ (ae (jC (.str "part")) (ae (ag ak (jV 6) (jC (.int 1))) (ae (jV 5) ah)))))
  (aP (jB (ag aM (ag ak (jV 6) (jC (.int 0))) (jC (.str "part"))))
  (aq 6 (aQ (ae (jC (.str "part")) (ae (ag ak (jV 6) (jC (.int 1))) (ae (ag aW (ag ak (jV 6) (jC (.int 2))) (aO bH (ae (jV 3) ah))) ah)))))
  (aP (jB (ag aM (ag ak (jV 6) (jC (.int 0))) (jC (.str "go"))))
  (aq 6 (aQ (ae (jC (.str "go")) (ae (au uK (ae (jV 3) (ae (ag ak (jV 6) (jC (.int 1))) ah))) ah))))
  aU))))
 (cI 4 (jV 6)))
noncomputable def CF:Ev→Option Fl :=
 (aj (aP (jB (au nY (ae (jV 0) ah)))
  (aH (au tR (ae (jV 0) (ae (jV 1) ah))))
  aU)
 (aj (aq 2 (au n5 (ae (jV 0) (ae (jC (.int 57)) ah))))
 (aj (aP (jB (ag aM (ag aW (jV 2) (jC (.int 8))) (jC (.int 1))))
  (aH (au uw (ae (jV 0) (ae (ag bO (jC (.int 1)) (ag aW (ag cA (jV 2) (jC (.int 8))) (jC (.int 28)))) ah))))
  aU)
 (aj (aq 3 (au uC (ae (jV 0) (ae (jV 1) ah))))
 (aj (aq 4 (bN ah))
 (aj (cU 3 (aT (fQ (ae (jV 3) ah)) (gT 2 (bG (gN 5) (bG (gN 6) dH)))
  ua))
 (kj [4] [(0,4)] tZ (ae (jV 4) (ae (au n5 (ae (jV 0) (ae (jC (.int 59)) ah))) ah)))))))))
noncomputable def qf:List D→Option (M×D):=fn 7 CF
noncomputable def xU:C.Dd:=⟨"_law_program",top 44,["_law_script", "_law_cells"],["_law_script", "_law_cells", "_law_turn", "_law_rough_here", "_law_rows", "_law_n", "_law_row_here"],4,none,(.c (.ie (.b (.ca 16 (.c (.v 0) .n))) (.o (.l (.rt (.ca 0 (.c (.v 0) (.c (.v 1) .n)))))) .n) (.c (.l (.st 2 (.ca 10 (.c (.v 0) (.c (.ki 57) .n))))) (.c (.ie (.c .eq (.bo .mod (.v 2) (.ki 8)) (.ki 1)) (.o (.l (.rt (.ca 5 (.c (.v 0) (.c (.bo .add (.ki 1) (.bo .mod (.bo .div (.v 2) (.ki 8)) (.ki 28))) .n)))))) .n) (.c (.l (.st 3 (.ca 9 (.c (.v 0) (.c (.v 1) .n))))) (.c (.l (.st 4 (.li .n))) (.c (.fz 3 (.fo (.en (.c (.v 3) .n)) (.t 2 (.c (.n 5) (.c (.n 6) .n))) (.c (.ie (.an (.c .eq (.ix (.v 6) (.ki 0)) (.ks "part")) (.c .eq (.ix (.v 6) (.ki 2)) (.uo .neg (.ki 1)))) (.o (.l (.st 6 (.tu (.c (.ks "part") (.c (.ix (.v 6) (.ki 1)) (.c (.bo .add (.v 5) (.ki 2)) .n))))))) (.o (.ie (.an (.c .eq (.ix (.v 6) (.ki 0)) (.ks "part")) (.c .eq (.bo .mod (.ix (.v 6) (.ki 2)) (.fb .len (.c (.v 3) .n))) (.bo .add (.v 5) (.ki 1)))) (.o (.l (.st 6 (.tu (.c (.ks "part") (.c (.ix (.v 6) (.ki 1)) (.c (.v 5) .n))))))) (.o (.ie (.c .eq (.ix (.v 6) (.ki 0)) (.ks "part")) (.o (.l (.st 6 (.tu (.c (.ks "part") (.c (.ix (.v 6) (.ki 1)) (.c (.bo .mod (.ix (.v 6) (.ki 2)) (.fb .len (.c (.v 3) .n))) .n))))))) (.o (.ie (.c .eq (.ix (.v 6) (.ki 0)) (.ks "go")) (.o (.l (.st 6 (.tu (.c (.ks "go") (.c (.ca 8 (.c (.v 3) (.c (.ix (.v 6) (.ki 1)) .n))) .n)))))) .n))))))) (.o (.l (.ap 4 (.v 6))))))) (.o (.l (.rO 6 [4] (.c (.v 4) (.c (.ca 10 (.c (.v 0) (.c (.ki 59) .n))) .n)))))))))))⟩
noncomputable def Jg:List C.Dd:=xU::Jf
noncomputable def Ly:List C.FT:=.p qf::Lx
theorem e39:C.tab Jg=Ly:=C.bK e38 rfl rfl rfl
noncomputable def ud:Ev→Option Fl :=
 (cI 1 (aQ (ae (jV 2) (ae (jV 3) ah))))
noncomputable def uf:Ev→Option Fl :=
 (aT (bF (au nW (ae (jV 0) (ae (jV 2) ah)))) (gN 3)
  ud)
noncomputable def CN:Ev→Option Fl :=
 (aj (aq 1 (bN (ae (aQ (ae (bt dN (jC (.int 1))) (ae (jC (.int 0)) ah))) ah)))
 (aj (aT (bY (ae (aO bH (ae (jV 0) ah)) ah)) (gN 2)
  uf)
 (aH (jV 1))))
noncomputable def uz:List D→Option (M×D):=fn 4 CN
noncomputable def xV:C.Dd:=⟨"_law_places",top 46,["_law_program_here"],["_law_program_here", "_law_found", "_law_n", "_law_m"],1,none,(.c (.l (.st 1 (.li (.c (.tu (.c (.uo .neg (.ki 1)) (.c (.ki 0) .n))) .n)))) (.c (.fo (.r1 (.c (.fb .len (.c (.v 0) .n)) .n)) (.n 2) (.o (.fo (.l (.ca 4 (.c (.v 0) (.c (.v 2) .n)))) (.n 3) (.o (.l (.ap 1 (.tu (.c (.v 2) (.c (.v 3) .n))))))))) (.o (.l (.rt (.v 1))))))⟩
noncomputable def Jh:List C.Dd:=xV::Jg
noncomputable def Lz:List C.FT:=.p uz::Ly
theorem e40:C.tab Jh=Lz:=C.bK e39 rfl rfl rfl
noncomputable def DQ:Ev→Option Fl :=
 (aH (lJ (ag aM (ag ak (jV 0) (jC (.int 0))) (jC (.str "reckon"))) (ag gZ (f9 gQ (jV 0) (ft (jC (.int 2))) iI) (jV 1))))
noncomputable def qz:List D→Option (M×D):=fn 2 DQ
noncomputable def xW:C.Dd:=⟨"_law_has",top 47,["_law_row_here", "_law_deed"],["_law_row_here", "_law_deed"],0,none,(.o (.l (.rt (.an (.co .eq (.ix (.v 0) (.ki 0)) (.ks "reckon")) (.co .pV (.sl (.v 0) (.s (.ki 2)) .n) (.v 1))))))⟩
noncomputable def Ji:List C.Dd:=xW::Jh
noncomputable def LC:List C.FT:=.p qz::Lz
theorem e41:C.tab Ji=LC:=C.bK e40 rfl rfl rfl
noncomputable def CG:Ev→Option Fl :=
 (aH (lJ (ag (fu false) (ag ak (jV 0) (jC (.int 0))) (aQ (ae (jC (.str "reckon")) (ae (jC (.str "copy")) ah)))) (ag (fu false) (ag ak (jV 0) (jC (.int 1))) (f9 gQ (jV 1) (ft (jC (.int 1))) iI))))
noncomputable def qg:List D→Option (M×D):=fn 2 CG
noncomputable def xX:C.Dd:=⟨"_law_changes",top 48,["_law_row_here", "_law_deed"],["_law_row_here", "_law_deed"],0,none,(.o (.l (.rt (.an (.co .lZ (.ix (.v 0) (.ki 0)) (.tu (.c (.ks "reckon") (.c (.ks "copy") .n)))) (.co .lZ (.ix (.v 0) (.ki 1)) (.sl (.v 1) (.s (.ki 1)) .n))))))⟩
noncomputable def Jj:List C.Dd:=xX::Ji
noncomputable def LD:List C.FT:=.p qg::LC
theorem e42:C.tab Jj=LD:=C.bK e41 rfl rfl rfl
noncomputable def uj:Ev→Option Fl :=
 (aP (dM (jB (ag aM (ag ak (jV 2) (jC (.int 0))) (jC (.str "reckon")))) (jB (ag (m8 true) (f9 gQ (jV 2) (ft (jC (.int 2))) iI) (jV 1))))
  (cI 1 (f9 gQ (jV 2) (ft (jC (.int 2))) iI))
  aU)
noncomputable def C2:Ev→Option Fl :=
 (aj (aq 1 (bN ah))
 (aj (cU 0 (aT (bF (jV 0)) (gN 2)
  uj))
 (aH (jV 1))))
noncomputable def uD:List D→Option (M×D):=fn 3 C2
noncomputable def xY:C.Dd:=⟨"_law_known",top 49,["_law_program_here"],["_law_program_here", "_law_found", "_law_row_here"],0,none,(.c (.l (.st 1 (.li .n))) (.c (.fz 0 (.fo (.l (.v 0)) (.n 2) (.o (.ie (.an (.c .eq (.ix (.v 2) (.ki 0)) (.ks "reckon")) (.c .wW (.sl (.v 2) (.s (.ki 2)) .n) (.v 1))) (.o (.l (.ap 1 (.sl (.v 2) (.s (.ki 2)) .n)))) .n)))) (.o (.l (.rt (.v 1))))))⟩
noncomputable def Jk:List C.Dd:=xY::Jj
noncomputable def LJ:List C.FT:=.p uD::LD
theorem e43:C.tab Jk=LJ:=C.bK e42 rfl rfl rfl
noncomputable def uk:Ev→Option Fl :=
 (aP (cX (iG (jB (aO kE (ae (jV 2) (ae (jC (.ty "int")) ah))))) (jB (aO kE (ae (jV 2) (ae (jC (.ty "bool")) ah)))))
  (aH (jC (.bl false)))
  aU)
noncomputable def C3:Ev→Option Fl :=
 (aj (aP (cX (iG (jB (aO kE (ae (jV 0) (ae (jC (.ty "dict")) ah))))) (jB (ag pD (jV 0) (jV 1))))
  (aH (jC (.bl false)))
  aU)
 (aj (rD 0 (gN 2)
  uk)
 (aH (jC (.bl true)))))
noncomputable def mr:List D→Option (M×D):=fn 3 C3
noncomputable def xZ:C.Dd:=⟨"_law_right",top 50,["_law_found", "_law_due_here"],["_law_found", "_law_due_here", "_law_bits"],0,none,(.c (.ie (.or (.nt (.b (.fb .pW (.c (.v 0) (.c (.ty "dict") .n))))) (.c .neT (.v 0) (.v 1))) (.o (.l (.rt (.kb false)))) .n) (.c (.fv 0 (.n 2) (.o (.ie (.or (.nt (.b (.fb .pW (.c (.v 2) (.c (.ty "int") .n))))) (.b (.fb .pW (.c (.v 2) (.c (.ty "bool") .n))))) (.o (.l (.rt (.kb false)))) .n))) (.o (.l (.rt (.kb true))))))⟩
noncomputable def Jl:List C.Dd:=xZ::Jk
noncomputable def LK:List C.FT:=.p mr::LJ
theorem e44:C.tab Jl=LK:=C.bK e43 rfl rfl rfl
noncomputable def qh:Ev→Option Fl :=
 (aP (jB (ag aM (ag cT (ag jR (fS (jV 4) (aQ (ae (jV 6) (ae (jV 7) ah)))) (jV 2)) (jC (.int 1))) (jC (.int 0))))
  (aH (jC (.bl true)))
  aU)
noncomputable def C4:Ev→Option Fl :=
 (aj (aP (cX (jB (ag aM (ag cT (ag jR (fS (jV 4) (jV 3)) (jV 2)) (jC (.int 1))) (jC (.int 0)))) (jB (ag aM (ag cT (ag jR (fS (jV 5) (jV 3)) (jV 2)) (jC (.int 1))) (jC (.int 1)))))
  (aH (jC (.bl false)))
  aU)
 (aj (aq 6 (ag ak (jV 3) (jC (.int 0))))
 (aj (aP (cX (jB (ag aM (jV 6) (bt dN (jC (.int 1))))) (jB (au qg (ae (ag ak (jV 0) (jV 6)) (ae (jV 1) ah)))))
  (aH (jC (.bl true)))
  aU)
 (aj (aP (jB (au qz (ae (ag ak (jV 0) (jV 6)) (ae (jV 1) ah))))
  (aH (jC (.bl false)))
  aU)
 (aj (aT (bF (au nW (ae (jV 0) (ae (jV 6) ah)))) (gN 7)
  qh)
 (aH (jC (.bl false))))))))
noncomputable def og:List D→Option (M×D):=fn 8 C4
noncomputable def x4:C.Dd:=⟨"_law_first",top 51,["_law_program_here", "_law_deed", "_law_k", "_law_spot", "_law_wants", "_law_stood"],["_law_program_here", "_law_deed", "_law_k", "_law_spot", "_law_wants", "_law_stood", "_law_n", "_law_m"],1,none,(.c (.ie (.or (.c .eq (.bo .band (.bo .shr (.tg (.v 4) (.v 3)) (.v 2)) (.ki 1)) (.ki 0)) (.c .eq (.bo .band (.bo .shr (.tg (.v 5) (.v 3)) (.v 2)) (.ki 1)) (.ki 1))) (.o (.l (.rt (.kb false)))) .n) (.c (.l (.st 6 (.ix (.v 3) (.ki 0)))) (.c (.ie (.or (.c .eq (.v 6) (.uo .neg (.ki 1))) (.b (.ca 2 (.c (.ix (.v 0) (.v 6)) (.c (.v 1) .n))))) (.o (.l (.rt (.kb true)))) .n) (.c (.ie (.b (.ca 3 (.c (.ix (.v 0) (.v 6)) (.c (.v 1) .n)))) (.o (.l (.rt (.kb false)))) .n) (.c (.fo (.l (.ca 9 (.c (.v 0) (.c (.v 6) .n)))) (.n 7) (.o (.ie (.c .eq (.bo .band (.bo .shr (.tg (.v 4) (.tu (.c (.v 6) (.c (.v 7) .n)))) (.v 2)) (.ki 1)) (.ki 0)) (.o (.l (.rt (.kb true)))) .n))) (.o (.l (.rt (.kb false)))))))))⟩
noncomputable def Jm:List C.Dd:=x4::Jl
noncomputable def LN:List C.FT:=.p og::LK
theorem e45:C.tab Jm=LN:=C.bK e44 rfl rfl rfl
noncomputable def uE:Ev→Option Fl :=
 (aP (jB (au og (ae (jV 0) (ae (jV 6) (ae (jV 5) (ae (jV 4) (ae (jV 1) (ae (jV 2) ah))))))))
  (fY 3 (jV 4) (ag jS (fS (jV 3) (jV 4)) (ag mZ (jC (.int 1)) (jV 5))))
  aU)
noncomputable def uF:Ev→Option Fl :=
 (aj (fY 3 (jV 4) (jC (.int 0)))
 (aT (fQ (ae (au uD (ae (jV 0) ah)) ah)) (gT 2 (bG (gN 5) (bG (gN 6) dH)))
  uE))
noncomputable def DS:Ev→Option Fl :=
 (aj (aq 1 (au mz (ae (jV 0) ah)))
 (aj (aq 2 (au mv (ae (jV 0) ah)))
 (aj (aq 3 lB)
 (aj (aT (bF (au uz (ae (jV 0) ah))) (gN 4)
  uF)
 (aH (jV 3))))))
noncomputable def oj:List D→Option (M×D):=fn 7 DS
noncomputable def x5:C.Dd:=⟨"_law_due",top 52,["_law_program_here"],["_law_program_here", "_law_wants", "_law_stood", "_law_due_here", "_law_spot", "_law_k", "_law_deed"],5,none,(.c (.l (.st 1 (.ca 28 (.c (.v 0) .n)))) (.c (.l (.st 2 (.ca 30 (.c (.v 0) .n)))) (.c (.l (.st 3 .dT)) (.c (.fo (.l (.ca 5 (.c (.v 0) .n))) (.n 4) (.c (.l (.tp 3 (.v 4) (.ki 0))) (.o (.fo (.en (.c (.ca 2 (.c (.v 0) .n)) .n)) (.t 2 (.c (.n 5) (.c (.n 6) .n))) (.o (.ie (.b (.ca 0 (.c (.v 0) (.c (.v 6) (.c (.v 5) (.c (.v 4) (.c (.v 1) (.c (.v 2) .n)))))))) (.o (.l (.tp 3 (.v 4) (.bo .bor (.tg (.v 3) (.v 4)) (.bo .shl (.ki 1) (.v 5)))))) .n)))))) (.o (.l (.rt (.v 3))))))))⟩
noncomputable def Jn:List C.Dd:=x5::Jm
noncomputable def LQ:List C.FT:=.p oj::LN
theorem e46:C.tab Jn=LQ:=C.bK e45 rfl rfl rfl
noncomputable def Hq:Ev→Option Fl :=
 (aj (aq 1 (au qf (ae (jV 0) (ae (f9 gQ (jV 0) (ft (jC (.int 2))) (ft (jC (.int 22)))) ah))))
 (aj (aq 2 (au qf (ae (jV 0) (ae (vH (f9 gQ (jV 0) (ft (jC (.int 2))) (ft (jC (.int 22)))) (ft (bt dN (jC (.int 1))))) ah))))
 (aj (aq 3 (au oj (ae (jV 1) ah)))
 (aj (aq 4 (aO mQ (ae (jV 1) ah)))
 (aj (aq 5 (au mB (ae (jV 4) ah)))
 (aj (aP (cX (iG (jB (au mr (ae (jV 5) (ae (jV 3) ah))))) (jB (ag gE (jV 4) (jV 1))))
  (aH (jC (.bl false)))
  aU)
 (aj (yP 5)
 (aj (zj 4)
 (aj (aP (iG (jB (au mr (ae (au mB (ae (jV 2) ah)) (ae (au oj (ae (jV 2) ah)) ah)))))
  (aH (jC (.bl false)))
  aU)
 (aH (au mr (ae (au mB (ae (jV 1) ah)) (ae (jV 3) ah)))))))))))))
noncomputable def vL:List D→Option (M×D):=fn 6 Hq
noncomputable def x6:C.Dd:=⟨"law",top 53,["_law_script"],["_law_script", "_law_program_here", "_law_other", "_law_due_here", "_law_handed", "_law_found"],6,none,(.c (.l (.st 1 (.ca 7 (.c (.v 0) (.c (.sl (.v 0) (.s (.ki 2)) (.s (.ki 22))) .n))))) (.c (.l (.st 2 (.ca 7 (.c (.v 0) (.c (.rs (.sl (.v 0) (.s (.ki 2)) (.s (.ki 22))) (.s (.uo .neg (.ki 1)))) .n))))) (.c (.l (.st 3 (.ca 0 (.c (.v 1) .n)))) (.c (.l (.st 4 (.fb .list (.c (.v 1) .n)))) (.c (.l (.st 5 (.ca 27 (.c (.v 4) .n)))) (.c (.ie (.or (.nt (.b (.ca 2 (.c (.v 5) (.c (.v 3) .n))))) (.c .nL (.v 4) (.v 1))) (.o (.l (.rt (.kb false)))) .n) (.c (.l (.tc 5)) (.c (.l (.cl 4)) (.c (.ie (.nt (.b (.ca 2 (.c (.ca 27 (.c (.v 2) .n)) (.c (.ca 0 (.c (.v 2) .n)) .n))))) (.o (.l (.rt (.kb false)))) .n) (.o (.l (.rt (.ca 2 (.c (.ca 27 (.c (.v 1) .n)) (.c (.v 3) .n)))))))))))))))⟩
noncomputable def wa:List C.Dd:=x6::Jn
noncomputable def t47:List C.FT:=.p vL::LQ
theorem e47:C.tab wa=t47:=C.bK e46 rfl rfl rfl
theorem ok:C.vK bs gs wa=true:=by decide +kernel
theorem Ya:C.BA d1.nm d1.st d1.ps:=C.dY fun _ _ _ _ _ _ _=>rfl
theorem Yb:C.BA d2.nm d2.st d2.ps:=C.dY fun _ _ _ _ _ _ _=>rfl
theorem Yc:C.BA d3.nm d3.st d3.ps:=C.eQ fun _ _ _ _ _ _ _ _=>rfl
theorem Yd:C.BA d4.nm d4.st d4.ps:=C.eQ fun _ _ _ _ _ _ _ _=>rfl
theorem Ye:C.BA d5.nm d5.st d5.ps:=C.dY fun _ _ _ _ _ _ _=>rfl
theorem Yf:C.BA d6.nm d6.st d6.ps:=C.dY fun _ _ _ _ _ _ _=>rfl
theorem Yg:C.BA d7.nm d7.st d7.ps:=C.dY fun _ _ _ _ _ _ _=>rfl
theorem Yh:C.BA d8.nm d8.st d8.ps:=C.dY fun _ _ _ _ _ _ _=>rfl
theorem Yi:C.BA d9.nm d9.st d9.ps:=C.dY fun _ _ _ _ _ _ _=>rfl
theorem Wy:C.BA xk.nm xk.st xk.ps:=C.dY fun _ _ _ _ _ _ _=>rfl
theorem Wz:C.BA xm.nm xm.st xm.ps:=C.dY fun _ _ _ _ _ _ _=>rfl
theorem WB:C.BA xn.nm xn.st xn.ps:=C.dY fun _ _ _ _ _ _ _=>rfl
theorem WC:C.BA xo.nm xo.st xo.ps:=C.ZJ fun _ _ _ _ _ _ _ _ _=>rfl
theorem WD:C.BA xq.nm xq.st xq.ps:=C.dY fun _ _ _ _ _ _ _=>rfl
theorem WG:C.BA xr.nm xr.st xr.ps:=C.dY fun _ _ _ _ _ _ _=>rfl
theorem WH:C.BA xt.nm xt.st xt.ps:=C.dY fun _ _ _ _ _ _ _=>rfl
theorem WK:C.BA xu.nm xu.st xu.ps:=C.dY fun _ _ _ _ _ _ _=>rfl
theorem WL:C.BA xv.nm xv.st xv.ps:=C.eQ fun _ _ _ _ _ _ _ _=>rfl
theorem WM:C.BA xx.nm xx.st xx.ps:=C.dY fun _ _ _ _ _ _ _=>rfl
theorem WN:C.BA xA.nm xA.st xA.ps:=C.eQ fun _ _ _ _ _ _ _ _=>rfl
theorem WO:C.BA xB.nm xB.st xB.ps:=C.eQ fun _ _ _ _ _ _ _ _=>rfl
theorem WQ:C.BA xC.nm xC.st xC.ps:=C.dY fun _ _ _ _ _ _ _=>rfl
theorem WR:C.BA xD.nm xD.st xD.ps:=C.dY fun _ _ _ _ _ _ _=>rfl
theorem WT:C.BA xE.nm xE.st xE.ps:=C.eQ fun _ _ _ _ _ _ _ _=>rfl
theorem WU:C.BA xF.nm xF.st xF.ps:=C.eQ fun _ _ _ _ _ _ _ _=>rfl
theorem WV:C.BA xG.nm xG.st xG.ps:=C.ZK fun _ _ _ _ _ _ _ _ _ _=>rfl
theorem WW:C.BA xH.nm xH.st xH.ps:=C.eQ fun _ _ _ _ _ _ _ _=>rfl
theorem WX:C.BA xI.nm xI.st xI.ps:=C.eQ fun _ _ _ _ _ _ _ _=>rfl
theorem WY:C.BA xJ.nm xJ.st xJ.ps:=C.eQ fun _ _ _ _ _ _ _ _=>rfl
theorem WZ:C.BA xK.nm xK.st xK.ps:=C.eQ fun _ _ _ _ _ _ _ _=>rfl
theorem W0:C.BA xM.nm xM.st xM.ps:=C.eQ fun _ _ _ _ _ _ _ _=>rfl
theorem W2:C.BA xN.nm xN.st xN.ps:=C.eQ fun _ _ _ _ _ _ _ _=>rfl
theorem W3:C.BA xO.nm xO.st xO.ps:=C.eQ fun _ _ _ _ _ _ _ _=>rfl
theorem W4:C.BA xP.nm xP.st xP.ps:=C.ZL fun _ _ _ _ _ _ _ _ _ _ _=>rfl
theorem W5:C.BA xQ.nm xQ.st xQ.ps:=C.eQ fun _ _ _ _ _ _ _ _=>rfl
theorem W6:C.BA xR.nm xR.st xR.ps:=C.eQ fun _ _ _ _ _ _ _ _=>rfl
theorem W7:C.BA xS.nm xS.st xS.ps:=C.dY fun _ _ _ _ _ _ _=>rfl
theorem W8:C.BA xT.nm xT.st xT.ps:=C.eQ fun _ _ _ _ _ _ _ _=>rfl
theorem W9:C.BA xU.nm xU.st xU.ps:=C.eQ fun _ _ _ _ _ _ _ _=>rfl
theorem Xa:C.BA xV.nm xV.st xV.ps:=C.dY fun _ _ _ _ _ _ _=>rfl
theorem Xb:C.BA xW.nm xW.st xW.ps:=C.eQ fun _ _ _ _ _ _ _ _=>rfl
theorem Xc:C.BA xX.nm xX.st xX.ps:=C.eQ fun _ _ _ _ _ _ _ _=>rfl
theorem Xd:C.BA xY.nm xY.st xY.ps:=C.dY fun _ _ _ _ _ _ _=>rfl
theorem Xe:C.BA xZ.nm xZ.st xZ.ps:=C.eQ fun _ _ _ _ _ _ _ _=>rfl
theorem Xf:C.BA x4.nm x4.st x4.ps:=C.ZM fun _ _ _ _ _ _ _ _ _ _ _ _=>rfl
theorem Xg:C.BA x5.nm x5.st x5.ps:=C.dY fun _ _ _ _ _ _ _=>rfl
theorem Xh:C.BA x6.nm x6.st x6.ps:=C.dY fun _ _ _ _ _ _ _=>rfl
theorem ba:C.xg wa:=⟨Xh,Xg,Xf,Xe,Xd,Xc,Xb,Xa,W9,W8,W7,W6,W5,W4,W3,W2,W0,WZ,WY,WX,WW,WV,WU,WT,WR,WQ,WO,WN,WM,WL,WK,WH,WG,WD,WC,WB,Wz,Wy,Yi,Yh,Yg,Yf,Ye,Yd,Yc,Yb,Ya,trivial⟩
end aN
namespace aN
open PySem L2 J
theorem cq{d:D}{ds:List D}{n:Nat}:((d::ds).map (fun d=>some (M.al,d))++List.replicate (n+1-(d::ds).length) none:Ev)=some (.al,d)::(ds.map (fun d=>some (M.al,d))++List.replicate (n-ds.length) none):=by simp
theorem bw{n:Nat}:(([]:List D).map (fun d=>some (M.al,d))++List.replicate (n+1-([]:List D).length) none:Ev)=none::(([]:List D).map (fun d=>some (M.al,d))++List.replicate (n-([]:List D).length) none):=rfl
theorem bA:(([]:List D).map (fun d=>some (M.al,d))++List.replicate (0-([]:List D).length) none:Ev)=[]:=rfl
theorem an{a b:Prop}(x:a)(y:b):a∧b:=⟨x,y⟩
def evs :=
 an @iB<|an @dJ<|an @He<|an @Hf<|an @oJ<|an @zk<|an @Wa<|an @Wb<|an @vE<|an @jN<|an @de<|an @dS<|an @Wf<|an @bx<|an @jJ<|an @fm<|an @Rc<|an @dR<|an @oK<|an @vf<|an @zm<|an @eV<|an @vg<|an @pB<|an @Ie<|an @c9<|an @lu<|an @Ut<|an @gU<|an @Bool.and_self<|an @Bool.and_true<|an @Bool.true_and<|an @Bool.false_eq_true<|an @decide_true<|an @decide_false<|an @Bool.not_true<|an @Bool.not_false<|an @Y2<|an @mul_r<|an @kg<|an @div_ii<|an @V9<|an @MD<|an @Ms<|an @aj.eq_1<|an @aP.eq_1<|an @jB.eq_1<|an @ag.eq_1<|an @bt.eq_1<|an @jV.eq_1<|an @aO.eq_1<|an @ae.eq_1<|an @ah.eq_1<|an @aH.eq_1<|an @aq.eq_1<|an @aU.eq_1<|an @jC.eq_1<|an @au.eq_1<|an @lJ.eq_1<|an @sE.eq_1<|an @Aj.eq_1<|an @dM.eq_1<|an @cX.eq_1<|an @iG.eq_1<|an @iH.eq_1<|an @aQ.eq_1<|an @bN.eq_1<|an @i3.eq_1<|an @iA.eq_1<|an @cI.eq_1<|an @eU.eq_1<|an @m6.eq_1<|an @gL.eq_1<|an @cU.eq_1<|an @bj.eq_1<|an @aT.eq_1<|an @bF.eq_1<|an @bY.eq_1<|an @eY.eq_1<|an @gN.eq_1<|an @eE.eq_1<|an @List.map_cons.{0,0} <| an @List.map_nil.{0,0} <| an @List.length_cons.{0} <| an @List.length_nil.{0} <| an @List.cons_append.{0} <| an @List.nil_append.{0} <| an @List.getElem?_cons_zero.{0} <| an @List.getElem?_cons_succ.{0} <| an @List.set_cons_zero.{0} <| an @List.set_cons_succ.{0} <| an @List.all_cons.{0} <| an @List.all_nil.{0} <| an @Option.bind_some.{0,0} <| an @Option.bind_none.{0,0} <| an @Option.map_some.{0,0} <| an @Option.map_none.{0,0} <| an @id_eq.{1} <| an @if_true.{1} <| an @if_false.{1} <| an @List.length_map.{0,0} <| an @and_self<|an @and_true<|an @true_and<|an @ne_eq.{1} <| an @not_false_eq_true<|an @f9.eq_1<|an @ft.eq_1<|an @iI.eq_1<|an @oH.eq_1 @Bv.eq_1
local macro_rules|`(tactic| walk_at "ev")=>`(tactic| simp -implicitDefEqProofs only [evs,bG,dH,b9,own,Am,fK,List.replicate,reduceIte,reduceCtorEq,Nat.reduceAdd,Nat.reduceSub,Nat.reduceLeDiff,Int.reducePow,Int.reduceNeg,Int.reduceLT,Int.reduceLE,Int.reduceToNat,Nat.reduceLT,Int.reduceEq,Int.reduceSub,Int.reduceAdd])
local macro_rules|`(tactic| walk_at "go")=>`(tactic| ((try walk_at "ev");repeat ((first|rw[div_ii (by omega)]|rw[kg (by omega)]|rw[mul_r (by omega)]|rw[Hg (by omega)]|rw[mul_r (by split<;>omega)]);try walk_at "ev")))
theorem gz{α:Type}{a:α}{l:List α}:(a::l)[0]?=some a:=rfl
theorem gy{α:Type}{a:α}{l:List α}{i:Nat}:(a::l)[i+1]?=l[i]?:=List.getElem?_cons_succ
theorem oq{α β:Type}{a:α}{f:α→Option β}:(some a).bind f=f a:=rfl
theorem tz{α:Type}{a b:α}{l:List α}:(a::l).set 0 b=b::l:=rfl
theorem tq{α:Type}{a b:α}{l:List α}{i:Nat}:(a::l).set (i+1) b=a::l.set i b:=rfl
theorem mq{α β:Type}{a:α}{l:List α}{f:α→β}:(a::l).map f=f a::l.map f:=rfl
theorem mn{α β:Type}{f:α→β}:[].map f=[]:=rfl
theorem oy{α β:Type}{a:α}{f:α→β}:(some a).map f=some (f a):=rfl
theorem ln{α β:Type}{l:List α}{f:α→β}:(l.map f).length=l.length:=List.length_map _
theorem fj{c:Ev→Option Bool}{f g:Ev→Option Fl}{e:Ev}(h:c e=some false):aj (aP c f aU) g e=g e:=by simp[aj,aP,h,aU]
noncomputable abbrev AB:Str := "abcdefghijklmnopqrstuvwxyz"
theorem zx(x y:Str):(x++y).length=x.length+y.length:=by
 show(x.cps++y.cps).size=_
 rw[Array.size_append];rfl
theorem mE(ns:List Int)(k:Int)(h0:0≤k):∃c,jF [.lst (ns.map .int),.int k]=some (.fr,.int c):=by
 unfold jF fn Dl
 walk_at "ev"
 by_cases h:k<ns.length
 ·obtain⟨c,hc⟩:=D9 h0 h
  refine⟨c,?_⟩
  simp only[h,hc]
  walk_at "ev"
  simp only[Gb,pB]
 ·simp only[h]
  walk_at "go"
  exact⟨_,rfl⟩
theorem mC(c k:Int):∃x,jE [.int c,.int k]=some (.fr,.int x):=by
 unfold jE fn CY
 walk_at "go"
 exact⟨_,rfl⟩
theorem yS(ns:List Int):∃b,nY [.lst (ns.map .int)]=some (.fr,.bl b):=by
 obtain⟨c,hc⟩:=mE ns 0 (by omega)
 unfold nY fn Cz
 walk_at "ev"
 rw[hc]
 walk_at "go"
 exact⟨_,rfl⟩
theorem Pz(c sz a k j:Int)(L:Option (M×D))(z:Str)(o:Option (M×D))(hz:z.length≤20)(h0:0≤j)(h1:j<9) :
  ∃z' o',qd [some (.fr,.int c),some (.fr,.str AB),some (.fr,.int sz),some (.fr,.int a),L,some (.fr,.int k),some (.fr,.str z),some (.fr,.int j),o]=some (.nx [some (.fr,.int c),some (.fr,.str AB),some (.fr,.int sz),some (.fr,.int a),L,some (.fr,.int k),some (.fr,.str z'),some (.fr,.int j),o'])∧z'.length≤z.length+1:=by
 have sab:AB.length≤sizeLine:=by decide
 have la:AB.cps.toList.length=26:=by decide +kernel
 have lb:(AB++("0123456789" : Str)).cps.toList.length=36:=by decide +kernel
 have sb:(AB++("0123456789" : Str)).length≤sizeLine:=by decide +kernel
 have sc:AB.length+("0123456789" : Str).length≤sizeLine:=by decide
 have h8:qd [some (.fr,.int c),some (.fr,.str AB),some (.fr,.int sz),some (.fr,.int a),L,some (.fr,.int k),some (.fr,.str z),some (.fr,.int j),o] =
  (aP (cX (jB (ag aM (jV 7) (jV 3))) (jB (ag aM (jV 7) (jC (.int 0)))))
   (aq 6 (ag bO (jV 6) (ag ak (jV 1) (ag aW (ag bO (jV 8) (ag fJ (jV 5) (aO lK (ae (ag aM (jV 7) (jV 3)) ah)))) (jC (.int 26))))))
   (aq 6 (ag bO (jV 6) (ag ak (ag bO (jV 1) (jC (.str "0123456789"))) (ag aW (jV 8) (jC (.int 36)))))))
   [some (.fr,.int c),some (.fr,.str AB),some (.fr,.int sz),some (.fr,.int a),L,some (.fr,.int k),some (.fr,.str z),some (.fr,.int j),some (.fr,.int (c/192/(j+1)+5*j))]:=by
  unfold qd
  refine av ?_
  walk_at "go"
 rw[h8]
 generalize c/192/(j+1)+5*j=st
 have fin:∀d,J.One d→∃y:Str,d=.str y∧y.length=1:=fun d ⟨cc,e⟩=>⟨_,e,rfl⟩
 have hc:∃b,(cX (jB (ag aM (jV 7) (jV 3))) (jB (ag aM (jV 7) (jC (.int 0))))) [some (.fr,.int c),some (.fr,.str AB),some (.fr,.int sz),some (.fr,.int a),L,some (.fr,.int k),some (.fr,.str z),some (.fr,.int j),some (.fr,.int st)]=some b:=by
  walk_at "ev"
  by_cases q:j=a
  ·simp only[q,decide_true];exact⟨_,rfl⟩
  ·simp only[q,decide_false];exact⟨_,rfl⟩
 obtain⟨b,hb⟩:=hc
 cases b with
 |true =>
  rw[bz hb]
  have hm:∀i:Int,∃y:Str,ak (.fr,.str AB) (.fr,.int (i%26))=some (.fr,.str y)∧y.length=1:=fun i=>by
   obtain⟨d,e,od⟩:=yN (m:=.fr) (n:=.fr) (x:=AB) (i:=i%26) sab (by omega) (by rw[la];omega)
   obtain⟨y,rfl,hy⟩:=fin d od
   exact⟨y,e,hy⟩
  walk_at "go"
  obtain⟨y,e,hy⟩:=hm (st+k*if decide (j=a)=true then 1 else 0)
  rw[e]
  walk_at "ev"
  rw[ve (by rw[hy];exact Nat.le_trans (show z.length+1≤21 by omega) (by decide))]
  walk_at "ev"
  exact⟨_,_,rfl,by rw[zx];omega⟩
 |false =>
  rw[bU hb]
  walk_at "ev"
  rw[ve sc]
  walk_at "go"
  obtain⟨d,e,od⟩:=yN (m:=.fr) (n:=.fr) (x:=AB++("0123456789" : Str)) (i:=st%36) sb (by omega) (by rw[lb];omega)
  obtain⟨y,rfl,hy⟩:=fin d od
  rw[e]
  walk_at "ev"
  rw[ve (by rw[hy];exact Nat.le_trans (show z.length+1≤21 by omega) (by decide))]
  walk_at "ev"
  exact⟨_,_,rfl,by rw[zx];omega⟩
theorem PB(c sz a k:Int)(fs:List Str)(o6 o7 o8:Option (M×D))(hs:0≤sz∧sz≤8)(hf:fs.length≤50) :
  ∃z bL fU,ug [some (.fr,.int c),some (.fr,.str AB),some (.fr,.int sz),some (.fr,.int a),some (.bo,.lst (fs.map .str)),some (.fr,.int k),o6,o7,o8]=some (.nx [some (.fr,.int c),some (.fr,.str AB),some (.fr,.int sz),some (.fr,.int a),some (.bo,.lst ((fs++[z]).map .str)),some (.fr,.int k),some (.fr,.str z),bL,fU])∧z.length≤20:=by
 obtain⟨e',l1,z,bL,fU,he,hz⟩:=cQ (g:=gN 7) (b:=qd) (m:=.fr) (ds:=b0 0 sz.toNat) (e:=[some (.fr,.int c),some (.fr,.str AB),some (.fr,.int sz),some (.fr,.int a),some (.bo,.lst (fs.map .str)),some (.fr,.int k),some (.fr,.str ""),o7,o8])
  (fun i e=>∃(z:Str) (o7 o8:Option (M×D)),e=[some (.fr,.int c),some (.fr,.str AB),some (.fr,.int sz),some (.fr,.int a),some (.bo,.lst (fs.map .str)),some (.fr,.int k),some (.fr,.str z),o7,o8]∧z.length≤i) ⟨"",o7,o8,rfl,bf _⟩
  (fun i d e hd a9=>by
   obtain⟨z,o7,o8,he,hz⟩:=a9
   subst he
   obtain⟨hi,rfl⟩:=kh hd
   obtain⟨z',o',q,hl⟩:=Pz c sz a k (0+(i:Int)) (some (.bo,.lst (fs.map .str))) z o8 (by omega) (by omega) (by omega)
   exact⟨_,_,rfl,q,z',_,o',rfl,by omega⟩)
 subst he
 rw[iX]at hz
 have hz8:z.length≤8:=by omega
 unfold ug
 rw[av (e':=[some (.fr,.int c),some (.fr,.str AB),some (.fr,.int sz),some (.fr,.int a),some (.bo,.lst (fs.map .str)),some (.fr,.int k),some (.fr,.str ""),o7,o8]) rfl]
 rw[av (e':=[some (.fr,.int c),some (.fr,.str AB),some (.fr,.int sz),some (.fr,.int a),some (.bo,.lst (fs.map .str)),some (.fr,.int k),some (.fr,.str z),bL,fU]) (by
  have cu:-4611686018427387904≤sz∧sz<4611686018427387904:=by omega
  simp -implicitDefEqProofs only [aT,bY,ae,ah,jV,gz,gy,id_eq,oq,cu,and_self,if_true]
  exact l1)]
 have s5:fs.length<sizeLine:=dC hf (by decide)
 have hb:∃b,(jB (ag (fu false) (jV 6) (aQ (ae (jC (.str "say")) (ae (jC (.str "go")) (ae (jC (.str "part")) (ae (jC (.str "end")) ah))))))) [some (.fr,.int c),some (.fr,.str AB),some (.fr,.int sz),some (.fr,.int a),some (.bo,.lst (fs.map .str)),some (.fr,.int k),some (.fr,.str z),bL,fU]=some b:=⟨fh (.str z) [.str "say",.str "go",.str "part",.str "end"],by with_unfolding_all rfl⟩
 obtain⟨b,hb⟩:=hb
 cases b with
 |false =>
  rw[av (e':=[some (.fr,.int c),some (.fr,.str AB),some (.fr,.int sz),some (.fr,.int a),some (.bo,.lst (fs.map .str)),some (.fr,.int k),some (.fr,.str z),bL,fU]) (by rw[bU hb];rfl)]
  refine⟨z,bL,fU,?_,by omega⟩
  simp -implicitDefEqProofs only [cI,jV,gz,gy,id_eq,oq,eV,if_true,eY,own,ln,s5,tz,tq,List.map_append,mq,mn]
 |true =>
  have s1:z.length+("1" : Str).length≤sizeLine:=Nat.le_trans (show z.length+1≤9 by omega) (by decide)
  rw[av (e':=[some (.fr,.int c),some (.fr,.str AB),some (.fr,.int sz),some (.fr,.int a),some (.bo,.lst (fs.map .str)),some (.fr,.int k),some (.fr,.str (z ++ "1")),bL,fU]) (by
   rw[bz hb]
   simp -implicitDefEqProofs only [aq,ag,jV,jC,gz,gy,id_eq,oq,ve s1,fm,tz,tq])]
  refine⟨z ++ "1",bL,fU,?_,by
   rw[zx];have:("1" : Str).length=1:=rfl
   omega⟩
  simp -implicitDefEqProofs only [cI,jV,gz,gy,id_eq,oq,eV,if_true,eY,own,ln,s5,tz,tq,List.map_append,mq,mn]
theorem yw(c:Int):∃fs:List Str,(3≤fs.length∧fs.length≤5)∧n8 [.int c]=some (.un,.lst (fs.map .str)):=by
 obtain⟨x,hx⟩:=mC c 3
 obtain⟨e',l1,fs,o5,o6,o7,o8,he,hl⟩:=cQ (g:=gN 5) (b:=ug) (m:=.fr) (ds:=b0 0 (3+x/64%3).toNat) (e:=[some (.fr,.int x),some (.fr,.str AB),some (.fr,.int (1+x%8)),some (.fr,.int (x/8%(1+x%8))),some (.bo,.lst []),none,none,none,none])
  (fun i e=>∃(fs:List Str) (o5 o6 o7 o8:Option (M×D)),e=[some (.fr,.int x),some (.fr,.str AB),some (.fr,.int (1+x%8)),some (.fr,.int (x/8%(1+x%8))),some (.bo,.lst (fs.map .str)),o5,o6,o7,o8]∧fs.length=i) ⟨[],none,none,none,none,rfl,rfl⟩
  (fun i d e hd a9=>by
   obtain⟨fs,o5,o6,o7,o8,he,hl⟩:=a9
   subst he
   obtain⟨hi,rfl⟩:=kh hd
   obtain⟨z,bL,fU,q,hz⟩:=PB x (1+x%8) (x/8%(1+x%8)) (0+(i:Int)) fs o6 o7 o8 (by omega) (by omega)
   exact⟨_,_,rfl,q,fs++[z],_,_,bL,fU,rfl,by simp[hl]⟩)
 subst he
 rw[iX]at hl
 refine⟨fs,by omega,?_⟩
 unfold n8 fn CZ
 simp only[cq,bw,bA]
 rw[av (e':=[some (.al,.int c),some (.fr,.str AB),none,none,none,none,none,none,none]) rfl]
 rw[av (e':=[some (.fr,.int x),some (.fr,.str AB),none,none,none,none,none,none,none]) (by walk_at "ev"; rw[hx];walk_at "ev")]
 rw[av (e':=[some (.fr,.int x),some (.fr,.str AB),some (.fr,.int (1+x%8)),none,none,none,none,none,none]) (by walk_at "go")]
 rw[av (e':=[some (.fr,.int x),some (.fr,.str AB),some (.fr,.int (1+x%8)),some (.fr,.int (x/8%(1+x%8))),none,none,none,none,none]) (by walk_at "go")]
 rw[av (e':=[some (.fr,.int x),some (.fr,.str AB),some (.fr,.int (1+x%8)),some (.fr,.int (x/8%(1+x%8))),some (.bo,.lst []),none,none,none,none]) rfl]
 rw[av (e':=[some (.fr,.int x),some (.fr,.str AB),some (.fr,.int (1+x%8)),some (.fr,.int (x/8%(1+x%8))),some (.bo,.lst (fs.map .str)),o5,o6,o7,o8]) (by
  have cu:-4611686018427387904≤3+x/64%3∧3+x/64%3<4611686018427387904:=by omega
  walk_at "go"
  simp -implicitDefEqProofs only [cu,and_self,if_true,oq]
  exact l1)]
 rfl
theorem Oa{ns:List Str}{k:Int}(h0:0≤k)(h1:k<ns.length):∃c,L2.bE (ns.map D.str) k=some (.str c):=Pm h0 h1
theorem oh(c:Int)(ns:List Str)(h:0<ns.length):∃k:Ko,iV [.int c,.lst (ns.map .str)]=some (.fr,kD k):=by
 unfold iV fn CB
 simp only[cq,bw,bA]
 have hb:(jB (ag aM (ag aW (jV 0) (jC (.int 6))) (jC (.int 0)))) [some (.al,.int c),some (.al,.lst (ns.map .str))]=some (decide (c%6=0)):=by walk_at "go"
 by_cases q:c%6=0
 ·rw[dG (e':=[some (.al,.int c),some (.al,.lst (ns.map .str))]) (m:=.fr) (d:=kD (.inl ((L2.bE [0,1,18446744073709551615,c/24*48271%18446744073709551616] (c/6%4)).getD 0))) (by
   rw[bz (by rw[hb,q];rfl)]
   walk_at "go"
   have e:=ig (l:=[D.int 0,.int 1,.int 18446744073709551615,.int (c/24*48271%18446744073709551616)]) (k:=c/6%4) (by omega) (by simp;omega)
   have e2:=ig (l:=[(0:Int),1,18446744073709551615,c/24*48271%18446744073709551616]) (k:=c/6%4) (by omega) (by simp;omega)
   rw[e,e2]
   have:∀(l:List Int) (i:Nat) (h:i<l.length) (h':i<(l.map D.int).length),(l.map D.int)[i]=D.int l[i]:=fun l i h h'=>by simp
   have e3:=this [(0:Int),1,18446744073709551615,c/24*48271%18446744073709551616] (c/6%4).toNat (by simp;omega) (by simp;omega)
   simp -implicitDefEqProofs only [mq,mn]at e3
   rw[e3]
   rfl)]
  exact⟨_,rfl⟩
 ·rw[fj (by rw[hb,decide_eq_false q])]
  walk_at "go"
  obtain⟨z,e⟩:=Oa (ns:=ns) (k:=c/6%ns.length) (Int.emod_nonneg _ (by omega)) (Int.emod_lt_of_pos _ (by omega))
  rw[e]
  walk_at "ev"
  exact⟨.inr z,by simp only[Gb,Ie];rfl⟩
noncomputable abbrev De:=Str×Ko×Ko
noncomputable def aw(q:De):D:=.tup [.str q.1,kD q.2.1,kD q.2.2]
theorem U9(q:De):(aw q).cn=true:=by simp only[aw,D.cn,D.du,qW,Bool.and_self]
theorem oA{α β:Type}{f:α→β}{l:List α}{k:Int}(h0:0≤k)(h1:k<l.length):∃c∈l,L2.bE (l.map f) k=some (f c):=by
 rw[ig h0 (by simpa using h1)]
 exact⟨l[k.toNat]'(by omega),List.getElem_mem _,by simp⟩
section
variable {m n:M}
theorem Xi:gY (m,.int 10) (n,.int 21)=some (.fr,.int 1000000000000000000000):=by
 rw[zl (by decide),show(10:Int)^(21:Int).toNat=1000000000000000000000 by decide]
theorem Xj:gY (m,.int 10) (n,.int 42)=some (.fr,.int 1000000000000000000000000000000000000000000):=by
 rw[zl (by decide),show(10:Int)^(42:Int).toNat=1000000000000000000000000000000000000000000 by decide]
end
theorem Va{m n:M}{i:Int}(h0:0≤i)(h1:i<8):∃s:Str,ak (m,.str "+-*&|^<=") (n,.int i)=some (.fr,.str s):=by
 obtain⟨d,e,c,rfl⟩:=yN (m:=m) (n:=n) (x := "+-*&|^<=") (i:=i) (by decide) h0 (by rw[show(("+-*&|^<=" : Str).cps.toList.length:Int)=8 by decide +kernel];exact h1)
 exact⟨_,e⟩
theorem RP(ns:List Int)(fs:List Str)(hf:0<fs.length)(A2 A3:Option (M×D))(r k:Int)(ds:List De)(hd:ds.length≤50)(o7 o8 o9:Option (M×D)) :
  ∃r' q bL fU B1,uh [some (.al,.lst (ns.map .int)),some (.al,.lst (fs.map .str)),A2,A3,some (.fr,.int r),some (.bo,.lst (ds.map aw)),some (.fr,.int k),o7,o8,o9]=some (.nx [some (.al,.lst (ns.map .int)),some (.al,.lst (fs.map .str)),A2,A3,some (.fr,.int r'),some (.bo,.lst ((ds++[q]).map aw)),some (.fr,.int k),bL,fU,B1]):=by
 obtain⟨x1,h1⟩:=mC r k
 obtain⟨x2,h2⟩:=mC r (k+20)
 obtain⟨x3,h3⟩:=mC r (k+40)
 obtain⟨b,hb⟩:=yS ns
 have s5:ds.length<sizeLine:=dC hd (by decide)
 unfold uh
 rw[av (e':=[some (.al,.lst (ns.map .int)),some (.al,.lst (fs.map .str)),A2,A3,some (.fr,.int r),some (.bo,.lst (ds.map aw)),some (.fr,.int k),some (.fr,.int x1),o8,o9]) (by walk_at "ev"; rw[h1];walk_at "ev")]
 rw[av (e':=[some (.al,.lst (ns.map .int)),some (.al,.lst (fs.map .str)),A2,A3,some (.fr,.int r),some (.bo,.lst (ds.map aw)),some (.fr,.int k),some (.fr,.int x1),some (.fr,.int x2),o9]) (by walk_at "ev"; rw[h2];walk_at "ev")]
 rw[av (e':=[some (.al,.lst (ns.map .int)),some (.al,.lst (fs.map .str)),A2,A3,some (.fr,.int r),some (.bo,.lst (ds.map aw)),some (.fr,.int k),some (.fr,.int x1),some (.fr,.int x2),some (.fr,.int (x3%8))]) (by walk_at "ev"; rw[h3];walk_at "go")]
 have fin:∀(r' y1 y2 y3:Int),0≤y3→y3<8→∃q,cI 5 (aQ (ae (ag ak (jC (.str "+-*&|^<=")) (jV 9)) (ae (au iV (ae (jV 7) (ae (jV 1) ah))) (ae (au iV (ae (jV 8) (ae (jV 1) ah))) ah)))) [some (.al,.lst (ns.map .int)),some (.al,.lst (fs.map .str)),A2,A3,some (.fr,.int r'),some (.bo,.lst (ds.map aw)),some (.fr,.int k),some (.fr,.int y1),some (.fr,.int y2),some (.fr,.int y3)]=some (.nx [some (.al,.lst (ns.map .int)),some (.al,.lst (fs.map .str)),A2,A3,some (.fr,.int r'),some (.bo,.lst ((ds++[q]).map aw)),some (.fr,.int k),some (.fr,.int y1),some (.fr,.int y2),some (.fr,.int y3)]):=fun r' y1 y2 y3 z0 z1=>by
  obtain⟨s,hs⟩:=Va (m:=.fr) (n:=.fr) z0 z1
  obtain⟨a,ha⟩:=oh y1 fs hf
  obtain⟨b,hb⟩:=oh y2 fs hf
  refine⟨(s,a,b),?_⟩
  walk_at "ev"
  rw[hs]
  walk_at "ev"
  rw[ha]
  walk_at "ev"
  rw[hb]
  walk_at "ev"
  simp -implicitDefEqProofs only [s5,if_true,List.map_append,mq,mn,aw]
 cases b with
 |false =>
  rw[av (e':=[some (.al,.lst (ns.map .int)),some (.al,.lst (fs.map .str)),A2,A3,some (.fr,.int r),some (.bo,.lst (ds.map aw)),some (.fr,.int k),some (.fr,.int x1),some (.fr,.int x2),some (.fr,.int (x3%8))]) (by walk_at "ev"; rw[hb];walk_at "ev")]
  obtain⟨q,hq⟩:=fin r x1 x2 (x3%8) (by omega) (by omega)
  exact⟨_,q,_,_,_,hq⟩
 |true =>
  rw[av (e':=[some (.al,.lst (ns.map .int)),some (.al,.lst (fs.map .str)),A2,A3,some (.fr,.int (r/8000000000000000000000000000000000000000000)),some (.bo,.lst (ds.map aw)),some (.fr,.int k),some (.fr,.int (r%1000000000000000000000)),some (.fr,.int (r/1000000000000000000000%1000000000000000000000)),some (.fr,.int (r/1000000000000000000000000000000000000000000%8))]) (by
   rw[bz (by walk_at "ev"; rw[hb];rfl)]
   walk_at "ev"
   simp -implicitDefEqProofs only [Xi,Xj]
   walk_at "go"
   rfl)]
  obtain⟨q,hq⟩:=fin (r/8000000000000000000000000000000000000000000) (r%1000000000000000000000) (r/1000000000000000000000%1000000000000000000000) (r/1000000000000000000000000000000000000000000%8) (by omega) (by omega)
  exact⟨_,q,_,_,_,hq⟩
theorem yx(ns:List Int)(fs:List Str)(hf:0<fs.length):∃ds:List De,(1≤ds.length∧ds.length≤12)∧n9 [.lst (ns.map .int),.lst (fs.map .str)]=some (.un,.lst (ds.map aw)):=by
 obtain⟨c,hc⟩:=mE ns 1 (by omega)
 unfold n9 fn C0
 simp only[cq,bw,bA]
 rw[av (e':=[some (.al,.lst (ns.map .int)),some (.al,.lst (fs.map .str)),some (.fr,.int c),none,none,none,none,none,none,none]) (by walk_at "ev"; rw[hc];walk_at "ev")]
 rw[av (e':=[some (.al,.lst (ns.map .int)),some (.al,.lst (fs.map .str)),some (.fr,.int c),some (.fr,.int (1+c%4)),none,none,none,none,none,none]) (by walk_at "go")]
 have hm:∃many:Int,(1≤many∧many≤12)∧aP (jB (ag aM (ag aW (ag cA (jV 2) (jC (.int 4))) (jC (.int 6))) (jC (.int 1)))) (aq 3 (jC (.int 12))) aU [some (.al,.lst (ns.map .int)),some (.al,.lst (fs.map .str)),some (.fr,.int c),some (.fr,.int (1+c%4)),none,none,none,none,none,none]=some (.nx [some (.al,.lst (ns.map .int)),some (.al,.lst (fs.map .str)),some (.fr,.int c),some (.fr,.int many),none,none,none,none,none,none]):=by
  by_cases q:c/4%6=1
  ·exact⟨12,by omega,by rw[bz (by walk_at "go"; simp only[q,decide_true])];rfl⟩
  ·exact⟨1+c%4,by omega,by rw[bU (by walk_at "go"; simp only[q,decide_false])];rfl⟩
 obtain⟨many,tF,em⟩:=hm
 rw[av em]
 rw[av (e':=[some (.al,.lst (ns.map .int)),some (.al,.lst (fs.map .str)),some (.fr,.int c),some (.fr,.int many),some (.fr,.int (c/24)),none,none,none,none,none]) (by walk_at "go")]
 rw[av (e':=[some (.al,.lst (ns.map .int)),some (.al,.lst (fs.map .str)),some (.fr,.int c),some (.fr,.int many),some (.fr,.int (c/24)),some (.bo,.lst []),none,none,none,none]) rfl]
 obtain⟨e',l1,ds,r,o6,o7,o8,o9,he,hl⟩:=cQ (g:=gN 6) (b:=uh) (m:=.fr) (ds:=b0 0 many.toNat) (e:=[some (.al,.lst (ns.map .int)),some (.al,.lst (fs.map .str)),some (.fr,.int c),some (.fr,.int many),some (.fr,.int (c/24)),some (.bo,.lst []),none,none,none,none])
  (fun i e=>∃(ds:List De) (r:Int) (o6 o7 o8 o9:Option (M×D)),e=[some (.al,.lst (ns.map .int)),some (.al,.lst (fs.map .str)),some (.fr,.int c),some (.fr,.int many),some (.fr,.int r),some (.bo,.lst (ds.map aw)),o6,o7,o8,o9]∧ds.length=i) ⟨[],_,none,none,none,none,rfl,rfl⟩
  (fun i d e hd a9=>by
   obtain⟨ds,r,o6,o7,o8,o9,he,hl⟩:=a9
   subst he
   obtain⟨hi,rfl⟩:=kh hd
   obtain⟨r',q,bL,fU,B1,e⟩:=RP ns fs hf (some (.fr,.int c)) (some (.fr,.int many)) r (0+(i:Int)) ds (by omega) o7 o8 o9
   exact⟨_,_,rfl,e,ds++[q],r',_,bL,fU,B1,rfl,by simp[hl]⟩)
 subst he
 rw[iX]at hl
 rw[av (e':=[some (.al,.lst (ns.map .int)),some (.al,.lst (fs.map .str)),some (.fr,.int c),some (.fr,.int many),some (.fr,.int r),some (.bo,.lst (ds.map aw)),o6,o7,o8,o9]) (by
  have cu:-4611686018427387904≤many∧many<4611686018427387904:=by omega
  simp -implicitDefEqProofs only [aT,bY,ae,ah,jV,gz,gy,id_eq,oq,cu,and_self,if_true]
  exact l1)]
 by_cases q2:ds.length=2
 ·obtain⟨d0,d1,rfl⟩:∃a b,ds=[a,b]:=by
   clear hl l1
   obtain _|⟨a,_|⟨b,_|_⟩⟩:=ds
   ·cases q2
   ·cases q2
   ·exact⟨a,b,rfl⟩
   ·cases q2
  by_cases q3:c/4%3=0
  ·refine⟨[d0,(d0.1,d0.2.2,d0.2.1)],by simp,?_⟩
   rw[av (e':=[some (.al,.lst (ns.map .int)),some (.al,.lst (fs.map .str)),some (.fr,.int c),some (.fr,.int many),some (.fr,.int r),some (.bo,.lst ([d0,(d0.1,d0.2.2,d0.2.1)].map aw)),o6,o7,o8,o9]) (by
    rw[bz (by walk_at "go"; simp[q3])]
    rfl)]
   rfl
  ·refine⟨[d0,d1],by simp,?_⟩
   rw[av (e':=[some (.al,.lst (ns.map .int)),some (.al,.lst (fs.map .str)),some (.fr,.int c),some (.fr,.int many),some (.fr,.int r),some (.bo,.lst ([d0,d1].map aw)),o6,o7,o8,o9]) (by
    rw[bU (by walk_at "go"; simp[q3])]
    rfl)]
   rfl
 ·refine⟨ds,by omega,?_⟩
  rw[av (e':=[some (.al,.lst (ns.map .int)),some (.al,.lst (fs.map .str)),some (.fr,.int c),some (.fr,.int many),some (.fr,.int r),some (.bo,.lst (ds.map aw)),o6,o7,o8,o9]) (by
   rw[bU (by
    walk_at "ev"
    have:¬((ds.length:Int)=2):=by omega
    simp only[this,decide_false]
    walk_at "ev")]
   rfl)]
  rfl
noncomputable def Row.flat:Row→Bool
 |.rk _ _ _ _=>true
 |.cp _ _=>true
 |.sy _=>true
 |_=>false
theorem GA(c o:Int)(fs:List Str)(hf:0<fs.length)(ds:List De)(hd:0<ds.length):∃r:Row,qy [.int c,.int o,.lst (fs.map .str),.lst (ds.map aw)]=some (.fr,r.d)∧(c%11<7→Row.flat r=true)∧(7≤c%11→c%11<9→∃a t,r=.pt a t∧0≤t)∧(9≤c%11→∃a,r=.pt a (-1)):=by
 obtain⟨nm,_,hn⟩:=oA (f:=D.str) (l:=fs) (k:=o%60%fs.length) (Int.emod_nonneg _ (by omega)) (Int.emod_lt_of_pos _ (by omega))
 obtain⟨op,ho⟩:=oh (o/43200) fs hf
 obtain⟨q,_,hq⟩:=oA (f:=aw) (l:=ds) (k:=o/60%12%ds.length) (Int.emod_nonneg _ (by omega)) (Int.emod_lt_of_pos _ (by omega))
 unfold qy fn DP
 simp only[cq,bw,bA]
 rw[av (e':=[some (.al,.int c),some (.al,.int o),some (.al,.lst (fs.map .str)),some (.al,.lst (ds.map aw)),some (.al,.str nm),none,none,none,none]) (by
  walk_at "go"
  rw[hn]
  walk_at "ev")]
 rw[av (e':=[some (.al,.int c),some (.al,.int o),some (.al,.lst (fs.map .str)),some (.al,.lst (ds.map aw)),some (.al,.str nm),some (.fr,kD op),none,none,none]) (by
  walk_at "go"
  rw[ho]
  walk_at "ev")]
 by_cases q1:c%11<5
 ·refine⟨.rk nm q.1 q.2.1 q.2.2,?_,fun _=>rfl,fun z=>by omega,fun z=>by omega⟩
  rw[dG (e':=[some (.al,.int c),some (.al,.int o),some (.al,.lst (fs.map .str)),some (.al,.lst (ds.map aw)),some (.al,.str nm),some (.fr,kD op),some (.al,.str q.1),some (.al,kD q.2.1),some (.al,kD q.2.2)]) (m:=.fr) (d:=Row.d (.rk nm q.1 q.2.1 q.2.2)) (by
   rw[bz (by walk_at "go"; simp only[q1,decide_true])]
   rw[av (e':=[some (.al,.int c),some (.al,.int o),some (.al,.lst (fs.map .str)),some (.al,.lst (ds.map aw)),some (.al,.str nm),some (.fr,kD op),some (.al,.str q.1),some (.al,kD q.2.1),some (.al,kD q.2.2)]) (by
    walk_at "go"
    rw[hq]
    rfl)]
   walk_at "ev"
   simp -implicitDefEqProofs only [qW,Bool.and_self,if_true]
   rfl)]
  rfl
 rw[fj (by walk_at "go"; simp only[q1,decide_false])]
 by_cases q2:c%11=5
 ·refine⟨.cp nm op,?_,fun _=>rfl,fun z=>by omega,fun z=>by omega⟩
  rw[dG (e':=[some (.al,.int c),some (.al,.int o),some (.al,.lst (fs.map .str)),some (.al,.lst (ds.map aw)),some (.al,.str nm),some (.fr,kD op),none,none,none]) (m:=.fr) (d:=Row.d (.cp nm op)) (by
   rw[bz (by walk_at "go"; simp only[q2,decide_true])]
   walk_at "ev"
   rfl)]
  rfl
 rw[fj (by walk_at "go"; simp only[q2,decide_false])]
 by_cases q3:c%11=6
 ·refine⟨.sy op,?_,fun _=>rfl,fun z=>by omega,fun z=>by omega⟩
  rw[dG (e':=[some (.al,.int c),some (.al,.int o),some (.al,.lst (fs.map .str)),some (.al,.lst (ds.map aw)),some (.al,.str nm),some (.fr,kD op),none,none,none]) (m:=.fr) (d:=Row.d (.sy op)) (by
   rw[bz (by walk_at "go"; simp only[q3,decide_true])]
   walk_at "ev"
   rfl)]
  rfl
 rw[fj (by walk_at "go"; simp only[q3,decide_false])]
 by_cases q4:c%11<9
 ·refine⟨.pt op (o/720%60),?_,fun z=>by omega,fun _ _=>⟨_,_,rfl,by omega⟩,fun z=>by omega⟩
  rw[dG (e':=[some (.al,.int c),some (.al,.int o),some (.al,.lst (fs.map .str)),some (.al,.lst (ds.map aw)),some (.al,.str nm),some (.fr,kD op),none,none,none]) (m:=.fr) (d:=Row.d (.pt op (o/720%60))) (by
   rw[bz (by walk_at "go"; simp only[q4,decide_true])]
   walk_at "go"
   rfl)]
  rfl
 ·refine⟨.pt op (-1),?_,fun z=>by omega,fun _ z=>by omega,fun _=>⟨_,rfl⟩⟩
  rw[fj (by walk_at "go"; simp only[q4,decide_false])]
  walk_at "ev"
  rfl
noncomputable def Row.cR:Row→Bool
 |.go _=>true
 |_=>false
noncomputable def Row.f6:Row→Bool
 |.pt _ _=>true
 |_=>false
noncomputable def Row.eJ:Row→Bool
 |.en=>true
 |_=>false
theorem gF(r:Row):decide (r.word=("go" : Str))=Row.cR r:=by
 cases r with
 |rk x s a b=>exact(by decide +kernel:decide (("reckon" : Str) = "go")=false)
 |cp x a=>exact(by decide +kernel:decide (("copy" : Str) = "go")=false)
 |sy a=>exact(by decide +kernel:decide (("say" : Str) = "go")=false)
 |go t=>exact(by decide +kernel:decide (("go" : Str) = "go")=true)
 |pt a t=>exact(by decide +kernel:decide (("part" : Str) = "go")=false)
 |en=>exact(by decide +kernel:decide (("end" : Str) = "go")=false)
theorem jj(r:Row):decide (r.word=("part" : Str))=Row.f6 r:=by
 cases r with
 |rk x s a b=>exact(by decide +kernel:decide (("reckon" : Str) = "part")=false)
 |cp x a=>exact(by decide +kernel:decide (("copy" : Str) = "part")=false)
 |sy a=>exact(by decide +kernel:decide (("say" : Str) = "part")=false)
 |go t=>exact(by decide +kernel:decide (("go" : Str) = "part")=false)
 |pt a t=>exact(by decide +kernel:decide (("part" : Str) = "part")=true)
 |en=>exact(by decide +kernel:decide (("end" : Str) = "part")=false)
theorem hR(r:Row):decide (r.word=("end" : Str))=Row.eJ r:=by
 cases r with
 |rk x s a b=>exact(by decide +kernel:decide (("reckon" : Str) = "end")=false)
 |cp x a=>exact(by decide +kernel:decide (("copy" : Str) = "end")=false)
 |sy a=>exact(by decide +kernel:decide (("say" : Str) = "end")=false)
 |go t=>exact(by decide +kernel:decide (("go" : Str) = "end")=false)
 |pt a t=>exact(by decide +kernel:decide (("part" : Str) = "end")=false)
 |en=>exact(by decide +kernel:decide (("end" : Str) = "end")=true)
theorem dA(m n:M)(r:Row):ak (m,r.d) (n,.int 0)=some (aV m,.str r.word):=by
 show(L2.bE r.ds 0).map (fun d=>(aV m,d))=_
 rw[Row.Zf];rfl
theorem Fg{rs:List Row}{i:Nat}{d:D}(h:(bT (rs.map Row.d))[i]?=some d):∃r,rs[i]?=some r∧d=.tup [.int i,r.d]:=by
 unfold bT at h
 rw[List.getElem?_mapIdx,cV]at h
 cases e:rs[i]? with
 |none=>rw[e]at h;cases h
 |some r=>rw[e]at h;cases h;exact⟨r,rfl,rfl⟩
noncomputable def bp(n:Int):Row→List Int
 |.en=>[]
 |.go t=>[t]
 |.pt _ t=>[n+1,t]
 |_=>[n+1]
def aS(rs:List Row)(i j:Nat):Prop:=∃r,rs[i]?=some r∧(j:Int)∈bp i r∧j<rs.length
theorem zy(rs:List Row)(n:Nat)(r:Row)(h:rs[n]?=some r):n6 [.lst (rs.map Row.d),.int n]=some (.un,.lst ((bp n r).map .int)):=by
 have aZ:n<rs.length:=(bB.mp h).1
 have x8:L2.bE (rs.map Row.d) (n:Int)=some r.d:=by
  rw[mD (by rw[ln];exact aZ),List.getElem_map]
  rw[dU aZ]at h
  rw[Option.some.inj h]
 generalize (n:Int)=nn at x8 ⊢
 unfold n6 fn CV
 walk_at "ev"
 rw[x8]
 walk_at "ev"
 simp -implicitDefEqProofs only [dA,oq,c9,dJ,bx,hR,gF,jj]
 cases r with
 |en=>simp only[Row.eJ,bp];walk_at "ev"
 |go t =>
  have q:∀{m n:M},ak (m,Row.d (.go t)) (n,.int 1)=some (aV m,.int t):=fun {m n}=>rfl
  simp only[Row.eJ,Row.cR,bp]
  walk_at "ev"
  simp -implicitDefEqProofs only [dA,oq,c9,dJ,bx,hR,gF,jj,Row.cR]
  walk_at "ev"
  rw[q]
  walk_at "ev"
 |pt a t =>
  have q:∀{m n:M},ak (m,Row.d (.pt a t)) (n,.int 2)=some (aV m,.int t):=fun {m n}=>rfl
  simp only[Row.eJ,Row.cR,Row.f6,bp]
  walk_at "ev"
  simp -implicitDefEqProofs only [dA,oq,c9,dJ,bx,hR,gF,jj,Row.cR,Row.f6]
  walk_at "ev"
  simp -implicitDefEqProofs only [dA,oq,c9,dJ,bx,hR,gF,jj,Row.cR,Row.f6]
  walk_at "ev"
  rw[q]
  walk_at "ev"
 |rk x s a b =>
  simp only[Row.eJ,bp]
  walk_at "ev"
  simp -implicitDefEqProofs only [dA,oq,c9,dJ,bx,hR,gF,jj,Row.cR,Row.f6]
  walk_at "ev"
  simp -implicitDefEqProofs only [dA,oq,c9,dJ,bx,hR,gF,jj,Row.cR,Row.f6]
  walk_at "ev"
 |cp x a =>
  simp only[Row.eJ,bp]
  walk_at "ev"
  simp -implicitDefEqProofs only [dA,oq,c9,dJ,bx,hR,gF,jj,Row.cR,Row.f6]
  walk_at "ev"
  simp -implicitDefEqProofs only [dA,oq,c9,dJ,bx,hR,gF,jj,Row.cR,Row.f6]
  walk_at "ev"
 |sy a =>
  simp only[Row.eJ,bp]
  walk_at "ev"
  simp -implicitDefEqProofs only [dA,oq,c9,dJ,bx,hR,gF,jj,Row.cR,Row.f6]
  walk_at "ev"
  simp -implicitDefEqProofs only [dA,oq,c9,dJ,bx,hR,gF,jj,Row.cR,Row.f6]
  walk_at "ev"
theorem yT(rs:List Row)(n:Nat)(r:Row)(h:rs[n]?=some r):nW [.lst (rs.map Row.d),.int n]=some (.un,.lst ((bp n r).map .int)):=zy rs n r h
structure Good (rs:List Row):Prop where
 pos:0<rs.length
 bp:∀(n:Nat) r,rs[n]?=some r→∀m∈aN.bp n r,0≤m∧m<rs.length
theorem qA:∀(N:Nat) (l:List Nat),l.Nodup→(∀x∈l,x<N)→l.length≤N
 |0,l,_,h=>by
  cases l with
  |nil=>exact bf _
  |cons a l=>exact absurd (h a cv) (Nat.not_lt_zero a)
 |N+1,l,hn,h=>by
  have ih:=qA N (l.erase N) (hn.erase N) (fun x hx=>by
   have h1:=h x (List.mem_of_mem_erase hx)
   have h2:x≠N:=fun e=>by subst e;exact(List.Nodup.not_mem_erase hn) hx
   omega)
  rw[List.length_erase]at ih
  split at ih<;>omega
noncomputable def ax(l:List Nat):List D:=l.map fun(n:Nat)=>D.int (n:Int)
theorem fq(l:List Nat):(ax l).length=l.length:=by simp[ax]
theorem El(l:List Nat)(x:Nat):ax l++[D.int (x:Int)]=ax (l++[x]):=by simp[ax]
noncomputable def cG(rs:List Row)(n:Nat):List Int:=match rs[n]? with
 |some r=>bp n r
 |none=>[]
noncomputable def bP(rs:List Row)(n:Nat):List Nat:=(cG rs n).map Int.toNat
theorem yy{rs:List Row}(g:Good rs){n:Nat}{m:Int}(h:m∈cG rs n):0≤m∧m<rs.length:=by
 unfold cG at h
 split at h
 ·rename_i r hr;exact g.bp _ _ hr _ h
 ·cases h
theorem rh{rs:List Row}(g:Good rs)(n:Nat):(cG rs n).map D.int=ax (bP rs n):=by
 unfold ax bP
 rw[List.map_map]
 refine List.map_congr_left fun m hm=>?_
 have:=yy g hm
 show D.int m=D.int ((m.toNat:Nat):Int)
 rw[Int.toNat_of_nonneg this.1]
theorem ou{rs:List Row}(g:Good rs){n m:Nat}(h:m∈bP rs n):aS rs n m:=by
 obtain⟨x,hx,rfl⟩:=bZ.mp h
 have b:=yy g hx
 unfold cG at hx
 split at hx
 ·rename_i r hr
  exact⟨r,hr,by rw[Int.toNat_of_nonneg b.1];exact hx,by omega⟩
 ·cases hx
theorem PD{rs:List Row}{n m:Nat}(h:aS rs n m):m∈bP rs n:=by
 obtain⟨r,hr,hm,_⟩:=h
 refine bZ.mpr ⟨(m:Int),?_,by simp⟩
 unfold cG;rw[hr];exact hm
noncomputable def dE(rs:List Row):List D:=(List.range rs.length).map fun n=>D.lst ((cG rs n).map D.int)
theorem DT{fe:Ev→Option (M×D)}{m m':M}{fr:Ev}:∀{ds:List D}{G:Nat→D},(∀(k:Nat) d,ds[k]?=some d→fe (some (m,d)::fr)=some (m',G k))→dI eE fe m fr ds=some ((List.range ds.length).map fun k=>(m',G k))
 |[],G,_=>rfl
 |d::ds,G,h=>by
  have ih:=DT (fe:=fe) (m:=m) (m':=m') (fr:=fr) (ds:=ds) (G:=fun k=>G (k+1)) fun k e he=>h (k+1) e (by simpa using he)
  rw[dI,show eE (some (m,d)::fr)=some true from rfl,oq,if_pos rfl,h 0 d rfl,oq,ih,oq,List.length_cons,List.range_succ_eq_map,mq,List.map_map]
  rfl
theorem Vb{m:M}(hm:m=.fr∨m=.un){N:Nat}(h:N≤1000)(G:Nat→D):iA ((List.range N).map fun k=>(m,G k))=some (.un,.lst ((List.range N).map G)):=by
 unfold iA
 rw[if_pos (by rw[ln,List.length_range];exact Nat.le_trans h (by decide)),if_pos (by rw[List.all_map];exact List.all_eq_true.mpr fun _ _=>by rcases hm with rfl|rfl<;>rfl),List.map_map]
 rfl
theorem yk{rs:List Row}(hl:rs.length≤800):nU [.lst (rs.map Row.d)]=some (.un,.lst (dE rs)):=by
 have ex:=DT (fe:=au n6 (ae (jV 1) (ae (jV 0) ah))) (m:=.fr) (m':=.un) (fr:=[some (.al,.lst (rs.map Row.d))]) (ds:=b0 0 rs.length) (G:=fun n=>D.lst ((cG rs n).map D.int)) (fun k d hd=>by
  obtain⟨hk,rfl⟩:=kh hd
  have hr:rs[k]?=some (rs[k]'hk):=by simp
  have e:=zy rs k _ hr
  have ef:cG rs k=bp k (rs[k]'hk):=by unfold cG;rw[hr]
  rw[ef,show(0:Int)+(k:Int)=(k:Int) by omega]
  simp -implicitDefEqProofs only [au,ae,ah,jV,gz,gy,id_eq,oq,mq,mn,e])
 rw[iX]at ex
 have cu:-4611686018427387904≤(rs.length:Int)∧(rs.length:Int)<4611686018427387904:=by omega
 have ht:(rs.length:Int).toNat=rs.length:=by omega
 unfold nU fn Cm
 simp -implicitDefEqProofs only [aH,cF,bY,aO,ae,ah,jV,mq,mn,List.length_cons,List.length_nil,List.replicate,List.nil_append,List.cons_append,List.append_nil,gz,id_eq,oq,dS,ln,cu,and_self,if_true,ht,Nat.sub_self,Nat.reduceAdd,Nat.reduceSub]
 rw[show fP [some (M.al,D.lst (rs.map Row.d))] [0]=[some (.al,.lst (rs.map Row.d))] from rfl]
 rw[ex,oq,Vb (.inr rfl) (by omega),oq]
 rfl
noncomputable def B2(k:Nat)(e:Ev):Nat:=match e[k]? with
 |some (some (_,.dk ks))=>ks.length
 |_=>0
noncomputable def bh(ks:List Nat):List (Key×D):=ks.map fun(n:Nat)=>(.inl (n:Int),.bl true)
theorem zS:∀(ks:List Nat) (n:Nat),(cB (bh ks) (.inl (n:Int))).isSome=decide (n∈ks)
 |[],n=>rfl
 |k::ks,n=>by
  have ih:=zS ks n
  show(((((Key.inl (k:Int):Key),D.bl true)::bh ks).find? fun kv=>decide (kv.1=.inl (n:Int))).map (·.2)).isSome=_
  rw[List.find?_cons]
  by_cases h:k=n
  ·subst h
   rw[decide_eq_true rfl]
   simp
  ·have fM:¬((Key.inl (k:Int):Key)=.inl (n:Int)):=fun e=>h (Int.ofNat_inj.mp (Key.inl.inj e))
   rw[decide_eq_false fM]
   have h':¬n=k:=fun z=>h z.symm
   simp only[List.mem_cons,h',false_or]
   exact ih
theorem GB{ks:List Nat}{n:Nat}(h:n∉ks):putD (bh ks) (.inl (n:Int)) (.bl true)=bh (ks++[n]):=by
 have ha:((bh ks).any fun kv=>decide (kv.1=.inl (n:Int)))=false:=by
  rw[List.any_eq_false]
  intro kv bR
  obtain⟨q,hq,rfl⟩:=bZ.mp bR
  simp only[decide_eq_true_eq]
  intro e
  exact h ((Int.ofNat_inj.mp (Key.inl.inj e))▸hq)
 unfold putD
 rw[ha,if_neg aX]
 simp only[bh,List.map_append,mq,mn]
theorem vo(ks:List Nat):(bh ks).length=ks.length:=by simp[bh]
noncomputable def dF(S:List (List Nat)):List D:=S.map fun l=>.lst (ax l)
noncomputable def fV(Bk:List (List Nat)):D:=.lst ((Bk.map ax).map D.lst)
theorem RQ(Bk:List (List Nat)):fV Bk=.lst (dF Bk):=by unfold fV dF;rw[List.map_map];rfl
theorem RT{A0 A3:Option (M×D)}{Bk:List (List Nat)}{n m:Nat}(hm:m<Bk.length)(hl:(Bk.getD m []).length≤5000) :
  qm [A0,some (.nb,fV Bk),some (.al,.int (n:Int)),A3,some (.al,.int (m:Int))]=some (.nx [A0,some (.nb,fV (Bk.set m (Bk.getD m []++[n]))),some (.al,.int (n:Int)),A3,some (.al,.int (m:Int))]):=by
 have nQ:dW (Bk.map ax).length (m:Int)=some m:=by
  unfold dW
  rw[ln,if_pos (by omega),if_pos (by omega)];simp
 have hd:(Bk.map ax)[m]?=some (ax (Bk.getD m [])):=by
  rw[cV,dU hm,hU,dU hm];rfl
 have hs:(ax (Bk.getD m [])).length<sizeLine:=by rw[fq];exact dC hl (by decide)
 have e1:(Bk.map ax).set m (ax (Bk.getD m []++[n]))=(Bk.set m (Bk.getD m []++[n])).map ax:=by rw[List.map_set]
 unfold qm fV
 simp -implicitDefEqProofs only [vG,jV,gz,gy,id_eq,oq,jJ,vg,pB,if_true,wO,Ed,nQ,hd,hs,El,e1,tz,tq]
theorem uS{Bk:List (List Nat)}{m j:Nat}{v:List Nat}(hm:m<Bk.length):(Bk.set m v).getD j []=if j=m then v else Bk.getD j []:=by
 rw[hU,hU,List.getElem?_set]
 by_cases h:m=j
 ·subst h;simp[hm]
 ·have h':¬j=m:=fun z=>h z.symm
  simp[h,h']
theorem Dq{A0 A3:Option (M×D)}{n:Nat}:∀(ms:List Nat) (Bk:List (List Nat)) (c:Nat) (o4:Option (M×D)),(∀m∈ms,m<Bk.length)→(∀j,(Bk.getD j []).length≤c)→c+ms.length≤5000 →
  ∃j6 gA,forL (gN 4) qm .al (ax ms) [A0,some (.nb,fV Bk),some (.al,.int (n:Int)),A3,o4]=some (.nx [A0,some (.nb,fV j6),some (.al,.int (n:Int)),A3,gA])∧j6.length=Bk.length∧(∀j,(j6.getD j []).length≤c+ms.length)∧(∀j x,x∈Bk.getD j []→x∈j6.getD j [])∧(∀m∈ms,n∈j6.getD m [])∧∀j x,x∈j6.getD j []→x∈Bk.getD j []∨(x=n∧j∈ms)
 |[],Bk,c,o4,_,hc,_=>⟨Bk,o4,by simp[ax,forL],rfl,fun j=>by have:=hc j;simp;exact this,fun j x h=>h,(fun m hm=>nomatch hm),fun j x h=>.inl h⟩
 |m::ms,Bk,c,o4,hm,hc,hl=>by
  have nJ:=hm m cv
  have x9:=hc m
  rw[List.length_cons]at hl
  obtain⟨j6,gA,q1,q2,q3,q4,q5,q6⟩:=Dq (A0:=A0) (A3:=A3) (n:=n) ms (Bk.set m (Bk.getD m []++[n])) (c+1) (some (.al,.int (m:Int))) (fun x hx=>by rw[List.length_set];exact hm x (df _ hx)) (fun j=>by
   rw[uS nJ]
   split
   ·rw[List.length_append];simp only[List.length_cons,List.length_nil];omega
   ·have:=hc j;omega) (by omega)
  refine⟨j6,gA,?_,by rw[q2,List.length_set],fun j=>by have:=q3 j;rw[List.length_cons];omega,fun j x hx=>q4 j x ?_,fun x hx=>?_,fun j x hx=>?_⟩
  ·rw[show ax (m::ms)=D.int (m:Int)::ax ms from rfl,forL,show gN 4 (M.al,D.int (m:Int)) [A0,some (.nb,fV Bk),some (.al,.int (n:Int)),A3,o4]=some [A0,some (.nb,fV Bk),some (.al,.int (n:Int)),A3,some (.al,.int (m:Int))] from rfl,oq,RT nJ (by omega),oq]
   exact q1
  ·rw[uS nJ]
   split
   ·rename_i e;subst e;exact List.mem_append_left _ hx
   ·exact hx
  ·rcases List.mem_cons.mp hx with rfl|hx
   ·refine q4 x n ?_
    rw[uS nJ,if_pos rfl];simp
   ·exact q5 x hx
  ·rcases q6 j x hx with z|z
   ·rw[uS nJ]at z
    split at z
    ·rename_i e;subst e
     rcases List.mem_append.mp z with y|y
     ·exact .inl y
     ·exact .inr ⟨by simpa using y,cv⟩
    ·exact .inl z
   ·exact .inr ⟨z.1,df _ z.2⟩
theorem Em(rs:List Row)(n:Nat):(bP rs n).length≤2:=by
 unfold bP cG
 rw[ln]
 split
 ·rename_i r _;cases r<;>simp[bp]
 ·simp
theorem RV{rs:List Row}(g:Good rs):dE rs=dF ((List.range rs.length).map (bP rs)):=by
 unfold dE dF
 rw[List.map_map]
 refine List.map_congr_left fun n _=>?_
 show D.lst ((cG rs n).map D.int)=D.lst (ax (bP rs n))
 rw[rh g]
theorem PF{rs:List Row}(g:Good rs){i:Nat}{d:D}(h:(bT (dE rs))[i]?=some d):i<rs.length∧d=.tup [.int (i:Int),.lst (ax (bP rs i))]:=by
 unfold bT dE at h
 rw[List.getElem?_mapIdx,cV]at h
 rcases Nat.lt_or_ge i rs.length with z|z
 ·rw[List.getElem?_range z]at h
  cases h
  exact⟨z,by show D.tup [D.int (i:Int),D.lst ((cG rs i).map D.int)]=_;rw[rh g]⟩
 ·rw[List.getElem?_eq_none (by simpa using z)]at h;cases h
theorem Nb{rs:List Row}(g:Good rs)(hl:rs.length≤800):∃Bk:List (List Nat),uR [.lst (dE rs)]=some (.fr,.lst (dF Bk))∧Bk.length=rs.length∧(∀n m,aS rs n m→n∈Bk.getD m [])∧∀n m,n∈Bk.getD m []→aS rs n m:=by
 have cu:-4611686018427387904≤(rs.length:Int)∧(rs.length:Int)<4611686018427387904:=by omega
 have ht:(rs.length:Int).toNat=rs.length:=by omega
 have sl:(dE rs).length=rs.length:=by simp[dE]
 have r0:∀j,(List.replicate rs.length ([]:List Nat)).getD j []=[]:=fun j=>by
  rw[hU,List.getElem?_replicate];split<;>rfl
 obtain⟨e',l1,Bk,o2,o3,o4,he,b1,b2,b3,b4⟩:=cQ (g:=gT 2 (bG (gN 2) (bG (gN 3) dH))) (b:=yi) (m:=.al) (ds:=bT (dE rs)) (e:=[some (.al,.lst (dE rs)),some (.nb,fV (List.replicate rs.length [])),none,none,none])
  (fun i e=>∃(Bk:List (List Nat)) (o2 o3 o4:Option (M×D)),e=[some (.al,.lst (dE rs)),some (.nb,fV Bk),o2,o3,o4]∧Bk.length=rs.length∧(∀j,(Bk.getD j []).length≤2*i)∧(∀n,n<i→∀m,aS rs n m→n∈Bk.getD m [])∧∀j x,x∈Bk.getD j []→aS rs x j)
  ⟨List.replicate rs.length [],none,none,none,rfl,by simp,fun j=>by rw[r0];simp,fun n h=>absurd h (Nat.not_lt_zero n),fun j x h=>by rw[r0]at h;cases h⟩
  (fun i d e hd a9=>by
   obtain⟨Bk,o2,o3,o4,he,b1,b2,b3,b4⟩:=a9
   subst he
   obtain⟨hi,rfl⟩:=PF g hd
   have j7:=Em rs i
   obtain⟨j6,gA,q1,q2,q3,q4,q5,q6⟩:=Dq (A0:=some (.al,.lst (dE rs))) (A3:=some (.al,.lst (ax (bP rs i)))) (n:=i) (bP rs i) Bk (2*i) o4 (fun m hm=>by
    rw[b1];obtain⟨_,_,_,z⟩:=ou g hm;exact z) b2 (by omega)
   refine⟨_,_,rfl,?_,j6,some (.al,.int (i:Int)),some (.al,.lst (ax (bP rs i))),gA,rfl,by rw[q2,b1],fun j=>by have:=q3 j;omega,fun n hn m hs=>?_,fun j x hx=>?_⟩
   ·unfold yi
    rw[cU]
    show aT (bF (jV 3)) (gN 4) qm [some (.al,.lst (dE rs)),some (.nb,fV Bk),some (.al,.int (i:Int)),some (.al,.lst (ax (bP rs i))),o4]=_
    simp -implicitDefEqProofs only [aT,bF,jV,gz,gy,id_eq,oq,b9,oy]
    exact q1
   ·by_cases e:n=i
    ·subst e;exact q5 m (PD hs)
    ·exact q4 m n (b3 n (by omega) m hs)
   ·rcases q6 j x hx with z|z
    ·exact b4 j x z
    ·obtain⟨rfl,hj⟩:=z;exact ou g hj)
 subst he
 have hE:(bT (dE rs)).length=rs.length:=by simp[bT,sl]
 rw[hE]at b3
 refine⟨Bk,?_,b1,fun n m hs=>b3 n ?_ m hs,fun n m h=>b4 m n h⟩
 ·have n0:((b0 0 rs.length).map fun _=>([]:List D))=(List.replicate rs.length ([]:List Nat)).map ax:=by
   unfold b0
   rw[List.map_map]
   exact List.ext_getElem (by simp) fun i h1 h2=>by simp[ax]
  have nb0:As 1 [some (.al,.lst (dE rs)),none,none,none,none]=true:=rfl
  have hs:(b0 0 rs.length).length<sizeLine:=by rw[iX];exact dC hl (by decide)
  unfold uR fn Eh
  simp only[cq,bw,bA]
  rw[av (e':=[some (.al,.lst (dE rs)),some (.nb,fV (List.replicate rs.length [])),none,none,none]) (by
   simp -implicitDefEqProofs only [vF,bY,aO,ae,ah,jV,gz,id_eq,oq,dS,sl,cu,and_self,if_true,ht,nb0,hs,n0,tz,tq,fV])]
  rw[av (e':=[some (.al,.lst (dE rs)),some (.nb,fV Bk),o2,o3,o4]) (by
   rw[cU,show bj 0 [some (.al,.lst (dE rs)),some (.nb,fV (List.replicate rs.length [])),none,none,none]=[some (.al,.lst (dE rs)),some (.nb,fV (List.replicate rs.length [])),none,none,none] from rfl]
   simp -implicitDefEqProofs only [aT,fQ,ae,jV,ah,gz,gy,oq,id_eq,b9,oy]
   exact l1)]
  rw[←RQ]
  rfl
 ·obtain⟨r,hr,_⟩:=hs;exact(bB.mp hr).1
theorem vd(N:Nat):b0 0 N=ax (List.range N):=by
 unfold b0 ax
 exact List.map_congr_left fun k _=>by rw[Int.zero_add]
theorem qj{fc:Ev→Option Bool}{fe:Ev→Option (M×D)}{m:M}{fr:Ev}{p:Nat→Bool}:∀(ks:List Nat),(∀k∈ks,fc (some (m,.int (k:Int))::fr)=some (p k)∧fe (some (m,.int (k:Int))::fr)=some (.fr,.int (k:Int)))→dI fc fe m fr (ax ks)=some ((ax (ks.filter p)).map fun x=>(M.fr,x))
 |[],_=>rfl
 |k::ks,h=>by
  obtain⟨h1,h2⟩:=h k cv
  have ih:=qj (fc:=fc) (fe:=fe) (m:=m) (fr:=fr) (p:=p) ks fun x hx=>h x (df _ hx)
  rw[show ax (k::ks)=D.int (k:Int)::ax ks from rfl,dI,h1,oq,List.filter_cons]
  cases p k with
  |true=>rw[if_pos rfl,h2,oq,ih,if_pos rfl];rfl
  |false=>rw[if_neg aX,ih,if_neg aX]
mutual
theorem En:∀d:D,J.plain d=true→PyData.eqv (toPy d) (toPy d)=true
 |.non,_=>by simp[toPy,PyData.eqv]
 |.bl b,_=>by simp[toPy,PyData.eqv]
 |.int i,_=>by simp[toPy,PyData.eqv]
 |.str x,_=>by simp[toPy,PyData.eqv]
 |.ty n,h=>by simp[J.plain]at h
 |.dk _,h=>by simp[J.plain]at h
 |.dt _,h=>by simp[J.plain]at h
 |.tup ds,h=>by
  simp only[toPy,PyData.eqv]
  exact yq ds (by simpa only[J.plain]using h)
 |.lst ds,h=>by
  simp only[toPy,PyData.eqv]
  exact yq ds (by simpa only[J.plain]using h)
theorem yq:∀ds:List D,J.fH ds=true→PyData.eqvAll (dq ds) (dq ds)=true
 |[],_=>by simp[dq,PyData.eqvAll]
 |d::ds,h=>by
  have h':J.plain d=true∧J.fH ds=true:=by simpa[J.fH]using h
  simp only[dq,PyData.eqvAll,En d h'.1,yq ds h'.2,Bool.and_self]
end
theorem DU{n:Nat}:∀{ds:List D},(∀d∈ds,(toPy d).depth≤n)→PyData.depthAll (dq ds)≤n
 |[],_=>by simp[dq,PyData.depthAll]
 |d::ds,h=>by
  have:=DU (ds:=ds) fun x hx=>h x (df _ hx)
  have h1:=h d cv
  simp only[dq,PyData.depthAll];omega
theorem qt:∀{ds:List D},(∀d∈ds,J.plain d=true)→J.fH ds=true
 |[],_=>by simp[J.fH]
 |d::ds,h=>by simp only[J.fH,h d List.mem_cons_self,qt fun x hx=>h x (List.mem_cons_of_mem _ hx),Bool.and_self]
theorem PH{ds:List D}(h1:∀d∈ds,J.plain d=true)(h2:∀d∈ds,(toPy d).depth≤10):jT (.lst ds) (.lst ds)=true:=by
 have hd:(toPy (.lst ds)).depth≤60:=by
  simp only[toPy,PyData.depth]
  have:=DU h2;omega
 simp only[jT,J.plain,qt h1,mR,Bool.and_self,Bool.true_and]
 exact decide_eq_true (by omega)
theorem Vc{m n:M}{ds:List D}(h1:∀d∈ds,J.plain d=true)(h2:∀d∈ds,(toPy d).depth≤10):gE (m,.lst ds) (n,.lst ds)=some (.fr,.bl false):=by
 have e:=En (.lst ds) (by simp only[J.plain];exact qt h1)
 simp only[gE,PH h1 h2,if_true,e,Bool.not_true]
noncomputable def bX(q:Int×Int):D:=.tup [.int q.1,.int q.2]
noncomputable def cj(l:List (Int×Int)):List D:=l.map bX
theorem oB(l:List (Int×Int)):(cj l).length=l.length:=by simp[cj]
theorem Eo(l:List (Int×Int))(a b:Int):cj l++[.tup [.int a,.int b]]=cj (l++[(a,b)]):=by simp[cj,bX]
theorem Nc(l:List Row):∀d∈l.map Row.d,J.plain d=true:=fun d hd=>by
 obtain⟨r,_,rfl⟩:=bZ.mp hd
 have k:∀a:Ko,J.plain (kD a)=true:=fun a=>by cases a<;>simp[kD,J.plain]
 cases r<;>simp[Row.d,Row.ds,J.plain,J.fH,k]
theorem Nf(l:List Row):∀d∈l.map Row.d,(toPy d).depth≤10:=fun d hd=>by
 obtain⟨r,_,rfl⟩:=bZ.mp hd
 have k:∀a:Ko,(toPy (kD a)).depth=0:=fun a=>by cases a<;>simp[kD,toPy,PyData.depth]
 cases r<;>simp[Row.d,Row.ds,toPy,dq,PyData.depth,PyData.depthAll,k]
noncomputable def aJ(rs:List Row)(k:Nat):List (Int×Int):=(-1,0)::(List.range k).flatMap fun n=>(cG rs n).map fun m=>((n:Int),m)
theorem yz(rs:List Row)(k:Nat):aJ rs (k+1)=aJ rs k++(cG rs k).map fun m=>((k:Int),m):=by
 unfold aJ
 rw[List.range_succ,List.flatMap_append]
 simp
theorem yA(rs:List Row)(n:Nat):(cG rs n).length≤2:=by
 have:=Em rs n
 unfold bP at this
 rwa [ln]at this
theorem mF(rs:List Row):∀k,(aJ rs k).length≤2*k+1
 |0=>by simp[aJ]
 |k+1=>by
  have:=mF rs k
  have:=yA rs k
  rw[yz,List.length_append,ln];omega
theorem CP{A0 A3:Option (M×D)}{n:Int}:∀(ms:List Int) (l:List (Int×Int)) (o4:Option (M×D)),l.length+ms.length≤5000→∃gA,forL (gN 4) ql .fr (ms.map D.int) [A0,some (.bo,.lst (cj l)),some (.fr,.int n),A3,o4]=some (.nx [A0,some (.bo,.lst (cj (l++ms.map fun m=>(n,m)))),some (.fr,.int n),A3,gA])
 |[],l,o4,_=>⟨o4,by simp[forL]⟩
 |m::ms,l,o4,hl=>by
  rw[List.length_cons]at hl
  obtain⟨gA,q⟩:=CP (A0:=A0) (A3:=A3) (n:=n) ms (l++[(n,m)]) (some (.fr,.int m)) (by rw[List.length_append];simp only[List.length_cons,List.length_nil];omega)
  refine⟨gA,?_⟩
  have hs:l.length<sizeLine:=dC (show l.length≤5000 by omega) (by decide)
  rw[mq,forL,show gN 4 (M.fr,D.int m) [A0,some (.bo,.lst (cj l)),some (.fr,.int n),A3,o4]=some [A0,some (.bo,.lst (cj l)),some (.fr,.int n),A3,some (.fr,.int m)] from rfl,oq]
  have hb:ql [A0,some (.bo,.lst (cj l)),some (.fr,.int n),A3,some (.fr,.int m)]=some (.nx [A0,some (.bo,.lst (cj (l++[(n,m)]))),some (.fr,.int n),A3,some (.fr,.int m)]):=by
   unfold ql
   walk_at "ev"
   rw[oB,if_pos hs,Eo]
  rw[hb,oq]
  simpa using q
theorem PJ{rs:List Row}{i:Nat}{d:D}(h:(bT (dE rs))[i]?=some d):i<rs.length∧d=.tup [.int (i:Int),.lst ((cG rs i).map D.int)]:=by
 unfold bT dE at h
 rw[List.getElem?_mapIdx,cV]at h
 rcases Nat.lt_or_ge i rs.length with z|z
 ·rw[List.getElem?_range z]at h
  cases h
  exact⟨z,rfl⟩
 ·rw[List.getElem?_eq_none (by simpa using z)]at h;cases h
theorem yr{rs:List Row}(hl:rs.length≤800):ot [.lst (rs.map Row.d)]=some (.un,.lst (cj (aJ rs rs.length))):=by
 have af:=yk hl
 obtain⟨e',l1,o2,o3,o4,he⟩:=cQ (g:=gT 2 (bG (gN 2) (bG (gN 3) dH))) (b:=yh) (m:=.fr) (ds:=bT (dE rs)) (e:=[some (.al,.lst (rs.map Row.d)),some (.bo,.lst (cj (aJ rs 0))),none,none,none])
  (fun i e=>∃(o2 o3 o4:Option (M×D)),e=[some (.al,.lst (rs.map Row.d)),some (.bo,.lst (cj (aJ rs i))),o2,o3,o4])
  ⟨none,none,none,rfl⟩
  (fun i d e hd a9=>by
   obtain⟨o2,o3,o4,he⟩:=a9
   subst he
   obtain⟨hi,rfl⟩:=PJ hd
   have h1:=mF rs i
   have h2:=yA rs i
   obtain⟨gA,q⟩:=CP (A0:=some (.al,.lst (rs.map Row.d))) (A3:=some (.fr,.lst ((cG rs i).map D.int))) (n:=(i:Int)) (cG rs i) (aJ rs i) o4 (by omega)
   refine⟨_,_,rfl,?_,some (.fr,.int (i:Int)),some (.fr,.lst ((cG rs i).map D.int)),gA,by rw[yz]⟩
   unfold yh
   rw[cU]
   show aT (bF (jV 3)) (gN 4) ql [some (.al,.lst (rs.map Row.d)),some (.bo,.lst (cj (aJ rs i))),some (.fr,.int (i:Int)),some (.fr,.lst ((cG rs i).map D.int)),o4]=_
   simp -implicitDefEqProofs only [aT,bF,jV,gz,gy,id_eq,oq,b9,oy]
   exact q)
 subst he
 have hE:(bT (dE rs)).length=rs.length:=by simp[bT,dE]
 rw[hE]at l1
 unfold ot fn Eg
 simp only[cq,bw,bA]
 rw[av (e':=[some (.al,.lst (rs.map Row.d)),some (.bo,.lst (cj (aJ rs 0))),none,none,none]) rfl]
 rw[av (e':=[some (.al,.lst (rs.map Row.d)),some (.bo,.lst (cj (aJ rs rs.length))),o2,o3,o4]) (by
  simp -implicitDefEqProofs only [aT,fQ,ae,jV,ah,au,gz,gy,oq,id_eq,mq,mn,af,b9,oy]
  exact l1)]
 rfl
theorem Ep{m:M}(ws:List Int):fO m (ws.map .int)=some (.un,.lst (ws.map .int)):=by
 unfold fO
 rw[if_pos (yp ws),if_pos (yp ws),ite_self,ite_self]
theorem RW(ws:List Int)(lo hi:Option Int):J.cut (ws.map D.int) lo hi=(J.cut ws lo hi).map D.int:=by
 unfold J.cut
 rw[ln,List.map_take,List.map_drop]
theorem yU{m:M}(ws:List Int)(lo hi:Option Int):gQ (m,.lst (ws.map .int)) lo hi=some (.un,.lst ((J.cut ws lo hi).map .int)):=by
 unfold gQ rS Ak
 simp only[RW,Ep]
theorem DV:∀xs:List Int,oV (xs.map .int)=some xs
 |[]=>rfl
 |x::xs=>by rw[mq,oV,DV xs];rfl
theorem yt(ns:List Int)(k:Int)(h:0≤k):∃x,n5 [.lst (ns.map .int),.int k]=some (.fr,.int x):=by
 obtain⟨b,hb⟩:=yS ns
 obtain⟨c,hc⟩:=mE ns k h
 obtain⟨x,hx⟩:=mC (J.cut ns none (some 4)).sum k
 unfold n5 fn CK
 simp only[cq,bw,bA]
 cases b with
 |true =>
  refine⟨c,?_⟩
  rw[dG (e':=[some (.al,.lst (ns.map .int)),some (.al,.int k)]) (m:=.fr) (d:=.int c) (by
   rw[bz (by walk_at "ev"; rw[hb];rfl)]
   walk_at "ev"
   rw[hc]
   rfl)]
  rfl
 |false =>
  refine⟨x,?_⟩
  rw[fj (by walk_at "ev"; rw[hb];rfl)]
  walk_at "ev"
  rw[yU]
  walk_at "ev"
  simp -implicitDefEqProofs only [rV,DV,oq]
  walk_at "ev"
  rw[hx]
  walk_at "ev"
theorem km{rs:List Row}{n:Nat}{r:Row}(h:rs[n]?=some r):L2.bE (rs.map Row.d) (n:Int)=some r.d:=by
 have aZ:n<rs.length:=(bB.mp h).1
 rw[mD (by rw[ln];exact aZ),List.getElem_map]
 rw[dU aZ]at h
 rw[Option.some.inj h]
theorem Vd{r:Row}:Row.eJ r=true↔r=.en:=by cases r<;>simp[Row.eJ]
theorem zA{r:Row}:Row.cR r=true↔∃t,r=.go t:=by cases r<;>simp[Row.cR]
noncomputable def pick(rs:List Row)(p:Row→Bool)(n:Nat):Bool:=match rs[n]? with
 |some r=>p r
 |none=>false
theorem vp(es:List Nat):jT (.lst (ax es)) (.lst [])=true∧PyData.eqv (toPy (.lst (ax es))) (toPy (.lst []))=es.isEmpty:=by
 have p1:J.fH (ax es)=true:=qt fun d hd=>by
  obtain⟨q,_,rfl⟩:=bZ.mp hd;simp[J.plain]
 refine⟨?_,?_⟩
 ·simp only[jT,J.plain,p1,J.fH,mR,Bool.and_self,Bool.true_and]
  exact decide_eq_true (by simp[toPy,dq,PyData.depth,PyData.depthAll])
 ·cases es<;>simp[ax,toPy,dq,PyData.eqv,PyData.eqvAll]
theorem Fh{m n:M}(es:List Nat):gZ (m,.lst (ax es)) (n,.lst [])=some (.fr,.bl es.isEmpty):=by
 simp only[gZ,(vp es).1,if_true,(vp es).2]
theorem Fj{m n:M}(es:List Nat):gE (m,.lst (ax es)) (n,.lst [])=some (.fr,.bl (!es.isEmpty)):=by
 simp only[gE,(vp es).1,if_true,(vp es).2]
theorem Hr{α:Type}{a:α}{l:List α}:L2.bE (a::l) 0=some a:=by
 have:=mD (l:=a::l) (k:=0) (by simp)
 simpa using this
theorem RX(rs:List Row)(n:Int)(hl:rs.length≤100)(h0:rs[0]?≠some .en):∃r:Row,uJ [.lst (rs.map Row.d),.int n]=some (.fr,r.d)∧(r=.en∨(0<rs.length∧∃t,r=.go t)):=by
 have cu:-4611686018427387904≤(rs.length:Int)∧(rs.length:Int)<4611686018427387904:=by omega
 have ht:(rs.length:Int).toNat=rs.length:=by omega
 have ex:=qj (fc:=jB (ag aM (ag ak (ag ak (jV 1) (jV 0)) (jC (.int 0))) (jC (.str "end")))) (fe:=jV 0) (m:=.fr) (fr:=[some (.al,.lst (rs.map Row.d))]) (p:=pick rs Row.eJ) (List.range rs.length) (fun k hk=>by
  have hk:=List.mem_range.mp hk
  have hr:rs[k]?=some (rs[k]'hk):=by simp
  have e:=km hr
  refine⟨?_,rfl⟩
  walk_at "ev"
  rw[e]
  walk_at "ev"
  simp -implicitDefEqProofs only [dA,oq,c9,dJ,bx,hR,pick,hr])
 generalize he:(List.range rs.length).filter (pick rs Row.eJ)=es at ex
 have Bs:es.length≤100:=by rw[←he];have:=List.length_filter_le (pick rs Row.eJ) (List.range rs.length);simp at this;omega
 have hs1:aq 2 (cF (bY (ae (aO bH (ae (jV 0) ah)) ah)) [0] (jB (ag aM (ag ak (ag ak (jV 1) (jV 0)) (jC (.int 0))) (jC (.str "end")))) (jV 0)) [some (.al,.lst (rs.map Row.d)),some (.al,.int n),none]=some (.nx [some (.al,.lst (rs.map Row.d)),some (.al,.int n),some (.bo,.lst (ax es))]):=by
  simp -implicitDefEqProofs only [aq,cF,bY,aO,ae,ah,jV,gz,gy,id_eq,oq,dS,ln,cu,and_self,if_true,ht]
  rw[show fP [some (M.al,D.lst (rs.map Row.d)),some (M.al,D.int n),none] [0]=[some (.al,.lst (rs.map Row.d))] from rfl,vd,ex,oq,ip (by rw[fq];omega),oq]
  rfl
 unfold uJ fn Dm
 simp only[cq,bw,bA]
 rw[av hs1]
 have hq:=Fh (m:=.bo) (n:=.un) es
 generalize jm:es.isEmpty=b at hq
 have hb:b=false→es≠[]:=fun z e=>by subst e;rw[←jm]at z;cases z
 have hc:∀c,(cX (jB (ag gZ (jV 2) (bN ah))) (jB (ag iQ (ag aW (jV 1) (jC (.int 3))) (jC (.int 0))))) [some (.al,.lst (rs.map Row.d)),some (.al,.int n),some (.bo,.lst (ax es))]=some c→(c=false→b=false):=fun c h hf=>by
  subst hf
  revert h
  walk_at "go"
  rw[hq]
  walk_at "ev"
  cases b with
  |true=>intro h;cases h
  |false=>intro _;rfl
 have gJ:∃c,(cX (jB (ag gZ (jV 2) (bN ah))) (jB (ag iQ (ag aW (jV 1) (jC (.int 3))) (jC (.int 0))))) [some (.al,.lst (rs.map Row.d)),some (.al,.int n),some (.bo,.lst (ax es))]=some c:=by
  walk_at "go"
  rw[hq]
  walk_at "ev"
  cases b<;>exact⟨_,rfl⟩
 obtain⟨c,gJ⟩:=gJ
 cases c with
 |true =>
  refine⟨.en,?_,.inl rfl⟩
  rw[dG (e':=[some (.al,.lst (rs.map Row.d)),some (.al,.int n),some (.bo,.lst (ax es))]) (m:=.fr) (d:=Row.d .en) (by rw[bz gJ];rfl)]
  rfl
 |false =>
  have fM:=hb (hc false gJ rfl)
  obtain⟨a,l,rfl⟩:=List.exists_cons_of_ne_nil fM
  have hm:a∈(List.range rs.length).filter (pick rs Row.eJ):=by rw[he];exact cv
  obtain⟨h1,h2⟩:=List.mem_filter.mp hm
  have h1:=List.mem_range.mp h1
  have ha:a≠0:=fun z=>by
   subst z
   unfold pick at h2
   split at h2
   ·rename_i r hr;rw[Vd.mp h2]at hr;exact h0 hr
   ·cases h2
  refine⟨.go (n/3%(a:Int)),?_,.inr ⟨by omega,_,rfl⟩⟩
  rw[av (e':=[some (.al,.lst (rs.map Row.d)),some (.al,.int n),some (.bo,.lst (ax (a::l)))]) (by rw[bU gJ];rfl)]
  walk_at "go"
  rw[show ax (a::l)=.int (a:Int)::ax l from rfl,Hr]
  walk_at "ev"
  rw[kg (by omega)]
  walk_at "ev"
  rfl
structure RG (rs:List Row):Prop where
 r0:∀r,rs[0]?=some r→Row.eJ r=false∧Row.cR r=false
 pt:∀(i:Nat) a t,rs[i]?=some (.pt a t)→(t=-1∧i+1<rs.length)∨0≤t
theorem RG.nil:RG []:=⟨fun r h=>by simp at h,fun i a t h=>by simp at h⟩
theorem gS{rs:List Row}{x r:Row}{i:Nat}(h:(rs++[x])[i]?=some r):rs[i]?=some r∨(i=rs.length∧r=x):=by
 rw[List.getElem?_append]at h
 split at h
 ·exact .inl h
 ·rename_i hi
  have:i-rs.length=0:=by
   rcases Nat.eq_zero_or_pos (i-rs.length)with z|z
   ·exact z
   ·rw[List.getElem?_eq_none (by simp;omega)]at h;cases h
  rw[this]at h
  simp at h
  exact .inr ⟨by omega,h.symm⟩
theorem RG.one{rs:List Row}{r:Row}(h:RG rs)(e:Row.eJ r=false)(g:Row.cR r=false)(p:∀a t,r=.pt a t→0≤t):RG (rs++[r]):=by
 refine⟨fun x hx=>?_,fun i a t hx=>?_⟩
 ·rcases gS hx with z|⟨_,rfl⟩
  ·exact h.r0 x z
  ·exact⟨e,g⟩
 ·rcases gS hx with z|⟨_,z⟩
  ·rcases h.pt i a t z with⟨w,y⟩|w
   ·exact .inl ⟨w,by simp;omega⟩
   ·exact .inr w
  ·exact .inr (p a t z.symm)
theorem RG.two{rs:List Row}{a:Ko}{y:Row}(h:RG rs)(hy:∀b t,y≠.pt b t):RG (rs++[.pt a (-1)]++[y]):=by
 refine⟨fun x hx=>?_,fun i b t hx=>?_⟩
 ·rcases gS hx with z|⟨z,_⟩
  ·rcases gS z with z|⟨_,rfl⟩
   ·exact h.r0 x z
   ·exact⟨rfl,rfl⟩
  ·simp at z
 ·rcases gS hx with z|⟨_,z⟩
  ·rcases gS z with z|⟨z,w⟩
   ·rcases h.pt i b t z with⟨w,y⟩|w
    ·exact .inl ⟨w,by simp;omega⟩
    ·exact .inr w
   ·cases w;exact .inl ⟨rfl,by simp;omega⟩
  ·exact absurd z.symm (hy b t)
theorem oN{e:Ev}{k:Nat}{rs:List Row}{r:Row}{f:Ev→Option (M×D)}(he:e[k]?=some (some (.bo,.lst (rs.map Row.d))))(hf:f e=some (.fr,r.d))(hl:rs.length≤1000):cI k f e=some (.nx (e.set k (some (.bo,.lst ((rs++[r]).map Row.d))))):=by
 have s:rs.length<sizeLine:=dC hl (by decide)
 simp -implicitDefEqProofs only [cI,hf,oq,eV,if_true,eY,he,own,ln,s,List.map_append,mq,mn]
theorem RZ(A0 A1:Option (M×D))(fs:List Str)(hf:0<fs.length)(ds:List De)(hd:0<ds.length)(rs:List Row)(h:RG rs)(hl:rs.length≤200)(k c:Int)(o7:Option (M×D)) :
  ∃bM bL,ui [A0,A1,some (.bo,.lst (fs.map .str)),some (.bo,.lst (ds.map aw)),some (.bo,.lst (rs.map Row.d)),some (.al,.int k),some (.al,.int c),o7]=some (.nx [A0,A1,some (.bo,.lst (fs.map .str)),some (.bo,.lst (ds.map aw)),some (.bo,.lst (bM.map Row.d)),some (.al,.int k),some (.al,.int c),bL])∧RG bM∧bM.length≤rs.length+2:=by
 obtain⟨x,hx⟩:=mC c k
 obtain⟨r,hr,p1,p2,p3⟩:=GA c x fs hf ds hd
 unfold ui
 rw[av (e':=[A0,A1,some (.bo,.lst (fs.map .str)),some (.bo,.lst (ds.map aw)),some (.bo,.lst (rs.map Row.d)),some (.al,.int k),some (.al,.int c),some (.fr,.int x)]) (by walk_at "ev"; rw[hx];walk_at "ev")]
 rw[av (oN (rs:=rs) (r:=r) rfl (by walk_at "ev"; rw[hr]) (by omega))]
 simp -implicitDefEqProofs only [tz,tq]
 by_cases q1:c%11=9
 ·obtain⟨a,rfl⟩:=p3 (by omega)
  rw[av (e':=[A0,A1,some (.bo,.lst (fs.map .str)),some (.bo,.lst (ds.map aw)),some (.bo,.lst ((rs++[Row.pt a (-1)]++[Row.en]).map Row.d)),some (.al,.int k),some (.al,.int c),some (.fr,.int x)]) (by
   rw[bz (by walk_at "go"; simp only[q1,decide_true])]
   exact oN (r:=.en) rfl rfl (by simp;omega))]
  rw[bU (by walk_at "go"; simp only[q1];rfl)]
  exact⟨_,_,rfl,h.two (fun _ _ z=>nomatch z),by simp⟩
 rw[av (e':=[A0,A1,some (.bo,.lst (fs.map .str)),some (.bo,.lst (ds.map aw)),some (.bo,.lst ((rs++[r]).map Row.d)),some (.al,.int k),some (.al,.int c),some (.fr,.int x)]) (by
  rw[bU (by walk_at "go"; simp only[q1,decide_false])];rfl)]
 by_cases q2:c%11=10
 ·obtain⟨a,rfl⟩:=p3 (by omega)
  rw[bz (by walk_at "go"; simp only[q2,decide_true])]
  exact⟨_,_,oN (r:=.go (x/720%60)) rfl (by walk_at "go"; rfl) (by simp;omega),h.two (fun _ _ z=>nomatch z),by simp⟩
 ·rw[bU (by walk_at "go"; simp only[q2,decide_false])]
  refine⟨_,_,rfl,?_,by simp⟩
  by_cases q3:c%11<7
  ·have:=p1 q3
   refine h.one ?_ ?_ ?_<;>cases r<;>simp_all [Row.flat,Row.eJ,Row.cR]
  ·obtain⟨a,t,rfl,ht⟩:=p2 (by omega) (by omega)
   exact h.one rfl rfl fun b s e=>by cases e;exact ht
theorem PK{cs:List Int}{i:Nat}{d:D}(h:(bT (cs.map D.int))[i]?=some d):∃c:Int,d=.tup [.int i,.int c]:=by
 unfold bT at h
 rw[List.getElem?_mapIdx,cV]at h
 cases e:cs[i]? with
 |none=>rw[e]at h;cases h
 |some r=>rw[e]at h;cases h;exact⟨r,rfl⟩
structure RF (rs:List Row):Prop where
 pos:0<rs.length
 r0:∀t,rs[0]?≠some (.go t)
 pt:∀(i:Nat) a t,rs[i]?=some (.pt a t)→i+1<rs.length∧((t=-1∧i+2<rs.length)∨0≤t)
 fl:∀(i:Nat) r,rs[i]?=some r→Row.flat r=true→i+1<rs.length
theorem RG.rf{rs:List Row}{x:Row}(h:RG rs)(hx:x=.en∨(0<rs.length∧∃t,x=.go t)):RF (rs++[x]):=by
 have lt:∀{i:Nat}{r:Row},rs[i]?=some r→i<rs.length:=fun z=>(bB.mp z).1
 refine⟨by simp,fun t ht=>?_,fun i a t ht=>?_,fun i r hr hf=>?_⟩
 ·rcases gS ht with z|⟨z,w⟩
  ·have:=(h.r0 _ z).2;simp[Row.cR]at this
  ·rcases hx with rfl|⟨hp,_⟩
   ·cases w
   ·omega
 ·rcases gS ht with z|⟨z,w⟩
  ·have:=lt z
   refine⟨by simp;omega,?_⟩
   rcases h.pt i a t z with⟨w,y⟩|w
   ·exact .inl ⟨w,by simp;omega⟩
   ·exact .inr w
  ·rcases hx with rfl|⟨_,t,rfl⟩<;>cases w
 ·rcases gS hr with z|⟨z,rfl⟩
  ·have:=lt z;simp;omega
  ·rcases hx with rfl|⟨_,t,rfl⟩<;>cases hf
theorem PL(ns cs:List Int)(hc:cs.length≤40):∃rs,uC [.lst (ns.map .int),.lst (cs.map .int)]=some (.un,.lst (rs.map Row.d))∧RF rs∧rs.length≤100:=by
 obtain⟨c0,h0⟩:=mE ns 0 (by omega)
 obtain⟨fs,j7,tG⟩:=yw c0
 obtain⟨ds,nR,jt⟩:=yx ns fs (by omega)
 obtain⟨nu,B3⟩:=yt ns 58 (by omega)
 obtain⟨e',l1,rs,o5,o6,o7,he,hg,hl⟩:=cQ (g:=gT 2 (bG (gN 5) (bG (gN 6) dH))) (b:=ui) (m:=.al) (ds:=bT (cs.map D.int)) (e:=[some (.al,.lst (ns.map .int)),some (.al,.lst (cs.map .int)),some (.bo,.lst (fs.map .str)),some (.bo,.lst (ds.map aw)),some (.bo,.lst ([].map Row.d)),none,none,none])
  (fun i e=>∃(rs:List Row) (o5 o6 o7:Option (M×D)),e=[some (.al,.lst (ns.map .int)),some (.al,.lst (cs.map .int)),some (.bo,.lst (fs.map .str)),some (.bo,.lst (ds.map aw)),some (.bo,.lst (rs.map Row.d)),o5,o6,o7]∧RG rs∧(i≤cs.length→rs.length≤2*i))
  ⟨[],none,none,none,rfl,RG.nil,fun _=>bf _⟩
  (fun i d e hd a9=>by
   obtain⟨rs,o5,o6,o7,he,hg,hl⟩:=a9
   subst he
   have hi:i<cs.length:=by
    have:=(bB.mp hd).1
    simpa[bT]using this
   obtain⟨c,rfl⟩:=PK hd
   have hl:=hl (by omega)
   obtain⟨bM,bL,q1,q2,q3⟩:=RZ (some (.al,.lst (ns.map .int))) (some (.al,.lst (cs.map .int))) fs (by omega) ds (by omega) rs hg (by omega) (i:Int) c o7
   exact⟨_,_,rfl,q1,bM,_,_,bL,rfl,q2,fun _=>by omega⟩)
 subst he
 have hl:rs.length≤80:=by
  have:=hl (by simp[bT])
  simp[bT]at this;omega
 obtain⟨x,hx,hxe⟩:=RX rs nu (by omega) (fun z=>by have:=(hg.r0 _ z).1;simp[Row.eJ]at this)
 refine⟨rs++[x],?_,hg.rf hxe,by simp;omega⟩
 unfold uC fn C1
 simp only[cq,bw,bA]
 rw[av (e':=[some (.al,.lst (ns.map .int)),some (.al,.lst (cs.map .int)),some (.bo,.lst (fs.map .str)),none,none,none,none,none]) (by walk_at "ev"; rw[h0];walk_at "ev"; rw[tG];walk_at "ev")]
 rw[av (e':=[some (.al,.lst (ns.map .int)),some (.al,.lst (cs.map .int)),some (.bo,.lst (fs.map .str)),some (.bo,.lst (ds.map aw)),none,none,none,none]) (by walk_at "ev"; rw[jt];walk_at "ev")]
 rw[av (e':=[some (.al,.lst (ns.map .int)),some (.al,.lst (cs.map .int)),some (.bo,.lst (fs.map .str)),some (.bo,.lst (ds.map aw)),some (.bo,.lst ([].map Row.d)),none,none,none]) rfl]
 rw[av (e':=[some (.al,.lst (ns.map .int)),some (.al,.lst (cs.map .int)),some (.bo,.lst (fs.map .str)),some (.bo,.lst (ds.map aw)),some (.bo,.lst (rs.map Row.d)),o5,o6,o7]) (by
  rw[cU,show bj 1 [some (.al,.lst (ns.map .int)),some (.al,.lst (cs.map .int)),some (.bo,.lst (fs.map .str)),some (.bo,.lst (ds.map aw)),some (.bo,.lst ([].map Row.d)),none,none,none]=[some (.al,.lst (ns.map .int)),some (.al,.lst (cs.map .int)),some (.bo,.lst (fs.map .str)),some (.bo,.lst (ds.map aw)),some (.bo,.lst ([].map Row.d)),none,none,none] from rfl]
  simp -implicitDefEqProofs only [aT,fQ,ae,jV,ah,gz,gy,oq,id_eq,b9,oy]
  exact l1)]
 walk_at "ev"
 rw[B3]
 walk_at "ev"
 rw[hx]
 walk_at "ev"
 rw[F9 (by decide) (by decide) (by simp only[ln,List.length_cons,List.length_nil];exact Nat.le_trans (show rs.length+(0+1)≤200 by omega) (by decide))]
 rw[show mJ .bo .un=.fr from rfl,Gd]
 walk_at "ev"
 rw[List.map_append];rfl
noncomputable def intAt(k:Nat)(e:Ev):Nat:=match e[k]? with
 |some (some (_,.int g))=>g.toNat
 |_=>0
theorem R0{rs:List Row}(h:RF rs)(hl:rs.length≤200)(t:Int):∃g:Int,uK [.lst (rs.map Row.d),.int t]=some (.fr,.int g)∧0≤g∧g<rs.length:=by
 have hp:=h.pos
 obtain⟨e',l1,⟨g,he,hg⟩,_⟩:=DH (c:=uv) (b:=yf) (e:=[some (.al,.lst (rs.map Row.d)),some (.fr,.int (t%rs.length))])
  (fun e=>∃g:Nat,e=[some (.al,.lst (rs.map Row.d)),some (.fr,.int (g:Int))]∧g<rs.length)
  (intAt 1)
  ⟨(t%rs.length).toNat,by rw[Int.toNat_of_nonneg (Int.emod_nonneg _ (by omega))],by have:=Int.emod_lt_of_pos t (show(0:Int)<rs.length by omega);have:=Int.emod_nonneg t (show(rs.length:Int)≠0 by omega);omega⟩
  (fun e a9=>by
   obtain⟨g,he,hg⟩:=a9
   subst he
   have hr:rs[g]?=some (rs[g]'hg):=by simp
   generalize rs[g]'hg=r at hr
   have e1:=km hr
   have hC:uv [some (.al,.lst (rs.map Row.d)),some (.fr,.int (g:Int))]=some (Row.cR r):=by
    unfold uv
    walk_at "ev"
    rw[e1]
    walk_at "ev"
    simp -implicitDefEqProofs only [dA,oq,c9,dJ,bx,gF]
   cases j8:Row.cR r with
   |false=>exact .inl (by rw[hC,j8])
   |true =>
    obtain⟨t',rfl⟩:=zA.mp j8
    have h0:g≠0:=fun z=>by subst z;exact h.r0 t' hr
    refine .inr ⟨by rw[hC,j8],[some (.al,.lst (rs.map Row.d)),some (.fr,.int ((g-1:Nat):Int))],?_,⟨g-1,rfl,by omega⟩,?_⟩
    ·unfold yf
     walk_at "ev"
     rw[show(g:Int)-1=((g-1:Nat):Int) by omega]
    ·simp only[intAt,gz,gy];omega)
 subst he
 refine⟨g,?_,by omega,by omega⟩
 unfold uK fn Dp
 simp only[cq,bw,bA]
 rw[av (e':=[some (.al,.lst (rs.map Row.d)),some (.fr,.int (t%rs.length))]) (by walk_at "go")]
 rw[av l1]
 rfl
theorem Ve{r:Row}:Row.f6 r=true↔∃a t,r=.pt a t:=by cases r<;>simp[Row.f6]
theorem B4(m n:M)(a:Ko)(t:Int):ak (m,Row.d (.pt a t)) (n,.int 1)=some (aV m,kD a):=rfl
theorem p6(m n:M)(a:Ko)(t:Int):ak (m,Row.d (.pt a t)) (n,.int 2)=some (aV m,.int t):=rfl
theorem go1(m n:M)(t:Int):ak (m,Row.d (.go t)) (n,.int 1)=some (aV m,.int t):=rfl
theorem B5(a:Ko)(t:Int):i3 [(M.fr,D.str "part"),(.fr,kD a),(.fr,.int t)]=some (.fr,Row.d (.pt a t)):=rfl
theorem tp2(t:Int):i3 [(M.fr,D.str "go"),(.fr,.int t)]=some (.fr,Row.d (.go t)):=rfl
theorem Vf{ro:List Row}(h:RF ro)(hl:ro.length≤200)(A0 A1 A2:Option (M×D))(rs:List Row)(hr:rs.length≤200){i:Nat}{r:Row}(hi:ro[i]?=some r) :
  ∃r' o6,ua [A0,A1,A2,some (.fr,.lst (ro.map Row.d)),some (.bo,.lst (rs.map Row.d)),some (.fr,.int (i:Int)),some (.fr,r.d)]=some (.nx [A0,A1,A2,some (.fr,.lst (ro.map Row.d)),some (.bo,.lst ((rs++[r']).map Row.d)),some (.fr,.int (i:Int)),o6])∧∀m∈bp i r',0≤m∧m<ro.length:=by
 have hp:=h.pos
 have aZ:i<ro.length:=(bB.mp hi).1
 have fin:∀r':Row,(∀m∈bp i r',0≤m∧m<ro.length)→∀f,f [A0,A1,A2,some (.fr,.lst (ro.map Row.d)),some (.bo,.lst (rs.map Row.d)),some (.fr,.int (i:Int)),some (.fr,r.d)]=some (.nx [A0,A1,A2,some (.fr,.lst (ro.map Row.d)),some (.bo,.lst (rs.map Row.d)),some (.fr,.int (i:Int)),some (.fr,r'.d)]) →
   ∃r' o6,aj f (cI 4 (jV 6)) [A0,A1,A2,some (.fr,.lst (ro.map Row.d)),some (.bo,.lst (rs.map Row.d)),some (.fr,.int (i:Int)),some (.fr,r.d)]=some (.nx [A0,A1,A2,some (.fr,.lst (ro.map Row.d)),some (.bo,.lst ((rs++[r']).map Row.d)),some (.fr,.int (i:Int)),o6])∧∀m∈bp i r',0≤m∧m<ro.length:=fun r' h1 f h2=>by
  refine⟨r',some (.fr,r'.d),?_,h1⟩
  rw[av h2]
  exact oN (r:=r') rfl rfl (by omega)
 have w1:∀e:Ev,e[6]?=some (some (.fr,r.d))→(jB (ag aM (ag ak (jV 6) (jC (.int 0))) (jC (.str "part")))) e=some (Row.f6 r):=fun e he=>by
  simp -implicitDefEqProofs only [jB,ag,jV,jC,he,id_eq,oq,dA,lu,dJ,bx,jj]
 have w2:∀e:Ev,e[6]?=some (some (.fr,r.d))→(jB (ag aM (ag ak (jV 6) (jC (.int 0))) (jC (.str "go")))) e=some (Row.cR r):=fun e he=>by
  simp -implicitDefEqProofs only [jB,ag,jV,jC,he,id_eq,oq,dA,lu,dJ,bx,gF]
 have wc:∀{a b:Ev→Option Bool}{e:Ev},a e=some false→dM a b e=some false:=fun {a b e} h=>by simp[dM,h]
 have rZ:∀{a b:Ev→Option Bool}{e:Ev},a e=some true→dM a b e=b e:=fun {a b e} h=>by simp[dM,h]
 unfold ua
 by_cases gd:Row.f6 r=true
 ·obtain⟨a,t,rfl⟩:=Ve.mp gd
  obtain⟨n1,n2⟩:=h.pt i a t hi
  by_cases q1:t=-1
  ·refine fin (.pt a ((i:Int)+2)) (fun m hm=>?_) _ ?_
   ·have:m=(i:Int)+1∨m=(i:Int)+2:=by simpa[aN.bp]using hm
    rcases n2 with⟨_,z⟩|z<;>omega
   ·rw[bz (by rw[rZ (by rw[w1 _ rfl,gd])];simp -implicitDefEqProofs only [jB,ag,bt,jV,jC,gz,gy,id_eq,oq,p6,jN,iB,bx,q1,decide_true])]
    simp -implicitDefEqProofs only [aq,aQ,ae,ah,ag,jV,jC,gz,gy,id_eq,oq,B4,lu,oJ,B5,fm,tz,tq]
  ·have n3:0≤t:=by rcases n2 with⟨z,_⟩|z<;>omega
   have m0:=Int.emod_nonneg t (show(ro.length:Int)≠0 by omega)
   have m1:=Int.emod_lt_of_pos t (show(0:Int)<ro.length by omega)
   by_cases q2:t%ro.length=(i:Int)+1
   ·refine fin (.pt a (i:Int)) (fun m hm=>?_) _ ?_
    ·have:m=(i:Int)+1∨m=(i:Int):=by simpa[aN.bp]using hm
     omega
    ·rw[bU (by rw[rZ (by rw[w1 _ rfl,gd])];simp -implicitDefEqProofs only [jB,ag,bt,jV,jC,gz,gy,id_eq,oq,p6,jN,iB,bx,q1,decide_false])]
     rw[bz (by rw[rZ (by rw[w1 _ rfl,gd])];simp -implicitDefEqProofs only [jB,ag,bt,jV,jC,aO,ae,ah,gz,gy,id_eq,oq,p6,dS,ln,oJ];rw[kg (by omega)];simp -implicitDefEqProofs only [oq,iB,bx,q2,decide_true])]
     simp -implicitDefEqProofs only [aq,aQ,ae,ah,ag,jV,jC,gz,gy,id_eq,oq,B4,lu,oJ,B5,fm,tz,tq]
   ·refine fin (.pt a (t%ro.length)) (fun m hm=>?_) _ ?_
    ·have:m=(i:Int)+1∨m=t%ro.length:=by simpa[aN.bp]using hm
     omega
    ·rw[bU (by rw[rZ (by rw[w1 _ rfl,gd])];simp -implicitDefEqProofs only [jB,ag,bt,jV,jC,gz,gy,id_eq,oq,p6,jN,iB,bx,q1,decide_false])]
     rw[bU (by rw[rZ (by rw[w1 _ rfl,gd])];simp -implicitDefEqProofs only [jB,ag,bt,jV,jC,aO,ae,ah,gz,gy,id_eq,oq,p6,dS,ln,oJ];rw[kg (by omega)];simp -implicitDefEqProofs only [oq,iB,bx,q2,decide_false])]
     rw[bz (by rw[w1 _ rfl,gd])]
     simp -implicitDefEqProofs only [aq,aQ,ae,ah,ag,jV,jC,aO,gz,gy,id_eq,oq,B4,p6,lu,dS,ln]
     rw[kg (by omega)]
     simp -implicitDefEqProofs only [oq,B5,fm,tz,tq]
 ·have gd:Row.f6 r=false:=by simpa using gd
  by_cases j8:Row.cR r=true
  ·obtain⟨t,rfl⟩:=zA.mp j8
   obtain⟨g,eg,g0,g1⟩:=R0 h hl t
   refine fin (.go g) (fun m hm=>?_) _ ?_
   ·have:m=g:=by simpa[aN.bp]using hm
    omega
   ·rw[bU (wc (by rw[w1 _ rfl,gd])),bU (wc (by rw[w1 _ rfl,gd])),bU (by rw[w1 _ rfl,gd]),bz (by rw[w2 _ rfl,j8])]
    simp -implicitDefEqProofs only [aq,aQ,ae,ah,ag,jV,jC,au,gz,gy,id_eq,oq,go1,lu,mq,mn,eg,tp2,fm,tz,tq]
  ·have j8:Row.cR r=false:=by simpa using j8
   refine fin r (fun m hm=>?_) _ ?_
   ·cases r with
    |en=>simp[aN.bp]at hm
    |go t=>cases j8
    |pt a t=>cases gd
    |rk x s a b =>
     have:=h.fl i _ hi rfl;have:m=(i:Int)+1:=by simpa[aN.bp]using hm
     omega
    |cp x a =>
     have:=h.fl i _ hi rfl;have:m=(i:Int)+1:=by simpa[aN.bp]using hm
     omega
    |sy a =>
     have:=h.fl i _ hi rfl;have:m=(i:Int)+1:=by simpa[aN.bp]using hm
     omega
   ·rw[bU (wc (by rw[w1 _ rfl,gd])),bU (wc (by rw[w1 _ rfl,gd])),bU (by rw[w1 _ rfl,gd]),bU (by rw[w2 _ rfl,j8])]
    rfl
theorem Good.set{rs:List Row}{j:Nat}{r:Row}(h:Good rs)(hj:∀m∈aN.bp j r,0≤m∧m<rs.length):Good (rs.set j r):=by
 refine⟨by rw[List.length_set];exact h.pos,fun n x hx m hm=>?_⟩
 rw[List.length_set]
 rw[List.getElem?_set]at hx
 split at hx
 ·rename_i e;subst e
  split at hx
  ·cases hx;exact hj m hm
  ·cases hx
 ·exact h.bp n x hx m hm
theorem ke{e:Ev}{k j:Nat}{mo m':M}{rs:List Row}{r:Row}{f g:Ev→Option (M×D)}(ho:own mo=true)(he:e[k]?=some (some (mo,.lst (rs.map Row.d))))(hf:f e=some (.fr,r.d))(hg:g e=some (m',.int (j:Int)))(hj:j<rs.length) :
  eU k g f e=some (.nx (e.set k (some (mo,.lst ((rs.set j r).map Row.d))))):=by
 have nQ:dW (rs.map Row.d).length (j:Int)=some j:=by
  unfold dW
  rw[ln,if_pos (by omega),if_pos (by omega)];simp
 simp -implicitDefEqProofs only [eU,hf,hg,oq,jJ,eV,if_true,eY,he,ho,nQ,List.map_set]
theorem Vg(r:Row):fh (.str r.word) [.str "reckon",.str "copy",.str "say"]=Row.flat r:=by
 cases r with
 |rk x s a b=>exact(by decide +kernel:fh (.str ("reckon" : Str)) [.str "reckon",.str "copy",.str "say"]=true)
 |cp x a=>exact(by decide +kernel:fh (.str ("copy" : Str)) [.str "reckon",.str "copy",.str "say"]=true)
 |sy a=>exact(by decide +kernel:fh (.str ("say" : Str)) [.str "reckon",.str "copy",.str "say"]=true)
 |go t=>exact(by decide +kernel:fh (.str ("go" : Str)) [.str "reckon",.str "copy",.str "say"]=false)
 |pt a t=>exact(by decide +kernel:fh (.str ("part" : Str)) [.str "reckon",.str "copy",.str "say"]=false)
 |en=>exact(by decide +kernel:fh (.str ("end" : Str)) [.str "reckon",.str "copy",.str "say"]=false)
theorem Fm(m n:M)(r:Row)(neg:Bool):fu neg (m,.str r.word) (n,.tup [.str "reckon",.str "copy",.str "say"])=some (.fr,.bl (if neg then !Row.flat r else Row.flat r)):=by
 rw[←Vg r];rfl
theorem Hs{r:Row}(h:Row.flat r=true):∃a:Ko,∀m n:M,ak (m,r.d) (n,.int 1)=some (aV m,kD a):=by
 cases r with
 |rk x s a b=>exact⟨.inr x,fun _ _=>rfl⟩
 |cp x a=>exact⟨.inr x,fun _ _=>rfl⟩
 |sy a=>exact⟨a,fun _ _=>rfl⟩
 |go t=>cases h
 |pt a t=>cases h
 |en=>cases h
theorem yV{rs:List Row}(h:Good rs){i:Nat}{r:Row}(hi:rs[i]?=some r)(hf:Row.flat r=true):i+1<rs.length:=by
 have:=h.bp i r hi ((i:Int)+1) (by cases r<;>simp_all [Row.flat,aN.bp])
 omega
theorem Fn{rs:List Row}{p:Row→Bool}{n:Nat}(h:pick rs p n=true):∃r,rs[n]?=some r∧p r=true:=by
 unfold pick at h
 split at h
 ·rename_i r hr;exact⟨r,hr,h⟩
 ·cases h
theorem DW{rs:List Row}{mo:M}(he:aV mo=.fr)(hn:∀d:D,¬(mo=.nb)){ks:List Nat}(hk:∀k∈ks,k<rs.length) :
  dI (jB (ag (fu false) (ag ak (ag ak (jV 1) (jV 0)) (jC (.int 0))) (aQ (ae (jC (.str "reckon")) (ae (jC (.str "copy")) (ae (jC (.str "say")) ah)))))) (jV 0) .fr [some (mo,.lst (rs.map Row.d))] (ax ks)=some ((ax (ks.filter (pick rs Row.flat))).map fun x=>(M.fr,x)):=by
 refine qj ks fun k nS=>?_
 have aZ:=hk k nS
 have hr:rs[k]?=some (rs[k]'aZ):=by simp
 have e:=km hr
 refine⟨?_,rfl⟩
 simp -implicitDefEqProofs only [jB,ag,jV,jC,aQ,ae,ah,gz,gy,id_eq,oq,de,e,oy,he,dA,lu]
 rw[show i3 [(M.fr,D.str "reckon"),(.fr,.str "copy"),(.fr,.str "say")]=some (.fr,.tup [.str "reckon",.str "copy",.str "say"])from rfl,oq,Fm,oq,if_neg aX]
 simp only[bx,pick,hr]
theorem PN(N:Nat):b0 2 N=ax ((List.range N).map fun k=>k+2):=by
 unfold b0 ax
 rw[List.map_map]
 exact List.map_congr_left fun k _=>by show D.int (2+(k:Int))=D.int ((k+2:Nat):Int);congr 1;omega
theorem PQ{rs:List Row}(h:Good rs)(hl:rs.length≤200)(c:Int):∃bM:List Row,tT [.lst (rs.map Row.d),.int c]=some (.lst (bM.map Row.d))∧Good bM∧bM.length=rs.length:=by
 have hp:=h.pos
 have cu:-4611686018427387904≤(2:Int)∧(2:Int)<4611686018427387904∧-4611686018427387904≤(rs.length:Int)∧(rs.length:Int)<4611686018427387904:=by omega
 have fin:∀{bM:List Row}{e:Ev},lC (.rt e .bi (.lst (bM.map Row.d)))=some (.lst (bM.map Row.d)):=fun {bM e}=>by
  simp only[lC,own,hZ,my,and_self,if_true]
 have ex:=DW (rs:=rs) (mo:=.bi) rfl (fun _ z=>nomatch z) (ks:=(List.range ((rs.length:Int)-2).toNat).map fun k=>k+2) (fun k hk=>by
  obtain⟨j,hj,rfl⟩:=bZ.mp hk
  have:=List.mem_range.mp hj;omega)
 generalize j7:((List.range ((rs.length:Int)-2).toNat).map fun k=>k+2).filter (pick rs Row.flat)=fl at ex
 have AG:fl.length≤1000:=by
  rw[←j7]
  have:=List.length_filter_le (pick rs Row.flat) ((List.range ((rs.length:Int)-2).toNat).map fun k=>k+2)
  simp at this;simp;omega
 have s1:aq 2 (cF (rR (ae (jC (.int 2)) (ae (aO bH (ae (jV 0) ah)) ah))) [0] (jB (ag (fu false) (ag ak (ag ak (jV 1) (jV 0)) (jC (.int 0))) (aQ (ae (jC (.str "reckon")) (ae (jC (.str "copy")) (ae (jC (.str "say")) ah)))))) (jV 0)) [some (.bi,.lst (rs.map Row.d)),some (.al,.int c),none,none]=some (.nx [some (.bi,.lst (rs.map Row.d)),some (.al,.int c),some (.bo,.lst (ax fl)),none]):=by
  simp -implicitDefEqProofs only [aq,cF,rR,aO,ae,ah,jV,jC,gz,gy,id_eq,oq,dS,ln,cu,and_self,if_true]
  rw[show fP [some (M.bi,D.lst (rs.map Row.d)),some (M.al,D.int c),none,none] [0]=[some (.bi,.lst (rs.map Row.d))] from rfl,PN,ex,oq,ip (by rw[fq];exact AG),oq]
  rfl
 unfold tT jX Cj
 rw[show(jH [0] [D.lst (rs.map Row.d),.int c]++List.replicate (4 - [D.lst (rs.map Row.d),.int c].length) none:Ev)=[some (.bi,.lst (rs.map Row.d)),some (.al,.int c),none,none] from rfl]
 rw[av s1]
 have LR:rs[0]?=some (rs[0]'hp):=by simp
 generalize hx0:rs[0]'hp=x0 at LR
 have a0:=km LR
 have hb:(cX (jB (ag gZ (jV 2) (bN ah))) (jB (ag (fu true) (ag ak (ag ak (jV 0) (jC (.int 0))) (jC (.int 0))) (aQ (ae (jC (.str "reckon")) (ae (jC (.str "copy")) (ae (jC (.str "say")) ah))))))) [some (.bi,.lst (rs.map Row.d)),some (.al,.int c),some (.bo,.lst (ax fl)),none]=some (fl.isEmpty||!Row.flat x0):=by
  have e2:(jB (ag (fu true) (ag ak (ag ak (jV 0) (jC (.int 0))) (jC (.int 0))) (aQ (ae (jC (.str "reckon")) (ae (jC (.str "copy")) (ae (jC (.str "say")) ah)))))) [some (.bi,.lst (rs.map Row.d)),some (.al,.int c),some (.bo,.lst (ax fl)),none]=some (!Row.flat x0):=by
   simp -implicitDefEqProofs only [jB,ag,jV,jC,aQ,ae,ah,gz,gy,id_eq,oq,de]
   rw[show(0:Int)=((0:Nat):Int)from rfl,a0]
   simp -implicitDefEqProofs only [oy,oq,Int.natCast_zero,dA]
   rw[show i3 [(M.fr,D.str "reckon"),(.fr,.str "copy"),(.fr,.str "say")]=some (.fr,.tup [.str "reckon",.str "copy",.str "say"])from rfl,oq,Fm,oq,if_pos rfl]
   rfl
  have e1:(jB (ag gZ (jV 2) (bN ah))) [some (.bi,.lst (rs.map Row.d)),some (.al,.int c),some (.bo,.lst (ax fl)),none]=some fl.isEmpty:=by
   simp -implicitDefEqProofs only [jB,ag,jV,bN,ah,gz,gy,id_eq,oq]
   rw[show iA []=some (.un,.lst [])from rfl,oq,Fh]
   rfl
  unfold cX
  rw[e1,oq]
  cases fl.isEmpty with
  |true=>rfl
  |false=>rw[e2];rfl
 cases kW:(fl.isEmpty||!Row.flat x0) with
 |true =>
  rw[dG (e':=[some (.bi,.lst (rs.map Row.d)),some (.al,.int c),some (.bo,.lst (ax fl)),none]) (m:=.bi) (d:=.lst (rs.map Row.d)) (by rw[bz (by rw[hb,kW])];rfl)]
  exact⟨rs,by rw[oq];exact fin,h,rfl⟩
 |false =>
  obtain⟨hfe,hx⟩:fl.isEmpty=false∧Row.flat x0=true:=by simpa using kW
  rw[fj (by rw[hb,kW])]
  have hfp:0<fl.length:=by
   cases fl with
   |nil=>cases hfe
   |cons a l=>simp
  obtain⟨la,iS,B6⟩:=oA (f:=fun(n:Nat)=>D.int (n:Int)) (l:=fl) (k:=c/4%fl.length) (Int.emod_nonneg _ (by omega)) (Int.emod_lt_of_pos _ (by omega))
  rw[←j7]at iS
  obtain⟨tH,tI⟩:=List.mem_filter.mp iS
  obtain⟨r,hr,mj⟩:=Fn tI
  have Jo:2≤la:=by obtain⟨j,_,rfl⟩:=bZ.mp tH;omega
  have hnx:=yV h hr mj
  obtain⟨a,ha⟩:=Hs mj
  have ar:=km hr
  rw[av (e':=[some (.bi,.lst (rs.map Row.d)),some (.al,.int c),some (.bo,.lst (ax fl)),some (.fr,.int (la:Int))]) (by
   simp -implicitDefEqProofs only [aq,ag,jV,jC,aO,ae,ah,gz,gy,id_eq,oq,dS,fq]
   rw[div_ii (by omega),oq,kg (by omega),oq,de,show ax fl=fl.map (fun(n:Nat)=>D.int (n:Int))from rfl,B6]
   rfl)]
  rw[av (ke (j:=la) (r:=.pt a 1) (mo:=.bi) (m':=.fr) rfl rfl (by
   simp -implicitDefEqProofs only [aQ,ae,ah,ag,jV,jC,gz,gy,id_eq,oq,de,ar,oy,ha]
   rfl) rfl (by omega))]
  simp -implicitDefEqProofs only [tz,tq]
  rw[av (ke (rs:=rs.set la (.pt a 1)) (j:=0) (r:=.go (la:Int)) (mo:=.bi) (m':=.fr) rfl rfl rfl rfl (by rw[List.length_set];omega))]
  refine⟨(rs.set la (.pt a 1)).set 0 (.go (la:Int)),by rw[show(aH (jV 0)) _=some (.rt _ .bi (.lst (((rs.set la (.pt a 1)).set 0 (.go (la:Int))).map Row.d)))from rfl,oq];exact fin,?_,by simp⟩
  refine(h.set fun m hm=>?_).set fun m hm=>?_
  ·have:m=(la:Int)+1∨m=1:=by simpa[aN.bp]using hm
   omega
  ·have:m=(la:Int):=by simpa[aN.bp]using hm
   rw[List.length_set];omega
theorem R6{R:List D}{c:Int}(h1:D.du R=true):k6 [0] [0] [(0,0),(1,1)] [(.bi,.lst R),(.al,.int c)]=true:=by
 simp[k6,List.range_succ,own,hZ,gO,h1]
theorem PR{m:M}{f:Int}:∀ks:List Nat,dI (jB (ag iQ (jV 0) (jV 1))) (jV 0) .fr [some (m,.int f)] (ax ks)=some ((ax (ks.filter fun k=>decide (f<(k:Int)))).map fun x=>(M.fr,x)):=fun ks =>
 qj ks fun k _=>⟨by
  simp -implicitDefEqProofs only [jB,ag,jV,gz,gy,id_eq,oq,vE,bx],rfl⟩
theorem Ob{fl:List Nat}(hs:fl.Pairwise (· < ·)){i:Nat}(hi:i+1<fl.length):∃f∈fl,fl[i]?=some f∧∃l∈fl,f<l:=by
 have h1:fl[i]?=some (fl[i]'(by omega)):=by simp
 refine⟨fl[i]'(by omega),List.getElem_mem _,h1,fl[i+1]'hi,List.getElem_mem _,?_⟩
 exact(List.pairwise_iff_getElem.mp hs) i (i+1) (by omega) hi (by omega)
theorem R7{rs:List Row}(h:Good rs)(hl:rs.length≤200)(c:Int):∃bM:List Row,tZ [.lst (rs.map Row.d),.int c]=some (.lst (bM.map Row.d))∧Good bM∧bM.length=rs.length:=by
 have hp:=h.pos
 have cu:-4611686018427387904≤(rs.length:Int)∧(rs.length:Int)<4611686018427387904:=by omega
 have ht:(rs.length:Int).toNat=rs.length:=by omega
 have fin:∀{bM:List Row}{e:Ev},lC (.rt e .bi (.lst (bM.map Row.d)))=some (.lst (bM.map Row.d)):=fun {bM e}=>by
  simp only[lC,own,hZ,my,and_self,if_true]
 have ex:=DW (rs:=rs) (mo:=.bi) rfl (fun _ z=>nomatch z) (ks:=List.range rs.length) (fun k hk=>List.mem_range.mp hk)
 generalize j7:(List.range rs.length).filter (pick rs Row.flat)=fl at ex
 have AG:fl.length≤1000:=by
  rw[←j7]
  have:=List.length_filter_le (pick rs Row.flat) (List.range rs.length)
  simp at this;simp;omega
 have Xk:fl.Pairwise (· < ·):=by rw[←j7];exact List.Pairwise.filter _ List.pairwise_lt_range
 have LV:∀n∈fl,∃r,rs[n]?=some r∧Row.flat r=true:=fun n hn=>by
  rw[←j7]at hn
  exact Fn (List.mem_filter.mp hn).2
 have s1:aq 2 (cF (bY (ae (aO bH (ae (jV 0) ah)) ah)) [0] (jB (ag (fu false) (ag ak (ag ak (jV 1) (jV 0)) (jC (.int 0))) (aQ (ae (jC (.str "reckon")) (ae (jC (.str "copy")) (ae (jC (.str "say")) ah)))))) (jV 0)) [some (.bi,.lst (rs.map Row.d)),some (.al,.int c),none,none,none,none,none]=some (.nx [some (.bi,.lst (rs.map Row.d)),some (.al,.int c),some (.bo,.lst (ax fl)),none,none,none,none]):=by
  simp -implicitDefEqProofs only [aq,cF,bY,aO,ae,ah,jV,jC,gz,gy,id_eq,oq,dS,ln,cu,and_self,if_true,ht]
  rw[show fP [some (M.bi,D.lst (rs.map Row.d)),some (M.al,D.int c),none,none,none,none,none] [0]=[some (.bi,.lst (rs.map Row.d))] from rfl,vd,ex,oq,ip (by rw[fq];exact AG),oq]
  rfl
 unfold tZ jX Ct
 rw[show(jH [0] [D.lst (rs.map Row.d),.int c]++List.replicate (7 - [D.lst (rs.map Row.d),.int c].length) none:Ev)=[some (.bi,.lst (rs.map Row.d)),some (.al,.int c),none,none,none,none,none] from rfl]
 rw[av s1]
 by_cases q1:c%4=3
 ·obtain⟨bM,e1,g1,l1⟩:=PQ h hl c
  rw[dG (e':=[none,none,none,none,none,none,none]) (m:=.bi) (d:=.lst (bM.map Row.d)) (by
   rw[bz (by walk_at "go"; simp only[q1,decide_true])]
   simp -implicitDefEqProofs only [kj,ae,ah,jV,gz,gy,id_eq,oq,R6 (my rs),if_true,mq,mn,e1])]
  exact⟨bM,by rw[oq];exact fin,g1,l1⟩
 rw[fj (by walk_at "go"; simp only[q1,decide_false])]
 have hb:(cX (jB (ag f7 (aO bH (ae (jV 2) ah)) (jC (.int 2)))) (jB (ag aM (ag aW (jV 1) (jC (.int 2))) (jC (.int 0))))) [some (.bi,.lst (rs.map Row.d)),some (.al,.int c),some (.bo,.lst (ax fl)),none,none,none,none]=some (decide ((fl.length:Int)<2)||decide (c%2=0)):=by
  walk_at "go"
  rw[fq]
  cases decide ((fl.length:Int)<2)<;>rfl
 cases kW:(decide ((fl.length:Int)<2)||decide (c%2=0)) with
 |true =>
  rw[dG (e':=[some (.bi,.lst (rs.map Row.d)),some (.al,.int c),some (.bo,.lst (ax fl)),none,none,none,none]) (m:=.bi) (d:=.lst (rs.map Row.d)) (by rw[bz (by rw[hb,kW])];rfl)]
  exact⟨rs,by rw[oq];exact fin,h,rfl⟩
 |false =>
  have h2:2≤fl.length:=by
   have:¬((fl.length:Int)<2):=by
    intro z;simp[z]at kW
   omega
  rw[fj (by rw[hb,kW])]
  have k0:=Int.emod_nonneg (c/4) (show((fl.length:Int)-1)≠0 by omega)
  have k1:=Int.emod_lt_of_pos (c/4) (show(0:Int)<(fl.length:Int)-1 by omega)
  obtain⟨f,hf,hfi,l0,hl0,Yj⟩:=Ob Xk (i:=(c/4%((fl.length:Int)-1)).toNat) (by omega)
  have ef:L2.bE (ax fl) (c/4%((fl.length:Int)-1))=some (.int (f:Int)):=by
   rw[ig k0 (by rw[fq];omega)]
   have:=(bB.mp hfi).2
   simp only[ax,List.getElem_map,this]
  rw[av (e':=[some (.bi,.lst (rs.map Row.d)),some (.al,.int c),some (.bo,.lst (ax fl)),some (.fr,.int (f:Int)),none,none,none]) (by
   simp -implicitDefEqProofs only [aq,ag,jV,jC,aO,ae,ah,gz,gy,id_eq,oq,dS,fq,zk]
   rw[div_ii (by omega),oq,kg (by omega),oq,de,ef]
   rfl)]
  generalize aZ:fl.filter (fun(k:Nat)=>decide ((f:Int)<(k:Int)))=lt
  have aak:0<lt.length:=by
   rw[←aZ]
   exact List.length_pos_of_mem (List.mem_filter.mpr ⟨hl0,by simpa using Yj⟩)
  have Yk:lt.length≤1000:=by
   rw[←aZ]
   have:=List.length_filter_le (fun k=>decide ((f:Int)<((k:Nat):Int))) fl
   omega
  rw[av (e':=[some (.bi,.lst (rs.map Row.d)),some (.al,.int c),some (.fr,.lst (ax fl)),some (.fr,.int (f:Int)),some (.bo,.lst (ax lt)),none,none]) (by
   rw[cU,show bj 2 [some (.bi,.lst (rs.map Row.d)),some (.al,.int c),some (.bo,.lst (ax fl)),some (.fr,.int (f:Int)),none,none,none]=[some (.bi,.lst (rs.map Row.d)),some (.al,.int c),some (.fr,.lst (ax fl)),some (.fr,.int (f:Int)),none,none,none] from rfl]
   simp -implicitDefEqProofs only [aq,cF,bF,jV,gz,gy,id_eq,oq,b9,oy]
   rw[show fP [some (M.bi,D.lst (rs.map Row.d)),some (M.al,D.int c),some (.fr,.lst (ax fl)),some (M.fr,D.int (f:Int)),none,none,none] [3]=[some (.fr,.int (f:Int))] from rfl,PR,aZ,oq,ip (by rw[fq];exact Yk),oq]
   rfl)]
  obtain⟨la,iS,B6⟩:=oA (f:=fun(n:Nat)=>D.int (n:Int)) (l:=lt) (k:=c/256%lt.length) (Int.emod_nonneg _ (by omega)) (Int.emod_lt_of_pos _ (by omega))
  rw[av (e':=[some (.bi,.lst (rs.map Row.d)),some (.al,.int c),some (.fr,.lst (ax fl)),some (.fr,.int (f:Int)),some (.bo,.lst (ax lt)),some (.fr,.int (la:Int)),none]) (by
   simp -implicitDefEqProofs only [aq,ag,jV,jC,aO,ae,ah,gz,gy,id_eq,oq,dS,fq]
   rw[div_ii (by omega),oq,kg (by omega),oq,de,show ax lt=lt.map (fun(n:Nat)=>D.int (n:Int))from rfl,B6]
   rfl)]
  rw[←aZ]at iS
  obtain⟨Yl,Jo⟩:=List.mem_filter.mp iS
  have aal:f<la:=by simpa using Jo
  obtain⟨rf,mj,LW⟩:=LV f hf
  obtain⟨rl,LX,hlf⟩:=LV la Yl
  have nf:=yV h mj LW
  have nl:=yV h LX hlf
  obtain⟨a,ha⟩:=Hs LW
  have arf:=km mj
  have t0:=Int.emod_nonneg (c/16384) (show(rs.length:Int)≠0 by omega)
  have t1:=Int.emod_lt_of_pos (c/16384) (show(0:Int)<rs.length by omega)
  rw[av (e':=[some (.bi,.lst (rs.map Row.d)),some (.al,.int c),some (.fr,.lst (ax fl)),some (.fr,.int (f:Int)),some (.bo,.lst (ax lt)),some (.fr,.int (la:Int)),some (.fr,.int (c/16384%rs.length))]) (by walk_at "go")]
  generalize c/16384%(rs.length:Int)=t at t0 t1 ⊢
  have mW:rs[rs.length-1]?=some (rs[rs.length-1]'(by omega)):=by simp
  generalize rs[rs.length-1]'(by omega)=rz at mW
  have az:L2.bE (rs.map Row.d) (-1)=some rz.d:=by
   unfold L2.bE L2.dW
   rw[if_neg (by decide),ln,if_pos (by omega),oq,show(-1+(rs.length:Int)).toNat=rs.length-1 by omega,cV,mW]
   rfl
  have T1:∃t':Int,(0≤t'∧t'<rs.length)∧aP (jB (ag aM (ag ak (ag ak (jV 0) (bt dN (jC (.int 1)))) (jC (.int 0))) (jC (.str "go")))) (aq 6 (ag aW (jV 6) (ag bO (jV 3) (jC (.int 1))))) aU [some (.bi,.lst (rs.map Row.d)),some (.al,.int c),some (.fr,.lst (ax fl)),some (.fr,.int (f:Int)),some (.bo,.lst (ax lt)),some (.fr,.int (la:Int)),some (.fr,.int t)]=some (.nx [some (.bi,.lst (rs.map Row.d)),some (.al,.int c),some (.fr,.lst (ax fl)),some (.fr,.int (f:Int)),some (.bo,.lst (ax lt)),some (.fr,.int (la:Int)),some (.fr,.int t')]):=by
   have hc:(jB (ag aM (ag ak (ag ak (jV 0) (bt dN (jC (.int 1)))) (jC (.int 0))) (jC (.str "go")))) [some (.bi,.lst (rs.map Row.d)),some (.al,.int c),some (.fr,.lst (ax fl)),some (.fr,.int (f:Int)),some (.bo,.lst (ax lt)),some (.fr,.int (la:Int)),some (.fr,.int t)]=some (Row.cR rz):=by
    simp -implicitDefEqProofs only [jB,ag,bt,jV,jC,gz,gy,id_eq,oq,jN,de,az,oy,dA,dJ,bx,gF]
   cases hg:Row.cR rz with
   |true =>
    have m0:=Int.emod_nonneg t (show((f:Int)+1)≠0 by omega)
    have m1:=Int.emod_lt_of_pos t (show(0:Int)<(f:Int)+1 by omega)
    exact⟨t%((f:Int)+1),by omega,by rw[bz (by rw[hc,hg])];walk_at "go"⟩
   |false=>exact⟨t,⟨t0,t1⟩,by rw[bU (by rw[hc,hg])];rfl⟩
  obtain⟨t',b1,e1⟩:=T1
  rw[av e1]
  have T2:∃t2:Int,(0≤t2∧t2<rs.length)∧aP (jB (oH f7 pQ (jV 3) (jV 6) (jV 5))) (aq 6 (ag bO (jV 5) (jC (.int 1)))) aU [some (.bi,.lst (rs.map Row.d)),some (.al,.int c),some (.fr,.lst (ax fl)),some (.fr,.int (f:Int)),some (.bo,.lst (ax lt)),some (.fr,.int (la:Int)),some (.fr,.int t')]=some (.nx [some (.bi,.lst (rs.map Row.d)),some (.al,.int c),some (.fr,.lst (ax fl)),some (.fr,.int (f:Int)),some (.bo,.lst (ax lt)),some (.fr,.int (la:Int)),some (.fr,.int t2)]):=by
   have hc:∃b,(jB (oH f7 pQ (jV 3) (jV 6) (jV 5))) [some (.bi,.lst (rs.map Row.d)),some (.al,.int c),some (.fr,.lst (ax fl)),some (.fr,.int (f:Int)),some (.bo,.lst (ax lt)),some (.fr,.int (la:Int)),some (.fr,.int t')]=some b:=by
    walk_at "ev"
    cases decide ((f:Int)<t')<;>exact⟨_,rfl⟩
   obtain⟨b,hc⟩:=hc
   cases b with
   |true=>exact⟨(la:Int)+1,by omega,by rw[bz hc];walk_at "ev"⟩
   |false=>exact⟨t',b1,by rw[bU hc];rfl⟩
  obtain⟨t2,b2,e2⟩:=T2
  rw[av e2]
  have T3:∃t3:Int,(0≤t3∧t3<rs.length)∧aP (jB (ag aM (ag ak (ag ak (jV 0) (jV 6)) (jC (.int 0))) (jC (.str "go")))) (aq 6 (jC (.int 0))) aU [some (.bi,.lst (rs.map Row.d)),some (.al,.int c),some (.fr,.lst (ax fl)),some (.fr,.int (f:Int)),some (.bo,.lst (ax lt)),some (.fr,.int (la:Int)),some (.fr,.int t2)]=some (.nx [some (.bi,.lst (rs.map Row.d)),some (.al,.int c),some (.fr,.lst (ax fl)),some (.fr,.int (f:Int)),some (.bo,.lst (ax lt)),some (.fr,.int (la:Int)),some (.fr,.int t3)]):=by
   have at2:=Pn (rs:=rs) b2.1 b2.2
   have hc:∃b,(jB (ag aM (ag ak (ag ak (jV 0) (jV 6)) (jC (.int 0))) (jC (.str "go")))) [some (.bi,.lst (rs.map Row.d)),some (.al,.int c),some (.fr,.lst (ax fl)),some (.fr,.int (f:Int)),some (.bo,.lst (ax lt)),some (.fr,.int (la:Int)),some (.fr,.int t2)]=some b:=by
    simp -implicitDefEqProofs only [jB,ag,jV,jC,gz,gy,id_eq,oq,de,at2,oy,dA,dJ,bx]
    exact⟨_,rfl⟩
   obtain⟨b,hc⟩:=hc
   cases b with
   |true=>exact⟨0,by omega,by rw[bz hc];rfl⟩
   |false=>exact⟨t2,b2,by rw[bU hc];rfl⟩
  obtain⟨t3,b3,e3⟩:=T3
  rw[av e3]
  rw[av (ke (j:=f) (r:=.pt a ((la:Int)+1)) (mo:=.bi) (m':=.fr) rfl rfl (by
   simp -implicitDefEqProofs only [aQ,ae,ah,ag,jV,jC,gz,gy,id_eq,oq,de,arf,oy,ha,oJ]
   rfl) rfl (by omega))]
  simp -implicitDefEqProofs only [tz,tq]
  rw[av (ke (rs:=rs.set f (.pt a ((la:Int)+1))) (j:=la) (r:=.go t3) (mo:=.bi) (m':=.fr) rfl rfl rfl rfl (by rw[List.length_set];omega))]
  refine⟨(rs.set f (.pt a ((la:Int)+1))).set la (.go t3),by rw[show(aH (jV 0)) _=some (.rt _ .bi (.lst (((rs.set f (.pt a ((la:Int)+1))).set la (.go t3)).map Row.d)))from rfl,oq];exact fin,?_,by simp⟩
  refine(h.set fun m hm=>?_).set fun m hm=>?_
  ·have:m=(f:Int)+1∨m=(la:Int)+1:=by simpa[aN.bp]using hm
   omega
  ·have:m=t3:=by simpa[aN.bp]using hm
   rw[List.length_set];omega
theorem PV(ns:List Int)(A1:Option (M×D))(fs:List Str)(hf:0<fs.length)(ds:List De)(hd:0<ds.length)(rs:List Row)(hl:rs.length≤200)(i:Nat)(o6:Option (M×D)) :
  ∃(r:Row) (cw:Option (M×D)),uc [some (.al,.lst (ns.map .int)),A1,some (.bo,.lst (fs.map .str)),some (.bo,.lst (ds.map aw)),some (.bo,.lst (rs.map Row.d)),some (.fr,.int (i:Int)),o6]=some (.nx [some (.al,.lst (ns.map .int)),A1,some (.bo,.lst (fs.map .str)),some (.bo,.lst (ds.map aw)),some (.bo,.lst ((rs++[r]++[Row.go (2*(i:Int)-1)]).map Row.d)),some (.fr,.int (i:Int)),cw])∧Row.flat r=true:=by
 obtain⟨c,hc⟩:=mE ns (2+(i:Int)) (by omega)
 obtain⟨x,hx⟩:=mC c (i:Int)
 obtain⟨r,hr,p1,_,_⟩:=GA (c/11*11+c%7) x fs hf ds hd
 refine⟨r,some (.fr,.int c),?_,p1 (by omega)⟩
 unfold uc
 rw[av (e':=[some (.al,.lst (ns.map .int)),A1,some (.bo,.lst (fs.map .str)),some (.bo,.lst (ds.map aw)),some (.bo,.lst (rs.map Row.d)),some (.fr,.int (i:Int)),some (.fr,.int c)]) (by walk_at "ev"; rw[hc];walk_at "ev")]
 rw[av (oN (rs:=rs) (r:=r) rfl (by walk_at "go"; rw[hx];walk_at "go"; rw[hr]) (by omega))]
 simp -implicitDefEqProofs only [tz,tq]
 exact oN (rs:=rs++[r]) (r:=.go (2*(i:Int)-1)) rfl (by walk_at "go"; rfl) (by simp;omega)
theorem Oc(ns:List Int)(many:Int)(h1:1≤many)(h2:many≤28):∃rs:List Row,uw [.lst (ns.map .int),.int many]=some (.un,.lst (rs.map Row.d))∧Good rs∧rs.length≤100:=by
  obtain⟨c0,h0⟩:=mE ns 0 (by omega)
  obtain⟨fs,j7,tG⟩:=yw c0
  obtain⟨ds,nR,jt⟩:=yx ns fs (by omega)
  obtain⟨e',l1,rs,o5,o6,he,hl,hP⟩:=cQ (g:=gN 5) (b:=uc) (m:=.fr) (ds:=b0 0 many.toNat) (e:=[some (.al,.lst (ns.map .int)),some (.al,.int many),some (.bo,.lst (fs.map .str)),some (.bo,.lst (ds.map aw)),some (.bo,.lst ([Row.go (2*many-1)].map Row.d)),none,none])
    (fun i e=>∃(rs:List Row) (o5 o6:Option (M×D)),e=[some (.al,.lst (ns.map .int)),some (.al,.int many),some (.bo,.lst (fs.map .str)),some (.bo,.lst (ds.map aw)),some (.bo,.lst (rs.map Row.d)),o5,o6]∧rs.length=2*i+1∧((i:Int)≤many→∀(n:Nat) r,rs[n]?=some r→Row.flat r=true∨∃t,r=.go t∧(0≤t∨n=2)∧t<2*many+2))
    ⟨[Row.go (2*many-1)],none,none,rfl,rfl,fun _ n r hr=>by
      cases n with
      |zero=>simp at hr;subst hr;exact .inr ⟨_,rfl,.inl (by omega),by omega⟩
      |succ n=>simp at hr⟩
    (fun i d e hd a9=>by
      obtain⟨rs,o5,o6,he,hl,hP⟩:=a9
      subst he
      obtain⟨hi,rfl⟩:=kh hd
      rw[show(0:Int)+(i:Int)=(i:Int) by omega]
      obtain⟨r,cw,q,hr⟩:=PV ns (some (.al,.int many)) fs (by omega) ds (by omega) rs (by omega) i o6
      refine⟨_,_,rfl,q,_,_,cw,rfl,by simp;omega,fun tm n x hx=>?_⟩
      rcases gS hx with z|⟨z,rfl⟩
      · rcases gS z with z|⟨z,rfl⟩
        · exact hP (by omega) n x z
        · exact .inl hr
      · refine .inr ⟨_,rfl,?_,by omega⟩
        simp at z
        omega)
  subst he
  rw[iX]at hl
  have hP:=hP (by rw[iX];omega)
  unfold uw fn CL
  simp only[cq,bw,bA]
  rw[av (e':=[some (.al,.lst (ns.map .int)),some (.al,.int many),some (.bo,.lst (fs.map .str)),none,none,none,none]) (by walk_at "ev"; rw[h0];walk_at "ev"; rw[tG];walk_at "ev")]
  rw[av (e':=[some (.al,.lst (ns.map .int)),some (.al,.int many),some (.bo,.lst (fs.map .str)),some (.bo,.lst (ds.map aw)),none,none,none]) (by walk_at "ev"; rw[jt];walk_at "ev")]
  rw[av (e':=[some (.al,.lst (ns.map .int)),some (.al,.int many),some (.bo,.lst (fs.map .str)),some (.bo,.lst (ds.map aw)),some (.bo,.lst ([Row.go (2*many-1)].map Row.d)),none,none]) (by walk_at "go"; rfl)]
  rw[av (e':=[some (.al,.lst (ns.map .int)),some (.al,.int many),some (.bo,.lst (fs.map .str)),some (.bo,.lst (ds.map aw)),some (.bo,.lst (rs.map Row.d)),o5,o6]) (by
    have cu:-4611686018427387904≤many∧many<4611686018427387904:=by omega
    simp -implicitDefEqProofs only [aT,bY,ae,ah,jV,gz,gy,id_eq,oq,cu,and_self,if_true]
    exact l1)]
  rw[av (ke (j:=2) (r:=.go (2*many+1)) (mo:=.bo) (m':=.fr) rfl rfl (by walk_at "go"; rfl) rfl (by omega))]
  simp -implicitDefEqProofs only [tz,tq]
  refine⟨rs.set 2 (.go (2*many+1))++[.en],?_,⟨by simp,fun n r hr m hm=>?_⟩,by simp;omega⟩
  · walk_at "ev"
    rw[F9 (by decide) (by decide) (by simp only[ln,List.length_set,List.length_cons,List.length_nil];exact Nat.le_trans (show rs.length+(0+1)≤200 by omega) (by decide))]
    rw[show mJ .bo .un=.fr from rfl,Gd]
    walk_at "ev"
    rw[List.map_append];rfl
  · have hlen:((rs.set 2 (.go (2*many+1))++[Row.en]).length:Int)=2*many+2:=by simp;omega
    rw[hlen]
    rcases gS hr with z|⟨_,rfl⟩
    · rw[List.getElem?_set]at z
      split at z
      · split at z
        · cases z
          have:m=2*many+1:=by simpa[aN.bp]using hm
          omega
        · cases z
      · rename_i n2
        have hn:n<rs.length:=(bB.mp z).1
        rcases hP n r z with w|⟨t,rfl,w,y⟩
        · have:m=(n:Int)+1:=by cases r<;>simp_all [Row.flat,aN.bp]
          omega
        · have:m=t:=by simpa[aN.bp]using hm
          rcases w with w|w<;>omega
    · simp[aN.bp]at hm
def Tg(many:Int)(r:Row):Prop:=(∀t,r=.go t→0≤t∧t<many)∧∀a t,r=.pt a t→0≤t∧t<many
theorem Ng(c n many:Int)(hm:1≤many∧many≤100)(fs:List Str)(hf:0<fs.length∧fs.length≤100)(ds:List De)(hd:0<ds.length):∃r:Row,qe [.int c,.int n,.int many,.lst (fs.map .str),.lst (ds.map aw)]=some (.fr,r.d)∧Tg many r:=by
 obtain⟨nm,_,hn⟩:=oA (f:=D.str) (l:=fs) (k:=c/14%fs.length) (Int.emod_nonneg _ (by omega)) (Int.emod_lt_of_pos _ (by omega))
 obtain⟨q,_,hq⟩:=oA (f:=aw) (l:=ds) (k:=c/14/fs.length%ds.length) (Int.emod_nonneg _ (by omega)) (Int.emod_lt_of_pos _ (by omega))
 obtain⟨LY,ho1⟩:=oh (c/14/fs.length) fs hf.1
 obtain⟨LZ,iL⟩:=oh (c/14) fs hf.1
 obtain⟨L0,ho3⟩:=oh (c/14/(many-1)) fs hf.1
 have np:∀{r:Row},Row.cR r=false→Row.f6 r=false→Tg many r:=fun {r} h1 h2=>⟨fun t e=>(by subst e;cases h1),fun a t e=>(by subst e;cases h2)⟩
 unfold qe fn CD
 simp only[cq,bw,bA]
 rw[av (e':=[some (.al,.int c),some (.al,.int n),some (.al,.int many),some (.al,.lst (fs.map .str)),some (.al,.lst (ds.map aw)),some (.fr,.int (c%14)),none,none,none,none]) (by walk_at "go")]
 rw[av (e':=[some (.al,.int c),some (.al,.int n),some (.al,.int many),some (.al,.lst (fs.map .str)),some (.al,.lst (ds.map aw)),some (.fr,.int (c%14)),some (.fr,.int (c/14)),none,none,none]) (by walk_at "go")]
 by_cases q1:c%14<6
 ·refine⟨.rk nm q.1 q.2.1 q.2.2,?_,np rfl rfl⟩
  rw[dG (e':=[some (.al,.int c),some (.al,.int n),some (.al,.int many),some (.al,.lst (fs.map .str)),some (.al,.lst (ds.map aw)),some (.fr,.int (c%14)),some (.fr,.int (c/14)),some (.al,.str q.1),some (.al,kD q.2.1),some (.al,kD q.2.2)]) (m:=.fr) (d:=Row.d (.rk nm q.1 q.2.1 q.2.2)) (by
   rw[bz (by walk_at "go"; simp only[q1,decide_true])]
   rw[av (e':=[some (.al,.int c),some (.al,.int n),some (.al,.int many),some (.al,.lst (fs.map .str)),some (.al,.lst (ds.map aw)),some (.fr,.int (c%14)),some (.fr,.int (c/14)),some (.al,.str q.1),some (.al,kD q.2.1),some (.al,kD q.2.2)]) (by
    walk_at "go"
    rw[hq]
    rfl)]
   walk_at "go"
   rw[hn]
   walk_at "ev"
   simp -implicitDefEqProofs only [qW,Bool.and_self,if_true]
   rfl)]
  rfl
 rw[fj (by walk_at "go"; simp only[q1,decide_false])]
 by_cases q2:c%14<8
 ·refine⟨.cp nm LY,?_,np rfl rfl⟩
  rw[dG (e':=[some (.al,.int c),some (.al,.int n),some (.al,.int many),some (.al,.lst (fs.map .str)),some (.al,.lst (ds.map aw)),some (.fr,.int (c%14)),some (.fr,.int (c/14)),none,none,none]) (m:=.fr) (d:=Row.d (.cp nm LY)) (by
   rw[bz (by walk_at "go"; simp only[q2,decide_true])]
   walk_at "go"
   rw[hn]
   walk_at "go"
   rw[ho1]
   walk_at "ev"
   rfl)]
  rfl
 rw[fj (by walk_at "go"; simp only[q2,decide_false])]
 by_cases q3:c%14<10
 ·refine⟨.sy LZ,?_,np rfl rfl⟩
  rw[dG (e':=[some (.al,.int c),some (.al,.int n),some (.al,.int many),some (.al,.lst (fs.map .str)),some (.al,.lst (ds.map aw)),some (.fr,.int (c%14)),some (.fr,.int (c/14)),none,none,none]) (m:=.fr) (d:=Row.d (.sy LZ)) (by
   rw[bz (by walk_at "go"; simp only[q3,decide_true])]
   walk_at "go"
   rw[iL]
   walk_at "ev"
   rfl)]
  rfl
 rw[fj (by walk_at "go"; simp only[q3,decide_false])]
 have L1:(dM (jB (ag f7 (jV 5) (jC (.int 12)))) (jB (ag iQ (jV 2) (jC (.int 1))))) [some (.al,.int c),some (.al,.int n),some (.al,.int many),some (.al,.lst (fs.map .str)),some (.al,.lst (ds.map aw)),some (.fr,.int (c%14)),some (.fr,.int (c/14)),none,none,none]=some (decide (c%14<12)&&decide (1<many)):=by
  walk_at "ev"
  cases decide (c%14<12)<;>rfl
 cases q4:(decide (c%14<12)&&decide (1<many)) with
 |true =>
  have h1m:1<many:=by simp at q4;exact q4.2
  have m0:=Int.emod_nonneg (n+2+c/14%(many-1)) (show many≠0 by omega)
  have m1:=Int.emod_lt_of_pos (n+2+c/14%(many-1)) (show 0<many by omega)
  refine⟨.pt L0 ((n+2+c/14%(many-1))%many),?_,(fun t e=>nomatch e),fun a t e=>(by cases e;exact⟨m0,m1⟩)⟩
  rw[dG (e':=[some (.al,.int c),some (.al,.int n),some (.al,.int many),some (.al,.lst (fs.map .str)),some (.al,.lst (ds.map aw)),some (.fr,.int (c%14)),some (.fr,.int (c/14)),none,none,none]) (m:=.fr) (d:=Row.d (.pt L0 ((n+2+c/14%(many-1))%many))) (by
   rw[bz (by rw[L1,q4])]
   walk_at "go"
   rw[ho3]
   walk_at "go"
   rfl)]
  rfl
 |false =>
  rw[fj (by rw[L1,q4])]
  by_cases q5:c%14=12
  ·have m0:=Int.emod_nonneg (c/14) (show many≠0 by omega)
   have m1:=Int.emod_lt_of_pos (c/14) (show 0<many by omega)
   refine⟨.go (c/14%many),?_,(fun t e=>by cases e;exact⟨m0,m1⟩),(fun a t e=>nomatch e)⟩
   rw[dG (e':=[some (.al,.int c),some (.al,.int n),some (.al,.int many),some (.al,.lst (fs.map .str)),some (.al,.lst (ds.map aw)),some (.fr,.int (c%14)),some (.fr,.int (c/14)),none,none,none]) (m:=.fr) (d:=Row.d (.go (c/14%many))) (by
    rw[bz (by walk_at "ev"; simp only[q5,decide_true])]
    walk_at "go"
    rfl)]
   rfl
  ·refine⟨.en,?_,np rfl rfl⟩
   rw[fj (by walk_at "ev"; simp only[q5,decide_false])]
   rfl
noncomputable def AH(k:Nat)(e:Ev):Nat:=match e[k]? with
 |some (some (_,.bl true))=>1
 |_=>0
theorem Fo{ks:List Nat}{x N:Nat}(h1:ks.Nodup)(h2:∀y∈ks,y<N)(hx:x∉ks)(hN:x<N):(ks++[x]).Nodup∧∀y∈ks++[x],y<N:=by
 refine⟨?_,fun y hy=>?_⟩
 ·rw[List.nodup_append]
  refine⟨h1,by simp,fun a ha b hb=>?_⟩
  have:b=x:=by simpa using hb
  subst this
  exact fun z=>hx (z▸ha)
 ·rcases List.mem_append.mp hy with z|z
  ·exact h2 y z
  ·have:y=x:=by simpa using z
   omega
structure Gr (N:Nat)(ks:List Nat)(mo:Bool)(dm:List Nat)(dP:Bool):Prop where
 nd:dm.Nodup
 lt:∀x∈dm,x<N
 sub:∀x∈ks,x∈dm
 le:ks.length≤dm.length
 more:dP=true→mo=true∨ks.length<dm.length
theorem Gr.refl{N:Nat}{ks:List Nat}{mo:Bool}(h1:ks.Nodup)(h2:∀x∈ks,x<N):Gr N ks mo ks mo:=⟨h1,h2,fun _ h=>h,bf _,fun h=>.inl h⟩
theorem Gr.trans{N:Nat}{ks ya p7:List Nat}{mo p8 p9:Bool}(a:Gr N ks mo ya p8)(b:Gr N ya p8 p7 p9):Gr N ks mo p7 p9:=by
 have h1:=a.le
 have h2:=b.le
 refine⟨b.nd,b.lt,fun x h=>b.sub x (a.sub x h),by omega,fun h=>?_⟩
 rcases b.more h with z|z
 ·rcases a.more z with w|w
  ·exact .inl w
  ·exact .inr (by omega)
 ·exact .inr (by omega)
theorem Xl{N:Nat}(hN:N≤800)(A0:Option (M×D))(b:Bool){ks:List Nat}{mo:Bool}(h1:ks.Nodup)(h2:∀x∈ks,x<N){n m:Nat}(hn:n<N)(hm:m<N)(o6 o7:Option (M×D)) :
  ∃dm dP cw bL,tU [A0,some (.al,.bl b),some (.bo,.dk (bh ks)),some (.fr,.int (n:Int)),some (.fr,.bl mo),some (.fr,.int (m:Int)),o6,o7]=some (.nx [A0,some (.al,.bl b),some (.bo,.dk (bh dm)),some (.fr,.int (n:Int)),some (.fr,.bl dP),some (.fr,.int (m:Int)),cw,bL])∧Gr N ks mo dm dP:=by
 have B7:=qA N ks h1 h2
 have s1:ks.length<sizeLine:=dC (show ks.length≤800 by omega) (by decide)
 obtain⟨x,y,hx,hy,e⟩:∃x y:Nat,x<N∧y<N∧m6 (gT 2 (bG (gN 6) (bG (gN 7) dH))) (ag ak (bN (ae (aQ (ae (jV 5) (ae (jV 3) ah))) (ae (aQ (ae (jV 3) (ae (jV 5) ah))) ah))) (aO lK (ae (jV 1) ah))) [A0,some (.al,.bl b),some (.bo,.dk (bh ks)),some (.fr,.int (n:Int)),some (.fr,.bl mo),some (.fr,.int (m:Int)),o6,o7]=some (.nx [A0,some (.al,.bl b),some (.bo,.dk (bh ks)),some (.fr,.int (n:Int)),some (.fr,.bl mo),some (.fr,.int (m:Int)),some (.fr,.int (x:Int)),some (.fr,.int (y:Int))]):=by
  cases b with
  |true=>exact⟨n,m,hn,hm,rfl⟩
  |false=>exact⟨m,n,hm,hn,rfl⟩
 unfold tU
 rw[av e]
 have hc:(dM (jB (gj false (jV 6) (jV 2))) (jB (gj true (jV 7) (jV 2)))) [A0,some (.al,.bl b),some (.bo,.dk (bh ks)),some (.fr,.int (n:Int)),some (.fr,.bl mo),some (.fr,.int (m:Int)),some (.fr,.int (x:Int)),some (.fr,.int (y:Int))]=some (decide (x∈ks)&&!decide (y∈ks)):=by
  simp -implicitDefEqProofs only [dM,jB,gj,jV,lL,keyOf,gz,gy,id_eq,oq,zS,bx,if_true,Bool.false_eq_true,if_false]
  cases decide (x∈ks)<;>rfl
 cases hb:(decide (x∈ks)&&!decide (y∈ks)) with
 |false =>
  rw[bU (by rw[hc,hb])]
  exact⟨ks,mo,_,_,rfl,.refl h1 h2⟩
 |true =>
  have L3:y∉ks:=by
   intro z;simp[z]at hb
  rw[bz (by rw[hc,hb])]
  obtain⟨n1,n2⟩:=Fo h1 h2 L3 hy
  refine⟨ks++[y],true,some (.fr,.int (x:Int)),some (.fr,.int (y:Int)),?_,n1,n2,(fun z hz=>List.mem_append_left _ hz),by simp,fun _=>.inr (by simp)⟩
  simp -implicitDefEqProofs only [aj,lA,aq,jV,jC,keyOf,gz,gy,id_eq,oq,eV,if_true,lM,own,vo,s1,GB L3,tz,tq,fm]
theorem Xm{rs:List Row}(g:Good rs)(hN:rs.length≤800)(b:Bool){ks:List Nat}{mo:Bool}(h1:ks.Nodup)(h2:∀x∈ks,x<rs.length){n:Nat}(hn:n<rs.length)(o5 o6 o7:Option (M×D)) :
  ∃dm dP eR cw bL,tV [some (.al,.lst (rs.map Row.d)),some (.al,.bl b),some (.bo,.dk (bh ks)),some (.fr,.int (n:Int)),some (.fr,.bl mo),o5,o6,o7]=some (.nx [some (.al,.lst (rs.map Row.d)),some (.al,.bl b),some (.bo,.dk (bh dm)),some (.fr,.int (n:Int)),some (.fr,.bl dP),eR,cw,bL])∧Gr rs.length ks mo dm dP:=by
 have hr:rs[n]?=some (rs[n]'hn):=by simp
 have ef:=yT rs n _ hr
 have er:bp n (rs[n]'hn)=cG rs n:=by unfold cG;rw[hr]
 rw[er,rh g]at ef
 have hm:∀m∈bP rs n,m<rs.length:=fun m h=>by obtain⟨_,_,_,z⟩:=ou g h;exact z
 generalize bP rs n=ms at ef hm
 obtain⟨e',l1,dm,dP,eR,cw,bL,he,hg⟩:=cQ (g:=gN 5) (b:=tU) (m:=.fr) (ds:=ax ms) (e:=[some (.al,.lst (rs.map Row.d)),some (.al,.bl b),some (.bo,.dk (bh ks)),some (.fr,.int (n:Int)),some (.fr,.bl mo),o5,o6,o7])
  (fun _ e=>∃(dm:List Nat) (dP:Bool) (o5 o6 o7:Option (M×D)),e=[some (.al,.lst (rs.map Row.d)),some (.al,.bl b),some (.bo,.dk (bh dm)),some (.fr,.int (n:Int)),some (.fr,.bl dP),o5,o6,o7]∧Gr rs.length ks mo dm dP)
  ⟨ks,mo,o5,o6,o7,rfl,.refl h1 h2⟩
  (fun i d e hd a9=>by
   obtain⟨ya,p8,o5,o6,o7,he,hg⟩:=a9
   subst he
   obtain⟨m,yb,rfl⟩:∃m∈ms,d=.int (m:Int):=by
    obtain⟨x,hx,rfl⟩:=bZ.mp (dO hd);exact⟨x,hx,rfl⟩
   obtain⟨p7,p9,cw,bL,q,B8⟩:=Xl hN (some (.al,.lst (rs.map Row.d))) b (mo:=p8) hg.nd hg.lt hn (hm m yb) o6 o7
   exact⟨_,_,rfl,q,p7,p9,_,cw,bL,rfl,hg.trans B8⟩)
 subst he
 refine⟨dm,dP,eR,cw,bL,?_,hg⟩
 unfold tV
 simp -implicitDefEqProofs only [aT,bF,au,ae,ah,jV,gz,gy,id_eq,oq,mq,mn,ef,b9,oy]
 exact l1
theorem Xn{rs:List Row}(g:Good rs)(hN:rs.length≤800)(b:Bool){ks:List Nat}(h1:ks.Nodup)(h2:∀x∈ks,x<rs.length)(o3 o4 o5 o6 o7:Option (M×D)) :
  ∃dm dP fE eR cw bL,tW [some (.al,.lst (rs.map Row.d)),some (.al,.bl b),some (.bo,.dk (bh ks)),o3,o4,o5,o6,o7]=some (.nx [some (.al,.lst (rs.map Row.d)),some (.al,.bl b),some (.bo,.dk (bh dm)),fE,some (.fr,.bl dP),eR,cw,bL])∧Gr rs.length ks false dm dP:=by
 obtain⟨e',l1,dm,dP,fE,eR,cw,bL,he,hg⟩:=cQ (g:=gN 3) (b:=tV) (m:=.fr) (ds:=b0 0 rs.length) (e:=[some (.al,.lst (rs.map Row.d)),some (.al,.bl b),some (.bo,.dk (bh ks)),o3,some (.fr,.bl false),o5,o6,o7])
  (fun _ e=>∃(dm:List Nat) (dP:Bool) (o3 o5 o6 o7:Option (M×D)),e=[some (.al,.lst (rs.map Row.d)),some (.al,.bl b),some (.bo,.dk (bh dm)),o3,some (.fr,.bl dP),o5,o6,o7]∧Gr rs.length ks false dm dP)
  ⟨ks,false,o3,o5,o6,o7,rfl,.refl h1 h2⟩
  (fun i d e hd a9=>by
   obtain⟨ya,p8,o3,o5,o6,o7,he,hg⟩:=a9
   subst he
   obtain⟨hi,rfl⟩:=kh hd
   rw[show(0:Int)+(i:Int)=(i:Int) by omega]
   obtain⟨p7,p9,eR,cw,bL,q,B8⟩:=Xm g hN b (mo:=p8) hg.nd hg.lt hi o5 o6 o7
   exact⟨_,_,rfl,q,p7,p9,_,eR,cw,bL,rfl,hg.trans B8⟩)
 subst he
 refine⟨dm,dP,fE,eR,cw,bL,?_,hg⟩
 have cu:-4611686018427387904≤(rs.length:Int)∧(rs.length:Int)<4611686018427387904:=by omega
 have ht:(rs.length:Int).toNat=rs.length:=by omega
 unfold tW
 rw[av (e':=[some (.al,.lst (rs.map Row.d)),some (.al,.bl b),some (.bo,.dk (bh ks)),o3,some (.fr,.bl false),o5,o6,o7]) rfl]
 simp -implicitDefEqProofs only [aT,bY,aO,ae,ah,jV,gz,gy,id_eq,oq,dS,ln,cu,and_self,if_true,ht]
 exact l1
theorem Ht{rs:List Row}(g:Good rs)(hN:rs.length≤800)(b:Bool):∃ks,qb [.lst (rs.map Row.d),.bl b]=some (.un,.dk (bh ks))∧ks.Nodup∧(∀x∈ks,x<rs.length)∧(b=true→0∈ks):=by
 have cu:-4611686018427387904≤(rs.length:Int)∧(rs.length:Int)<4611686018427387904:=by omega
 have ht:(rs.length:Int).toNat=rs.length:=by omega
 have hp:=g.pos
 unfold qb fn Cw
 simp only[cq,bw,bA]
 rw[av (e':=[some (.al,.lst (rs.map Row.d)),some (.al,.bl b),some (.bo,.dk (bh [0])),none,none,none,none,none]) rfl]
 have S:∃ks o3,(aP (iG (jB (jV 1))) (aj (aq 2 qX) (aT (bY (ae (aO bH (ae (jV 0) ah)) ah)) (gN 3) qa)) aU) [some (.al,.lst (rs.map Row.d)),some (.al,.bl b),some (.bo,.dk (bh [0])),none,none,none,none,none]=some (.nx [some (.al,.lst (rs.map Row.d)),some (.al,.bl b),some (.bo,.dk (bh ks)),o3,none,none,none,none])∧ks.Nodup∧(∀x∈ks,x<rs.length)∧(b=true→0∈ks):=by
  cases b with
  |true =>
   exact⟨[0],none,rfl,by simp,fun x h=>by simp at h;omega,fun _=>by simp⟩
  |false =>
   obtain⟨e',l1,ks,o3,he,h1,h2⟩:=cQ (g:=gN 3) (b:=qa) (m:=.fr) (ds:=b0 0 rs.length) (e:=[some (.al,.lst (rs.map Row.d)),some (.al,.bl false),some (.bo,.dk (bh [])),none,none,none,none,none])
    (fun i e=>∃(ks:List Nat) (o3:Option (M×D)),e=[some (.al,.lst (rs.map Row.d)),some (.al,.bl false),some (.bo,.dk (bh ks)),o3,none,none,none,none]∧ks.Nodup∧∀x∈ks,x<i)
    ⟨[],none,rfl,List.nodup_nil,fun x h=>nomatch h⟩
    (fun i d e hd a9=>by
     obtain⟨ks,o3,he,h1,h2⟩:=a9
     subst he
     obtain⟨hi,rfl⟩:=kh hd
     rw[show(0:Int)+(i:Int)=(i:Int) by omega]
     have B7:=qA i ks h1 h2
     have s1:ks.length<sizeLine:=dC (show ks.length≤800 by omega) (by decide)
     have hr:rs[i]?=some (rs[i]'hi):=by simp
     generalize rs[i]'hi=r at hr
     have ar:=km hr
     have hc:(jB (ag aM (ag ak (ag ak (jV 0) (jV 3)) (jC (.int 0))) (jC (.str "end")))) [some (.al,.lst (rs.map Row.d)),some (.al,.bl false),some (.bo,.dk (bh ks)),some (.fr,.int (i:Int)),none,none,none,none]=some (Row.eJ r):=by
      simp -implicitDefEqProofs only [jB,ag,jV,jC,gz,gy,id_eq,oq,de,ar,oy,dA,dJ,bx,hR]
     have L4:i∉ks:=fun z=>by have:=h2 i z;omega
     cases hb:Row.eJ r with
     |false =>
      refine⟨_,[some (.al,.lst (rs.map Row.d)),some (.al,.bl false),some (.bo,.dk (bh ks)),some (.fr,.int (i:Int)),none,none,none,none],rfl,?_,ks,_,rfl,h1,fun x hx=>by have:=h2 x hx;omega⟩
      unfold qa
      exact(bU (hc.trans (by rw[hb]))).trans rfl
     |true =>
      obtain⟨n1,n2⟩:=Fo (N:=i+1) h1 (fun x hx=>by have:=h2 x hx;omega) L4 (by omega)
      refine⟨_,[some (.al,.lst (rs.map Row.d)),some (.al,.bl false),some (.bo,.dk (bh (ks++[i]))),some (.fr,.int (i:Int)),none,none,none,none],rfl,?_,ks++[i],_,rfl,n1,n2⟩
      unfold qa
      refine(bz (by exact hc.trans (by rw[hb]))).trans ?_
      simp -implicitDefEqProofs only [lA,jV,jC,keyOf,gz,gy,id_eq,oq,eV,if_true,lM,own,vo,s1,GB L4,tz,tq])
   subst he
   rw[iX]at h2
   refine⟨ks,o3,?_,h1,h2,fun z=>nomatch z⟩
   rw[bz rfl,av (e':=[some (.al,.lst (rs.map Row.d)),some (.al,.bl false),some (.bo,.dk (bh [])),none,none,none,none,none]) rfl]
   simp -implicitDefEqProofs only [aT,bY,aO,ae,ah,jV,gz,gy,id_eq,oq,dS,ln,cu,and_self,if_true,ht]
   exact l1
 obtain⟨B9,Ca,e0,a1,a2,a3⟩:=S
 rw[av e0]
 rw[av (e':=[some (.al,.lst (rs.map Row.d)),some (.al,.bl b),some (.bo,.dk (bh B9)),Ca,some (.fr,.bl true),none,none,none]) rfl]
 obtain⟨e',l1,⟨ks,mo,o3,o5,o6,o7,he,h1,h2,h3⟩,_⟩:=DH (c:=ye) (b:=tW) (e:=[some (.al,.lst (rs.map Row.d)),some (.al,.bl b),some (.bo,.dk (bh B9)),Ca,some (.fr,.bl true),none,none,none])
  (fun e=>∃(ks:List Nat) (mo:Bool) (o3 o5 o6 o7:Option (M×D)),e=[some (.al,.lst (rs.map Row.d)),some (.al,.bl b),some (.bo,.dk (bh ks)),o3,some (.fr,.bl mo),o5,o6,o7]∧ks.Nodup∧(∀x∈ks,x<rs.length)∧(b=true→0∈ks))
  (fun e=>rs.length-B2 2 e+AH 4 e)
  ⟨B9,true,Ca,none,none,none,rfl,a1,a2,a3⟩
  (fun e a9=>by
   obtain⟨ks,mo,o3,o5,o6,o7,he,h1,h2,h3⟩:=a9
   subst he
   have hC:ye [some (.al,.lst (rs.map Row.d)),some (.al,.bl b),some (.bo,.dk (bh ks)),o3,some (.fr,.bl mo),o5,o6,o7]=some mo:=rfl
   cases mo with
   |false=>exact .inl hC
   |true =>
    obtain⟨dm,dP,fE,eR,cw,bL,q,hg⟩:=Xn g hN b h1 h2 o3 (some (.fr,.bl true)) o5 o6 o7
    refine .inr ⟨hC,_,q,⟨dm,dP,fE,eR,cw,bL,rfl,hg.nd,hg.lt,fun z=>hg.sub 0 (h3 z)⟩,?_⟩
    have b1:=qA _ _ h1 h2
    have b2:=qA _ _ hg.nd hg.lt
    have b3:=hg.le
    cases dP with
    |false=>simp only[B2,AH,gz,gy,vo];omega
    |true =>
     have:=hg.more rfl
     simp only[B2,AH,gz,gy,vo]
     rcases this with z|z
     ·cases z
     ·omega)
 subst he
 rw[av l1]
 exact⟨ks,rfl,h1,h2,h3⟩
theorem Fp{g:M×D→Ev→Option Ev}{b:Ev→Option Fl}{m:M}(Iv:Ev→Prop)(Rt:M→D→Prop):∀{ds:List D}{e:Ev},Iv e →
  (∀d∈ds,∀e,Iv e→∃e1,g (m,d) e=some e1∧((∃e2,b e1=some (.nx e2)∧Iv e2)∨∃e2 m' d',b e1=some (.rt e2 m' d')∧Rt m' d')) →
  (∃e',forL g b m ds e=some (.nx e')∧Iv e')∨∃e' m' d',forL g b m ds e=some (.rt e' m' d')∧Rt m' d'
 |[],e,h0,_=>.inl ⟨e,rfl,h0⟩
 |d::ds,e,h0,hs=>by
  obtain⟨e1,h1,⟨e2,h2,h3⟩|⟨e2,m',d',h2,h3⟩⟩:=hs d cv e h0
  ·simp only[forL,h1,h2,oq]
   exact Fp Iv Rt h3 fun x hx=>hs x (df _ hx)
  ·exact .inr ⟨e2,m',d',by simp only[forL,h1,h2,oq],h3⟩
noncomputable def gB(N:Nat)(ks:List Nat):List Nat:=(List.range N).filter fun n=>!decide (n∈ks)
theorem Er{mo:M}{N:Nat}{ks:List Nat}:dI (jB (gj true (jV 0) (jV 1))) (jV 0) .fr [some (mo,.dk (bh ks))] (b0 0 N)=some ((ax (gB N ks)).map fun x=>(M.fr,x)):=by
 rw[vd]
 refine qj _ fun k _=>⟨?_,rfl⟩
 simp -implicitDefEqProofs only [jB,gj,jV,lL,keyOf,gz,gy,id_eq,oq,zS,bx,if_true]
theorem Fq(N:Nat)(ks:List Nat):(gB N ks).length≤N:=by
 have:=List.length_filter_le (fun n=>!decide (n∈ks)) (List.range N)
 rw[List.length_range]at this;exact this
theorem Fs{N:Nat}{ks:List Nat}{n:Nat}(h:n∈gB N ks):n<N∧n∉ks:=by
 obtain⟨h1,h2⟩:=List.mem_filter.mp h
 exact⟨List.mem_range.mp h1,by simpa using h2⟩
theorem Vh{l:List Nat}(h:l≠[]):∃x∈l,L2.bE (ax l) (-1)=some (.int (x:Int)):=by
 have hp:0<l.length:=List.length_pos_iff.mpr h
 refine⟨l[l.length-1]'(by omega),List.getElem_mem _,?_⟩
 unfold L2.bE L2.dW
 rw[if_neg (by decide),fq,if_pos (by omega),oq,show(-1+(l.length:Int)).toNat=l.length-1 by omega,ax,cV,dU (by omega)]
 rfl
theorem GC(t:Int):i3 [(M.fr,D.str "say"),(.fr,.int t)]=some (.fr,Row.d (.sy (.inl t))):=rfl
theorem Vi{rs:List Row}(g:Good rs)(hN:rs.length≤200)(t:Int)(o3 o4 o5 o6:Option (M×D)) :
  (∃bM fE gA eR cw,qc [some (.bi,.lst (rs.map Row.d)),some (.fr,.int ((rs.length:Int)-1)),some (.fr,.int t),o3,o4,o5,o6]=some (.nx [some (.bi,.lst (bM.map Row.d)),some (.fr,.int ((rs.length:Int)-1)),some (.fr,.int t),fE,gA,eR,cw])∧Good bM∧bM.length=rs.length) ∨
  ∃e',qc [some (.bi,.lst (rs.map Row.d)),some (.fr,.int ((rs.length:Int)-1)),some (.fr,.int t),o3,o4,o5,o6]=some (.rt e' .bi (.lst (rs.map Row.d))):=by
 have cu:-4611686018427387904≤(rs.length:Int)∧(rs.length:Int)<4611686018427387904:=by omega
 have ht:(rs.length:Int).toNat=rs.length:=by omega
 have hp:=g.pos
 obtain⟨k1,e1,n1,b1,z1⟩:=Ht g (by omega) true
 obtain⟨k2,e2,n2,b2,_⟩:=Ht g (by omega) false
 have ml1:=Fq rs.length k1
 have ml2:=Fq rs.length k2
 unfold qc
 rw[av (e':=[some (.bi,.lst (rs.map Row.d)),some (.fr,.int ((rs.length:Int)-1)),some (.fr,.int t),some (.bo,.dk (bh k1)),o4,o5,o6]) (by
  simp -implicitDefEqProofs only [aq,au,ae,ah,jV,jC,gz,gy,id_eq,oq,mq,mn,e1,dR,tz,tq])]
 rw[av (e':=[some (.bi,.lst (rs.map Row.d)),some (.fr,.int ((rs.length:Int)-1)),some (.fr,.int t),some (.bo,.dk (bh k1)),some (.bo,.dk (bh k2)),o5,o6]) (by
  simp -implicitDefEqProofs only [aq,au,ae,ah,jV,jC,gz,gy,id_eq,oq,mq,mn,e2,dR,tz,tq])]
 rw[av (e':=[some (.bi,.lst (rs.map Row.d)),some (.fr,.int ((rs.length:Int)-1)),some (.fr,.int t),some (.bo,.dk (bh k1)),some (.bo,.dk (bh k2)),some (.bo,.lst (ax (gB rs.length k1))),o6]) (by
  simp -implicitDefEqProofs only [aq,cF,bY,aO,ae,ah,jV,gz,gy,id_eq,oq,dS,ln,cu,and_self,if_true,ht]
  rw[show fP [some (.bi,.lst (rs.map Row.d)),some (.fr,.int ((rs.length:Int)-1)),some (.fr,.int t),some (.bo,.dk (bh k1)),some (.bo,.dk (bh k2)),o5,o6] [3]=[some (.bo,.dk (bh k1))] from rfl,Er,oq,ip (by rw[fq];omega),oq]
  rfl)]
 rw[av (e':=[some (.bi,.lst (rs.map Row.d)),some (.fr,.int ((rs.length:Int)-1)),some (.fr,.int t),some (.bo,.dk (bh k1)),some (.bo,.dk (bh k2)),some (.bo,.lst (ax (gB rs.length k1))),some (.bo,.lst (ax (gB rs.length k2)))]) (by
  simp -implicitDefEqProofs only [aq,cF,bY,aO,ae,ah,jV,gz,gy,id_eq,oq,dS,ln,cu,and_self,if_true,ht]
  rw[show fP [some (.bi,.lst (rs.map Row.d)),some (.fr,.int ((rs.length:Int)-1)),some (.fr,.int t),some (.bo,.dk (bh k1)),some (.bo,.dk (bh k2)),some (.bo,.lst (ax (gB rs.length k1))),o6] [4]=[some (.bo,.dk (bh k2))] from rfl,Er,oq,ip (by rw[fq];omega),oq]
  rfl)]
 have c5:(jB (ag gE (jV 5) (bN ah))) [some (.bi,.lst (rs.map Row.d)),some (.fr,.int ((rs.length:Int)-1)),some (.fr,.int t),some (.bo,.dk (bh k1)),some (.bo,.dk (bh k2)),some (.bo,.lst (ax (gB rs.length k1))),some (.bo,.lst (ax (gB rs.length k2)))]=some (!(gB rs.length k1).isEmpty):=by
  simp -implicitDefEqProofs only [jB,ag,jV,bN,ah,gz,gy,id_eq,oq]
  rw[show iA []=some (.un,.lst [])from rfl,oq,Fj]
  rfl
 have c6:(jB (ag gE (jV 6) (bN ah))) [some (.bi,.lst (rs.map Row.d)),some (.fr,.int ((rs.length:Int)-1)),some (.fr,.int t),some (.bo,.dk (bh k1)),some (.bo,.dk (bh k2)),some (.bo,.lst (ax (gB rs.length k1))),some (.bo,.lst (ax (gB rs.length k2)))]=some (!(gB rs.length k2).isEmpty):=by
  simp -implicitDefEqProofs only [jB,ag,jV,bN,ah,gz,gy,id_eq,oq]
  rw[show iA []=some (.un,.lst [])from rfl,oq,Fj]
  rfl
 cases tH:gB rs.length k1 with
 |cons l0 lr =>
  rw[tH]at c5 c6
  obtain⟨q1,q2⟩:=Fs (N:=rs.length) (ks:=k1) (n:=l0) (by rw[tH];exact cv)
  have h0:l0≠0:=fun z=>q2 (z▸z1 rfl)
  rw[bz (by rw[c5];rfl)]
  refine .inl ⟨rs.set (l0-1) (.sy (.inl t)),_,_,_,_,ke (j:=l0-1) (r:=.sy (.inl t)) (mo:=.bi) (m':=.fr) rfl rfl ?_ ?_ (by omega),g.set fun m hm=>?_,by simp⟩
  ·simp -implicitDefEqProofs only [aQ,ae,ah,jV,jC,gz,gy,id_eq,oq,GC]
  ·simp -implicitDefEqProofs only [ag,jV,jC,gz,gy,id_eq,oq,de]
   rw[show ax (l0::lr)=.int (l0:Int)::ax lr from rfl,Hr]
   simp -implicitDefEqProofs only [oy,oq,zk]
   rw[show(l0:Int)-1=((l0-1:Nat):Int) by omega]
  ·have:m=((l0-1:Nat):Int)+1:=by simpa[aN.bp]using hm
   omega
 |nil =>
  rw[tH]at c5 c6
  rw[bU (by rw[c5];rfl)]
  cases tI:gB rs.length k2 with
  |nil =>
   rw[tI]at c6
   right
   rw[bU (by unfold dM;rw[c6];rfl),bU (by rw[c6];rfl)]
   exact⟨_,rfl⟩
  |cons d0 dr =>
   rw[tI]at c6
   left
   obtain⟨x,hx,ex⟩:=Vh (l:=d0::dr) (List.cons_ne_nil _ _)
   obtain⟨q1,_⟩:=Fs (N:=rs.length) (ks:=k2) (n:=x) (by rw[tI];exact hx)
   have ix:(ag ak (jV 6) (bt dN (jC (.int 1)))) [some (.bi,.lst (rs.map Row.d)),some (.fr,.int ((rs.length:Int)-1)),some (.fr,.int t),some (.bo,.dk (bh k1)),some (.bo,.dk (bh k2)),some (.bo,.lst (ax [])),some (.bo,.lst (ax (d0::dr)))]=some (.fr,.int (x:Int)):=by
    simp -implicitDefEqProofs only [ag,bt,jV,jC,gz,gy,id_eq,oq,jN,de,ex,oy,gU]
   have c7:(dM (jB (ag gE (jV 6) (bN ah))) (jB (ag aM (ag ak (jV 6) (bt dN (jC (.int 1)))) (jV 1)))) [some (.bi,.lst (rs.map Row.d)),some (.fr,.int ((rs.length:Int)-1)),some (.fr,.int t),some (.bo,.dk (bh k1)),some (.bo,.dk (bh k2)),some (.bo,.lst (ax [])),some (.bo,.lst (ax (d0::dr)))]=some (decide ((x:Int)=(rs.length:Int)-1)):=by
    unfold dM
    rw[c6,show(some (!(d0::dr).isEmpty):Option Bool)=some true from rfl,oq,if_pos rfl]
    unfold jB ag
    rw[show(((jV 6) [some (.bi,.lst (rs.map Row.d)),some (.fr,.int ((rs.length:Int)-1)),some (.fr,.int t),some (.bo,.dk (bh k1)),some (.bo,.dk (bh k2)),some (.bo,.lst (ax [])),some (.bo,.lst (ax (d0::dr)))]).bind fun x_1=>((bt dN (jC (.int 1))) [some (.bi,.lst (rs.map Row.d)),some (.fr,.int ((rs.length:Int)-1)),some (.fr,.int t),some (.bo,.dk (bh k1)),some (.bo,.dk (bh k2)),some (.bo,.lst (ax [])),some (.bo,.lst (ax (d0::dr)))]).bind fun y=>ak x_1 y)=some (.fr,.int (x:Int))from ix]
    simp -implicitDefEqProofs only [jV,gz,gy,id_eq,oq,iB,bx]
   by_cases q2:(x:Int)=(rs.length:Int)-1
   ·rw[bz (by rw[c7,decide_eq_true q2])]
    refine⟨rs.set (rs.length-1) .en,_,_,_,_,ke (j:=rs.length-1) (r:=.en) (mo:=.bi) (m':=.fr) rfl rfl rfl ?_ (by omega),g.set fun m hm=>by simp[aN.bp]at hm,by simp⟩
    simp -implicitDefEqProofs only [jV,gz,gy,id_eq,oq]
    rw[show(rs.length:Int)-1=((rs.length-1:Nat):Int) by omega]
   ·rw[bU (by rw[c7,decide_eq_false q2]),bz (by rw[c6];rfl)]
    refine⟨rs.set x (.sy (.inl t)),_,_,_,_,ke (j:=x) (r:=.sy (.inl t)) (mo:=.bi) (m':=.fr) rfl rfl ?_ ix (by omega),g.set fun m hm=>?_,by simp⟩
    ·simp -implicitDefEqProofs only [aQ,ae,ah,jV,jC,gz,gy,id_eq,oq,GC]
    ·have:m=(x:Int)+1:=by simpa[aN.bp]using hm
     omega
theorem R8{rs:List Row}(hp:0<rs.length)(hN:rs.length≤200)(hT:∀r∈rs,Tg rs.length r):∃bM:List Row,qi [.lst (rs.map Row.d)]=some (.lst (bM.map Row.d))∧Good bM∧bM.length=rs.length:=by
 have fin:∀{bM:List Row}{e:Ev},lC (.rt e .bi (.lst (bM.map Row.d)))=some (.lst (bM.map Row.d)):=fun {bM e}=>by
  simp only[lC,own,hZ,my,and_self,if_true]
 unfold qi jX CM
 rw[show(jH [0] [D.lst (rs.map Row.d)]++List.replicate (7 - [D.lst (rs.map Row.d)].length) none:Ev)=[some (.bi,.lst (rs.map Row.d)),none,none,none,none,none,none] from rfl]
 rw[av (e':=[some (.bi,.lst (rs.map Row.d)),some (.fr,.int ((rs.length:Int)-1)),none,none,none,none,none]) (by walk_at "ev")]
 have mW:rs[rs.length-1]?=some (rs[rs.length-1]'(by omega)):=by simp
 generalize rs[rs.length-1]'(by omega)=rz at mW
 have az:=km mW
 rw[show((rs.length-1:Nat):Int)=(rs.length:Int)-1 by omega]at az
 have S:∃r1:List Row,Good r1∧r1.length=rs.length∧aP (jB (ag iR (ag ak (ag ak (jV 0) (jV 1)) (jC (.int 0))) (jC (.str "go")))) (eU 0 (jV 1) (aQ (ae (jC (.str "end")) ah))) aU [some (.bi,.lst (rs.map Row.d)),some (.fr,.int ((rs.length:Int)-1)),none,none,none,none,none]=some (.nx [some (.bi,.lst (r1.map Row.d)),some (.fr,.int ((rs.length:Int)-1)),none,none,none,none,none]):=by
  have hc:(jB (ag iR (ag ak (ag ak (jV 0) (jV 1)) (jC (.int 0))) (jC (.str "go")))) [some (.bi,.lst (rs.map Row.d)),some (.fr,.int ((rs.length:Int)-1)),none,none,none,none,none]=some (!Row.cR rz):=by
   simp -implicitDefEqProofs only [jB,ag,jV,jC,gz,gy,id_eq,oq,de,az,oy,dA,Hf,bx,gF]
  have L5:∀(n:Nat) r,rs[n]?=some r→n+1<rs.length→∀m∈bp n r,0≤m∧m<rs.length:=fun n r hr hn m hm=>by
   obtain⟨t1,t2⟩:=hT r (dO hr)
   cases r with
   |en=>simp[aN.bp]at hm
   |go t =>
    have:m=t:=by simpa[aN.bp]using hm
    have:=t1 t rfl;omega
   |pt a t =>
    have:m=(n:Int)+1∨m=t:=by simpa[aN.bp]using hm
    have:=t2 a t rfl;omega
   |rk x s a b =>
    have:m=(n:Int)+1:=by simpa[aN.bp]using hm
    omega
   |cp x a =>
    have:m=(n:Int)+1:=by simpa[aN.bp]using hm
    omega
   |sy a =>
    have:m=(n:Int)+1:=by simpa[aN.bp]using hm
    omega
  cases hg:Row.cR rz with
  |true =>
   refine⟨rs,⟨hp,fun n r hr m hm=>?_⟩,rfl,by rw[bU (by rw[hc,hg];rfl)];rfl⟩
   by_cases hn:n+1<rs.length
   ·exact L5 n r hr hn m hm
   ·have aZ:n<rs.length:=(bB.mp hr).1
    have:n=rs.length-1:=by omega
    subst this
    rw[mW]at hr;cases hr
    obtain⟨t,rfl⟩:=zA.mp hg
    have:m=t:=by simpa[aN.bp]using hm
    have:=(hT _ (dO mW)).1 t rfl;omega
  |false =>
   refine⟨rs.set (rs.length-1) .en,⟨by simpa using hp,fun n r hr m hm=>?_⟩,by simp,by
    rw[bz (by rw[hc,hg];rfl)]
    refine ke (j:=rs.length-1) (r:=.en) (mo:=.bi) (m':=.fr) rfl rfl rfl ?_ (by omega)
    simp -implicitDefEqProofs only [jV,gz,gy,id_eq,oq]
    rw[show(rs.length:Int)-1=((rs.length-1:Nat):Int) by omega]⟩
   rw[List.length_set]
   rw[List.getElem?_set]at hr
   split at hr
   ·split at hr
    ·cases hr;simp[aN.bp]at hm
    ·cases hr
   ·rename_i fM
    have aZ:n<rs.length:=(bB.mp hr).1
    exact L5 n r hr (by omega) m hm
 obtain⟨r1,g1,l1,e1⟩:=S
 rw[av e1]
 have cu:-4611686018427387904≤2*(rs.length:Int)∧2*(rs.length:Int)<4611686018427387904:=by omega
 have L:=Fp (g:=gN 2) (b:=qc) (m:=.fr) (ds:=b0 0 (2*(rs.length:Int)).toNat) (e:=[some (.bi,.lst (r1.map Row.d)),some (.fr,.int ((rs.length:Int)-1)),none,none,none,none,none])
  (fun e=>∃(r2:List Row) (o2 o3 o4 o5 o6:Option (M×D)),e=[some (.bi,.lst (r2.map Row.d)),some (.fr,.int ((rs.length:Int)-1)),o2,o3,o4,o5,o6]∧Good r2∧r2.length=rs.length)
  (fun m d=>m=.bi∧∃r2:List Row,d=.lst (r2.map Row.d)∧Good r2∧r2.length=rs.length)
  ⟨r1,none,none,none,none,none,rfl,g1,l1⟩
  (fun d hd e a9=>by
   obtain⟨r2,o2,o3,o4,o5,o6,he,g2,l2⟩:=a9
   subst he
   obtain⟨t,rfl⟩:∃t:Int,d=.int t:=by
    obtain⟨k,_,rfl⟩:=bZ.mp hd;exact⟨_,rfl⟩
   refine⟨_,rfl,?_⟩
   rcases Vi g2 (by omega) t o3 o4 o5 o6 with⟨r3,fE,gA,eR,cw,q,g3,l3⟩|⟨e',q⟩
   ·rw[l2]at q
    exact .inl ⟨_,q,r3,_,fE,gA,eR,cw,rfl,g3,by omega⟩
   ·rw[l2]at q
    exact .inr ⟨e',.bi,_,q,rfl,r2,rfl,g2,l2⟩)
 have it:(bY (ae (ag fJ (jC (.int 2)) (aO bH (ae (jV 0) ah))) ah)) [some (.bi,.lst (r1.map Row.d)),some (.fr,.int ((rs.length:Int)-1)),none,none,none,none,none]=some (.fr,b0 0 (2*(rs.length:Int)).toNat):=by
  simp -implicitDefEqProofs only [bY,aO,ag,jC,ae,ah,jV,gz,gy,id_eq,oq,dS,ln,l1]
  rw[Hg (by omega)]
  simp -implicitDefEqProofs only [oq,cu,and_self,if_true]
 rcases L with⟨e',q,r2,o2,o3,o4,o5,o6,rfl,g2,l2⟩|⟨e',m',d',q,rfl,r2,rfl,g2,l2⟩
 ·refine⟨r2,?_,g2,l2⟩
  rw[av (e':=[some (.bi,.lst (r2.map Row.d)),some (.fr,.int ((rs.length:Int)-1)),o2,o3,o4,o5,o6]) (by unfold aT;rw[it,oq];exact q)]
  rw[show(aH (jV 0)) [some (.bi,.lst (r2.map Row.d)),some (.fr,.int ((rs.length:Int)-1)),o2,o3,o4,o5,o6]=some (.rt _ .bi (.lst (r2.map Row.d)))from rfl,oq]
  exact fin
 ·refine⟨r2,?_,g2,l2⟩
  rw[dG (e':=e') (m:=.bi) (d:=.lst (r2.map Row.d)) (by unfold aT;rw[it,oq];exact q),oq]
  exact fin
theorem Ft{P:Row→Prop}:∀{xs:List D},(∀x∈xs,∃r:Row,x=r.d∧P r)→∃rs:List Row,xs=rs.map Row.d∧∀r∈rs,P r
 |[],_=>⟨[],rfl,fun _ h=>nomatch h⟩
 |x::xs,h=>by
  obtain⟨r,rfl,hr⟩:=h x cv
  obtain⟨rs,rfl,hs⟩:=Ft fun y hy=>h y (df _ hy)
  exact⟨r::rs,rfl,fun y hy=>by
   rcases List.mem_cons.mp hy with rfl|hy
   ·exact hr
   ·exact hs y hy⟩
theorem Vj{k:Nat}{R:List D}(h1:D.du R=true):k6 [0] [k] [(0,k)] [(.bo,.lst R)]=true:=by
 simp[k6,List.range_succ,own,hZ,h1]
theorem Vk(ns cs:List Int)(hc:cs.length≤40):∃rs:List Row,tR [.lst (ns.map .int),.lst (cs.map .int)]=some (.un,.lst (rs.map Row.d))∧Good rs∧rs.length≤100:=by
 obtain⟨c0,h0⟩:=mE ns 0 (by omega)
 obtain⟨fs,j7,tG⟩:=yw c0
 obtain⟨ds,nR,jt⟩:=yx ns fs (by omega)
 generalize tF:(if (cs.length:Int)>1 then (cs.length:Int)else 1)=many
 have hm:1≤many∧many≤40∧(0<cs.length→many=cs.length):=by rw[←tF];split<;>omega
 have fin:∀rs:List Row,0<rs.length→rs.length≤40→(∀r∈rs,Tg rs.length r)→∃bM:List Row,(kj [5] [(0,5)] qi (ae (jV 5) ah) [some (.al,.lst (ns.map .int)),some (.al,.lst (cs.map .int)),some (.bo,.lst (fs.map .str)),some (.bo,.lst (ds.map aw)),some (.fr,.int many),some (.bo,.lst (rs.map Row.d))]).bind out=some (.un,.lst (bM.map Row.d))∧Good bM∧bM.length≤100:=fun rs h1 h2 h3=>by
  obtain⟨bM,e,g,l⟩:=R8 h1 (by omega) h3
  refine⟨bM,?_,g,by omega⟩
  simp -implicitDefEqProofs only [kj,ae,ah,jV,gz,gy,id_eq,oq,Vj (my rs),if_true,mq,mn,e,zm]
 unfold tR fn Cg
 simp only[cq,bw,bA]
 rw[av (e':=[some (.al,.lst (ns.map .int)),some (.al,.lst (cs.map .int)),some (.bo,.lst (fs.map .str)),none,none,none]) (by walk_at "ev"; rw[h0];walk_at "ev"; rw[tG];walk_at "ev")]
 rw[av (e':=[some (.al,.lst (ns.map .int)),some (.al,.lst (cs.map .int)),some (.bo,.lst (fs.map .str)),some (.bo,.lst (ds.map aw)),none,none]) (by walk_at "ev"; rw[jt];walk_at "ev")]
 rw[av (e':=[some (.al,.lst (ns.map .int)),some (.al,.lst (cs.map .int)),some (.bo,.lst (fs.map .str)),some (.bo,.lst (ds.map aw)),some (.fr,.int many),none]) (by
  walk_at "ev"
  simp -implicitDefEqProofs only [rP,oq,fm,tF])]
 rw[av (e':=[some (.al,.lst (ns.map .int)),some (.al,.lst (cs.map .int)),some (.bo,.lst (fs.map .str)),some (.bo,.lst (ds.map aw)),some (.fr,.int many),some (.bo,.lst ([Row.en].map Row.d))]) rfl]
 by_cases q:0<cs.length
 ·have cu:-4611686018427387904≤many∧many<4611686018427387904:=by omega
  have hme:=hm.2.2 q
  obtain⟨xs,ex,xl,xp⟩:=J.DI (fc:=eE) (fe:=au qe (ae (ag ak (jV 4) (jV 0)) (ae (jV 0) (ae (jV 1) (ae (jV 2) (ae (jV 3) ah)))))) (m:=.fr) (fr:=[some (.fr,.int many),some (.bo,.lst (fs.map .str)),some (.bo,.lst (ds.map aw)),some (.al,.lst (cs.map .int))]) (P:=fun x=>∃r:Row,x=r.d∧Tg many r) (ds:=b0 0 many.toNat) (fun d hd=>by
   obtain⟨k,hk,rfl⟩:=bZ.mp hd
   have hk:=List.mem_range.mp hk
   obtain⟨c,wo⟩:=D9 (ns:=cs) (k:=0+(k:Int)) (by omega) (by omega)
   obtain⟨r,er,hr⟩:=Ng c (0+(k:Int)) many (by omega) fs (by omega) ds (by omega)
   refine⟨rfl,r.d,?_,r,rfl,hr⟩
   simp -implicitDefEqProofs only [au,ae,ah,ag,jV,gz,gy,id_eq,oq,de,wo,oy,mq,mn,er])
  obtain⟨rs,rfl,hT⟩:=Ft xp
  rw[iX,ln]at xl
  rw[av (e':=[some (.al,.lst (ns.map .int)),some (.al,.lst (cs.map .int)),some (.bo,.lst (fs.map .str)),some (.bo,.lst (ds.map aw)),some (.fr,.int many),some (.bo,.lst (rs.map Row.d))]) (by
   rw[bz (by walk_at "ev"; rw[decide_eq_true (show(0:Int)<cs.length by omega)])]
   simp -implicitDefEqProofs only [aq,cF,bY,ae,ah,jV,gz,gy,id_eq,oq,cu,and_self,if_true]
   rw[show fP [some (.al,.lst (ns.map .int)),some (.al,.lst (cs.map .int)),some (.bo,.lst (fs.map .str)),some (.bo,.lst (ds.map aw)),some (.fr,.int many),some (.bo,.lst ([Row.en].map Row.d))] [4,2,3,1]=[some (.fr,.int many),some (.bo,.lst (fs.map .str)),some (.bo,.lst (ds.map aw)),some (.al,.lst (cs.map .int))] from rfl,ex,oq,ip (by rw[ln];omega),oq]
   rfl)]
  exact fin rs (by omega) (by omega) fun r hr=>by
   have:=hT r hr
   rw[show(rs.length:Int)=many by omega]
   exact this
 ·rw[av (e':=[some (.al,.lst (ns.map .int)),some (.al,.lst (cs.map .int)),some (.bo,.lst (fs.map .str)),some (.bo,.lst (ds.map aw)),some (.fr,.int many),some (.bo,.lst ([Row.en].map Row.d))]) (by
   rw[bU (by walk_at "ev"; rw[decide_eq_false (show ¬(0:Int)<cs.length by omega)])];rfl)]
  exact fin [.en] (by simp) (by simp) fun r hr=>by
   have:r=.en:=by simpa using hr
   subst this
   exact⟨(fun t e=>nomatch e),fun a t e=>nomatch e⟩
theorem Dr(ns cs:List Int)(hc:cs.length≤40):∃rs:List Row,qf [.lst (ns.map .int),.lst (cs.map .int)]=some (.un,.lst (rs.map Row.d))∧Good rs∧rs.length≤100:=by
 obtain⟨b,hb⟩:=yS ns
 obtain⟨nu,B3⟩:=yt ns 57 (by omega)
 unfold qf fn CF
 simp only[cq,bw,bA]
 cases b with
 |true =>
  obtain⟨rs,e,g,l⟩:=Vk ns cs hc
  refine⟨rs,?_,g,l⟩
  rw[dG (e':=[some (.al,.lst (ns.map .int)),some (.al,.lst (cs.map .int)),none,none,none,none,none]) (m:=.un) (d:=.lst (rs.map Row.d)) (by
   rw[bz (by walk_at "ev"; rw[hb];rfl)]
   walk_at "ev"
   rw[e]
   rfl)]
  rfl
 |false =>
  rw[fj (by walk_at "ev"; rw[hb];rfl)]
  rw[av (e':=[some (.al,.lst (ns.map .int)),some (.al,.lst (cs.map .int)),some (.fr,.int nu),none,none,none,none]) (by walk_at "ev"; rw[B3];walk_at "ev")]
  by_cases q:nu%8=1
  ·obtain⟨rs,e,g,l⟩:=Oc ns (1+nu/8%28) (by omega) (by omega)
   refine⟨rs,?_,g,l⟩
   rw[dG (e':=[some (.al,.lst (ns.map .int)),some (.al,.lst (cs.map .int)),some (.fr,.int nu),none,none,none,none]) (m:=.un) (d:=.lst (rs.map Row.d)) (by
    rw[bz (by walk_at "go"; simp only[q,decide_true])]
    walk_at "go"
    rw[e]
    rfl)]
   rfl
  rw[fj (by walk_at "go"; simp only[q,decide_false])]
  obtain⟨ro,er,mj,LX⟩:=PL ns cs hc
  obtain⟨n2,Bd⟩:=yt ns 59 (by omega)
  rw[av (e':=[some (.al,.lst (ns.map .int)),some (.al,.lst (cs.map .int)),some (.fr,.int nu),some (.bo,.lst (ro.map Row.d)),none,none,none]) (by walk_at "ev"; rw[er];walk_at "ev")]
  rw[av (e':=[some (.al,.lst (ns.map .int)),some (.al,.lst (cs.map .int)),some (.fr,.int nu),some (.bo,.lst (ro.map Row.d)),some (.bo,.lst ([].map Row.d)),none,none]) rfl]
  obtain⟨e',l1,rs,o5,o6,he,hl,hP⟩:=cQ (g:=gT 2 (bG (gN 5) (bG (gN 6) dH))) (b:=ua) (m:=.fr) (ds:=bT (ro.map Row.d)) (e:=[some (.al,.lst (ns.map .int)),some (.al,.lst (cs.map .int)),some (.fr,.int nu),some (.fr,.lst (ro.map Row.d)),some (.bo,.lst ([].map Row.d)),none,none])
   (fun i e=>∃(rs:List Row) (o5 o6:Option (M×D)),e=[some (.al,.lst (ns.map .int)),some (.al,.lst (cs.map .int)),some (.fr,.int nu),some (.fr,.lst (ro.map Row.d)),some (.bo,.lst (rs.map Row.d)),o5,o6]∧rs.length=i∧∀(n:Nat) r,rs[n]?=some r→∀m∈bp n r,0≤m∧m<ro.length)
   ⟨[],none,none,rfl,rfl,fun n r h=>by simp at h⟩
   (fun i d e hd a9=>by
    obtain⟨rs,o5,o6,he,hl,hP⟩:=a9
    subst he
    obtain⟨r,hr,rfl⟩:=Fg hd
    have hi:i<ro.length:=(bB.mp hr).1
    obtain⟨r',cw,q,hm⟩:=Vf mj (by omega) (some (.al,.lst (ns.map .int))) (some (.al,.lst (cs.map .int))) (some (.fr,.int nu)) rs (by omega) hr
    refine⟨_,_,rfl,q,rs++[r'],_,cw,rfl,by simp[hl],fun n x hx m nT=>?_⟩
    rcases gS hx with z|⟨z,rfl⟩
    ·exact hP n x z m nT
    ·rw[z,hl]at nT;exact hm m nT)
  subst he
  have hE:(bT (ro.map Row.d)).length=ro.length:=by simp[bT]
  rw[hE]at hl
  rw[av (e':=[some (.al,.lst (ns.map .int)),some (.al,.lst (cs.map .int)),some (.fr,.int nu),some (.fr,.lst (ro.map Row.d)),some (.bo,.lst (rs.map Row.d)),o5,o6]) (by
   rw[cU,show bj 3 [some (.al,.lst (ns.map .int)),some (.al,.lst (cs.map .int)),some (.fr,.int nu),some (.bo,.lst (ro.map Row.d)),some (.bo,.lst ([].map Row.d)),none,none]=[some (.al,.lst (ns.map .int)),some (.al,.lst (cs.map .int)),some (.fr,.int nu),some (.fr,.lst (ro.map Row.d)),some (.bo,.lst ([].map Row.d)),none,none] from rfl]
   simp -implicitDefEqProofs only [aT,fQ,ae,jV,ah,gz,gy,oq,id_eq,b9,oy]
   exact l1)]
  have g:Good rs:=⟨by have:=mj.pos;omega,fun n r hr m hm=>by rw[hl];exact hP n r hr m hm⟩
  obtain⟨bM,e2,g2,l2⟩:=R7 g (by omega) n2
  refine⟨bM,?_,g2,by omega⟩
  have io:k6 [0] [4] [(0,4)] [(.bo,.lst (rs.map Row.d)),(.fr,.int n2)]=true:=by
   simp[k6,List.range_succ,own,hZ,gO,my]
  simp -implicitDefEqProofs only [kj,ae,ah,jV,jC,au,gz,gy,id_eq,oq,mq,mn,Bd,io,if_true,e2,zm]
noncomputable def bu(p:Nat→Bool):Nat→Nat
 |0=>0
 |k+1=>bu p k+(if p k=true then 2^k else 0)
theorem zB(p:Nat→Bool):∀k,bu p k<2^k
 |0=>by simp[bu]
 |k+1=>by
  have:=zB p k
  rw[bu,Nat.pow_succ]
  split<;>omega
theorem jI(p:Nat→Bool):∀k j,(bu p k).testBit j=(decide (j<k)&&p j)
 |0,j=>by simp[bu]
 |k+1,j=>by
  have h:=zB p k
  have ih:=jI p k j
  rw[bu]
  by_cases hp:p k=true
  ·rw[if_pos hp,Nat.add_comm]
   rcases Nat.lt_trichotomy j k with hj|rfl|hj
   ·rw[Nat.testBit_two_pow_add_gt hj,ih]
    simp[hj,Nat.lt_succ_of_lt hj]
   ·rw[Nat.testBit_two_pow_add_eq,Nat.testBit_lt_two_pow h]
    simp[hp]
   ·rw[Nat.testBit_lt_two_pow (fw (show 2^k+bu p k<2^(k+1) by rw[Nat.pow_succ];omega) (Nat.pow_le_pow_right (by decide) hj))]
    have:¬j<k+1:=by omega
    simp[this]
  ·rw[if_neg hp,Nat.add_zero,ih]
   by_cases hj:j<k
   ·simp[hj,Nat.lt_succ_of_lt hj]
   ·by_cases e:j=k
    ·subst e;simp[hp]
    ·have h2:¬j<k+1:=by omega
     simp[hj,h2]
theorem qN{p q:Nat→Bool}:∀{k:Nat},(∀j,j<k→p j=q j)→bu p k=bu q k
 |0,_=>rfl
 |k+1,h=>by rw[bu,bu,qN fun j hj=>h j (by omega),h k (by omega)]
theorem R9{p q:Nat→Bool}{k:Nat}(h:bu p k=bu q k):∀j,j<k→p j=q j:=fun j hj=>by
 have:=jI p k j
 rw[h,jI]at this
 simpa[hj]using this.symm
theorem Fu(p q:Nat→Bool)(k:Nat):bu p k&&&bu q k=bu (fun j=>p j&&q j) k:=by
 apply Nat.eq_of_testBit_eq
 intro j
 rw[Nat.testBit_and,jI,jI,jI]
 cases decide (j<k)<;>simp
theorem Vl(p q:Nat→Bool)(k:Nat):bu p k|||bu q k=bu (fun j=>p j||q j) k:=by
 apply Nat.eq_of_testBit_eq
 intro j
 rw[Nat.testBit_or,jI,jI,jI]
 cases decide (j<k)<;>simp
theorem DX(p q:Nat→Bool):∀k,bu (fun j=>p j&&q j) k+bu (fun j=>p j&&!q j) k=bu p k
 |0=>rfl
 |k+1=>by
  have:=DX p q k
  simp only[bu]
  by_cases hp:p k=true<;>by_cases hq:q k=true<;>simp[hp,hq]<;>omega
theorem yW{p:Nat→Bool}:∀{k i:Nat},i<k→(∀j,j<k→(p j=true↔j=i))→bu p k=2^i
 |0,i,h,_=>absurd h (Nat.not_lt_zero i)
 |k+1,i,h,hp=>by
  rw[bu]
  by_cases e:i=k
  ·subst e
   rw[if_pos ((hp i (by omega)).mpr rfl),show bu p i=bu (fun _=>false) i from qN fun j hj=>by
    cases hh:p j with
    |false=>rfl
    |true=>have:=(hp j (by omega)).mp hh;omega]
   have z:∀n,bu (fun _=>false) n=0:=fun n=>by
    induction n with
    |zero=>rfl
    |succ n ih=>rw[bu,ih];simp
   rw[z];simp
  ·rw[if_neg fun z=>e ((hp k (by omega)).mp z).symm,Nat.add_zero]
   exact yW (by omega) fun j hj=>hp j (by omega)
theorem yB{p:Nat→Bool}{k:Nat}(h:∀j,j<k→p j=false):bu p k=0:=by
 induction k with
 |zero=>rfl
 |succ k ih=>rw[bu,ih fun j hj=>h j (by omega),h k (by omega)];simp
noncomputable def bI(p:Nat→Bool)(k:Nat):D:=.int ((bu p k:Nat):Int)
theorem L6(x y:Nat):Builtin.bitOr (x:Int) (y:Int)=((x|||y:Nat):Int):=by
 unfold Builtin.bitOr
 rw[PyProof.Rows.bitAnd_nn (by unfold Builtin.bitNot;omega) (by unfold Builtin.bitNot;omega)]
 have nn:∀z:Int,Builtin.bitNot (Builtin.bitNot z)=z:=fun z=>by unfold Builtin.bitNot;omega
 rw[nn,nn,nn,Int.toNat_natCast,Int.toNat_natCast]
theorem AI(x y:Nat):Builtin.bitAnd (x:Int) (y:Int)=((x&&&y:Nat):Int):=by
 rw[PyProof.Rows.bitAnd_pp (Int.natCast_nonneg x) (Int.natCast_nonneg y),Int.toNat_natCast,Int.toNat_natCast]
section
variable {m n:M}{p q:Nat→Bool}{k:Nat}
theorem rG:jS (m,bI p k) (n,bI q k)=some (.fr,bI (fun j=>p j||q j) k):=by
 unfold bI
 rw[Ga,L6,Vl]
theorem zC:cT (m,bI p k) (n,bI q k)=some (.fr,bI (fun j=>p j&&q j) k):=by
 unfold bI
 rw[yM,AI,Fu]
theorem mK:((gi (n,bI q k)).bind fun y=>cT (m,bI p k) y)=some (.fr,bI (fun j=>p j&&!q j) k):=by
 have:=DX p q k
 unfold bI
 rw[Wc,oq,yM,PyProof.Rows.bitAnd_not,AI,Fu]
 have h:((bu p k:Nat):Int)-((bu (fun j=>p j&&q j) k:Nat):Int)=((bu (fun j=>p j&&!q j) k:Nat):Int):=by omega
 rw[h]
theorem Vm:(bI p k).cn=true:=pB
theorem iw(h:∀j,j<k→p j=q j):bI p k=bI q k:=by unfold bI;rw[qN h]
end
theorem PX{bs:List Bool}{i:Nat}{d:D}(h:(bT (bs.map D.bl))[i]?=some d):∃b,bs[i]?=some b∧d=.tup [.int i,.bl b]:=by
 unfold bT at h
 rw[List.getElem?_mapIdx,cV]at h
 cases e:bs[i]? with
 |none=>rw[e]at h;cases h
 |some r=>rw[e]at h;cases h;exact⟨r,rfl,rfl⟩
theorem yX{m n:M}{i:Nat}(h:i≤1000):mZ (m,.int 1) (n,.int (i:Int))=some (.fr,.int ((2^i:Nat):Int)):=by
 rw[Us ⟨by omega,by omega,by decide⟩,Int.toNat_natCast,Int.one_mul]
 congr 3
theorem Fv(bs:List Bool)(hl:bs.length≤500):qx [.lst (bs.map .bl)]=some (.fr,bI (fun j=>bs.getD j false) bs.length):=by
 obtain⟨e',l1,o2,o3,he⟩:=cQ (g:=gT 2 (bG (gN 2) (bG (gN 3) dH))) (b:=uB) (m:=.al) (ds:=bT (bs.map D.bl)) (e:=[some (.al,.lst (bs.map .bl)),some (.fr,.int 0),none,none])
  (fun i e=>∃o2 o3,e=[some (.al,.lst (bs.map .bl)),some (.fr,bI (fun j=>bs.getD j false) i),o2,o3]) ⟨none,none,rfl⟩
  (fun i d e hd a9=>by
   obtain⟨o2,o3,he⟩:=a9
   subst he
   obtain⟨b,hb,rfl⟩:=PX hd
   have hi:i<bs.length:=(bB.mp hb).1
   have hg:bs.getD i false=b:=by rw[hU,hb];rfl
   refine⟨_,[some (.al,.lst (bs.map .bl)),some (.fr,bI (fun j=>bs.getD j false) (i+1)),some (.al,.int (i:Int)),some (.al,.bl b)],rfl,?_,_,_,rfl⟩
   show uB [some (.al,.lst (bs.map .bl)),some (.fr,bI (fun j=>bs.getD j false) i),some (.al,.int (i:Int)),some (.al,.bl b)]=_
   unfold uB
   cases b with
   |false =>
    rw[bU rfl]
    unfold bI
    rw[bu,hg,if_neg aX]
    rfl
   |true =>
    rw[bz rfl]
    simp -implicitDefEqProofs only [aq,ag,jV,jC,gz,gy,id_eq,oq,yX (show i≤1000 by omega)]
    unfold bI
    rw[Ga,L6,bu,hg,if_pos rfl]
    have ho:bu (fun j=>bs.getD j false) i|||2^i=bu (fun j=>bs.getD j false) i+2^i:=by
     apply Nat.eq_of_testBit_eq
     intro j
     have h:=zB (fun j=>bs.getD j false) i
     rw[Nat.testBit_or,Nat.add_comm]
     rcases Nat.lt_trichotomy j i with hj|rfl|hj
     ·rw[Nat.testBit_two_pow_add_gt hj,Nat.testBit_two_pow_of_ne (by omega),Bool.or_false]
     ·rw[Nat.testBit_two_pow_add_eq,Nat.testBit_lt_two_pow h,Nat.testBit_two_pow_self];rfl
     ·rw[Nat.testBit_lt_two_pow (fw h (Nat.pow_le_pow_right (by decide) (by omega))),Nat.testBit_two_pow_of_ne (by omega),Nat.testBit_lt_two_pow (fw (show 2^i+bu (fun j=>bs.getD j false) i<2^(i+1) by rw[Nat.pow_succ];omega) (Nat.pow_le_pow_right (by decide) hj))]
      rfl
    rw[ho]
    rfl)
 subst he
 have hE:(bT (bs.map D.bl)).length=bs.length:=by simp[bT]
 rw[hE]at l1
 unfold qx fn DN
 simp only[cq,bw,bA]
 rw[av (e':=[some (.al,.lst (bs.map .bl)),some (.fr,.int 0),none,none]) rfl]
 rw[av (e':=[some (.al,.lst (bs.map .bl)),some (.fr,bI (fun j=>bs.getD j false) bs.length),o2,o3]) (by
  rw[cU,show bj 0 [some (.al,.lst (bs.map .bl)),some (.fr,.int 0),none,none]=[some (.al,.lst (bs.map .bl)),some (.fr,.int 0),none,none] from rfl]
  simp -implicitDefEqProofs only [aT,fQ,ae,jV,ah,gz,gy,oq,id_eq,b9,oy]
  exact l1)]
 rfl
section
variable {κ:Type}[DecidableEq κ]
theorem Sb{ks:List (κ×D)}{k:κ}{d:D}(h:∀kv∈ks,kv.1=k→kv.2=d)(hi:∃kv∈ks,kv.1=k):putD ks k d=ks:=by
 unfold putD
 rw[if_pos (by rw[List.any_eq_true];obtain⟨kv,h1,h2⟩:=hi;exact⟨kv,h1,decide_eq_true h2⟩)]
 conv=>rhs;rw[←List.map_id ks]
 refine List.map_congr_left fun kv bR=>?_
 by_cases e:kv.1=k
 ·rw[if_pos e,←h kv bR e];rfl
 ·rw[if_neg e];rfl
theorem Et{ks:List (κ×D)}{k:κ}{d:D}(h:∀kv∈ks,kv.1≠k):putD ks k d=ks++[(k,d)]:=by
 unfold putD
 rw[if_neg]
 intro z
 obtain⟨kv,h1,h2⟩:=List.any_eq_true.mp z
 exact h kv h1 (bC h2)
theorem qB{ks:List (κ×D)}{k:κ}{d:D}(h:∀kv∈ks,kv.1=k→kv.2=d)(hi:∃kv∈ks,kv.1=k):cB ks k=some d:=by
 unfold cB
 cases f:ks.find? fun kv=>decide (kv.1=k) with
 |none =>
  obtain⟨kv,h1,h2⟩:=hi
  have:=List.find?_eq_none.mp f kv h1
  exact absurd (decide_eq_true h2) this
 |some kv =>
  have h1:=List.mem_of_find?_eq_some f
  have h2:kv.1=k:=bC (List.find?_some (p:=fun(kv:κ×D)=>decide (kv.1=k)) f)
  rw[oy,h kv h1 h2]
theorem MH{ks:List (κ×D)}{k:κ}:(cB ks k).isSome=true↔∃kv∈ks,kv.1=k:=by
 unfold cB
 rw[Option.isSome_map,List.find?_isSome]
 constructor
 ·rintro⟨kv,h1,h2⟩;exact⟨kv,h1,bC h2⟩
 ·rintro⟨kv,h1,h2⟩;exact⟨kv,h1,decide_eq_true h2⟩
theorem yC(ks:List (κ×D))(k:κ)(d:D):(putD ks k d).length≤ks.length+1:=by
 unfold putD
 split
 ·rw[ln];omega
 ·simp
theorem yD{ks:List (κ×D)}{k:κ}{d:D}{kv:κ×D}(h:kv∈putD ks k d):(kv∈ks∧kv.1≠k)∨kv=(k,d):=by
 unfold putD at h
 split at h
 ·obtain⟨x,hx,e⟩:=bZ.mp h
  by_cases z:x.1=k
  ·rw[if_pos z]at e;exact .inr (by rw[←e,z])
  ·rw[if_neg z]at e;exact .inl (by rw[←e];exact⟨hx,z⟩)
 ·rename_i hn
  rcases List.mem_append.mp h with z|z
  ·by_cases e:kv.1=k
   ·exact absurd (List.any_eq_true.mpr ⟨kv,z,decide_eq_true e⟩) hn
   ·exact .inl ⟨z,e⟩
  ·exact .inr (by simpa using z)
theorem putD_has{ks:List (κ×D)}{k:κ}{d:D}:∃kv∈putD ks k d,kv.1=k:=by
 unfold putD
 split
 ·rename_i h
  obtain⟨x,hx,e⟩:=List.any_eq_true.mp h
  have e:=bC e
  exact⟨_,bZ.mpr ⟨x,hx,rfl⟩,by rw[if_pos e];exact e⟩
 ·exact⟨(k,d),by simp,rfl⟩
end
noncomputable def eZ:Row→Option De
 |.rk _ s a b=>some (s,a,b)
 |_=>none
noncomputable def sets:Row→Option Str
 |.rk x _ _ _=>some x
 |.cp x _=>some x
 |_=>none
noncomputable def dd:Option De→D
 |some q=>aw q
 |none=>.non
noncomputable def fD:Option Str→D
 |some q=>.str q
 |none=>.non
theorem AJ(r:Row):decide (r.word=("reckon" : Str))=(eZ r).isSome:=by
 cases r with
 |rk x s a b=>exact(by decide +kernel:decide (("reckon" : Str) = "reckon")=true)
 |cp x a=>exact(by decide +kernel:decide (("copy" : Str) = "reckon")=false)
 |sy a=>exact(by decide +kernel:decide (("say" : Str) = "reckon")=false)
 |go t=>exact(by decide +kernel:decide (("go" : Str) = "reckon")=false)
 |pt a t=>exact(by decide +kernel:decide (("part" : Str) = "reckon")=false)
 |en=>exact(by decide +kernel:decide (("end" : Str) = "reckon")=false)
theorem Fw(r:Row):nX [r.d]=some (.fr,dd (eZ r)):=by
 unfold nX fn Cu
 walk_at "ev"
 simp -implicitDefEqProofs only [dA,oq,c9,dJ,bx,AJ]
 cases r with
 |rk x s a b =>
  simp -implicitDefEqProofs only [eZ,Option.isSome_some,if_true]
  rw[show ak (.al,Row.d (.rk x s a b)) (.fr,.int 2)=some (.al,.str s)from rfl,show ak (.al,Row.d (.rk x s a b)) (.fr,.int 3)=some (.al,kD a)from rfl,show ak (.al,Row.d (.rk x s a b)) (.fr,.int 4)=some (.al,kD b)from rfl]
  walk_at "ev"
  simp -implicitDefEqProofs only [qW,Bool.and_self,if_true]
  rfl
 |_=>rfl
theorem Fx(r:Row):vn [r.d]=some (.fr,fD (sets r)):=by
 cases r<;>rfl
noncomputable def tJ:Ko→Key
 |.inl i=>.inl i
 |.inr x=>.inr x
noncomputable def gR(q:De):List Key:=[.inr q.1,tJ q.2.1,tJ q.2.2]
theorem Fy{a b:Ko}(h:tJ a=tJ b):a=b:=by
 cases a<;>cases b<;>simp[tJ]at h<;>rw[h]
theorem yZ{p q:De}(h:gR p=gR q):p=q:=by
 obtain⟨s,a,b⟩:=p;obtain⟨s',a',b'⟩:=q
 simp only[gR,List.cons.injEq,and_true,Key.inr.injEq]at h
 rw[h.1,Fy h.2.1,Fy h.2.2]
theorem y0(q:De):lO (aw q)=some (gR q):=by
 obtain⟨s,a,b⟩:=q
 cases a<;>cases b<;>rfl
theorem Sd(q:De):Aw (gR q)=aw q:=by
 obtain⟨s,a,b⟩:=q
 cases a<;>cases b<;>rfl
noncomputable def gC(l:List De):List (List Key×D):=l.map fun q=>(gR q,.bl true)
noncomputable instance aae (q:De) (l:List De):Decidable (q∈l):=@List.instDecidableMemOfLawfulBEq De instBEqOfDecidableEq inferInstance q l
noncomputable def jz(acc:List De)(r:Row):List De:=match eZ r with
 |some q=>if q∈acc then acc else acc++[q]
 |none=>acc
noncomputable def kn(rs:List Row):List De:=rs.foldl jz []
theorem Se(acc:List De)(r:Row):(jz acc r).length≤acc.length+1:=by
 unfold jz
 split
 ·split<;>simp
 ·omega
theorem oC(rs:List Row)(i:Nat)(r:Row)(h:rs[i]?=some r):kn (rs.take (i+1))=jz (kn (rs.take i)) r:=by
 unfold kn
 rw[List.take_add_one,h,List.foldl_append]
 rfl
theorem vq(rs:List Row):∀i,(kn (rs.take i)).length≤i
 |0=>by simp[kn]
 |i+1=>by
  have:=vq rs i
  cases h:rs[i]? with
  |none =>
   have e:rs.take (i+1)=rs.take i:=by rw[List.take_add_one,h];simp
   rw[e];omega
  |some r =>
   rw[oC rs i r h]
   have:=Se (kn (rs.take i)) r
   omega
theorem Eu(rs:List Row):∀i,(kn (rs.take i)).Nodup
 |0=>by simp[kn]
 |i+1=>by
  have ih:=Eu rs i
  cases h:rs[i]? with
  |none =>
   have e:rs.take (i+1)=rs.take i:=by rw[List.take_add_one,h];simp
   rw[e];exact ih
  |some r =>
   rw[oC rs i r h]
   unfold jz
   split
   ·rename_i q _
    split
    ·exact ih
    ·rename_i hn
     rw[List.nodup_append]
     exact⟨ih,by simp,fun a ha b hb=>fun z=>hn ((show b=q by simpa using hb)▸z▸ha)⟩
   ·exact ih
theorem GD(rs:List Row){q:De}:∀(i:Nat),(∃(n:Nat) (r:Row),n<i∧rs[n]?=some r∧eZ r=some q)→q∈kn (rs.take i)
 |0,⟨n,_,h,_⟩=>absurd h (Nat.not_lt_zero n)
 |i+1,⟨n,r,hn,hr,hd⟩=>by
  have up:∀x,x∈kn (rs.take i)→x∈kn (rs.take (i+1)):=fun x hx=>by
   cases h:rs[i]? with
   |none =>
    have e:rs.take (i+1)=rs.take i:=by rw[List.take_add_one,h];simp
    rw[e];exact hx
   |some r =>
    rw[oC rs i r h]
    unfold jz
    split
    ·split
     ·exact hx
     ·exact List.mem_append_left _ hx
    ·exact hx
  by_cases e:n=i
  ·subst e
   rw[oC rs n r hr]
   unfold jz
   rw[hd]
   simp only
   split
   ·assumption
   ·simp
  ·exact up q (GD rs i ⟨n,r,by omega,hr,hd⟩)
theorem tK{rs:List Row}:kn (rs.take rs.length)=kn rs:=by rw[List.take_length]
theorem Xo{r:Row}{l:List De}(hl:l.length≤500)(A0 o3:Option (M×D)):∃fE,ub [A0,some (.bo,.dt (gC l)),some (.al,r.d),o3]=some (.nx [A0,some (.bo,.dt (gC (jz l r))),some (.al,r.d),fE]):=by
 have s1:(gC l).length<sizeLine:=by simp only[gC,ln];exact dC hl (by decide)
 unfold ub
 rw[av (e':=[A0,some (.bo,.dt (gC l)),some (.al,r.d),some (.fr,dd (eZ r))]) (by
  simp -implicitDefEqProofs only [aq,au,ae,ah,jV,gz,gy,id_eq,oq,mq,mn,Fw,fm,tz,tq])]
 unfold jz
 cases hd:eZ r with
 |none =>
  rw[bU rfl]
  exact⟨_,rfl⟩
 |some q =>
  rw[bz rfl]
  refine⟨some (.fr,aw q),?_⟩
  have hp:putD (gC l) (gR q) (.bl true)=gC (if q∈l then l else l++[q]):=by
   by_cases hq:q∈l
   ·rw[if_pos hq]
    exact Sb (fun kv bR _=>by obtain⟨x,_,rfl⟩:=bZ.mp bR;rfl) ⟨(gR q,.bl true),bZ.mpr ⟨q,hq,rfl⟩,rfl⟩
   ·rw[if_neg hq,Et (fun kv bR=>by obtain⟨x,hx,rfl⟩:=bZ.mp bR;exact fun z=>hq (yZ z▸hx))]
    simp[gC]
  simp -implicitDefEqProofs only [fY,jV,jC,gz,gy,id_eq,oq,dd,y0,eV,if_true,hJ,own,s1,hp,tz,tq]
theorem y4{rs:List Row}{i:Nat}{d:D}(h:(rs.map Row.d)[i]?=some d):∃r,rs[i]?=some r∧d=r.d:=by
 rw[cV]at h
 cases e:rs[i]? with
 |none=>rw[e]at h;cases h
 |some r=>rw[e]at h;cases h;exact⟨r,rfl,rfl⟩
theorem y6{rs:List Row}(hl:rs.length≤400):nZ [.lst (rs.map Row.d)]=some (.un,.lst ((kn rs).map aw)):=by
 obtain⟨e',l1,o2,o3,he⟩:=cQ (g:=gN 2) (b:=ub) (m:=.al) (ds:=rs.map Row.d) (e:=[some (.al,.lst (rs.map Row.d)),some (.bo,.dt (gC [])),none,none])
  (fun i e=>∃o2 o3,e=[some (.al,.lst (rs.map Row.d)),some (.bo,.dt (gC (kn (rs.take i)))),o2,o3]) ⟨none,none,rfl⟩
  (fun i d e hd a9=>by
   obtain⟨o2,o3,he⟩:=a9
   subst he
   obtain⟨r,hr,rfl⟩:=y4 hd
   have hi:i<rs.length:=(bB.mp hr).1
   have B7:=vq rs i
   obtain⟨fE,q⟩:=Xo (r:=r) (l:=kn (rs.take i)) (by omega) (some (.al,.lst (rs.map Row.d))) o3
   rw[←oC rs i r hr]at q
   exact⟨_,_,rfl,q,_,fE,rfl⟩)
 subst he
 rw[ln,tK]at l1
 unfold nZ fn CJ
 simp only[cq,bw,bA]
 rw[av (e':=[some (.al,.lst (rs.map Row.d)),some (.bo,.dt (gC [])),none,none]) rfl]
 rw[av (e':=[some (.al,.lst (rs.map Row.d)),some (.bo,.dt (gC (kn rs))),o2,o3]) (by
  rw[cU,show bj 0 [some (.al,.lst (rs.map Row.d)),some (.bo,.dt (gC [])),none,none]=[some (.al,.lst (rs.map Row.d)),some (.bo,.dt (gC [])),none,none] from rfl]
  simp -implicitDefEqProofs only [aT,bF,jV,gz,gy,id_eq,oq,b9,oy]
  exact l1)]
 simp -implicitDefEqProofs only [aH,aO,ae,ah,jV,gz,gy,id_eq,oq,qZ,own,true_or,if_true,vf]
 congr 3
 unfold gC
 rw[List.map_map]
 exact List.map_congr_left fun q _=>Sd q
theorem jP(rs:List Row):(kn rs).length≤rs.length:=by have:=vq rs rs.length;rw[tK]at this;exact this
theorem Xp(rs:List Row):(kn rs).Nodup:=by have:=Eu rs rs.length;rw[tK]at this;exact this
theorem Xq{rs:List Row}{n:Nat}{r:Row}{q:De}(hr:rs[n]?=some r)(hd:eZ r=some q):q∈kn rs:=by
 have:=GD rs (q:=q) rs.length ⟨n,r,(bB.mp hr).1,hr,hd⟩
 rw[tK]at this;exact this
theorem DY{fe:Ev→Option (M×D)}{m:M}{fr:Ev}{x:D}(h:∀d,fe (some (m,d)::fr)=some (.fr,x)):∀ds:List D,dI eE fe m fr ds=some ((List.replicate ds.length x).map fun y=>(M.fr,y))
 |[]=>rfl
 |d::ds=>by rw[dI,show eE (some (m,d)::fr)=some true from rfl,oq,if_pos rfl,h,oq,DY h ds,oq];rfl
theorem oz{rs:List Row}(hl:rs.length≤400):jD [.lst (rs.map Row.d)]=some (.fr,bI (fun _=>true) (kn rs).length):=by
 have hk:=jP rs
 have hr:=y6 hl
 have hb:=Fv (List.replicate (kn rs).length true) (by simp;omega)
 rw[List.map_replicate,List.length_replicate]at hb
 unfold jD fn CW
 simp only[cq,bw,bA]
 simp -implicitDefEqProofs only [aH,au,ae,ah,cF,bF,jV,gz,gy,id_eq,oq,mq,mn,hr,b9,oy]
 rw[DY (x:=.bl true) (fun d=>rfl),oq,ln,ip (by rw[List.length_replicate];omega),oq]
 simp -implicitDefEqProofs only [mq,mn,oq,hb,oK]
 rw[iw (p:=fun j=>(List.replicate (kn rs).length true).getD j false) (q:=fun _=>true) fun j hj=>by rw[hU,List.getElem?_replicate,if_pos hj];rfl]
noncomputable def cN(l:List De)(r:Row)(j:Nat):Bool:=match eZ r,l[j]? with
 |some q,some q'=>decide (q=q')
 |_,_=>false
noncomputable def dZ(l:List De):List (List Key×D):=l.mapIdx fun k q=>(gR q,.int ((2^k:Nat):Int))
theorem y7(l:List De):(dZ l).length=l.length:=by simp[dZ]
theorem Fz{l:List De}{kv:List Key×D}(h:kv∈dZ l):∃(k:Nat) (q:De),l[k]?=some q∧kv=(gR q,.int ((2^k:Nat):Int)):=by
 obtain⟨i,hi,e⟩:=List.mem_iff_getElem.mp h
 simp only[dZ,List.getElem_mapIdx]at e
 have tm:i<l.length:=by rw[y7]at hi;exact hi
 exact⟨i,l[i]'tm,by simp,e.symm⟩
theorem PY(l:List De)(q:De):dZ (l++[q])=dZ l++[(gR q,.int ((2^l.length:Nat):Int))]:=by
 simp[dZ,List.mapIdx_append]
theorem zT{l:List De}(h:l.Nodup){i j:Nat}{q:De}(hi:l[i]?=some q)(hj:l[j]?=some q):i=j:=by
 have tm:=(bB.mp hi).1
 exact(List.getElem?_inj tm h).mp (by rw[hi,hj])
theorem Sf{l:List De}(h:l.Nodup){k:Nat}{q:De}(hk:l[k]?=some q):cB (dZ l) (gR q)=some (.int ((2^k:Nat):Int)):=by
 refine qB (fun kv bR e=>?_) ?_
 ·obtain⟨i,q',hi,rfl⟩:=Fz bR
  have:q'=q:=yZ e
  subst this
  rw[zT h hi hk]
 ·have nS:=(bB.mp hk).1
  refine⟨_,List.getElem_mem (l:=dZ l) (n:=k) (by rw[y7];exact nS),?_⟩
  simp only[dZ,List.getElem_mapIdx]
  rw[(bB.mp hk).2]
theorem Ew{l:List De}{i:Nat}{d:D}(h:(bT (l.map aw))[i]?=some d):∃q,l[i]?=some q∧d=.tup [.int i,aw q]:=by
 unfold bT at h
 rw[List.getElem?_mapIdx,cV]at h
 cases e:l[i]? with
 |none=>rw[e]at h;cases h
 |some r=>rw[e]at h;cases h;exact⟨r,rfl,rfl⟩
theorem Sg{l:List De}(h:l.Nodup){r:Row}{q:De}{k:Nat}(hd:eZ r=some q)(hk:l[k]?=some q):bu (cN l r) l.length=2^k:=by
 refine yW (bB.mp hk).1 fun j hj=>?_
 unfold cN
 rw[hd,dU hj]
 simp only[decide_eq_true_eq]
 constructor
 ·intro e;exact zT h (by rw[dU hj,←e]) hk
 ·intro e;subst e;exact((bB.mp hk).2).symm
theorem Dt{fe:Ev→Option (M×D)}{m m':M}{fr:Ev}{f:Row→D}:∀rs:List Row,(∀r∈rs,fe (some (m,r.d)::fr)=some (m',f r))→dI eE fe m fr (rs.map Row.d)=some ((rs.map f).map fun y=>(m',y))
 |[],_=>rfl
 |r::rs,h=>by
  have ih:=Dt (fe:=fe) (m:=m) (m':=m') (fr:=fr) (f:=f) rs fun x hx=>h x (df _ hx)
  rw[mq,dI,show eE (some (m,r.d)::fr)=some true from rfl,oq,if_pos rfl,h r cv,oq,ih,oq];rfl
theorem yE{rs:List Row}(hl:rs.length≤400):nV [.lst (rs.map Row.d)]=some (.un,.lst (rs.map fun r=>bI (cN (kn rs) r) (kn rs).length)):=by
 have hk:=jP rs
 have nE:=Xp rs
 have hr:=y6 hl
 obtain⟨e',l1,o2,o3,he⟩:=cQ (g:=gT 2 (bG (gN 2) (bG (gN 3) dH))) (b:=tM) (m:=.fr) (ds:=bT ((kn rs).map aw)) (e:=[some (.al,.lst (rs.map Row.d)),some (.bo,.dt (dZ [])),none,none])
  (fun i e=>∃o2 o3,e=[some (.al,.lst (rs.map Row.d)),some (.bo,.dt (dZ ((kn rs).take i))),o2,o3]) ⟨none,none,rfl⟩
  (fun i d e hd a9=>by
   obtain⟨o2,o3,he⟩:=a9
   subst he
   obtain⟨q,hq,rfl⟩:=Ew hd
   have hi:i<(kn rs).length:=(bB.mp hq).1
   have s1:(dZ ((kn rs).take i)).length<sizeLine:=by rw[y7];exact dC (show((kn rs).take i).length≤400 by rw[List.length_take];omega) (by decide)
   have e1:dZ ((kn rs).take (i+1))=putD (dZ ((kn rs).take i)) (gR q) (.int ((2^i:Nat):Int)):=by
    rw[List.take_add_one,hq,Option.toList_some,PY,Et (fun kv bR z=>?_)]
    ·rw[List.length_take,Nat.min_eq_left (by omega)]
    ·obtain⟨k,q',nS,rfl⟩:=Fz bR
     have:q'=q:=yZ z
     subst this
     have aZ:k<i:=by
      have:=(bB.mp nS).1
      rw[List.length_take]at this;omega
     rw[List.getElem?_take_of_lt aZ]at nS
     have:=zT nE nS hq
     omega
   refine⟨_,[some (.al,.lst (rs.map Row.d)),some (.bo,.dt (dZ ((kn rs).take (i+1)))),some (.fr,.int (i:Int)),some (.fr,aw q)],rfl,?_,_,_,rfl⟩
   show tM [some (.al,.lst (rs.map Row.d)),some (.bo,.dt (dZ ((kn rs).take i))),some (.fr,.int (i:Int)),some (.fr,aw q)]=_
   unfold tM
   simp -implicitDefEqProofs only [fY,ag,jV,jC,gz,gy,id_eq,oq,yX (show i≤1000 by omega),y0,eV,if_true,hJ,own,s1,←e1,tz,tq])
 subst he
 have hE:(bT ((kn rs).map aw)).length=(kn rs).length:=by simp[bT]
 rw[hE,List.take_length]at l1
 have ex:=Dt (fe:=qY (jV 1) (au nX (ae (jV 0) ah)) (jC (.int 0))) (m:=.al) (m':=.fr) (fr:=[some (.bo,.dt (dZ (kn rs)))]) (f:=fun r=>bI (cN (kn rs) r) (kn rs).length) rs (fun r hr=>by
  simp -implicitDefEqProofs only [qY,au,ae,ah,jV,jC,gz,gy,id_eq,oq,mq,mn,Fw,jU]
  cases hd:eZ r with
  |none =>
   simp -implicitDefEqProofs only [dd,pB,if_true]
   unfold bI
   rw[yB fun j _=>by unfold cN;rw[hd]]
   rfl
  |some q =>
   obtain⟨n,hn⟩:=List.mem_iff_getElem?.mp hr
   obtain⟨k,hk⟩:=List.mem_iff_getElem?.mp (Xq hn hd)
   have hv:=Sf nE hk
   rw[show dd (some q)=D.tup [.str q.1,kD q.2.1,kD q.2.2] from rfl]
   simp only
   rw[show lO (D.tup [.str q.1,kD q.2.1,kD q.2.2])=some (gR q)from y0 q,oq,hv]
   simp only[aV]
   unfold bI
   rw[Sg nE hd hk])
 unfold nV fn Cp
 simp only[cq,bw,bA]
 rw[av (e':=[some (.al,.lst (rs.map Row.d)),some (.bo,.dt (dZ [])),none,none]) rfl]
 rw[av (e':=[some (.al,.lst (rs.map Row.d)),some (.bo,.dt (dZ (kn rs))),o2,o3]) (by
  simp -implicitDefEqProofs only [aT,fQ,au,ae,jV,ah,gz,gy,oq,id_eq,mq,mn,hr,b9,oy]
  exact l1)]
 simp -implicitDefEqProofs only [aH,cF,bF,jV,gz,gy,id_eq,oq,b9,oy]
 rw[show fP [some (M.al,D.lst (rs.map Row.d)),some (.bo,.dt (dZ (kn rs))),o2,o3] [1]=[some (.bo,.dt (dZ (kn rs)))] from rfl,ex,oq,ip (by rw[ln];omega),oq]
 rfl
noncomputable def isNm(a:Ko)(x:Str):Bool:=match a with
 |.inr y=>decide (x=y)
 |.inl _=>false
noncomputable def ic(o:Option Str)(q:De):Bool:=match o with
 |some x=>isNm q.2.1 x||isNm q.2.2 x
 |none=>false
theorem Ym{m n:M}{x:Str}(a:Ko):aM (m,.str x) (n,kD a)=some (.fr,.bl (isNm a x)):=by
 cases a with
 |inl i=>exact V8
 |inr y=>exact dJ
theorem Nh(r:Row)(q:De):qw [r.d,aw q]=some (.fr,.bl (ic (sets r) q)):=by
 unfold qw fn DM
 simp only[cq,bw,bA]
 rw[av (e':=[some (.al,r.d),some (.al,aw q),some (.fr,fD (sets r))]) (by
  simp -implicitDefEqProofs only [aq,au,ae,ah,jV,gz,gy,id_eq,oq,mq,mn,Fx,fm,tz,tq])]
 cases sets r with
 |none=>rfl
 |some x =>
  have e1:ak (.al,aw q) (.fr,.int 1)=some (.al,kD q.2.1):=rfl
  have e2:ak (.al,aw q) (.fr,.int 2)=some (.al,kD q.2.2):=rfl
  simp -implicitDefEqProofs only [aH,lJ,sE,ag,jV,jC,gz,gy,id_eq,oq,fD,e1,e2,Ym]
  rw[show rB (.fr,.str x) (.fr,.non)=some (.fr,.bl true)from rfl]
  simp -implicitDefEqProofs only [oq,bx,if_true,ic]
  cases isNm q.2.1 x<;>rfl
noncomputable def cH(l:List De)(o:Option Str)(j:Nat):Bool:=match l[j]? with
 |some q=>ic o q
 |none=>false
noncomputable def nK:Option Str→Key
 |some x=>.inr x
 |none=>.non
noncomputable def m9:Key→Option Str
 |.inr x=>some x
 |_=>none
theorem FC(o:Option Str):m9 (nK o)=o:=by cases o<;>rfl
theorem yF(o:Option Str):keyOf (fD o)=some (nK o):=by cases o<;>rfl
theorem Du{fe:Ev→Option (M×D)}{m m':M}{fr:Ev}{f:De→D}:∀rs:List De,(∀r∈rs,fe (some (m,aw r)::fr)=some (m',f r))→dI eE fe m fr (rs.map aw)=some ((rs.map f).map fun y=>(m',y))
 |[],_=>rfl
 |r::rs,h=>by
  have ih:=Du (fe:=fe) (m:=m) (m':=m') (fr:=fr) (f:=f) rs fun x hx=>h x (df _ hx)
  rw[mq,dI,show eE (some (m,aw r)::fr)=some true from rfl,oq,if_pos rfl,h r cv,oq,ih,oq];rfl
theorem Xr{l:List De}(hl:l.length≤400){m1:M}(h1:m1=.bo∨m1=.fr)(A0:Option (M×D)){nm:List (Key×D)}(hn:∀kv∈nm,kv.2=bI (cH l (m9 kv.1)) l.length)(hnl:nm.length≤400){bs:List D}(hbl:bs.length≤400)(r:Row)(o5:Option (M×D)) :
  ∃tL iT eR,tS [A0,some (m1,.lst (l.map aw)),some (.bo,.dk nm),some (.bo,.lst bs),some (.al,r.d),o5]=some (.nx [A0,some (tL,.lst (l.map aw)),some (.bo,.dk iT),some (.bo,.lst (bs++[bI (cH l (sets r)) l.length])),some (.al,r.d),eR])∧(tL=.bo∨tL=.fr)∧(∀kv∈iT,kv.2=bI (cH l (m9 kv.1)) l.length)∧iT.length≤nm.length+1:=by
 have s1:nm.length<sizeLine:=dC hnl (by decide)
 have s2:bs.length<sizeLine:=dC hbl (by decide)
 have hc:(jB (gj true (jV 5) (jV 2))) [A0,some (m1,.lst (l.map aw)),some (.bo,.dk nm),some (.bo,.lst bs),some (.al,r.d),some (.fr,fD (sets r))]=some (!(cB nm (nK (sets r))).isSome):=by
  simp -implicitDefEqProofs only [jB,gj,jV,gz,gy,id_eq,oq,lL,yF,if_true,bx]
 have fin:∀(m2:M) (iT:List (Key×D)),(∀kv∈iT,kv.2=bI (cH l (m9 kv.1)) l.length)→(∃kv∈iT,kv.1=nK (sets r))→cI 3 (rC (jV 2) (jV 5)) [A0,some (m2,.lst (l.map aw)),some (.bo,.dk iT),some (.bo,.lst bs),some (.al,r.d),some (.fr,fD (sets r))]=some (.nx [A0,some (m2,.lst (l.map aw)),some (.bo,.dk iT),some (.bo,.lst (bs++[bI (cH l (sets r)) l.length])),some (.al,r.d),some (.fr,fD (sets r))]):=fun m2 iT pG hi=>by
  have hv:cB iT (nK (sets r))=some (bI (cH l (sets r)) l.length):=qB (fun kv bR e=>by rw[pG kv bR,e,FC]) hi
  simp -implicitDefEqProofs only [cI,rC,jV,gz,gy,id_eq,oq,lL,yF,hv,gU,eV,if_true,eY,own,s2,tz,tq]
 unfold tS
 rw[av (e':=[A0,some (m1,.lst (l.map aw)),some (.bo,.dk nm),some (.bo,.lst bs),some (.al,r.d),some (.fr,fD (sets r))]) (by
  simp -implicitDefEqProofs only [aq,au,ae,ah,jV,gz,gy,id_eq,oq,mq,mn,Fx,fm,tz,tq])]
 cases hb:(cB nm (nK (sets r))).isSome with
 |true =>
  rw[fj (by rw[hc,hb];rfl)]
  exact⟨m1,nm,_,fin m1 nm hn (MH.mp hb),h1,hn,by omega⟩
 |false =>
  have ex:=Du (fe:=au qw (ae (jV 1) (ae (jV 0) ah))) (m:=.fr) (m':=.fr) (fr:=[some (.al,r.d)]) (f:=fun q=>D.bl (ic (sets r) q)) l (fun q _=>by
   simp -implicitDefEqProofs only [au,ae,ah,jV,gz,gy,id_eq,oq,mq,mn,Nh])
  have Cb:=Fv (l.map (ic (sets r))) (by rw[ln];omega)
  rw[List.map_map,ln]at Cb
  have jm:bI (fun j=>(l.map (ic (sets r))).getD j false) l.length=bI (cH l (sets r)) l.length:=iw fun j hj=>by
   rw[hU,cV,dU hj]
   unfold cH
   rw[dU hj];rfl
  rw[jm]at Cb
  rw[av (e':=[A0,some (.fr,.lst (l.map aw)),some (.bo,.dk (putD nm (nK (sets r)) (bI (cH l (sets r)) l.length))),some (.bo,.lst bs),some (.al,r.d),some (.fr,fD (sets r))]) (by
   rw[bz (by rw[hc,hb];rfl)]
   rw[cU,show bj 1 [A0,some (m1,.lst (l.map aw)),some (.bo,.dk nm),some (.bo,.lst bs),some (.al,r.d),some (.fr,fD (sets r))]=[A0,some (.fr,.lst (l.map aw)),some (.bo,.dk nm),some (.bo,.lst bs),some (.al,r.d),some (.fr,fD (sets r))] from by rcases h1 with rfl|rfl<;>rfl]
   simp -implicitDefEqProofs only [lA,au,cF,bF,ae,ah,jV,gz,gy,id_eq,oq,b9,oy]
   rw[show fP [A0,some (.fr,.lst (l.map aw)),some (.bo,.dk nm),some (.bo,.lst bs),some (.al,r.d),some (.fr,fD (sets r))] [4]=[some (.al,r.d)] from rfl,ex,oq,ip (by rw[ln];omega),oq]
   simp -implicitDefEqProofs only [mq,mn,oq]
   rw[show(l.map fun q=>D.bl (ic (sets r) q))=l.map (D.bl∘ic (sets r))from rfl,Cb]
   simp -implicitDefEqProofs only [oq,yF,eV,if_true,lM,own,gz,gy,s1,tz,tq])]
  have pG:∀kv∈putD nm (nK (sets r)) (bI (cH l (sets r)) l.length),kv.2=bI (cH l (m9 kv.1)) l.length:=fun kv bR=>by
   rcases yD bR with⟨z,_⟩|rfl
   ·exact hn kv z
   ·show _=bI (cH l (m9 (nK (sets r)))) l.length
    rw[FC]
  exact⟨.fr,_,_,fin .fr _ pG putD_has,.inr rfl,pG,yC _ _ _⟩
theorem yG{rs:List Row}(hl:rs.length≤300):ml [.lst (rs.map Row.d)]=some (.un,.lst (rs.map fun r=>bI (cH (kn rs) (sets r)) (kn rs).length)):=by
 have hk:=jP rs
 have hr:=y6 (rs:=rs) (by omega)
 obtain⟨e',l1,m1,nm,o4,o5,he,_,_,_⟩:=cQ (g:=gN 4) (b:=tS) (m:=.al) (ds:=rs.map Row.d) (e:=[some (.al,.lst (rs.map Row.d)),some (.bo,.lst ((kn rs).map aw)),some (.bo,.dk []),some (.bo,.lst []),none,none])
  (fun i e=>∃(m1:M) (nm:List (Key×D)) (o4 o5:Option (M×D)),e=[some (.al,.lst (rs.map Row.d)),some (m1,.lst ((kn rs).map aw)),some (.bo,.dk nm),some (.bo,.lst ((rs.take i).map fun r=>bI (cH (kn rs) (sets r)) (kn rs).length)),o4,o5]∧(m1=.bo∨m1=.fr)∧(∀kv∈nm,kv.2=bI (cH (kn rs) (m9 kv.1)) (kn rs).length)∧nm.length≤i)
  ⟨.bo,[],none,none,rfl,.inl rfl,(fun kv h=>nomatch h),bf _⟩
  (fun i d e hd a9=>by
   obtain⟨m1,nm,o4,o5,he,h1,h2,h3⟩:=a9
   subst he
   obtain⟨r,hr,rfl⟩:=y4 hd
   have hi:i<rs.length:=(bB.mp hr).1
   obtain⟨tL,iT,eR,q,g1,g2,g3⟩:=Xr (l:=kn rs) (by omega) h1 (some (.al,.lst (rs.map Row.d))) h2 (by omega) (bs:=(rs.take i).map fun r=>bI (cH (kn rs) (sets r)) (kn rs).length) (by rw[ln,List.length_take];omega) r o5
   refine⟨_,_,rfl,q,tL,iT,some (.al,r.d),eR,?_,g1,g2,by omega⟩
   rw[List.take_add_one,hr,Option.toList_some,List.map_append]
   rfl)
 subst he
 rw[ln,List.take_length]at l1
 unfold ml fn Cv
 simp only[cq,bw,bA]
 rw[av (e':=[some (.al,.lst (rs.map Row.d)),some (.bo,.lst ((kn rs).map aw)),none,none,none,none]) (by
  simp -implicitDefEqProofs only [aq,au,ae,ah,jV,gz,gy,id_eq,oq,mq,mn,hr,dR,tz,tq])]
 rw[av (e':=[some (.al,.lst (rs.map Row.d)),some (.bo,.lst ((kn rs).map aw)),some (.bo,.dk []),none,none,none]) rfl]
 rw[av (e':=[some (.al,.lst (rs.map Row.d)),some (.bo,.lst ((kn rs).map aw)),some (.bo,.dk []),some (.bo,.lst []),none,none]) rfl]
 rw[av (e':=[some (.al,.lst (rs.map Row.d)),some (m1,.lst ((kn rs).map aw)),some (.bo,.dk nm),some (.bo,.lst (rs.map fun r=>bI (cH (kn rs) (sets r)) (kn rs).length)),o4,o5]) (by
  rw[cU,show bj 0 [some (.al,.lst (rs.map Row.d)),some (.bo,.lst ((kn rs).map aw)),some (.bo,.dk []),some (.bo,.lst []),none,none]=[some (.al,.lst (rs.map Row.d)),some (.bo,.lst ((kn rs).map aw)),some (.bo,.dk []),some (.bo,.lst []),none,none] from rfl]
  simp -implicitDefEqProofs only [aT,bF,jV,gz,gy,id_eq,oq,b9,oy]
  exact l1)]
 rfl
theorem PZ{c:Ev→Option Bool}{b:Ev→Option Fl}(Iv:Nat→Ev→Prop)(Rt:M→D→Prop)
    (hs:∀n e,Iv n e→c e=some false∨(c e=some true∧((∃e2 n2,(b e=some (.nx e2)∨b e=some (.ct e2))∧Iv n2 e2∧n2<n)∨∃e2 m d,b e=some (.rt e2 m d)∧Rt m d))) {n:Nat}{e:Ev} (h0:Iv n e) :
    (∃e' n',iu c b e=some (.nx e')∧Iv n' e'∧c e'=some false)∨∃e' m d,iu c b e=some (.rt e' m d)∧Rt m d:=by
  have:∀(k n:Nat) e,n≤k→Iv n e→(∃e' n',dn c b (k+1) e=some (.nx e')∧Iv n' e'∧c e'=some false)∨∃e' m d,dn c b (k+1) e=some (.rt e' m d)∧Rt m d:=by
    intro k
    induction k with
    |zero =>
      intro n e hn hi
      rcases hs n e hi with h|⟨h,⟨e2,n2,_,_,z⟩|⟨e2,m,d,h1,h2⟩⟩
      · exact .inl ⟨e,n,by simp[dn,h],hi,h⟩
      · omega
      · exact .inr ⟨e2,m,d,by rw[dn,h,oq,if_pos rfl,h1,oq],h2⟩
    |succ k ih =>
      intro n e hn hi
      rcases hs n e hi with h|⟨h,⟨e2,n2,h1,h2,h3⟩|⟨e2,m,d,h1,h2⟩⟩
      · exact .inl ⟨e,n,by simp[dn,h],hi,h⟩
      · have w:dn c b (k+1+1) e=dn c b (k+1) e2:=by
          rw[dn,h,oq,if_pos rfl]
          rcases h1 with h1|h1<;>rw[h1,oq]
        rw[w]
        exact ih n2 e2 (by omega) h2
      · exact .inr ⟨e2,m,d,by rw[dn,h,oq,if_pos rfl,h1,oq],h2⟩
  rcases this n n e (bf _) h0 with⟨e',n',h1,h2,h3⟩|⟨e',m,d,h1,h2⟩
  · exact .inl ⟨e',n',yo h1,h2,h3⟩
  · exact .inr ⟨e',m,d,yo h1,h2⟩
noncomputable def aA(P:Nat→Nat→Bool)(N K:Nat):List D:=(List.range N).map fun n=>bI (P n) K
theorem qP(P:Nat→Nat→Bool)(N K:Nat):(aA P N K).length=N:=by simp[aA]
theorem oO{P:Nat→Nat→Bool}{N K m:Nat}(h:m<N):L2.bE (aA P N K) (m:Int)=some (bI (P m) K):=by
 rw[mD (by rw[qP];exact h)]
 simp[aA]
theorem Ex:∀{ds:List D},(∀d∈ds,d.cn=true)→D.du ds=true
 |[],_=>by simp only[D.du]
 |d::ds,h=>by simp only[D.du,h d List.mem_cons_self,Ex fun x hx=>h x (List.mem_cons_of_mem _ hx),Bool.and_self]
theorem Sh(P:Nat→Nat→Bool)(N K:Nat):D.du (aA P N K)=true:=Ex fun d hd=>by
 obtain⟨n,_,rfl⟩:=bZ.mp hd;exact Vm
noncomputable def iJ(P:Nat→Nat→Bool)(m:Nat)(q:Nat→Bool):Nat→Nat→Bool:=fun n=>if n=m then q else P n
theorem FD(P:Nat→Nat→Bool)(N K m:Nat)(q:Nat→Bool):(aA P N K).set m (bI q K)=aA (iJ P m q) N K:=by
 refine List.ext_getElem (by simp[aA]) fun i h1 h2=>?_
 rw[List.getElem_set]
 simp only[aA,List.getElem_map,List.getElem_range,iJ]
 by_cases e:m=i
 ·rw[if_pos e,if_pos e.symm]
 ·rw[if_neg e,if_neg fun z=>e z.symm]
noncomputable def cz(p:Nat→Bool):Nat→Nat
 |0=>0
 |k+1=>cz p k+(if p k=true then 0 else 1)
theorem Hu(p:Nat→Bool):∀k,cz p k≤k
 |0=>bf _
 |k+1=>by have:=Hu p k;rw[cz];split<;>omega
theorem FE{p q:Nat→Bool}:∀{k:Nat},(∀j,j<k→p j=true→q j=true)→cz q k≤cz p k∧(cz q k=cz p k→∀j,j<k→p j=q j)
 |0,_=>⟨bf _,fun _ j h=>absurd h (Nat.not_lt_zero j)⟩
 |k+1,h=>by
  obtain⟨h1,h2⟩:=FE (k:=k) fun j hj=>h j (by omega)
  have hk:=h k (by omega)
  rw[cz,cz]
  cases hp:p k with
  |true =>
   rw[hk hp]
   simp only[if_true,Nat.add_zero]
   refine⟨h1,fun e j hj=>?_⟩
   by_cases z:j=k
   ·subst z;rw[hp,hk hp]
   ·exact h2 e j (by omega)
  |false =>
   cases hq:q k with
   |true=>simp;exact⟨by omega,fun e=>by omega⟩
   |false =>
    simp
    refine⟨h1,fun e j hj=>?_⟩
    by_cases z:j=k
    ·subst z;rw[hp,hq]
    ·exact h2 e j (by omega)
noncomputable def cJ(P:Nat→Nat→Bool)(K:Nat):Nat→Nat
 |0=>0
 |n+1=>cJ P K n+cz (P n) K
theorem GF(P:Nat→Nat→Bool)(K:Nat):∀N,cJ P K N≤N*K
 |0=>by simp[cJ]
 |n+1=>by have:=GF P K n;have:=Hu (P n) K;rw[cJ,Nat.succ_mul];omega
theorem FG{P:Nat→Nat→Bool}{K m:Nat}{q:Nat→Bool}:∀{N:Nat},N≤m→cJ (iJ P m q) K N=cJ P K N
 |0,_=>rfl
 |n+1,h=>by
  rw[cJ,cJ,FG (by omega)]
  have:iJ P m q n=P n:=if_neg (by omega)
  rw[this]
theorem GH{P:Nat→Nat→Bool}{K m:Nat}{q:Nat→Bool}(h:cz q K<cz (P m) K):∀{N:Nat},m<N→cJ (iJ P m q) K N<cJ P K N
 |0,hm=>absurd hm (Nat.not_lt_zero m)
 |n+1,hm=>by
  rw[cJ,cJ]
  by_cases e:m=n
  ·subst e
   rw[FG (bf m)]
   have:iJ P m q m=q:=if_pos rfl
   rw[this]
   omega
  ·have ih:=GH h (N:=n) (by omega)
   have:iJ P m q n=P n:=if_neg fun z=>e z.symm
   rw[this];omega
def Cl(Bk:List (List Nat))(pass P:Nat→Nat→Bool)(K n:Nat):Prop:=∀m∈Bk.getD n [],∀j,j<K→P n j=true→pass m j=true→P m j=true
structure SI (Bk:List (List Nat))(pass P0:Nat→Nat→Bool)(N K:Nat)(P:Nat→Nat→Bool):Prop where
 up:∀n j,n<N→j<K→P0 n j=true→P n j=true
 sd:∀Q:Nat→Nat→Prop,(∀n j,n<N→j<K→P0 n j=true→Q n j)→(∀n m j,n<N→m∈Bk.getD n []→j<K→Q n j→pass m j=true→Q m j)→∀n j,n<N→j<K→P n j=true→Q n j
theorem P4{Bk:List (List Nat)}{pass P0:Nat→Nat→Bool}{N K:Nat}(A1:Option (M×D))(hN:N≤400){n:Nat}(hn:n<N){P:Nat→Nat→Bool}(si:SI Bk pass P0 N K P){m:Nat}(hm:m<N)(tF:m∈Bk.getD n []){ws:List Nat}(hw:ws.length≤1000000)(o7:Option (M×D)) :
  ∃P' cK bL,qo [some (.al,.lst (dF Bk)),A1,some (.al,.lst (aA pass N K)),some (.bo,.lst (aA P N K)),some (.bo,.lst (ax ws)),some (.fr,.int (n:Int)),some (.al,.int (m:Int)),o7]=some (.nx [some (.al,.lst (dF Bk)),A1,some (.al,.lst (aA pass N K)),some (.bo,.lst (aA P' N K)),some (.bo,.lst (ax cK)),some (.fr,.int (n:Int)),some (.al,.int (m:Int)),bL]) ∧
   SI Bk pass P0 N K P'∧(∀j,j<K→P' n j=P n j)∧(∀x j,j<K→P x j=true→P' x j=true)∧(∀j,j<K→P n j=true→pass m j=true→P' m j=true)∧(∀x∈ws,x∈cK)∧(∀x,x∉cK→∀j,P' x j=P x j)∧2*cJ P' K N+cK.length≤2*cJ P K N+ws.length∧(∀x∈cK,x∈ws∨x=m):=by
 have s1:ws.length<sizeLine:=dC hw (by decide)
 let q:Nat→Bool:=fun j=>P m j||(P n j&&pass m j)
 have hq:q=fun j=>P m j||(P n j&&pass m j):=rfl
 unfold qo
 rw[av (e':=[some (.al,.lst (dF Bk)),A1,some (.al,.lst (aA pass N K)),some (.bo,.lst (aA P N K)),some (.bo,.lst (ax ws)),some (.fr,.int (n:Int)),some (.al,.int (m:Int)),some (.fr,bI q K)]) (by
  simp -implicitDefEqProofs only [aq,ag,jV,gz,gy,id_eq,oq,de,oO hm,oO hn,oy,gU,c9,zC,rG,fm,tz,tq,hq])]
 have hc:(jB (ag iR (jV 7) (ag ak (jV 3) (jV 6)))) [some (.al,.lst (dF Bk)),A1,some (.al,.lst (aA pass N K)),some (.bo,.lst (aA P N K)),some (.bo,.lst (ax ws)),some (.fr,.int (n:Int)),some (.al,.int (m:Int)),some (.fr,bI q K)]=some (!decide (((bu q K:Nat):Int)=((bu (P m) K:Nat):Int))):=by
  simp -implicitDefEqProofs only [jB,ag,jV,gz,gy,id_eq,oq,de,oO hm,oy,gU]
  unfold bI
  rw[He]
  rfl
 by_cases he:bu q K=bu (P m) K
 ·rw[bU (by rw[hc,he];simp)]
  refine⟨P,ws,_,rfl,si,fun _ _=>rfl,fun _ _ _ h=>h,fun j hj h1 h2=>?_,fun _ h=>h,fun _ _ _=>rfl,bf _,fun _ h=>.inl h⟩
  have:=R9 he j hj
  rw[←this,hq]
  simp[h1,h2]
 ·have aZ:cz q K<cz (P m) K:=by
   obtain⟨h1,h2⟩:=FE (p:=P m) (q:=q) (k:=K) fun j _ h=>by rw[hq];simp[h]
   rcases Nat.lt_or_eq_of_le h1 with z|z
   ·exact z
   ·exact absurd (qN fun j hj=>(h2 z j hj).symm) he
  have fM:n≠m:=fun e=>he (qN fun j _=>by
   show(P m j||(P n j&&pass m j))=P m j
   rw[e]
   by_cases h:P m j=true<;>simp[h])
  rw[bz (by rw[hc,decide_eq_false (fun z=>he (by omega))];rfl)]
  have nQ:dW (aA P N K).length (m:Int)=some m:=by
   unfold dW
   rw[qP,if_pos (by omega),if_pos (by omega)];simp
  have um:iJ P m q m=q:=if_pos rfl
  have ux:∀x,x≠m→iJ P m q x=P x:=fun x h=>if_neg h
  refine⟨iJ P m q,ws++[m],some (.fr,bI q K),?_,⟨fun x j hx hj h=>?_,fun Q h1 h2 x j hx hj h=>?_⟩,fun j _=>by rw[ux n fM],fun x j _ h=>?_,fun j _ h1 h2=>by rw[um,hq];simp[h1,h2],fun x h=>List.mem_append_left _ h,fun x hx j=>by rw[ux x fun e=>hx (by rw[e];simp)],?_,fun x hx=>by simpa using hx⟩
  ·simp -implicitDefEqProofs only [aj,eU,cI,jV,gz,gy,id_eq,oq,jJ,eV,if_true,eY,own,nQ,FD,tz,tq,vg,pB,fq,s1,El]
  ·by_cases e:x=m
   ·subst e;rw[um,hq];simp[si.up x j hx hj h]
   ·rw[ux x e];exact si.up x j hx hj h
  ·by_cases e:x=m
   ·subst e
    rw[um,hq]at h
    simp only[Bool.or_eq_true,Bool.and_eq_true]at h
    rcases h with h|⟨h,h'⟩
    ·exact si.sd Q h1 h2 x j hx hj h
    ·exact h2 n x j hn tF hj (si.sd Q h1 h2 n j hn hj h) h'
   ·rw[ux x e]at h;exact si.sd Q h1 h2 x j hx hj h
  ·by_cases e:x=m
   ·subst e;rw[um,hq];simp[h]
   ·rw[ux x e];exact h
  ·have:=GH aZ hm
   rw[List.length_append];simp only[List.length_cons,List.length_nil];omega
theorem Od{Bk:List (List Nat)}{pass P0:Nat→Nat→Bool}{N K:Nat}(A1:Option (M×D))(hN:N≤400){n:Nat}(hn:n<N){P:Nat→Nat→Bool}(si:SI Bk pass P0 N K P)(hm:∀m∈Bk.getD n [],m<N){ws:List Nat}(hw:2*cJ P K N+ws.length≤900000)(o6 o7:Option (M×D)) :
  ∃P' cK cw bL,forL (gN 6) qo .al (ax (Bk.getD n [])) [some (.al,.lst (dF Bk)),A1,some (.al,.lst (aA pass N K)),some (.bo,.lst (aA P N K)),some (.bo,.lst (ax ws)),some (.fr,.int (n:Int)),o6,o7]=some (.nx [some (.al,.lst (dF Bk)),A1,some (.al,.lst (aA pass N K)),some (.bo,.lst (aA P' N K)),some (.bo,.lst (ax cK)),some (.fr,.int (n:Int)),cw,bL]) ∧
   SI Bk pass P0 N K P'∧(∀j,j<K→P' n j=P n j)∧(∀x j,j<K→P x j=true→P' x j=true)∧(∀m∈Bk.getD n [],∀j,j<K→P n j=true→pass m j=true→P' m j=true)∧(∀x∈ws,x∈cK)∧(∀x,x∉cK→∀j,P' x j=P x j)∧2*cJ P' K N+cK.length≤2*cJ P K N+ws.length∧∀x∈cK,x∈ws∨x<N:=by
 generalize hms:Bk.getD n []=ms at hm
 obtain⟨e',l1,P',cK,cw,bL,he,a1,a2,a3,a4,a5,a6,a7,a8⟩:=cQ (g:=gN 6) (b:=qo) (m:=.al) (ds:=ax ms) (e:=[some (.al,.lst (dF Bk)),A1,some (.al,.lst (aA pass N K)),some (.bo,.lst (aA P N K)),some (.bo,.lst (ax ws)),some (.fr,.int (n:Int)),o6,o7])
  (fun i e=>∃(P':Nat→Nat→Bool) (cK:List Nat) (o6 o7:Option (M×D)),e=[some (.al,.lst (dF Bk)),A1,some (.al,.lst (aA pass N K)),some (.bo,.lst (aA P' N K)),some (.bo,.lst (ax cK)),some (.fr,.int (n:Int)),o6,o7] ∧
   SI Bk pass P0 N K P'∧(∀j,j<K→P' n j=P n j)∧(∀x j,j<K→P x j=true→P' x j=true)∧(∀m∈ms.take i,∀j,j<K→P n j=true→pass m j=true→P' m j=true)∧(∀x∈ws,x∈cK)∧(∀x,x∉cK→∀j,P' x j=P x j)∧2*cJ P' K N+cK.length≤2*cJ P K N+ws.length∧∀x∈cK,x∈ws∨x<N)
  ⟨P,ws,o6,o7,rfl,si,(fun _ _=>rfl),(fun _ _ _ h=>h),(fun m h=>by simp at h),(fun _ h=>h),(fun _ _ _=>rfl),bf _,fun _ h=>.inl h⟩
  (fun i d e hd a9=>by
   obtain⟨P1,ws1,o6,o7,he,a1,a2,a3,a4,a5,a6,a7,a8⟩:=a9
   subst he
   obtain⟨m,L7,rfl⟩:∃m,ms[i]?=some m∧d=.int (m:Int):=by
    unfold ax at hd
    rw[cV]at hd
    cases e:ms[i]? with
    |none=>rw[e]at hd;cases hd
    |some r=>rw[e]at hd;cases hd;exact⟨r,rfl,rfl⟩
   have AK:=dO L7
   obtain⟨P2,yc,bL,q,b1,b2,b3,b4,b5,b6,b7,b8⟩:=P4 A1 hN hn a1 (hm m AK) (by rw[hms];exact AK) (ws:=ws1) (by omega) o7
   refine⟨_,_,rfl,q,P2,yc,_,bL,rfl,b1,fun j hj=>by rw[b2 j hj,a2 j hj],fun x j hj h=>b3 x j hj (a3 x j hj h),fun x hx j hj h1 h2=>?_,fun x h=>b5 x (a5 x h),fun x hx j=>?_,by omega,fun x hx=>?_⟩
   ·rw[List.take_add_one,L7]at hx
    rcases List.mem_append.mp hx with z|z
    ·exact b3 x j hj (a4 x z j hj h1 h2)
    ·have:x=m:=by simpa using z
     subst this
     exact b4 j hj (by rw[a2 j hj];exact h1) h2
   ·rw[b6 x hx j,a6 x (fun z=>hx (b5 x z)) j]
   ·rcases b8 x hx with z|z
    ·exact a8 x z
    ·exact .inr (z▸hm m AK))
 subst he
 rw[fq,List.take_length]at a4
 exact⟨P',cK,cw,bL,l1,a1,a2,a3,a4,a5,a6,a7,a8⟩
theorem DZ{Bk:List (List Nat)}{pass P0:Nat→Nat→Bool}{N K:Nat}(hB:Bk.length=N)(hN:N≤400)(hK:K≤400)(hm:∀n,∀m∈Bk.getD n [],m<N) :
  ∃P,qG [.lst (dF Bk),.lst (aA P0 N K),.lst (aA pass N K)]=some (.un,.lst (aA P N K))∧SI Bk pass P0 N K P∧∀n,n<N→Cl Bk pass P K n:=by
 have hNK:N*K≤160000:=Nat.mul_le_mul hN hK
 obtain⟨e',n',l1,⟨P,ws,o5,o6,o7,he,si,hw,hmu,x9⟩,hc⟩|⟨_,_,_,_,hf⟩:=PZ (c:=qq) (b:=yj)
  (fun mu e=>∃(P:Nat→Nat→Bool) (ws:List Nat) (o5 o6 o7:Option (M×D)),e=[some (.al,.lst (dF Bk)),some (.al,.lst (aA P0 N K)),some (.al,.lst (aA pass N K)),some (.bo,.lst (aA P N K)),some (.bo,.lst (ax ws)),o5,o6,o7]∧SI Bk pass P0 N K P∧(∀x∈ws,x<N)∧(2*cJ P K N+ws.length=mu∧mu≤900000)∧∀n,n<N→n∉ws→Cl Bk pass P K n)
  (fun _ _=>False)
  (fun mu e a9=>by
   obtain⟨P,ws,o5,o6,o7,he,si,hw,hmu,x9⟩:=a9
   subst he
   have hC:qq [some (.al,.lst (dF Bk)),some (.al,.lst (aA P0 N K)),some (.al,.lst (aA pass N K)),some (.bo,.lst (aA P N K)),some (.bo,.lst (ax ws)),o5,o6,o7]=some (decide ((0:Int)<(ws.length:Int))):=by
    unfold qq
    simp -implicitDefEqProofs only [jB,ag,aO,ae,ah,jV,jC,gz,gy,id_eq,oq,dS,fq,vE,bx]
   rw[hC]
   rcases List.eq_nil_or_concat ws with rfl|⟨cK,n,rfl⟩
   ·exact .inl rfl
   rw[List.concat_eq_append]at *
   have yd:n<N:=hw n (by simp)
   refine .inr ⟨by rw[decide_eq_true (by rw[List.length_append];simp only[List.length_cons,List.length_nil];omega)],.inl ?_⟩
   have hl:(cK++[n]).length=cK.length+1:=by simp
   obtain⟨P',yc,cw,bL,q,a1,a2,a3,a4,a5,a6,a7,a8⟩:=Od (pass:=pass) (P0:=P0) (some (.al,.lst (aA P0 N K))) hN yd si (hm n) (ws:=cK) (by omega) o6 o7
   refine⟨_,2*cJ P' K N+yc.length,.inl ?_,⟨P',yc,some (.fr,.int (n:Int)),cw,bL,rfl,a1,fun x hx=>?_,⟨rfl,by omega⟩,fun x hx L8=>?_⟩,by omega⟩
   ·unfold yj
    have Yn:rQ 5 4 [some (.al,.lst (dF Bk)),some (.al,.lst (aA P0 N K)),some (.al,.lst (aA pass N K)),some (.bo,.lst (aA P N K)),some (.bo,.lst (ax (cK++[n]))),o5,o6,o7]=some (.nx [some (.al,.lst (dF Bk)),some (.al,.lst (aA P0 N K)),some (.al,.lst (aA pass N K)),some (.bo,.lst (aA P N K)),some (.bo,.lst (ax cK)),some (.fr,.int (n:Int)),o6,o7]):=by
     have e1:(ax (cK++[n]))[(ax (cK++[n])).length-1]?=some (.int (n:Int)):=by simp[ax]
     have e2:(ax (cK++[n])).dropLast=ax cK:=by simp[ax]
     simp -implicitDefEqProofs only [rQ,eY,own,if_true,gz,gy,oq,e1,e2,tz,tq]
    rw[av Yn]
    have L9:n<Bk.length:=by omega
    have x8:L2.bE (dF Bk) (n:Int)=some (.lst (ax (Bk.getD n []))):=by
     rw[J.mD (by simpa[dF]using L9)]
     simp only[dF,List.getElem_map]
     rw[hU,dU L9];rfl
    simp -implicitDefEqProofs only [aT,bF,ag,jV,gz,gy,id_eq,oq,de,x8,oy,c9,b9]
    exact q
   ·rcases a8 x hx with z|z
    ·exact hw x (List.mem_append_left _ z)
    ·exact z
   ·by_cases Ma:x=n
    ·subst Ma
     exact fun m nT j hj h1 h2=>a4 m nT j hj (by rw[←a2 j hj];exact h1) h2
    ·have Yo:x∉cK++[n]:=fun z=>by
      rcases List.mem_append.mp z with y|y
      ·exact L8 (a5 x y)
      ·exact Ma (by simpa using y)
     exact fun m nT j hj h1 h2=>a3 m j hj (x9 x hx Yo m nT j hj (by rw[←a6 x L8 j];exact h1) h2))
  (n:=2*cJ P0 K N+N) (e:=[some (.al,.lst (dF Bk)),some (.al,.lst (aA P0 N K)),some (.al,.lst (aA pass N K)),some (.bo,.lst (aA P0 N K)),some (.bo,.lst (ax (List.range N))),none,none,none])
  ⟨P0,List.range N,none,none,none,rfl,⟨fun _ _ _ _ h=>h,fun Q h1 _=>h1⟩,(fun x h=>List.mem_range.mp h),⟨by rw[List.length_range],by have:=GF P0 K N;omega⟩,fun n h1 h2=>absurd (List.mem_range.mpr h1) h2⟩
 ·subst he
  have hz:ws=[]:=by
   unfold qq at hc
   simp -implicitDefEqProofs only [jB,ag,aO,ae,ah,jV,jC,gz,gy,id_eq,oq,dS,fq,vE,bx]at hc
   have:=Option.some.inj hc
   rw[decide_eq_false_iff_not]at this
   exact List.length_eq_zero_iff.mp (by omega)
  subst hz
  refine⟨P,?_,si,fun n hn=>x9 n hn (fun z=>nomatch z)⟩
  have cu:-4611686018427387904≤(N:Int)∧(N:Int)≤16777216:=by omega
  have ht:(N:Int).toNat=N:=by omega
  unfold qG fn Ei
  simp only[cq,bw,bA]
  rw[av (e':=[some (.al,.lst (dF Bk)),some (.al,.lst (aA P0 N K)),some (.al,.lst (aA pass N K)),some (.bo,.lst (aA P0 N K)),none,none,none,none]) (by
   simp -implicitDefEqProofs only [aq,aO,ae,ah,jV,mQ,Uu (Sh P0 N K),gz,gy,id_eq,oq,dR,tz,tq])]
  rw[av (e':=[some (.al,.lst (dF Bk)),some (.al,.lst (aA P0 N K)),some (.al,.lst (aA pass N K)),some (.bo,.lst (aA P0 N K)),some (.bo,.lst (ax (List.range N))),none,none,none]) (by
   simp -implicitDefEqProofs only [aq,wU,aO,ae,ah,jV,gz,gy,id_eq,oq,dS,qP,cu,and_self,if_true,ht,dR,vd,tz,tq])]
  rw[av l1]
  rfl
 ·exact hf.elim
noncomputable def lift(rs:List Row)(g:Row→Nat→Bool)(n j:Nat):Bool:=match rs[n]? with
 |some r=>g r j
 |none=>false
theorem y8{rs:List Row}{g:Row→Nat→Bool}{n:Nat}{r:Row}(h:rs[n]?=some r)(j:Nat):lift rs g n j=g r j:=by unfold lift;rw[h]
theorem qH(rs:List Row)(g:Row→Nat→Bool)(K:Nat):(rs.map fun r=>bI (g r) K)=aA (lift rs g) rs.length K:=by
 refine List.ext_getElem (by simp[aA]) fun i h1 h2=>?_
 simp only[aA,List.getElem_map,List.getElem_range]
 have hi:i<rs.length:=by simpa using h1
 exact iw fun j _=>(y8 (by simp) j).symm
noncomputable def dQ(l:List De)(r:Row)(j:Nat):Bool:=true&&!cN l r j
noncomputable def iU(l:List De)(r:Row)(j:Nat):Bool:=dQ l r j&&(Row.eJ r||cH l (sets r) j)
theorem yl{α:Type}{fe:Ev→Option (M×D)}{m m':M}{fr:Ev}{g f:α→D}:∀rs:List α,(∀r∈rs,fe (some (m,g r)::fr)=some (m',f r))→dI eE fe m fr (rs.map g)=some ((rs.map f).map fun y=>(m',y))
 |[],_=>rfl
 |r::rs,h=>by
  have ih:=yl (fe:=fe) (m:=m) (m':=m') (fr:=fr) (g:=g) (f:=f) rs fun x hx=>h x (df _ hx)
  rw[mq,dI,show eE (some (m,g r)::fr)=some true from rfl,oq,if_pos rfl,h r cv,oq,ih,oq];rfl
theorem MJ{rs:List Row}(g:Good rs)(hl:rs.length≤300):∃P,tX [.lst (rs.map Row.d)]=some (.un,.lst (aA P rs.length (kn rs).length)):=by
 have hk:=jP rs
 have e1:=oz (rs:=rs) (by omega)
 have e2:=yE (rs:=rs) (by omega)
 have e3:=yG (rs:=rs) (by omega)
 have e4:=yk (rs:=rs) (by omega)
 obtain⟨Bk,e5,b1,b2,b3⟩:=Nb g (by omega)
 generalize hK:(kn rs).length=K at e1 e2 e3 hk
 obtain⟨P,e6,si,cl⟩:=DZ (Bk:=Bk) (pass:=lift rs (dQ (kn rs))) (P0:=lift rs (iU (kn rs))) (N:=rs.length) (K:=K) b1 (by omega) (by omega) (fun n m hm=>by obtain⟨r,hr,_⟩:=b3 m n hm;exact(bB.mp hr).1)
 refine⟨P,?_⟩
 ·have ex:=yl (fe:=ag cT (jV 1) (bt gi (jV 0))) (m:=.fr) (m':=.fr) (fr:=[some (.fr,bI (fun _=>true) K)]) (g:=fun r=>bI (cN (kn rs) r) K) (f:=fun r=>bI (dQ (kn rs) r) K) rs (fun r _=>by
   simp -implicitDefEqProofs only [ag,bt,jV,gz,gy,id_eq,oq]
   exact mK)
  obtain⟨e',l1,o5,o6,he⟩:=cQ (g:=gT 2 (bG (gN 5) (bG (gN 6) dH))) (b:=tO) (m:=.al) (ds:=bT (rs.map Row.d)) (e:=[some (.al,.lst (rs.map Row.d)),some (.fr,bI (fun _=>true) K),some (.bo,.lst (rs.map fun r=>bI (dQ (kn rs) r) K)),some (.bo,.lst (rs.map fun r=>bI (cH (kn rs) (sets r)) K)),some (.bo,.lst []),none,none])
   (fun i e=>∃o5 o6,e=[some (.al,.lst (rs.map Row.d)),some (.fr,bI (fun _=>true) K),some (.bo,.lst (rs.map fun r=>bI (dQ (kn rs) r) K)),some (.bo,.lst (rs.map fun r=>bI (cH (kn rs) (sets r)) K)),some (.bo,.lst ((rs.take i).map fun r=>bI (iU (kn rs) r) K)),o5,o6]) ⟨none,none,rfl⟩
   (fun i d e hd a9=>by
    obtain⟨o5,o6,he⟩:=a9
    subst he
    obtain⟨r,hr,rfl⟩:=Fg hd
    have hi:i<rs.length:=(bB.mp hr).1
    have s1:((rs.take i).map fun r=>bI (iU (kn rs) r) K).length<sizeLine:=by rw[ln,List.length_take];exact dC (show min i rs.length≤300 by omega) (by decide)
    have at1:∀f:Row→D,L2.bE (rs.map f) (i:Int)=some (f r):=fun f=>by
     rw[mD (by rw[ln];exact hi),List.getElem_map,(bB.mp hr).2]
    have hx:(iH (jB (ag aM (ag ak (jV 6) (jC (.int 0))) (jC (.str "end")))) (ag ak (jV 2) (jV 5)) (ag cT (ag ak (jV 2) (jV 5)) (ag ak (jV 3) (jV 5)))) [some (.al,.lst (rs.map Row.d)),some (.fr,bI (fun _=>true) K),some (.bo,.lst (rs.map fun r=>bI (dQ (kn rs) r) K)),some (.bo,.lst (rs.map fun r=>bI (cH (kn rs) (sets r)) K)),some (.bo,.lst ((rs.take i).map fun r=>bI (iU (kn rs) r) K)),some (.al,.int (i:Int)),some (.al,r.d)]=some (.fr,bI (iU (kn rs) r) K):=by
     simp -implicitDefEqProofs only [iH,jB,ag,jV,jC,gz,gy,id_eq,oq,dA,c9,dJ,bx,hR,de,at1,oy,gU,zC]
     cases he:Row.eJ r with
     |true=>rw[if_pos rfl,iw (p:=dQ (kn rs) r) (q:=iU (kn rs) r) fun j _=>by unfold iU;rw[he];simp]
     |false=>rw[if_neg aX,iw (p:=fun j=>dQ (kn rs) r j&&cH (kn rs) (sets r) j) (q:=iU (kn rs) r) fun j _=>by unfold iU;rw[he];simp]
    refine⟨_,[some (.al,.lst (rs.map Row.d)),some (.fr,bI (fun _=>true) K),some (.bo,.lst (rs.map fun r=>bI (dQ (kn rs) r) K)),some (.bo,.lst (rs.map fun r=>bI (cH (kn rs) (sets r)) K)),some (.bo,.lst ((rs.take (i+1)).map fun r=>bI (iU (kn rs) r) K)),some (.al,.int (i:Int)),some (.al,r.d)],rfl,?_,_,_,rfl⟩
    show tO [some (.al,.lst (rs.map Row.d)),some (.fr,bI (fun _=>true) K),some (.bo,.lst (rs.map fun r=>bI (dQ (kn rs) r) K)),some (.bo,.lst (rs.map fun r=>bI (cH (kn rs) (sets r)) K)),some (.bo,.lst ((rs.take i).map fun r=>bI (iU (kn rs) r) K)),some (.al,.int (i:Int)),some (.al,r.d)]=_
    unfold tO
    simp -implicitDefEqProofs only [cI,hx,oq,eV,if_true,eY,own,gz,gy,s1,tz,tq]
    rw[List.take_add_one,hr,Option.toList_some,List.map_append]
    rfl)
  subst he
  have hE:(bT (rs.map Row.d)).length=rs.length:=by simp[bT]
  rw[hE,List.take_length]at l1
  unfold tX fn Cq
  simp only[cq,bw,bA]
  rw[av (e':=[some (.al,.lst (rs.map Row.d)),some (.fr,bI (fun _=>true) K),none,none,none,none,none]) (by
   simp -implicitDefEqProofs only [aq,au,ae,ah,jV,gz,gy,id_eq,oq,mq,mn,e1,fm,tz,tq])]
  rw[av (e':=[some (.al,.lst (rs.map Row.d)),some (.fr,bI (fun _=>true) K),some (.bo,.lst (rs.map fun r=>bI (dQ (kn rs) r) K)),none,none,none,none]) (by
   simp -implicitDefEqProofs only [aq,cF,bF,au,ae,ah,jV,gz,gy,id_eq,oq,mq,mn,e2,b9,oy]
   rw[show fP [some (M.al,D.lst (rs.map Row.d)),some (.fr,bI (fun _=>true) K),none,none,none,none,none] [1]=[some (.fr,bI (fun _=>true) K)] from rfl,ex,oq,ip (by rw[ln];omega),oq]
   rfl)]
  rw[av (e':=[some (.al,.lst (rs.map Row.d)),some (.fr,bI (fun _=>true) K),some (.bo,.lst (rs.map fun r=>bI (dQ (kn rs) r) K)),some (.bo,.lst (rs.map fun r=>bI (cH (kn rs) (sets r)) K)),none,none,none]) (by
   simp -implicitDefEqProofs only [aq,au,ae,ah,jV,gz,gy,id_eq,oq,mq,mn,e3,dR,tz,tq])]
  rw[av (e':=[some (.al,.lst (rs.map Row.d)),some (.fr,bI (fun _=>true) K),some (.bo,.lst (rs.map fun r=>bI (dQ (kn rs) r) K)),some (.bo,.lst (rs.map fun r=>bI (cH (kn rs) (sets r)) K)),some (.bo,.lst []),none,none]) rfl]
  rw[av (e':=[some (.al,.lst (rs.map Row.d)),some (.fr,bI (fun _=>true) K),some (.bo,.lst (rs.map fun r=>bI (dQ (kn rs) r) K)),some (.bo,.lst (rs.map fun r=>bI (cH (kn rs) (sets r)) K)),some (.bo,.lst (rs.map fun r=>bI (iU (kn rs) r) K)),o5,o6]) (by
   rw[cU,show bj 0 [some (.al,.lst (rs.map Row.d)),some (.fr,bI (fun _=>true) K),some (.bo,.lst (rs.map fun r=>bI (dQ (kn rs) r) K)),some (.bo,.lst (rs.map fun r=>bI (cH (kn rs) (sets r)) K)),some (.bo,.lst []),none,none]=[some (.al,.lst (rs.map Row.d)),some (.fr,bI (fun _=>true) K),some (.bo,.lst (rs.map fun r=>bI (dQ (kn rs) r) K)),some (.bo,.lst (rs.map fun r=>bI (cH (kn rs) (sets r)) K)),some (.bo,.lst []),none,none] from rfl]
   simp -implicitDefEqProofs only [aT,fQ,ae,jV,ah,gz,gy,oq,id_eq,b9,oy]
   exact l1)]
  simp -implicitDefEqProofs only [aH,au,ae,ah,jV,gz,gy,id_eq,oq,mq,mn,e4,e5,qH,e6,vf]
noncomputable def cS(l:List De)(r:Row)(j:Nat):Bool:=cH l (sets r) j
theorem Si(rs:List Row){n:Nat}(h:n<rs.length):((List.range rs.length).map (bP rs)).getD n []=bP rs n:=by
 rw[hU,cV,List.getElem?_range h];rfl
theorem P5{rs:List Row}{n m:Nat}(h:m∈((List.range rs.length).map (bP rs)).getD n []):n<rs.length∧m∈bP rs n:=by
 by_cases z:n<rs.length
 ·rw[Si rs z]at h;exact⟨z,h⟩
 ·rw[hU,List.getElem?_eq_none (by simpa using z)]at h;cases h
theorem Sj{rs:List Row}(g:Good rs)(hl:rs.length≤300):∃P,tN [.lst (rs.map Row.d)]=some (.un,.lst (aA P rs.length (kn rs).length)):=by
 have hk:=jP rs
 have hp:=g.pos
 have e1:=oz (rs:=rs) (by omega)
 have e2:=yE (rs:=rs) (by omega)
 have e3:=yG (rs:=rs) (by omega)
 have e4:=yk (rs:=rs) (by omega)
 rw[RV g]at e4
 generalize hK:(kn rs).length=K at e1 e2 e3 hk
 obtain⟨P,e6,si,cl⟩:=DZ (Bk:=(List.range rs.length).map (bP rs)) (pass:=lift rs (dQ (kn rs))) (P0:=iJ (lift rs (cS (kn rs))) 0 fun j=>lift rs (cS (kn rs)) 0 j||lift rs (dQ (kn rs)) 0 j) (N:=rs.length) (K:=K) (by simp) (by omega) (by omega) (fun n m hm=>by obtain⟨_,_,_,z⟩:=ou g (P5 hm).2;exact z)
 refine⟨P,?_⟩
 ·have ex:=yl (fe:=ag cT (jV 1) (bt gi (jV 0))) (m:=.fr) (m':=.fr) (fr:=[some (.fr,bI (fun _=>true) K)]) (g:=fun r=>bI (cN (kn rs) r) K) (f:=fun r=>bI (dQ (kn rs) r) K) rs (fun r _=>by
   simp -implicitDefEqProofs only [ag,bt,jV,gz,gy,id_eq,oq]
   exact mK)
  unfold tN fn Ce
  simp only[cq,bw,bA]
  rw[av (e':=[some (.al,.lst (rs.map Row.d)),some (.fr,bI (fun _=>true) K),none,none]) (by
   simp -implicitDefEqProofs only [aq,au,ae,ah,jV,gz,gy,id_eq,oq,mq,mn,e1,fm,tz,tq])]
  rw[av (e':=[some (.al,.lst (rs.map Row.d)),some (.fr,bI (fun _=>true) K),some (.bo,.lst (aA (lift rs (dQ (kn rs))) rs.length K)),none]) (by
   simp -implicitDefEqProofs only [aq,cF,bF,au,ae,ah,jV,gz,gy,id_eq,oq,mq,mn,e2,b9,oy]
   rw[show fP [some (M.al,D.lst (rs.map Row.d)),some (.fr,bI (fun _=>true) K),none,none] [1]=[some (.fr,bI (fun _=>true) K)] from rfl,ex,oq,ip (by rw[ln];omega),oq,qH]
   rfl)]
  rw[av (e':=[some (.al,.lst (rs.map Row.d)),some (.fr,bI (fun _=>true) K),some (.bo,.lst (aA (lift rs (dQ (kn rs))) rs.length K)),some (.bo,.lst (aA (lift rs (cS (kn rs))) rs.length K))]) (by
   rw[←qH rs (cS (kn rs))]
   simp -implicitDefEqProofs only [aq,au,ae,ah,jV,gz,gy,id_eq,oq,mq,mn,e3,dR,tz,tq]
   rfl)]
  have nQ:dW (aA (lift rs (cS (kn rs))) rs.length K).length 0=some 0:=by
   unfold dW
   rw[qP,if_pos (by omega),if_pos (by omega)];rfl
  have a0:∀P:Nat→Nat→Bool,L2.bE (aA P rs.length K) 0=some (bI (P 0) K):=fun P=>oO (m:=0) hp
  rw[av (e':=[some (.al,.lst (rs.map Row.d)),some (.fr,bI (fun _=>true) K),some (.bo,.lst (aA (lift rs (dQ (kn rs))) rs.length K)),some (.bo,.lst (aA (iJ (lift rs (cS (kn rs))) 0 fun j=>lift rs (cS (kn rs)) 0 j||lift rs (dQ (kn rs)) 0 j) rs.length K))]) (by
   simp -implicitDefEqProofs only [eU,ag,jV,jC,gz,gy,id_eq,oq,de,a0,oy,gU,rG,jJ,eV,if_true,eY,own,nQ,FD,tz,tq])]
  simp -implicitDefEqProofs only [aH,au,ae,ah,jV,gz,gy,id_eq,oq,mq,mn,e4,e6,vf]
noncomputable def pK(q:Int×Int):List Key:=[.inl q.1,.inl q.2]
theorem ly(q:Int×Int):lO (bX q)=some (pK q):=rfl
noncomputable def bq(l:List (Int×Int))(f:Int×Int→D):List (List Key×D):=l.foldl (fun d q=>putD d (pK q) (f q)) []
theorem qI(l:List (Int×Int))(q:Int×Int)(f:Int×Int→D):bq (l++[q]) f=putD (bq l f) (pK q) (f q):=by
 unfold bq;rw[List.foldl_append];rfl
theorem qQ(f:Int×Int→D)(l:List (Int×Int)):∀i,(bq (l.take i) f).length≤i
 |0=>by simp[bq]
 |i+1=>by
  have ih:=qQ f l i
  cases h:l[i]? with
  |none=>rw[List.take_add_one,h];simp;omega
  |some q =>
   rw[List.take_add_one,h,Option.toList_some,qI]
   have:=yC (bq (l.take i) f) (pK q) (f q)
   omega
noncomputable def j9:List Key→Int×Int
 |[.inl n,.inl m]=>(n,m)
 |_=>(0,0)
theorem FH{f:Int×Int→D}(l:List (Int×Int)):∀kv∈bq l f,kv.2=f (j9 kv.1):=by
 have go:∀(l:List (Int×Int)) (acc:List (List Key×D)),(∀kv∈acc,kv.2=f (j9 kv.1))→∀kv∈l.foldl (fun d q=>putD d (pK q) (f q)) acc,kv.2=f (j9 kv.1):=by
  intro l
  induction l with
  |nil=>intro acc h;exact h
  |cons q l ih =>
   intro acc h
   rw[List.foldl_cons]
   refine ih _ fun kv bR=>?_
   rcases yD bR with⟨z,_⟩|rfl
   ·exact h kv z
   ·rfl
 exact go l [] (fun kv h=>nomatch h)
theorem y9{κ:Type}[DecidableEq κ](ks:List (κ×D))(k:κ)(d:D){k':κ}(h:k'=k∨∃kv∈ks,kv.1=k'):∃kv∈putD ks k d,kv.1=k':=by
 unfold putD
 split
 ·rename_i hk
  rw[List.any_eq_true]at hk
  obtain⟨x,hx,e⟩:=hk
  have e:=bC e
  rcases h with rfl|⟨kv,bR,rfl⟩
  ·exact⟨(x.1,d),bZ.mpr ⟨x,hx,if_pos e⟩,e⟩
  ·by_cases z:kv.1=k
   ·exact⟨(kv.1,d),bZ.mpr ⟨kv,bR,if_pos z⟩,rfl⟩
   ·exact⟨kv,bZ.mpr ⟨kv,bR,if_neg z⟩,rfl⟩
 ·rcases h with rfl|⟨kv,bR,rfl⟩
  ·exact⟨(k',d),by simp,rfl⟩
  ·exact⟨kv,List.mem_append_left _ bR,rfl⟩
theorem Sl{f:Int×Int→D}{l:List (Int×Int)}{q:Int×Int}(h:q∈l):∃kv∈bq l f,kv.1=pK q:=by
 have go:∀(l:List (Int×Int)) (acc:List (List Key×D)),(q∈l∨∃kv∈acc,kv.1=pK q)→∃kv∈l.foldl (fun d q=>putD d (pK q) (f q)) acc,kv.1=pK q:=by
  intro l
  induction l with
  |nil=>intro acc h;exact h.resolve_left (fun z=>nomatch z)
  |cons x l ih =>
   intro acc h
   rw[List.foldl_cons]
   refine ih _ ?_
   rcases h with h|h
   ·rcases List.mem_cons.mp h with rfl|h
    ·exact .inr (y9 _ _ _ (.inl rfl))
    ·exact .inl h
   ·exact .inr (y9 _ _ _ (.inr h))
 exact go l [] (.inl h)
theorem Vn(q:Int×Int):j9 (pK q)=q:=rfl
theorem qR{f:Int×Int→D}{l:List (Int×Int)}{q:Int×Int}(h:q∈l):cB (bq l f) (pK q)=some (f q) :=
 qB (fun kv bR e=>by rw[FH l kv bR,e,Vn]) (Sl h)
theorem za{rs:List Row}{k:Nat}{q:Int×Int}(h:q∈aJ rs k):q.1=-1∨(0≤q.1∧q.1<k):=by
 unfold aJ at h
 rcases List.mem_cons.mp h with rfl|h
 ·exact .inl rfl
 ·obtain⟨n,hn,hm⟩:=List.mem_flatMap.mp h
  obtain⟨m,yb,rfl⟩:=bZ.mp hm
  have:=List.mem_range.mp hn
  exact .inr (by simp;omega)
theorem Vo{rs:List Row}(g:Good rs){k:Nat}{q:Int×Int}(h:q∈aJ rs k):0≤q.2∧q.2<rs.length:=by
 have:=g.pos
 unfold aJ at h
 rcases List.mem_cons.mp h with rfl|h
 ·simp;omega
 ·obtain⟨n,_,hm⟩:=List.mem_flatMap.mp h
  obtain⟨m,yb,rfl⟩:=bZ.mp hm
  exact yy g yb
theorem vt{l:List (Int×Int)}{i:Nat}{d:D}(h:(cj l)[i]?=some d):∃q,l[i]?=some q∧d=bX q:=by
 unfold cj at h
 rw[cV]at h
 cases e:l[i]? with
 |none=>rw[e]at h;cases h
 |some r=>rw[e]at h;cases h;exact⟨r,rfl,rfl⟩
theorem p0(m n:M)(q:Int×Int):ak (m,bX q) (n,.int 0)=some (aV m,.int q.1):=rfl
theorem p1(m n:M)(q:Int×Int):ak (m,bX q) (n,.int 1)=some (aV m,.int q.2):=rfl
theorem zb{P:Nat→Nat→Bool}{N K:Nat}{m:Int}(h0:0≤m)(h1:m<N):L2.bE (aA P N K) m=some (bI (P m.toNat) K):=by
 have:=oO (P:=P) (N:=N) (K:=K) (m:=m.toNat) (by omega)
 rw[Int.toNat_of_nonneg h0]at this;exact this
theorem Oe{rs:List Row}(g:Good rs)(hl:rs.length≤300):∃W:Nat→Nat→Bool,mz [.lst (rs.map Row.d)]=some (.un,.dt (bq (aJ rs rs.length) fun q=>bI (W q.2.toNat) (kn rs).length)):=by
 have hk:=jP rs
 have e1:=oz (rs:=rs) (by omega)
 obtain⟨P,e2⟩:=MJ g hl
 have e3:=yr (rs:=rs) (by omega)
 refine⟨fun m j=>true&&!P m j,?_⟩
 have jZ:=mF rs rs.length
 obtain⟨e',l1,o4,he⟩:=cQ (g:=gN 4) (b:=uH) (m:=.fr) (ds:=cj (aJ rs rs.length)) (e:=[some (.al,.lst (rs.map Row.d)),some (.fr,bI (fun _=>true) (kn rs).length),some (.bo,.lst (aA P rs.length (kn rs).length)),some (.bo,.dt []),none])
  (fun i e=>∃o4,e=[some (.al,.lst (rs.map Row.d)),some (.fr,bI (fun _=>true) (kn rs).length),some (.bo,.lst (aA P rs.length (kn rs).length)),some (.bo,.dt (bq ((aJ rs rs.length).take i) fun q=>bI (fun j=>true&&!P q.2.toNat j) (kn rs).length)),o4]) ⟨none,rfl⟩
  (fun i d e hd a9=>by
   obtain⟨o4,he⟩:=a9
   subst he
   obtain⟨q,hq,rfl⟩:=vt hd
   have hi:i<(aJ rs rs.length).length:=(bB.mp hq).1
   obtain⟨q0,q1⟩:=Vo g (dO hq)
   have nR:=qQ (fun q=>bI (fun j=>true&&!P q.2.toNat j) (kn rs).length) (aJ rs rs.length) i
   have s1:(bq ((aJ rs rs.length).take i) fun q=>bI (fun j=>true&&!P q.2.toNat j) (kn rs).length).length<sizeLine:=dC (show _≤700 by omega) (by decide)
   refine⟨_,[some (.al,.lst (rs.map Row.d)),some (.fr,bI (fun _=>true) (kn rs).length),some (.bo,.lst (aA P rs.length (kn rs).length)),some (.bo,.dt (bq ((aJ rs rs.length).take (i+1)) fun q=>bI (fun j=>true&&!P q.2.toNat j) (kn rs).length)),some (.fr,bX q)],rfl,?_,_,rfl⟩
   show uH [some (.al,.lst (rs.map Row.d)),some (.fr,bI (fun _=>true) (kn rs).length),some (.bo,.lst (aA P rs.length (kn rs).length)),some (.bo,.dt (bq ((aJ rs rs.length).take i) fun q=>bI (fun j=>true&&!P q.2.toNat j) (kn rs).length)),some (.fr,bX q)]=_
   have hx:(ag cT (jV 1) (bt gi (ag ak (jV 2) (ag ak (jV 4) (jC (.int 1)))))) [some (.al,.lst (rs.map Row.d)),some (.fr,bI (fun _=>true) (kn rs).length),some (.bo,.lst (aA P rs.length (kn rs).length)),some (.bo,.dt (bq ((aJ rs rs.length).take i) fun q=>bI (fun j=>true&&!P q.2.toNat j) (kn rs).length)),some (.fr,bX q)]=some (.fr,bI (fun j=>true&&!P q.2.toNat j) (kn rs).length):=by
    simp -implicitDefEqProofs only [ag,bt,jV,jC,gz,gy,id_eq,oq,p1,de,zb q0 q1,oy,gU]
    exact mK
   unfold uH
   simp -implicitDefEqProofs only [fY,hx,jV,gz,gy,id_eq,oq,ly,eV,if_true,hJ,own,s1,tz,tq]
   rw[List.take_add_one,hq,Option.toList_some,qI])
 subst he
 rw[oB,List.take_length]at l1
 unfold mz fn Ej
 simp only[cq,bw,bA]
 rw[av (e':=[some (.al,.lst (rs.map Row.d)),some (.fr,bI (fun _=>true) (kn rs).length),none,none,none]) (by
  simp -implicitDefEqProofs only [aq,au,ae,ah,jV,gz,gy,id_eq,oq,mq,mn,e1,fm,tz,tq])]
 rw[av (e':=[some (.al,.lst (rs.map Row.d)),some (.fr,bI (fun _=>true) (kn rs).length),some (.bo,.lst (aA P rs.length (kn rs).length)),none,none]) (by
  simp -implicitDefEqProofs only [aq,au,ae,ah,jV,gz,gy,id_eq,oq,mq,mn,e2,dR,tz,tq])]
 rw[av (e':=[some (.al,.lst (rs.map Row.d)),some (.fr,bI (fun _=>true) (kn rs).length),some (.bo,.lst (aA P rs.length (kn rs).length)),some (.bo,.dt []),none]) rfl]
 rw[av (e':=[some (.al,.lst (rs.map Row.d)),some (.fr,bI (fun _=>true) (kn rs).length),some (.bo,.lst (aA P rs.length (kn rs).length)),some (.bo,.dt (bq (aJ rs rs.length) fun q=>bI (fun j=>true&&!P q.2.toNat j) (kn rs).length)),o4]) (by
  simp -implicitDefEqProofs only [aT,bF,au,ae,ah,jV,gz,gy,id_eq,oq,mq,mn,e3,b9,oy]
  exact l1)]
 rfl
noncomputable def jA(P:Nat→Nat→Bool)(n:Int)(j:Nat):Bool:=if n=-1 then false else true&&!P n.toNat j
theorem MK{rs:List Row}(g:Good rs)(hl:rs.length≤300):∃S:Int→Nat→Bool,mv [.lst (rs.map Row.d)]=some (.un,.dt (bq (aJ rs rs.length) fun q=>bI (S q.1) (kn rs).length)):=by
 have hk:=jP rs
 have e1:=oz (rs:=rs) (by omega)
 obtain⟨P,e2⟩:=Sj g hl
 have e3:=yr (rs:=rs) (by omega)
 refine⟨jA P,?_⟩
 have jZ:=mF rs rs.length
 obtain⟨e',l1,o4,he⟩:=cQ (g:=gN 4) (b:=ur) (m:=.fr) (ds:=cj (aJ rs rs.length)) (e:=[some (.al,.lst (rs.map Row.d)),some (.fr,bI (fun _=>true) (kn rs).length),some (.bo,.lst (aA P rs.length (kn rs).length)),some (.bo,.dt []),none])
  (fun i e=>∃o4,e=[some (.al,.lst (rs.map Row.d)),some (.fr,bI (fun _=>true) (kn rs).length),some (.bo,.lst (aA P rs.length (kn rs).length)),some (.bo,.dt (bq ((aJ rs rs.length).take i) (fun q=>bI (jA P q.1) (kn rs).length))),o4]) ⟨none,rfl⟩
  (fun i d e hd a9=>by
   obtain⟨o4,he⟩:=a9
   subst he
   obtain⟨q,hq,rfl⟩:=vt hd
   have hi:i<(aJ rs rs.length).length:=(bB.mp hq).1
   have Cd:=za (dO hq)
   have nR:=qQ (fun q=>bI (jA P q.1) (kn rs).length) (aJ rs rs.length) i
   have s1:(bq ((aJ rs rs.length).take i) (fun q=>bI (jA P q.1) (kn rs).length)).length<sizeLine:=dC (show _≤700 by omega) (by decide)
   refine⟨_,[some (.al,.lst (rs.map Row.d)),some (.fr,bI (fun _=>true) (kn rs).length),some (.bo,.lst (aA P rs.length (kn rs).length)),some (.bo,.dt (bq ((aJ rs rs.length).take (i+1)) (fun q=>bI (jA P q.1) (kn rs).length))),some (.fr,bX q)],rfl,?_,_,rfl⟩
   show ur [some (.al,.lst (rs.map Row.d)),some (.fr,bI (fun _=>true) (kn rs).length),some (.bo,.lst (aA P rs.length (kn rs).length)),some (.bo,.dt (bq ((aJ rs rs.length).take i) (fun q=>bI (jA P q.1) (kn rs).length))),some (.fr,bX q)]=_
   have hx:(iH (jB (ag aM (ag ak (jV 4) (jC (.int 0))) (bt dN (jC (.int 1))))) (jC (.int 0)) (ag cT (jV 1) (bt gi (ag ak (jV 2) (ag ak (jV 4) (jC (.int 0))))))) [some (.al,.lst (rs.map Row.d)),some (.fr,bI (fun _=>true) (kn rs).length),some (.bo,.lst (aA P rs.length (kn rs).length)),some (.bo,.dt (bq ((aJ rs rs.length).take i) (fun q=>bI (jA P q.1) (kn rs).length))),some (.fr,bX q)]=some (.fr,bI (jA P q.1) (kn rs).length):=by
    simp -implicitDefEqProofs only [iH,jB,ag,bt,jV,jC,gz,gy,id_eq,oq,p0,jN,iB,bx]
    by_cases z:q.1=-1
    ·rw[decide_eq_true z,if_pos rfl]
     unfold bI
     rw[yB (p:=jA P q.1) fun j _=>if_pos z]
     rfl
    ·obtain⟨q0,q1⟩:=Cd.resolve_left z
     rw[decide_eq_false z,if_neg aX,show jA P q.1=fun j=>true&&!P q.1.toNat j from funext fun j=>if_neg z]
     simp -implicitDefEqProofs only [de,zb q0 q1,oy,gU,oq]
     exact mK
   unfold ur
   simp -implicitDefEqProofs only [fY,hx,jV,gz,gy,id_eq,oq,ly,eV,if_true,hJ,own,s1,tz,tq]
   rw[List.take_add_one,hq,Option.toList_some,qI])
 subst he
 rw[oB,List.take_length]at l1
 unfold mv fn Dk
 simp only[cq,bw,bA]
 rw[av (e':=[some (.al,.lst (rs.map Row.d)),some (.fr,bI (fun _=>true) (kn rs).length),none,none,none]) (by
  simp -implicitDefEqProofs only [aq,au,ae,ah,jV,gz,gy,id_eq,oq,mq,mn,e1,fm,tz,tq])]
 rw[av (e':=[some (.al,.lst (rs.map Row.d)),some (.fr,bI (fun _=>true) (kn rs).length),some (.bo,.lst (aA P rs.length (kn rs).length)),none,none]) (by
  simp -implicitDefEqProofs only [aq,au,ae,ah,jV,gz,gy,id_eq,oq,mq,mn,e2,dR,tz,tq])]
 rw[av (e':=[some (.al,.lst (rs.map Row.d)),some (.fr,bI (fun _=>true) (kn rs).length),some (.bo,.lst (aA P rs.length (kn rs).length)),some (.bo,.dt []),none]) rfl]
 rw[av (e':=[some (.al,.lst (rs.map Row.d)),some (.fr,bI (fun _=>true) (kn rs).length),some (.bo,.lst (aA P rs.length (kn rs).length)),some (.bo,.dt (bq (aJ rs rs.length) (fun q=>bI (jA P q.1) (kn rs).length))),o4]) (by
  simp -implicitDefEqProofs only [aT,bF,au,ae,ah,jV,gz,gy,id_eq,oq,mq,mn,e3,b9,oy]
  exact l1)]
 rfl
theorem Vp(a b:Ko):PyData.eqv (toPy (kD a)) (toPy (kD b))=decide (a=b):=by
 cases a<;>cases b<;>simp[kD,toPy,PyData.eqv]<;>(rw[Bool.eq_iff_iff];simp)
theorem zD(p q:De):PyData.eqv (toPy (aw p)) (toPy (aw q))=decide (p=q):=by
 obtain⟨s,a,b⟩:=p;obtain⟨s',a',b'⟩:=q
 simp only[aw,toPy,dq,PyData.eqv,PyData.eqvAll,Vp]
 by_cases h1:s=s'<;>by_cases h2:a=a'<;>by_cases h3:b=b'<;>simp[h1,h2,h3]
theorem yH(q:De):J.plain (aw q)=true:=by
 have k:∀a:Ko,J.plain (kD a)=true:=fun a=>by cases a<;>simp[kD,J.plain]
 simp[aw,J.plain,J.fH,k]
theorem yI(q:De):(toPy (aw q)).depth≤10:=by
 have k:∀a:Ko,(toPy (kD a)).depth=0:=fun a=>by cases a<;>simp[kD,toPy,PyData.depth]
 simp[aw,toPy,dq,PyData.depth,PyData.depthAll,k]
theorem uL:∀ds:List D,dq ds=ds.map toPy
 |[]=>rfl
 |d::ds=>by rw[dq,uL ds];rfl
theorem zU(m:M)(x s:Str)(a b:Ko):gQ (m,Row.d (.rk x s a b)) (some 2) none=some (aV m,aw (s,a,b)):=rfl
theorem Vq(r:Row)(q:De):qz [r.d,aw q]=some (.fr,.bl (decide (eZ r=some q))):=by
 unfold qz fn DQ
 walk_at "ev"
 simp -implicitDefEqProofs only [dA,oq,c9,dJ,bx,AJ]
 cases r with
 |rk x s a b =>
  have ok:jT (aw (s,a,b)) (aw q)=true:=by
   have h1:=yI q
   have h2:=yI (s,a,b)
   have hl:mR (aw (s,a,b)) (aw q)=true:=rfl
   simp only[jT,yH,hl,Bool.and_self,Bool.true_and]
   exact decide_eq_true (by omega)
  simp -implicitDefEqProofs only [eZ,Option.isSome_some,if_true,zU,c9,oq,gZ,ok,zD,oK,Option.some.injEq]
 |_=>simp[eZ,out]
theorem Yp(r:Row):fh (.str r.word) [.str "reckon",.str "copy"]=(sets r).isSome:=by
 cases r with
 |rk x s a b=>exact(by decide +kernel:fh (.str ("reckon" : Str)) [.str "reckon",.str "copy"]=true)
 |cp x a=>exact(by decide +kernel:fh (.str ("copy" : Str)) [.str "reckon",.str "copy"]=true)
 |sy a=>exact(by decide +kernel:fh (.str ("say" : Str)) [.str "reckon",.str "copy"]=false)
 |go t=>exact(by decide +kernel:fh (.str ("go" : Str)) [.str "reckon",.str "copy"]=false)
 |pt a t=>exact(by decide +kernel:fh (.str ("part" : Str)) [.str "reckon",.str "copy"]=false)
 |en=>exact(by decide +kernel:fh (.str ("end" : Str)) [.str "reckon",.str "copy"]=false)
theorem Xs(m n:M)(r:Row):fu false (m,.str r.word) (n,.tup [.str "reckon",.str "copy"])=some (.fr,.bl (sets r).isSome):=by
 rw[←Yp r];rfl
theorem Yq(x y:Str):(y==x)=decide (x=y):=by
 rw[Bool.eq_iff_iff,decide_eq_true_eq,beq_iff_eq]
 exact eq_comm
theorem Hv(m n:M)(x:Str)(a b:Ko):fu false (m,.str x) (n,.tup [kD a,kD b])=some (.fr,.bl (isNm a x||isNm b x)):=by
 cases a<;>cases b<;>simp[fu,eO,v3,vZ,kD,fh,isNm,kR,Yq]
theorem AO(m:M)(q:De):gQ (m,aw q) (some 1) none=some (aV m,.tup [kD q.2.1,kD q.2.2]):=rfl
theorem Sn(r:Row)(q:De):qg [r.d,aw q]=some (.fr,.bl (ic (sets r) q)):=by
 unfold qg fn CG
 simp -implicitDefEqProofs only [aH,lJ,ag,aQ,ae,ah,f9,ft,iI,jV,jC,mq,mn,List.length_cons,List.length_nil,List.replicate,List.cons_append,List.nil_append,Nat.reduceAdd,Nat.sub_self,List.append_nil,gz,gy,id_eq,oq,dA,c9]
 rw[show i3 [(M.fr,D.str "reckon"),(.fr,.str "copy")]=some (.fr,.tup [.str "reckon",.str "copy"])from rfl,oq,Xs,oq]
 simp -implicitDefEqProofs only [bx,jJ,oq,AO,c9]
 cases r with
 |rk x s a b =>
  rw[show ak (.al,Row.d (.rk x s a b)) (.fr,.int 1)=some (.al,.str x)from rfl]
  simp -implicitDefEqProofs only [sets,Option.isSome_some,if_true,oq,oy,AO,c9,Hv,oK,ic]
 |cp x a =>
  rw[show ak (.al,Row.d (.cp x a)) (.fr,.int 1)=some (.al,.str x)from rfl]
  simp -implicitDefEqProofs only [sets,Option.isSome_some,if_true,oq,oy,AO,c9,Hv,oK,ic]
 |_=>simp[sets,out,ic]
theorem Vr{m n:M}(q:De)(l:List De):m8 true (m,aw q) (n,.lst (l.map aw))=some (.fr,.bl (!decide (q∈l))):=by
 have h1:J.fH (l.map aw)=true:=qt fun d hd=>by obtain⟨x,_,rfl⟩:=bZ.mp hd;exact yH x
 have h2:=yI q
 have h3:(toPy (aw q)).depth≤50:=by omega
 simp only[m8,yH,h1,h3,and_self,if_true,uL,List.any_map]
 congr 4
 rw[Bool.eq_iff_iff,List.any_eq_true,decide_eq_true_eq]
 constructor
 ·rintro⟨y,hy,e⟩
  have e':PyData.eqv (toPy (aw y)) (toPy (aw q))=true:=e
  rw[zD,decide_eq_true_eq]at e'
  rw[←e'];exact hy
 ·intro hq
  exact⟨q,hq,by show PyData.eqv (toPy (aw q)) (toPy (aw q))=true;rw[zD];simp⟩
theorem Sq{r:Row}{l:List De}(hl:l.length≤500)(A0:Option (M×D)):uj [A0,some (.bo,.lst (l.map aw)),some (.al,r.d)]=some (.nx [A0,some (.bo,.lst ((jz l r).map aw)),some (.al,r.d)]):=by
 have s1:l.length<sizeLine:=dC hl (by decide)
 have c1:(jB (ag aM (ag ak (jV 2) (jC (.int 0))) (jC (.str "reckon")))) [A0,some (.bo,.lst (l.map aw)),some (.al,r.d)]=some (eZ r).isSome:=by
  simp -implicitDefEqProofs only [jB,ag,jV,jC,gz,gy,id_eq,oq,dA,dJ,bx,AJ]
 unfold uj
 unfold jz
 cases r with
 |rk x s a b =>
  have c2:(dM (jB (ag aM (ag ak (jV 2) (jC (.int 0))) (jC (.str "reckon")))) (jB (ag (m8 true) (f9 gQ (jV 2) (ft (jC (.int 2))) iI) (jV 1)))) [A0,some (.bo,.lst (l.map aw)),some (.al,Row.d (.rk x s a b))]=some (!decide ((s,a,b)∈l)):=by
   unfold dM
   rw[c1,show(some (eZ (.rk x s a b)).isSome:Option Bool)=some true from rfl,oq,if_pos rfl]
   simp -implicitDefEqProofs only [jB,ag,f9,ft,iI,jV,jC,gz,gy,id_eq,oq,jJ,oy,zU,Vr,bx]
  by_cases hm:(s,a,b)∈l
  ·rw[bU (by rw[c2,decide_eq_true hm];rfl)]
   simp only[eZ,if_pos hm]
   rfl
  ·rw[bz (by rw[c2,decide_eq_false hm];rfl)]
   simp only[eZ,if_neg hm]
   simp -implicitDefEqProofs only [cI,f9,ft,iI,jV,jC,gz,gy,id_eq,oq,jJ,oy,zU,c9,vg,U9,if_true,eY,own,ln,s1,tz,tq,List.map_append,mq,mn]
 |_ =>
  rw[bU (by unfold dM;rw[c1];rfl)]
  rfl
theorem P6{rs:List Row}(hl:rs.length≤400):uD [.lst (rs.map Row.d)]=some (.un,.lst ((kn rs).map aw)):=by
 obtain⟨e',l1,o2,he⟩:=cQ (g:=gN 2) (b:=uj) (m:=.al) (ds:=rs.map Row.d) (e:=[some (.al,.lst (rs.map Row.d)),some (.bo,.lst ([].map aw)),none])
  (fun i e=>∃o2,e=[some (.al,.lst (rs.map Row.d)),some (.bo,.lst ((kn (rs.take i)).map aw)),o2]) ⟨none,rfl⟩
  (fun i d e hd a9=>by
   obtain⟨o2,he⟩:=a9
   subst he
   obtain⟨r,hr,rfl⟩:=y4 hd
   have hi:i<rs.length:=(bB.mp hr).1
   have B7:=vq rs i
   have q:=Sq (r:=r) (l:=kn (rs.take i)) (by omega) (some (.al,.lst (rs.map Row.d)))
   rw[←oC rs i r hr]at q
   exact⟨_,_,rfl,q,_,rfl⟩)
 subst he
 rw[ln,tK]at l1
 unfold uD fn C2
 simp only[cq,bw,bA]
 rw[av (e':=[some (.al,.lst (rs.map Row.d)),some (.bo,.lst ([].map aw)),none]) rfl]
 rw[av (e':=[some (.al,.lst (rs.map Row.d)),some (.bo,.lst ((kn rs).map aw)),o2]) (by
  rw[cU,show bj 0 [some (.al,.lst (rs.map Row.d)),some (.bo,.lst ([].map aw)),none]=[some (.al,.lst (rs.map Row.d)),some (.bo,.lst ([].map aw)),none] from rfl]
  simp -implicitDefEqProofs only [aT,bF,jV,gz,gy,id_eq,oq,b9,oy]
  exact l1)]
 rfl
theorem GJ{A0:Option (M×D)}{n:Int}:∀(ms:List Int) (l:List (Int×Int)) (o3:Option (M×D)),l.length+ms.length≤5000→∃fE,forL (gN 3) ud .fr (ms.map D.int) [A0,some (.bo,.lst (cj l)),some (.fr,.int n),o3]=some (.nx [A0,some (.bo,.lst (cj (l++ms.map fun m=>(n,m)))),some (.fr,.int n),fE])
 |[],l,o3,_=>⟨o3,by simp[forL]⟩
 |m::ms,l,o3,hl=>by
  rw[List.length_cons]at hl
  obtain⟨fE,q⟩:=GJ (A0:=A0) (n:=n) ms (l++[(n,m)]) (some (.fr,.int m)) (by rw[List.length_append];simp only[List.length_cons,List.length_nil];omega)
  refine⟨fE,?_⟩
  have hs:l.length<sizeLine:=dC (show l.length≤5000 by omega) (by decide)
  rw[mq,forL,show gN 3 (M.fr,D.int m) [A0,some (.bo,.lst (cj l)),some (.fr,.int n),o3]=some [A0,some (.bo,.lst (cj l)),some (.fr,.int n),some (.fr,.int m)] from rfl,oq]
  have hb:ud [A0,some (.bo,.lst (cj l)),some (.fr,.int n),some (.fr,.int m)]=some (.nx [A0,some (.bo,.lst (cj (l++[(n,m)]))),some (.fr,.int n),some (.fr,.int m)]):=by
   unfold ud
   walk_at "ev"
   rw[oB,if_pos hs,Eo]
  rw[hb,oq]
  simpa using q
theorem Vs{rs:List Row}(hl:rs.length≤800):uz [.lst (rs.map Row.d)]=some (.un,.lst (cj (aJ rs rs.length))):=by
 have cu:-4611686018427387904≤(rs.length:Int)∧(rs.length:Int)<4611686018427387904:=by omega
 have ht:(rs.length:Int).toNat=rs.length:=by omega
 obtain⟨e',l1,o2,o3,he⟩:=cQ (g:=gN 2) (b:=uf) (m:=.fr) (ds:=b0 0 rs.length) (e:=[some (.al,.lst (rs.map Row.d)),some (.bo,.lst (cj (aJ rs 0))),none,none])
  (fun i e=>∃(o2 o3:Option (M×D)),e=[some (.al,.lst (rs.map Row.d)),some (.bo,.lst (cj (aJ rs i))),o2,o3])
  ⟨none,none,rfl⟩
  (fun i d e hd a9=>by
   obtain⟨o2,o3,he⟩:=a9
   subst he
   obtain⟨hi,rfl⟩:=kh hd
   rw[show(0:Int)+(i:Int)=(i:Int) by omega]
   have h1:=mF rs i
   have h2:=yA rs i
   have hr:rs[i]?=some (rs[i]'hi):=by simp
   have ef:=yT rs i _ hr
   have er:bp i (rs[i]'hi)=cG rs i:=by unfold cG;rw[hr]
   rw[er]at ef
   obtain⟨fE,q⟩:=GJ (A0:=some (.al,.lst (rs.map Row.d))) (n:=(i:Int)) (cG rs i) (aJ rs i) o3 (by omega)
   refine⟨_,[some (.al,.lst (rs.map Row.d)),some (.bo,.lst (cj (aJ rs (i+1)))),some (.fr,.int (i:Int)),fE],rfl,?_,_,_,rfl⟩
   show uf [some (.al,.lst (rs.map Row.d)),some (.bo,.lst (cj (aJ rs i))),some (.fr,.int (i:Int)),o3]=_
   unfold uf
   simp -implicitDefEqProofs only [aT,bF,au,ae,ah,jV,gz,gy,id_eq,oq,mq,mn,ef,b9,oy]
   rw[yz]
   exact q)
 subst he
 rw[iX]at l1
 unfold uz fn CN
 simp only[cq,bw,bA]
 rw[av (e':=[some (.al,.lst (rs.map Row.d)),some (.bo,.lst (cj (aJ rs 0))),none,none]) rfl]
 rw[av (e':=[some (.al,.lst (rs.map Row.d)),some (.bo,.lst (cj (aJ rs rs.length))),o2,o3]) (by
  simp -implicitDefEqProofs only [aT,bY,aO,ae,ah,jV,gz,gy,id_eq,oq,dS,ln,cu,and_self,if_true,ht]
  exact l1)]
 rfl
theorem Hw{m n:M}{p:Nat→Bool}{K j:Nat}:jR (m,bI p K) (n,.int (j:Int))=some (.fr,.int ((bu p K/2^j:Nat):Int)):=by
 have h:jR (m,.int ((bu p K:Nat):Int)) (n,.int (j:Int))=if 0≤(j:Int)then some (.fr,.int (((bu p K:Nat):Int)/2^(j:Int).toNat))else none:=rfl
 unfold bI
 rw[h,if_pos (by omega)]
 simp
theorem and_1{m n:M}(a:Nat):cT (m,.int (a:Int)) (n,.int 1)=some (.fr,.int ((a%2:Nat):Int)):=by
 have:=yM (m:=m) (n:=n) (i:=(a:Int)) (j:=((1:Nat):Int))
 rw[AI,Nat.and_one_is_mod]at this
 exact this
theorem Hx{p:Nat→Bool}{K j:Nat}(h:j<K):decide (((bu p K/2^j%2:Nat):Int)=1)=p j:=by
 have:=jI p K j
 rw[Nat.testBit_eq_decide_div_mod_eq,decide_eq_true h,Bool.true_and]at this
 rw[←this,Bool.eq_iff_iff,decide_eq_true_eq,decide_eq_true_eq]
 omega
theorem Hy{p:Nat→Bool}{K j:Nat}(h:j<K):decide (((bu p K/2^j%2:Nat):Int)=0)=!p j:=by
 rw[←Hx (p:=p) h,Bool.eq_iff_iff]
 simp only[decide_eq_true_eq,Bool.not_eq_true',decide_eq_false_iff_not]
 omega
theorem Hz(K:Nat):(.int 0:D)=bI (fun _=>false) K:=by unfold bI;rw[yB fun _ _=>rfl];rfl
theorem FI{rs:List Row}{n m:Nat}(h:aS rs n m):((n:Int),(m:Int))∈aJ rs rs.length:=by
 obtain⟨r,hr,hm,_⟩:=h
 unfold aJ
 refine df _ (List.mem_flatMap.mpr ⟨n,List.mem_range.mpr (bB.mp hr).1,bZ.mpr ⟨(m:Int),?_,rfl⟩⟩)
 unfold cG;rw[hr];exact hm
theorem Yr(a b:Int):i3 [(M.fr,D.int a),(M.fr,D.int b)]=some (.fr,bX (a,b)):=rfl
noncomputable def fW(rs:List Row)(W:Nat→Nat→Bool)(l:List Nat)(j:Nat):Bool:=l.any fun f=>true&&!W f j
noncomputable def ck(rs:List Row)(W:Nat→Nat→Bool)(n j:Nat):Bool:=lift rs (cS (kn rs)) n j||(fW rs W (bP rs n) j&&!lift rs (cN (kn rs)) n j)
theorem GK{l:List Nat}{i:Nat}{d:D}(h:(ax l)[i]?=some d):∃f,l[i]?=some f∧d=.int (f:Int):=by
 unfold ax at h
 rw[cV]at h
 cases e:l[i]? with
 |none=>rw[e]at h;cases h
 |some r=>rw[e]at h;cases h;exact⟨r,rfl,rfl⟩
theorem ML{rs:List Row}(g:Good rs)(hl:rs.length≤300)(W:Nat→Nat→Bool):tY [.lst (rs.map Row.d),.dt (bq (aJ rs rs.length) fun q=>bI (W q.2.toNat) (kn rs).length)]=some (.un,.lst (aA (ck rs W) rs.length (kn rs).length)):=by
 have cu:-4611686018427387904≤(rs.length:Int)∧(rs.length:Int)<4611686018427387904:=by omega
 have ht:(rs.length:Int).toNat=rs.length:=by omega
 have hk:=jP rs
 have e1:=oz (rs:=rs) (by omega)
 have e2:=yE (rs:=rs) (by omega)
 have e3:=yG (rs:=rs) (by omega)
 rw[qH rs (cN (kn rs))]at e2
 have e3:ml [.lst (rs.map Row.d)]=some (.un,.lst (rs.map fun r=>bI (cS (kn rs) r) (kn rs).length)):=e3
 rw[qH rs (cS (kn rs))]at e3
 generalize hK:(kn rs).length=K at e1 e2 e3 hk
 generalize hDt:bq (aJ rs rs.length) (fun q=>bI (W q.2.toNat) K)=dt
 obtain⟨e',l1,o6,o7,o8,he⟩:=cQ (g:=gN 6) (b:=tQ) (m:=.fr) (ds:=b0 0 rs.length) (e:=[some (.al,.lst (rs.map Row.d)),some (.al,.dt dt),some (.fr,bI (fun _=>true) K),some (.bo,.lst (aA (lift rs (cN (kn rs))) rs.length K)),some (.bo,.lst (aA (lift rs (cS (kn rs))) rs.length K)),some (.bo,.lst (aA (ck rs W) 0 K)),none,none,none])
  (fun i e=>∃o6 o7 o8,e=[some (.al,.lst (rs.map Row.d)),some (.al,.dt dt),some (.fr,bI (fun _=>true) K),some (.bo,.lst (aA (lift rs (cN (kn rs))) rs.length K)),some (.bo,.lst (aA (lift rs (cS (kn rs))) rs.length K)),some (.bo,.lst (aA (ck rs W) i K)),o6,o7,o8])
  ⟨none,none,none,rfl⟩
  (fun n d e hd a9=>by
   obtain⟨o6,o7,o8,he⟩:=a9
   subst he
   obtain⟨hn,rfl⟩:=kh hd
   rw[show(0:Int)+(n:Int)=(n:Int) by omega]
   have hr:rs[n]?=some (rs[n]'hn):=by simp
   have ef:=zy rs n _ hr
   have er:bp n (rs[n]'hn)=cG rs n:=by unfold cG;rw[hr]
   rw[er,rh g]at ef
   obtain⟨Bu,l2,fU,sO⟩:=cQ (g:=gN 8) (b:=tP) (m:=.fr) (ds:=ax (bP rs n)) (e:=[some (.al,.lst (rs.map Row.d)),some (.al,.dt dt),some (.fr,bI (fun _=>true) K),some (.bo,.lst (aA (lift rs (cN (kn rs))) rs.length K)),some (.bo,.lst (aA (lift rs (cS (kn rs))) rs.length K)),some (.bo,.lst (aA (ck rs W) n K)),some (.fr,.int (n:Int)),some (.fr,bI (fW rs W ((bP rs n).take 0)) K),o8])
    (fun i e=>∃o8,e=[some (.al,.lst (rs.map Row.d)),some (.al,.dt dt),some (.fr,bI (fun _=>true) K),some (.bo,.lst (aA (lift rs (cN (kn rs))) rs.length K)),some (.bo,.lst (aA (lift rs (cS (kn rs))) rs.length K)),some (.bo,.lst (aA (ck rs W) n K)),some (.fr,.int (n:Int)),some (.fr,bI (fW rs W ((bP rs n).take i)) K),o8]) ⟨o8,rfl⟩
    (fun i d e hd a9=>by
     obtain⟨o8,he⟩:=a9
     subst he
     obtain⟨f,hf,rfl⟩:=GK hd
     have hv:cB dt (pK ((n:Int),(f:Int)))=some (bI (W f) K):=by
      rw[←hDt,qR (FI (ou g (dO hf)))];rfl
     refine⟨_,[some (.al,.lst (rs.map Row.d)),some (.al,.dt dt),some (.fr,bI (fun _=>true) K),some (.bo,.lst (aA (lift rs (cN (kn rs))) rs.length K)),some (.bo,.lst (aA (lift rs (cS (kn rs))) rs.length K)),some (.bo,.lst (aA (ck rs W) n K)),some (.fr,.int (n:Int)),some (.fr,bI (fW rs W ((bP rs n).take (i+1))) K),some (.fr,.int (f:Int))],rfl,?_,_,rfl⟩
     show tP [some (.al,.lst (rs.map Row.d)),some (.al,.dt dt),some (.fr,bI (fun _=>true) K),some (.bo,.lst (aA (lift rs (cN (kn rs))) rs.length K)),some (.bo,.lst (aA (lift rs (cS (kn rs))) rs.length K)),some (.bo,.lst (aA (ck rs W) n K)),some (.fr,.int (n:Int)),some (.fr,bI (fW rs W ((bP rs n).take i)) K),some (.fr,.int (f:Int))]=_
     unfold tP
     simp -implicitDefEqProofs only [aq,ag,bt,fS,aQ,ae,ah,jV,gz,gy,id_eq,oq,Yr,jU,ly,hv]
     rw[mK,oq,rG,oq,fm,oq]
     have:bI (fun j=>fW rs W ((bP rs n).take i) j||(true&&!W f j)) K=bI (fW rs W ((bP rs n).take (i+1))) K:=iw fun j _=>by
      unfold fW
      rw[List.take_add_one,hf,Option.toList_some,List.any_append]
      simp
     rw[this]
     rfl)
   subst sO
   rw[fq,List.take_length]at l2
   have s1:(aA (ck rs W) n K).length<sizeLine:=by rw[qP];exact dC (show n≤300 by omega) (by decide)
   refine⟨_,[some (.al,.lst (rs.map Row.d)),some (.al,.dt dt),some (.fr,bI (fun _=>true) K),some (.bo,.lst (aA (lift rs (cN (kn rs))) rs.length K)),some (.bo,.lst (aA (lift rs (cS (kn rs))) rs.length K)),some (.bo,.lst (aA (ck rs W) (n+1) K)),some (.fr,.int (n:Int)),some (.fr,bI (fW rs W (bP rs n)) K),fU],rfl,?_,_,_,_,rfl⟩
   show tQ [some (.al,.lst (rs.map Row.d)),some (.al,.dt dt),some (.fr,bI (fun _=>true) K),some (.bo,.lst (aA (lift rs (cN (kn rs))) rs.length K)),some (.bo,.lst (aA (lift rs (cS (kn rs))) rs.length K)),some (.bo,.lst (aA (ck rs W) n K)),some (.fr,.int (n:Int)),o7,o8]=_
   unfold tQ
   rw[av (e':=[some (.al,.lst (rs.map Row.d)),some (.al,.dt dt),some (.fr,bI (fun _=>true) K),some (.bo,.lst (aA (lift rs (cN (kn rs))) rs.length K)),some (.bo,.lst (aA (lift rs (cS (kn rs))) rs.length K)),some (.bo,.lst (aA (ck rs W) n K)),some (.fr,.int (n:Int)),some (.fr,bI (fW rs W ((bP rs n).take 0)) K),o8]) (by
    rw[show bI (fW rs W ((bP rs n).take 0)) K=.int 0 from(Hz K).symm];rfl)]
   rw[av (e':=[some (.al,.lst (rs.map Row.d)),some (.al,.dt dt),some (.fr,bI (fun _=>true) K),some (.bo,.lst (aA (lift rs (cN (kn rs))) rs.length K)),some (.bo,.lst (aA (lift rs (cS (kn rs))) rs.length K)),some (.bo,.lst (aA (ck rs W) n K)),some (.fr,.int (n:Int)),some (.fr,bI (fW rs W (bP rs n)) K),fU]) (by
    simp -implicitDefEqProofs only [aT,bF,au,ae,ah,jV,gz,gy,id_eq,oq,mq,mn,ef,b9,oy]
    exact l2)]
   simp -implicitDefEqProofs only [cI,ag,bt,jV,gz,gy,id_eq,oq,de,oO hn,oy,gU]
   rw[mK,oq,rG,oq]
   simp -implicitDefEqProofs only [eV,if_true,eY,own,gz,gy,oq,s1,tz,tq]
   have:aA (ck rs W) (n+1) K=aA (ck rs W) n K++[bI (ck rs W n) K]:=by unfold aA;rw[List.range_succ,List.map_append];rfl
   rw[this]
   rfl)
 subst he
 rw[iX]at l1
 unfold tY fn Cr
 simp only[cq,bw,bA]
 rw[av (e':=[some (.al,.lst (rs.map Row.d)),some (.al,.dt dt),some (.fr,bI (fun _=>true) K),none,none,none,none,none,none]) (by
  simp -implicitDefEqProofs only [aq,au,ae,ah,jV,gz,gy,id_eq,oq,mq,mn,e1,fm,tz,tq])]
 rw[av (e':=[some (.al,.lst (rs.map Row.d)),some (.al,.dt dt),some (.fr,bI (fun _=>true) K),some (.bo,.lst (aA (lift rs (cN (kn rs))) rs.length K)),none,none,none,none,none]) (by
  simp -implicitDefEqProofs only [aq,au,ae,ah,jV,gz,gy,id_eq,oq,mq,mn,e2,dR,tz,tq])]
 rw[av (e':=[some (.al,.lst (rs.map Row.d)),some (.al,.dt dt),some (.fr,bI (fun _=>true) K),some (.bo,.lst (aA (lift rs (cN (kn rs))) rs.length K)),some (.bo,.lst (aA (lift rs (cS (kn rs))) rs.length K)),none,none,none,none]) (by
  simp -implicitDefEqProofs only [aq,au,ae,ah,jV,gz,gy,id_eq,oq,mq,mn,e3,dR,tz,tq])]
 rw[av (e':=[some (.al,.lst (rs.map Row.d)),some (.al,.dt dt),some (.fr,bI (fun _=>true) K),some (.bo,.lst (aA (lift rs (cN (kn rs))) rs.length K)),some (.bo,.lst (aA (lift rs (cS (kn rs))) rs.length K)),some (.bo,.lst (aA (ck rs W) 0 K)),none,none,none]) rfl]
 rw[av (e':=[some (.al,.lst (rs.map Row.d)),some (.al,.dt dt),some (.fr,bI (fun _=>true) K),some (.bo,.lst (aA (lift rs (cN (kn rs))) rs.length K)),some (.bo,.lst (aA (lift rs (cS (kn rs))) rs.length K)),some (.bo,.lst (aA (ck rs W) rs.length K)),o6,o7,o8]) (by
  simp -implicitDefEqProofs only [aT,bY,aO,ae,ah,jV,gz,gy,id_eq,oq,dS,ln,cu,and_self,if_true,ht]
  exact l1)]
 rfl
noncomputable def cf(rs:List Row)(W:Nat→Nat→Bool)(S:Int→Nat→Bool)(q:Int×Int)(j:Nat):Bool:=(W q.2.toNat j&&!S q.1 j)&&(if q.1=-1 then true else ck rs W q.1.toNat j)
theorem Og{rs:List Row}(g:Good rs)(hl:rs.length≤300){W:Nat→Nat→Bool}{S:Int→Nat→Bool}(e1:mz [.lst (rs.map Row.d)]=some (.un,.dt (bq (aJ rs rs.length) fun q=>bI (W q.2.toNat) (kn rs).length)))(e2:mv [.lst (rs.map Row.d)]=some (.un,.dt (bq (aJ rs rs.length) fun q=>bI (S q.1) (kn rs).length))) :
  mB [.lst (rs.map Row.d)]=some (.un,.dt (bq (aJ rs rs.length) fun q=>bI (cf rs W S q) (kn rs).length)):=by
 have hk:=jP rs
 have jZ:=mF rs rs.length
 have e3:=ML g hl W
 have e4:=yr (rs:=rs) (by omega)
 have e5:=oz (rs:=rs) (by omega)
 generalize hK:(kn rs).length=K at e1 e2 e3 e5 hk
 have vW:∀q∈aJ rs rs.length,cB (bq (aJ rs rs.length) fun q=>bI (W q.2.toNat) K) (pK q)=some (bI (W q.2.toNat) K):=fun q h=>qR h
 have vS:∀q∈aJ rs rs.length,cB (bq (aJ rs rs.length) fun q=>bI (S q.1) K) (pK q)=some (bI (S q.1) K):=fun q h=>qR h
 generalize (bq (aJ rs rs.length) fun q=>bI (W q.2.toNat) K)=dw at e1 e3 vW
 generalize (bq (aJ rs rs.length) fun q=>bI (S q.1) K)=dv at e2 vS
 obtain⟨e',l1,o5,o6,he⟩:=cQ (g:=gN 5) (b:=uI) (m:=.fr) (ds:=cj (aJ rs rs.length)) (e:=[some (.al,.lst (rs.map Row.d)),some (.bo,.dt dw),some (.bo,.dt dv),some (.bo,.lst (aA (ck rs W) rs.length K)),some (.bo,.dt []),none,none])
  (fun i e=>∃o5 o6,e=[some (.al,.lst (rs.map Row.d)),some (.bo,.dt dw),some (.bo,.dt dv),some (.bo,.lst (aA (ck rs W) rs.length K)),some (.bo,.dt (bq ((aJ rs rs.length).take i) fun q=>bI (cf rs W S q) K)),o5,o6]) ⟨none,none,rfl⟩
  (fun i d e hd a9=>by
   obtain⟨o5,o6,he⟩:=a9
   subst he
   obtain⟨q,hq,rfl⟩:=vt hd
   have hm:=dO hq
   have hi:i<(aJ rs rs.length).length:=(bB.mp hq).1
   have Cd:=za hm
   have v1:=vW q hm
   have v2:=vS q hm
   have nR:=qQ (fun q=>bI (cf rs W S q) K) (aJ rs rs.length) i
   have s1:(bq ((aJ rs rs.length).take i) fun q=>bI (cf rs W S q) K).length<sizeLine:=dC (show _≤700 by omega) (by decide)
   refine⟨_,[some (.al,.lst (rs.map Row.d)),some (.bo,.dt dw),some (.bo,.dt dv),some (.bo,.lst (aA (ck rs W) rs.length K)),some (.bo,.dt (bq ((aJ rs rs.length).take (i+1)) fun q=>bI (cf rs W S q) K)),some (.fr,bX q),some (.fr,bI (fun j=>if q.1=-1 then true else ck rs W q.1.toNat j) K)],rfl,?_,_,_,rfl⟩
   show uI [some (.al,.lst (rs.map Row.d)),some (.bo,.dt dw),some (.bo,.dt dv),some (.bo,.lst (aA (ck rs W) rs.length K)),some (.bo,.dt (bq ((aJ rs rs.length).take i) fun q=>bI (cf rs W S q) K)),some (.fr,bX q),o6]=_
   unfold uI
   rw[av (e':=[some (.al,.lst (rs.map Row.d)),some (.bo,.dt dw),some (.bo,.dt dv),some (.bo,.lst (aA (ck rs W) rs.length K)),some (.bo,.dt (bq ((aJ rs rs.length).take i) fun q=>bI (cf rs W S q) K)),some (.fr,bX q),some (.fr,bI (fun j=>if q.1=-1 then true else ck rs W q.1.toNat j) K)]) (by
    have hx:(iH (jB (ag aM (ag ak (jV 5) (jC (.int 0))) (bt dN (jC (.int 1))))) (au jD (ae (jV 0) ah)) (ag ak (jV 3) (ag ak (jV 5) (jC (.int 0))))) [some (.al,.lst (rs.map Row.d)),some (.bo,.dt dw),some (.bo,.dt dv),some (.bo,.lst (aA (ck rs W) rs.length K)),some (.bo,.dt (bq ((aJ rs rs.length).take i) fun q=>bI (cf rs W S q) K)),some (.fr,bX q),o6]=some (.fr,bI (fun j=>if q.1=-1 then true else ck rs W q.1.toNat j) K):=by
     simp -implicitDefEqProofs only [iH,jB,ag,bt,au,ae,ah,jV,jC,gz,gy,id_eq,oq,p0,jN,iB,bx,mq,mn,e5]
     by_cases z:q.1=-1
     ·rw[decide_eq_true z,if_pos rfl,iw (p:=fun j=>if q.1=-1 then true else ck rs W q.1.toNat j) (q:=fun _=>true) fun j _=>if_pos z]
     ·obtain⟨q0,q1⟩:=Cd.resolve_left z
      rw[decide_eq_false z,if_neg aX,iw (p:=fun j=>if q.1=-1 then true else ck rs W q.1.toNat j) (q:=ck rs W q.1.toNat) fun j _=>if_neg z]
      simp -implicitDefEqProofs only [de,zb q0 q1,oy,gU]
    simp -implicitDefEqProofs only [aq,hx,oq,fm,tz,tq])]
   simp -implicitDefEqProofs only [fY,ag,bt,fS,jV,gz,gy,id_eq,oq,jU,ly,v1,v2,gU]
   rw[mK,oq,zC,oq]
   simp -implicitDefEqProofs only [eV,if_true,hJ,own,gz,gy,oq,s1,tz,tq]
   rw[List.take_add_one,hq,Option.toList_some,qI]
   rfl)
 subst he
 rw[oB,List.take_length]at l1
 unfold mB fn Ek
 simp only[cq,bw,bA]
 rw[av (e':=[some (.al,.lst (rs.map Row.d)),some (.bo,.dt dw),none,none,none,none,none]) (by
  simp -implicitDefEqProofs only [aq,au,ae,ah,jV,gz,gy,id_eq,oq,mq,mn,e1,dR,tz,tq])]
 rw[av (e':=[some (.al,.lst (rs.map Row.d)),some (.bo,.dt dw),some (.bo,.dt dv),none,none,none,none]) (by
  simp -implicitDefEqProofs only [aq,au,ae,ah,jV,gz,gy,id_eq,oq,mq,mn,e2,dR,tz,tq])]
 rw[av (e':=[some (.al,.lst (rs.map Row.d)),some (.bo,.dt dw),some (.bo,.dt dv),some (.bo,.lst (aA (ck rs W) rs.length K)),none,none,none]) (by
  simp -implicitDefEqProofs only [aq,au,ae,ah,jV,gz,gy,id_eq,oq,mq,mn,e3,dR,tz,tq])]
 rw[av (e':=[some (.al,.lst (rs.map Row.d)),some (.bo,.dt dw),some (.bo,.dt dv),some (.bo,.lst (aA (ck rs W) rs.length K)),some (.bo,.dt []),none,none]) rfl]
 rw[av (e':=[some (.al,.lst (rs.map Row.d)),some (.bo,.dt dw),some (.bo,.dt dv),some (.bo,.lst (aA (ck rs W) rs.length K)),some (.bo,.dt (bq (aJ rs rs.length) fun q=>bI (cf rs W S q) K)),o5,o6]) (by
  simp -implicitDefEqProofs only [aT,bF,au,ae,ah,jV,gz,gy,id_eq,oq,mq,mn,e4,b9,oy]
  exact l1)]
 rfl
theorem Xt(a b:Int):i3 [(M.al,D.int a),(M.fr,D.int b)]=some (.fr,bX (a,b)):=rfl
theorem P7{rs:List Row}(g:Good rs){W:Nat→Nat→Bool}{S:Int→Nat→Bool}{k:Nat}{q:De}(hq:(kn rs)[k]?=some q){s:Int×Int}(hs:s∈aJ rs rs.length) :
  og [.lst (rs.map Row.d),aw q,.int (k:Int),bX s,.dt (bq (aJ rs rs.length) fun q=>bI (W q.2.toNat) (kn rs).length),.dt (bq (aJ rs rs.length) fun q=>bI (S q.1) (kn rs).length)]=some (.fr,.bl (cf rs W S s k)):=by
 have hk:k<(kn rs).length:=(bB.mp hq).1
 have Ys:∀r:Row,cN (kn rs) r k=decide (eZ r=some q):=fun r=>by
  unfold cN
  rw[hq]
  cases eZ r<;>simp
 have Yt:∀r:Row,cS (kn rs) r k=ic (sets r) q:=fun r=>by unfold cS cH;rw[hq]
 have vW:∀q∈aJ rs rs.length,cB (bq (aJ rs rs.length) fun q=>bI (W q.2.toNat) (kn rs).length) (pK q)=some (bI (W q.2.toNat) (kn rs).length):=fun q h=>qR h
 have vS:cB (bq (aJ rs rs.length) fun q=>bI (S q.1) (kn rs).length) (pK s)=some (bI (S s.1) (kn rs).length):=qR hs
 generalize (bq (aJ rs rs.length) fun q=>bI (W q.2.toNat) (kn rs).length)=dw at vW
 generalize (bq (aJ rs rs.length) fun q=>bI (S q.1) (kn rs).length)=dv at vS
 have v1:=vW s hs
 unfold og fn C4
 simp only[cq,bw,bA]
 have c1:(cX (jB (ag aM (ag cT (ag jR (fS (jV 4) (jV 3)) (jV 2)) (jC (.int 1))) (jC (.int 0)))) (jB (ag aM (ag cT (ag jR (fS (jV 5) (jV 3)) (jV 2)) (jC (.int 1))) (jC (.int 1))))) [some (.al,.lst (rs.map Row.d)),some (.al,aw q),some (.al,.int (k:Int)),some (.al,bX s),some (.al,.dt dw),some (.al,.dt dv),none,none]=some (!W s.2.toNat k||S s.1 k):=by
  simp -implicitDefEqProofs only [cX,jB,ag,fS,jV,jC,gz,gy,id_eq,oq,jU,ly,v1,vS,c9,Hw,and_1,iB,Hy hk,Hx hk,bx]
  cases W s.2.toNat k<;>rfl
 cases hb:(!W s.2.toNat k||S s.1 k) with
 |true =>
  rw[dG (by rw[bz (by rw[c1,hb])];rfl)]
  have:cf rs W S s k=false:=by
   unfold cf
   rcases Bool.or_eq_true _ _▸hb with z|z
   ·rw[show W s.2.toNat k=false by simpa using z];rfl
   ·rw[z];simp
  rw[this];rfl
 |false =>
 obtain⟨hW,hS⟩:W s.2.toNat k=true∧S s.1 k=false:=by simpa using hb
 have hf:cf rs W S s k=if s.1=-1 then true else ck rs W s.1.toNat k:=by unfold cf;rw[hW,hS];rfl
 rw[fj (by rw[c1,hb])]
 rw[av (e':=[some (.al,.lst (rs.map Row.d)),some (.al,aw q),some (.al,.int (k:Int)),some (.al,bX s),some (.al,.dt dw),some (.al,.dt dv),some (.al,.int s.1),none]) rfl]
 have c0:(jB (ag aM (jV 6) (bt dN (jC (.int 1))))) [some (.al,.lst (rs.map Row.d)),some (.al,aw q),some (.al,.int (k:Int)),some (.al,bX s),some (.al,.dt dw),some (.al,.dt dv),some (.al,.int s.1),none]=some (decide (s.1=-1)):=by
  simp -implicitDefEqProofs only [jB,ag,bt,jV,jC,gz,gy,id_eq,oq,jN,iB,bx]
 by_cases z:s.1=-1
 ·rw[dG (by rw[bz (by unfold cX;rw[c0,decide_eq_true z];rfl)];rfl),hf,if_pos z]
  rfl
 obtain⟨q0,q1⟩:=(za hs).resolve_left z
 rw[hf,if_neg z]
 obtain⟨n,hn⟩:∃n:Nat,s.1=(n:Int):=⟨s.1.toNat,by omega⟩
 rw[hn]at c0 q1 ⊢
 have yd:n<rs.length:=by omega
 have hr:rs[n]?=some (rs[n]'yd):=by simp
 generalize rs[n]'yd=r at hr
 have ar:=km hr
 rw[Int.toNat_natCast]
 have c2:(cX (jB (ag aM (jV 6) (bt dN (jC (.int 1))))) (jB (au qg (ae (ag ak (jV 0) (jV 6)) (ae (jV 1) ah))))) [some (.al,.lst (rs.map Row.d)),some (.al,aw q),some (.al,.int (k:Int)),some (.al,bX s),some (.al,.dt dw),some (.al,.dt dv),some (.al,.int (n:Int)),none]=some (cS (kn rs) r k):=by
  unfold cX
  rw[c0,decide_eq_false (by omega),oq,if_neg aX]
  simp -implicitDefEqProofs only [jB,au,ae,ah,ag,jV,gz,gy,id_eq,oq,de,ar,oy,mq,mn,Sn,bx,Yt]
 have lR:ck rs W n k=(cS (kn rs) r k||(fW rs W (bP rs n) k&&!cN (kn rs) r k)):=by unfold ck;rw[y8 hr,y8 hr]
 rw[lR]
 cases h2:cS (kn rs) r k with
 |true =>
  rw[dG (by rw[bz (by rw[c2,h2])];rfl)]
  rfl
 |false =>
 rw[fj (by rw[c2,h2])]
 have c3:(jB (au qz (ae (ag ak (jV 0) (jV 6)) (ae (jV 1) ah)))) [some (.al,.lst (rs.map Row.d)),some (.al,aw q),some (.al,.int (k:Int)),some (.al,bX s),some (.al,.dt dw),some (.al,.dt dv),some (.al,.int (n:Int)),none]=some (cN (kn rs) r k):=by
  simp -implicitDefEqProofs only [jB,au,ae,ah,ag,jV,gz,gy,id_eq,oq,de,ar,oy,mq,mn,Vq,bx,Ys]
 cases h3:cN (kn rs) r k with
 |true =>
  rw[dG (by rw[bz (by rw[c3,h3])];rfl)]
  simp[out]
 |false =>
 rw[fj (by rw[c3,h3])]
 have ef:=yT rs n _ hr
 have er:bp n r=cG rs n:=by unfold cG;rw[hr]
 rw[er,rh g]at ef
 have L:=Eb (g:=gN 7) (b:=qh) (m:=.fr) (rm:=.fr) (rd:=.bl true) (ds:=ax (bP rs n)) (e:=[some (.al,.lst (rs.map Row.d)),some (.al,aw q),some (.al,.int (k:Int)),some (.al,bX s),some (.al,.dt dw),some (.al,.dt dv),some (.al,.int (n:Int)),none])
  (fun _ e=>∃o7,e=[some (.al,.lst (rs.map Row.d)),some (.al,aw q),some (.al,.int (k:Int)),some (.al,bX s),some (.al,.dt dw),some (.al,.dt dv),some (.al,.int (n:Int)),o7]) (fun i=>W ((bP rs n).getD i 0) k) ⟨none,rfl⟩
  (fun i d e hd a9 _=>by
   obtain⟨o7,he⟩:=a9
   subst he
   obtain⟨f,hf,rfl⟩:=GK hd
   have v:=vW _ (FI (ou g (dO hf)))
   have c4:(jB (ag aM (ag cT (ag jR (fS (jV 4) (aQ (ae (jV 6) (ae (jV 7) ah)))) (jV 2)) (jC (.int 1))) (jC (.int 0)))) [some (.al,.lst (rs.map Row.d)),some (.al,aw q),some (.al,.int (k:Int)),some (.al,bX s),some (.al,.dt dw),some (.al,.dt dv),some (.al,.int (n:Int)),some (.fr,.int (f:Int))]=some (!W f k):=by
    simp -implicitDefEqProofs only [jB,ag,fS,aQ,ae,ah,jV,jC,gz,gy,id_eq,oq,Xt,jU,ly,v,c9,Hw,and_1,iB,Hy hk,bx,Int.toNat_natCast]
   have hg:(bP rs n).getD i 0=f:=by rw[hU,hf];rfl
   refine⟨[some (.al,.lst (rs.map Row.d)),some (.al,aw q),some (.al,.int (k:Int)),some (.al,bX s),some (.al,.dt dw),some (.al,.dt dv),some (.al,.int (n:Int)),some (.fr,.int (f:Int))],rfl,?_⟩
   rw[hg]
   unfold qh
   cases hw:W f k with
   |true=>exact .inl ⟨rfl,_,by rw[bU (by rw[c4,hw];rfl)];rfl,_,rfl⟩
   |false=>exact .inr ⟨rfl,_,by rw[bz (by rw[c4,hw];rfl)];rfl⟩)
 have hF:aT (bF (au nW (ae (jV 0) (ae (jV 6) ah)))) (gN 7) qh [some (.al,.lst (rs.map Row.d)),some (.al,aw q),some (.al,.int (k:Int)),some (.al,bX s),some (.al,.dt dw),some (.al,.dt dv),some (.al,.int (n:Int)),none]=forL (gN 7) qh .fr (ax (bP rs n)) [some (.al,.lst (rs.map Row.d)),some (.al,aw q),some (.al,.int (k:Int)),some (.al,bX s),some (.al,.dt dw),some (.al,.dt dv),some (.al,.int (n:Int)),none]:=by
  simp -implicitDefEqProofs only [aT,bF,au,ae,ah,jV,gz,gy,id_eq,oq,mq,mn,ef,b9,oy]
 rw[fq]at L
 rcases L with⟨ha,e',l1,o7,rfl⟩|⟨⟨i,hi,hw⟩,e',l1⟩
 ·rw[av (hF.trans l1)]
  have:fW rs W (bP rs n) k=false:=by
   unfold fW
   rw[List.any_eq_false]
   intro f hf
   obtain⟨i,hi,rfl⟩:=List.mem_iff_getElem.mp hf
   have:=ha i hi
   rw[hU,dU hi]at this
   have this:W (bP rs n)[i] k=true:=this
   rw[this];simp
  rw[this];rfl
 ·rw[dG (hF.trans l1)]
  have:fW rs W (bP rs n) k=true:=by
   unfold fW
   rw[List.any_eq_true]
   refine⟨(bP rs n)[i],List.getElem_mem hi,?_⟩
   rw[hU,dU hi]at hw
   have hw:W (bP rs n)[i] k=false:=hw
   rw[hw];rfl
  rw[this];rfl
theorem Ni{κ:Type}[DecidableEq κ](ks:List (κ×D))(k:κ)(a b:D):putD (putD ks k a) k b=putD ks k b:=by
 by_cases h:(ks.any fun kv=>decide (kv.1=k))=true
 ·have e:putD ks k a=ks.map (fun kv=>if kv.1=k then (kv.1,a)else kv):=by unfold putD;rw[if_pos h]
  have h2:((ks.map (fun kv=>if kv.1=k then (kv.1,a)else kv)).any fun kv=>decide (kv.1=k))=true:=by
   rw[List.any_eq_true]at h ⊢
   obtain⟨x,hx,hk⟩:=h
   have hk:=bC hk
   exact⟨(x.1,a),bZ.mpr ⟨x,hx,if_pos hk⟩,decide_eq_true hk⟩
  rw[e]
  unfold putD
  rw[if_pos h2,if_pos h,List.map_map]
  refine List.map_congr_left fun x _=>?_
  show(if (if x.1=k then (x.1,a)else x).1=k then ((if x.1=k then (x.1,a)else x).1,b)else (if x.1=k then (x.1,a)else x))=_
  by_cases z:x.1=k
  ·simp[z]
  ·simp[z]
 ·have e:putD ks k a=ks++[(k,a)]:=by unfold putD;rw[if_neg h]
  rw[e]
  unfold putD
  rw[if_neg h,if_pos (by simp),List.map_append]
  have:ks.map (fun kv=>if kv.1=k then (kv.1,b)else kv)=ks:=by
   rw[List.any_eq_true]at h
   have hx:∀x∈ks,(fun kv=>if kv.1=k then (kv.1,b)else kv) x=id x:=fun x hx=>if_neg fun z=>h ⟨x,hx,decide_eq_true z⟩
   rw[List.map_congr_left hx,List.map_id]
  rw[this]
  simp
theorem P8{κ:Type}[DecidableEq κ](ks:List (κ×D))(k:κ)(d:D):cB (putD ks k d) k=some d :=
 qB (fun kv bR e=>by
  rcases yD bR with⟨_,z⟩|rfl
  ·exact absurd e z
  ·rfl) (y9 ks k d (.inl rfl))
theorem Vt{rs:List Row}(g:Good rs)(hl:rs.length≤300){W:Nat→Nat→Bool}{S:Int→Nat→Bool}(e1:mz [.lst (rs.map Row.d)]=some (.un,.dt (bq (aJ rs rs.length) fun q=>bI (W q.2.toNat) (kn rs).length)))(e2:mv [.lst (rs.map Row.d)]=some (.un,.dt (bq (aJ rs rs.length) fun q=>bI (S q.1) (kn rs).length))) :
  oj [.lst (rs.map Row.d)]=some (.un,.dt (bq (aJ rs rs.length) fun q=>bI (cf rs W S q) (kn rs).length)):=by
 have hk:=jP rs
 have jZ:=mF rs rs.length
 have e3:=P6 (rs:=rs) (by omega)
 have e4:=Vs (rs:=rs) (by omega)
 have hF:∀(k:Nat) (q:De),(kn rs)[k]?=some q→∀s∈aJ rs rs.length,og [.lst (rs.map Row.d),aw q,.int (k:Int),bX s,.dt (bq (aJ rs rs.length) fun q=>bI (W q.2.toNat) (kn rs).length),.dt (bq (aJ rs rs.length) fun q=>bI (S q.1) (kn rs).length)]=some (.fr,.bl (cf rs W S s k)):=fun k q hq s hs=>P7 g hq hs
 generalize (bq (aJ rs rs.length) fun q=>bI (W q.2.toNat) (kn rs).length)=dw at e1 hF
 generalize (bq (aJ rs rs.length) fun q=>bI (S q.1) (kn rs).length)=dv at e2 hF
 obtain⟨e',l1,o4,o5,o6,he⟩:=cQ (g:=gN 4) (b:=uF) (m:=.fr) (ds:=cj (aJ rs rs.length)) (e:=[some (.al,.lst (rs.map Row.d)),some (.bo,.dt dw),some (.bo,.dt dv),some (.bo,.dt []),none,none,none])
  (fun i e=>∃o4 o5 o6,e=[some (.al,.lst (rs.map Row.d)),some (.bo,.dt dw),some (.bo,.dt dv),some (.bo,.dt (bq ((aJ rs rs.length).take i) fun q=>bI (cf rs W S q) (kn rs).length)),o4,o5,o6]) ⟨none,none,none,rfl⟩
  (fun i d e hd a9=>by
   obtain⟨o4,o5,o6,he⟩:=a9
   subst he
   obtain⟨s,hs,rfl⟩:=vt hd
   have hm:=dO hs
   have hi:i<(aJ rs rs.length).length:=(bB.mp hs).1
   have nR:=qQ (fun q=>bI (cf rs W S q) (kn rs).length) (aJ rs rs.length) i
   rw[List.take_add_one,hs,Option.toList_some]
   simp only[qI]
   generalize (bq ((aJ rs rs.length).take i) fun q=>bI (cf rs W S q) (kn rs).length)=d0 at nR
   have s1:d0.length<sizeLine:=dC (show _≤700 by omega) (by decide)
   have s2:∀x:D,(putD d0 (pK s) x).length<sizeLine:=fun x=>by
    have:=yC d0 (pK s) x
    exact dC (show _≤700 by omega) (by decide)
   obtain⟨Bu,l2,eR,cw,sO⟩:=cQ (g:=gT 2 (bG (gN 5) (bG (gN 6) dH))) (b:=uE) (m:=.fr) (ds:=bT ((kn rs).map aw)) (e:=[some (.al,.lst (rs.map Row.d)),some (.bo,.dt dw),some (.bo,.dt dv),some (.bo,.dt (putD d0 (pK s) (bI (fun j=>decide (j<0)&&cf rs W S s j) (kn rs).length))),some (.fr,bX s),o5,o6])
    (fun k e=>∃o5 o6,e=[some (.al,.lst (rs.map Row.d)),some (.bo,.dt dw),some (.bo,.dt dv),some (.bo,.dt (putD d0 (pK s) (bI (fun j=>decide (j<k)&&cf rs W S s j) (kn rs).length))),some (.fr,bX s),o5,o6]) ⟨o5,o6,rfl⟩
    (fun k d e hd a9=>by
     obtain⟨o5,o6,he⟩:=a9
     subst he
     obtain⟨q,hq,rfl⟩:=Ew hd
     have hkK:k<(kn rs).length:=(bB.mp hq).1
     have ef:=hF k q hq s hm
     refine⟨_,[some (.al,.lst (rs.map Row.d)),some (.bo,.dt dw),some (.bo,.dt dv),some (.bo,.dt (putD d0 (pK s) (bI (fun j=>decide (j<k+1)&&cf rs W S s j) (kn rs).length))),some (.fr,bX s),some (.fr,.int (k:Int)),some (.fr,aw q)],rfl,?_,_,_,rfl⟩
     show uE [some (.al,.lst (rs.map Row.d)),some (.bo,.dt dw),some (.bo,.dt dv),some (.bo,.dt (putD d0 (pK s) (bI (fun j=>decide (j<k)&&cf rs W S s j) (kn rs).length))),some (.fr,bX s),some (.fr,.int (k:Int)),some (.fr,aw q)]=_
     have hc:(jB (au og (ae (jV 0) (ae (jV 6) (ae (jV 5) (ae (jV 4) (ae (jV 1) (ae (jV 2) ah)))))))) [some (.al,.lst (rs.map Row.d)),some (.bo,.dt dw),some (.bo,.dt dv),some (.bo,.dt (putD d0 (pK s) (bI (fun j=>decide (j<k)&&cf rs W S s j) (kn rs).length))),some (.fr,bX s),some (.fr,.int (k:Int)),some (.fr,aw q)]=some (cf rs W S s k):=by
      simp -implicitDefEqProofs only [jB,au,ae,ah,jV,gz,gy,id_eq,oq,mq,mn,ef,bx]
     unfold uE
     cases hb:cf rs W S s k with
     |true =>
      rw[bz (by rw[hc,hb])]
      have e1:(.int ((2^k:Nat):Int):D)=bI (fun j=>decide (j=k)) (kn rs).length:=by
       unfold bI
       rw[yW hkK fun j _=>by simp]
      have e2:bI (fun j=>(decide (j<k)&&cf rs W S s j)||decide (j=k)) (kn rs).length=bI (fun j=>decide (j<k+1)&&cf rs W S s j) (kn rs).length:=iw fun j _=>by
       by_cases z:j=k
       ·subst z;simp[hb]
       ·have:decide (j<k+1)=decide (j<k):=by rw[Bool.eq_iff_iff,decide_eq_true_eq,decide_eq_true_eq];omega
        simp[z,this]
      simp -implicitDefEqProofs only [fY,ag,fS,jV,jC,gz,gy,id_eq,oq,jU,ly,P8,gU,yX (show k≤1000 by omega),e1,rG,e2,eV,if_true,hJ,own,s2,Ni,tz,tq]
     |false =>
      rw[bU (by rw[hc,hb])]
      have:bI (fun j=>decide (j<k)&&cf rs W S s j) (kn rs).length=bI (fun j=>decide (j<k+1)&&cf rs W S s j) (kn rs).length:=iw fun j _=>by
       by_cases z:j=k
       ·subst z;simp[hb]
       ·have:decide (j<k+1)=decide (j<k):=by rw[Bool.eq_iff_iff,decide_eq_true_eq,decide_eq_true_eq];omega
        rw[this]
      rw[this];rfl)
   subst sO
   have hE:(bT ((kn rs).map aw)).length=(kn rs).length:=by simp[bT]
   rw[hE,iw (p:=fun j=>decide (j<(kn rs).length)&&cf rs W S s j) (q:=cf rs W S s) fun j hj=>by rw[decide_eq_true hj,Bool.true_and]]at l2
   refine⟨_,[some (.al,.lst (rs.map Row.d)),some (.bo,.dt dw),some (.bo,.dt dv),some (.bo,.dt (putD d0 (pK s) (bI (cf rs W S s) (kn rs).length))),some (.fr,bX s),eR,cw],rfl,?_,_,_,_,rfl⟩
   show uF [some (.al,.lst (rs.map Row.d)),some (.bo,.dt dw),some (.bo,.dt dv),some (.bo,.dt d0),some (.fr,bX s),o5,o6]=_
   unfold uF
   rw[av (e':=[some (.al,.lst (rs.map Row.d)),some (.bo,.dt dw),some (.bo,.dt dv),some (.bo,.dt (putD d0 (pK s) (bI (fun j=>decide (j<0)&&cf rs W S s j) (kn rs).length))),some (.fr,bX s),o5,o6]) (by
    rw[iw (p:=fun j=>decide (j<0)&&cf rs W S s j) (q:=fun _=>false) fun j _=>by simp,←Hz]
    simp -implicitDefEqProofs only [fY,jV,jC,gz,gy,id_eq,oq,ly,eV,if_true,hJ,own,s1,tz,tq])]
   simp -implicitDefEqProofs only [aT,fQ,au,ae,jV,ah,gz,gy,oq,id_eq,mq,mn,e3,b9,oy]
   exact l2)
 subst he
 rw[oB,List.take_length]at l1
 unfold oj fn DS
 simp only[cq,bw,bA]
 rw[av (e':=[some (.al,.lst (rs.map Row.d)),some (.bo,.dt dw),none,none,none,none,none]) (by
  simp -implicitDefEqProofs only [aq,au,ae,ah,jV,gz,gy,id_eq,oq,mq,mn,e1,dR,tz,tq])]
 rw[av (e':=[some (.al,.lst (rs.map Row.d)),some (.bo,.dt dw),some (.bo,.dt dv),none,none,none,none]) (by
  simp -implicitDefEqProofs only [aq,au,ae,ah,jV,gz,gy,id_eq,oq,mq,mn,e2,dR,tz,tq])]
 rw[av (e':=[some (.al,.lst (rs.map Row.d)),some (.bo,.dt dw),some (.bo,.dt dv),some (.bo,.dt []),none,none,none]) rfl]
 rw[av (e':=[some (.al,.lst (rs.map Row.d)),some (.bo,.dt dw),some (.bo,.dt dv),some (.bo,.dt (bq (aJ rs rs.length) fun q=>bI (cf rs W S q) (kn rs).length)),o4,o5,o6]) (by
  simp -implicitDefEqProofs only [aT,bF,au,ae,ah,jV,gz,gy,id_eq,oq,mq,mn,e4,b9,oy]
  exact l1)]
 rfl
theorem Vu{m n:M}{ks:List (List Key×D)}:kE [(m,.dt ks),(n,.ty "dict")]=some (.fr,.bl true):=rfl
theorem D0{f:Int×Int→Int}{ls:List (List Key×D)}(hl:∀kv∈ls,kv.2=.int (f (j9 kv.1))):∀ks:List (List Key×D),(∀kv∈ks,kv∈ls)→mS ls ks=true
  |[],_=>rfl
  | (k,d)::r,h=>by
    have h1:=h (k,d) cv
    have hd:d=.int (f (j9 k)):=hl _ h1
    have hv:cB ls k=some (.int (f (j9 k))):=qB (fun kv bR e=>by rw[hl kv bR,e]) ⟨(k,d),h1,rfl⟩
    subst hd
    simp only[mS,hv,beq_self_eq_true,Bool.true_and]
    exact D0 hl r fun kv bR=>h kv (df _ bR)
theorem P9{f:Int×Int→Int}{ls:List (List Key×D)}(hl:∀kv∈ls,kv.2=.int (f (j9 kv.1))):mr [.dt ls,.dt ls]=some (.fr,.bl true):=by
 have iv:jW ls=true:=List.all_eq_true.mpr fun kv bR=>by rw[hl kv bR]
 have ne:pD (.al,.dt ls) (.al,.dt ls)=some (.fr,.bl false):=by
  simp only[pD,iv,and_self,if_true,D0 hl ls fun _ h=>h,beq_self_eq_true,Bool.and_self,Bool.not_true]
 unfold mr fn C3
 simp only[cq,bw,bA]
 rw[av (e':=[some (.al,.dt ls),some (.al,.dt ls),none]) (by
  rw[bU (by
   simp -implicitDefEqProofs only [cX,iG,jB,aO,ae,ah,ag,jV,jC,gz,gy,id_eq,oq,Vu,bx,oy,Bool.not_true,Bool.false_eq_true,if_false,ne])]
  rfl)]
 obtain⟨e',l1,o2,he⟩:=cQ (g:=gN 2) (b:=uk) (m:=.al) (ds:=ls.map (·.2)) (e:=[some (.al,.dt ls),some (.al,.dt ls),none])
  (fun _ e=>∃o2,e=[some (.al,.dt ls),some (.al,.dt ls),o2]) ⟨none,rfl⟩
  (fun i d e hd a9=>by
   obtain⟨o2,he⟩:=a9
   subst he
   obtain⟨kv,bR,rfl⟩:=bZ.mp (dO hd)
   rw[hl kv bR]
   refine⟨_,[some (.al,.dt ls),some (.al,.dt ls),some (.al,.int (f (j9 kv.1)))],rfl,?_,_,rfl⟩
   show uk [some (.al,.dt ls),some (.al,.dt ls),some (.al,.int (f (j9 kv.1)))]=_
   unfold uk
   rw[bU (by walk_at "ev")]
   rfl)
 subst he
 rw[av (e':=[some (.al,.dt ls),some (.al,.dt ls),o2]) (by
  simp -implicitDefEqProofs only [rD,gz,fK,if_true,BG,oq]
  exact l1)]
 rfl
theorem FJ{rs:List Row}(g:Good rs)(hl:rs.length≤300):∃ls:List (List Key×D),mB [.lst (rs.map Row.d)]=some (.un,.dt ls)∧oj [.lst (rs.map Row.d)]=some (.un,.dt ls)∧mr [.dt ls,.dt ls]=some (.fr,.bl true):=by
 obtain⟨W,e1⟩:=Oe g hl
 obtain⟨S,e2⟩:=MK g hl
 exact⟨_,Og g hl e1 e2,Vt g hl e1 e2,P9 (f:=fun q=>((bu (cf rs W S q) (kn rs).length:Nat):Int)) fun kv bR=>FH _ kv bR⟩
theorem Xu(ns:List Int):(J.cut ns (some 2) (some 22)).length≤40:=by
 unfold J.cut
 rw[List.length_take]
 refine Nat.le_trans (Nat.min_le_left _ _) ?_
 have h1:HT.aY ns.length ns.length (some 22)≤22:=by
  unfold HT.aY;simp;omega
 omega
theorem Oh{m:M}(ws:List Int):Hk (m,.lst (ws.map .int))=some (.un,.lst (ws.reverse.map .int)):=by
 show fO m (ws.map D.int).reverse=_
 rw[←List.map_reverse,Ep]
theorem Qa(ns:List Int)(hn:ns.length≤63):∃m,vL [.lst (ns.map .int)]=some (m,.bl true):=by
 have hc:=Xu ns
 obtain⟨rs,e1,g1,l1⟩:=Dr ns (J.cut ns (some 2) (some 22)) hc
 obtain⟨ro,e2,g2,l2⟩:=Dr ns (J.cut ns (some 2) (some 22)).reverse (by rw[List.length_reverse];exact hc)
 obtain⟨ls,w1,d1,r1⟩:=FJ g1 (by omega)
 obtain⟨lo,w2,d2,r2⟩:=FJ g2 (by omega)
 unfold vL fn Hq
 simp only[cq,bw,bA]
 rw[av (e':=[some (.al,.lst (ns.map .int)),some (.bo,.lst (rs.map Row.d)),none,none,none,none]) (by
  simp -implicitDefEqProofs only [aq,au,ae,ah,f9,ft,jV,jC,gz,gy,id_eq,oq,jJ,oy,yU,mq,mn,e1,dR,tz,tq])]
 rw[av (e':=[some (.al,.lst (ns.map .int)),some (.bo,.lst (rs.map Row.d)),some (.bo,.lst (ro.map Row.d)),none,none,none]) (by
  simp -implicitDefEqProofs only [aq,au,ae,ah,f9,vH,ft,bt,jV,jC,gz,gy,id_eq,oq,jJ,jN,oy,yU,if_true,Oh,mq,mn,e2,dR,tz,tq])]
 rw[av (e':=[some (.al,.lst (ns.map .int)),some (.bo,.lst (rs.map Row.d)),some (.bo,.lst (ro.map Row.d)),some (.bo,.dt ls),none,none]) (by
  simp -implicitDefEqProofs only [aq,au,ae,ah,jV,gz,gy,id_eq,oq,mq,mn,d1,dR,tz,tq])]
 rw[av (e':=[some (.al,.lst (ns.map .int)),some (.bo,.lst (rs.map Row.d)),some (.bo,.lst (ro.map Row.d)),some (.bo,.dt ls),some (.bo,.lst (rs.map Row.d)),none]) (by
  simp -implicitDefEqProofs only [aq,aO,ae,ah,jV,mQ,Uv,gz,gy,id_eq,oq,dR,tz,tq])]
 rw[av (e':=[some (.al,.lst (ns.map .int)),some (.bo,.lst (rs.map Row.d)),some (.bo,.lst (ro.map Row.d)),some (.bo,.dt ls),some (.bo,.lst (rs.map Row.d)),some (.bo,.dt ls)]) (by
  simp -implicitDefEqProofs only [aq,au,ae,ah,jV,gz,gy,id_eq,oq,mq,mn,w1,dR,tz,tq])]
 rw[av (e':=[some (.al,.lst (ns.map .int)),some (.bo,.lst (rs.map Row.d)),some (.bo,.lst (ro.map Row.d)),some (.bo,.dt ls),some (.bo,.lst (rs.map Row.d)),some (.bo,.dt ls)]) (by
  rw[bU (by
   simp -implicitDefEqProofs only [cX,iG,jB,au,ae,ah,ag,jV,gz,gy,id_eq,oq,mq,mn,r1,bx,oy,Bool.not_true,Bool.false_eq_true,if_false,Vc (Nc rs) (Nf rs)])]
  rfl)]
 rw[av (e':=[some (.al,.lst (ns.map .int)),some (.bo,.lst (rs.map Row.d)),some (.bo,.lst (ro.map Row.d)),some (.bo,.dt ls),some (.bo,.lst (rs.map Row.d)),some (.bo,.dt [])]) rfl]
 rw[av (e':=[some (.al,.lst (ns.map .int)),some (.bo,.lst (rs.map Row.d)),some (.bo,.lst (ro.map Row.d)),some (.bo,.dt ls),some (.bo,.lst []),some (.bo,.dt [])]) rfl]
 rw[av (e':=[some (.al,.lst (ns.map .int)),some (.bo,.lst (rs.map Row.d)),some (.bo,.lst (ro.map Row.d)),some (.bo,.dt ls),some (.bo,.lst []),some (.bo,.dt [])]) (by
  rw[bU (by
   simp -implicitDefEqProofs only [iG,jB,au,ae,ah,jV,gz,gy,id_eq,oq,mq,mn,w2,d2,r2,bx,oy,Bool.not_true])]
  rfl)]
 refine⟨.fr,?_⟩
 simp -implicitDefEqProofs only [aH,au,ae,ah,jV,gz,gy,id_eq,oq,mq,mn,w1,r1,oK]
end aN
namespace aN
open PySem PySem.Spec L2 My J
theorem walk {l:PySem.W.OpenLaw}{q:Program}{loose:List Str}{XP:(Str→Option Value)→Heap→Prop}{YP:World→Heap→Prop}{d:DefRec}{K:Params→PySem.W.Frag} (hn:l.most=some 63) (sx:d.params.defaults=[]) (hd:d.name = "law")
  (hY:∀(w:World) (h:Heap),YP w h→(K w.params).In h) (F:∀(w:World),C.xh (K w.params) wa∧C.xi (K w.params) bs∧C.xj (K w.params) gs) :
  PySem.W.WalkO q loose XP YP l.row.toRowW d [] (fun f vs=>PySem.call f vs) :=
 L2.QB (n:=63) (k:=7) (x := "_law_script") (CX:=fun _=>kY) (sp:=fun w=>nF (K w.params) 1 vL) hn (by decide) sx ⟨rfl,by decide,by decide⟩ hY (fun w mg fa h X G BZ=>C.Wx X G (hd▸BZ) (F w).2.1 (F w).2.2 (F w).1 ba ok e47 fun _ _ _ _ _ _ _ _=>.of_eq rfl) (fun _ _ a ns hl _ hS=>Ur hS (Qa ns hl)) fun _ _ _ _ _ z=>z
end aN
namespace PySem.W.Fast
def tw2623018028625509818:=0
def tw4814867114741197665:=0
def tw10645861561023531935:=0
def tw6316669011632301088:=0
def tw5750421120832472021:=0
def tw4032987631936232593:=0
def tw13581223762111891211:=0
def tw16644872606776520825:=0
def tw2116204788129733882:=0
def tw15472423264775199556:=0
def tw16429879757568124579:=0
def tw7981590695550379574:=0
def tw6589310510035853955:=0
def tw1603418008881728677:=0
def tw16762154614312272720:=0
def tw4890998108918475087:=0
def tw442643064816975720:=0
def tw14166048106181468145:=0
def tw891354092123667138:=0
def tw14346476358397198928:=0
def tw2347378782793639689:=0
def tw17364904479094949485:=0
def tw1687020411471814802:=0
def tw12603808970537222958:=0
def tw13162873004620466637:=0
def tw11793607157936292658:=0
def tw5737116482048685548:=0
def tw15278637161054367358:=0
def tw3321986689155075134:=0
def tw9029462324072118091:=0
def tw13050267325810819643:=0
def tw10513518985980123599:=0
def tw10349356626814061271:=0
def tw7014849213316395401:=0
def tw1939354903832287332:=0
def tw14890969058711701914:=0
def tw6910957556870239408:=0
def tw15895450720304128829:=0
def tw2331049242256738553:=0
def tw2137712963838013679:=0
def tw16313838014260747300:=0
def tw16230524980285458429:=0
def tw16877474796769329635:=0
def tw18066976801840255699:=0
def tw13367625039772998093:=0
def tw11868583494618302598:=0
def tw13105243889869540775:=0
def tw13167380366298320822:=0
def tw10134167070592143500:=0
def tw6768449136618343932:=0
def tw3205221273895307948:=0
def tw18427396953794780039:=0
def tw8789434352569355659:=0
def tw2046888272400520493:=0
def tw13669911950034454078:=0
def tw12911931290977398809:=0
def tw14163172611039894922:=0
def tw3253815380097206965:=0
def tw11299241833300625173:=0
def tw6128817272884338583:=0
def tw14787919458247011798:=0
def tw18353557353743281072:=0
def tw9691535418193224300:=0
def tw846898336042369155:=0
def tw13256055629183936767:=0
def tw11246705582416301527:=0
def tw807798361106195089:=0
def tw368744233725854034:=0
def tw6848488505332347190:=0
def tw2962213236594426376:=0
def tw12304441465259175802:=0
def tw7677838293777942996:=0
def tw8419468219608970575:=0
def tw17894134478520769199:=0
def tw12149211980155351311:=0
def tw14205812725475041850:=0
def tw644874538602384518:=0
def tw15885690336474949358:=0
def tw9963687071524046947:=0
def tw9396809318848065383:=0
def tw3642342503196802676:=0
def tw10375156744865177089:=0
def tw17681839696040243027:=0
def tw14994515336123096239:=0
def tw6394085553703000926:=0
def tw13839869088334123645:=0
def tw15712717553576221371:=0
def tw799749617598530403:=0
def tw3190286905577820239:=0
def tw2659830337147523369:=0
def tw13803134202575497295:=0
def tw11733595498744138526:=0
def tw18209416466247290316:=0
def tw15303022570045219681:=0
def tw8376078030681353862:=0
def tw3725232948083095793:=0
def tw2028278983992054166:=0
def tw14949357894030250758:=0
def tw3197480963697455100:=0
def tw2650767275604243881:=0
def tw14115125440360457065:=0
def tw12908760901157588058:=0
def tw3453402187526620608:=0
def tw6811324961520708614:=0
def tw14127272924428699623:=0
def tw10428119734951740947:=0
def tw963664576670667812:=0
def tw15565612835356519669:=0
def tw11621659232506793695:=0
def tw12492040969493881594:=0
def tw17353345964941140193:=0
def tw15492500298707518616:=0
def tw7280853024439486858:=0
def tw14977160574943340884:=0
def tw4591343292073144866:=0
def tw5346807825783885526:=0
def tw4792510894153309295:=0
def tw13964540207766043454:=0
def tw5492755922429698735:=0
def tw3546058497610530340:=0
def tw12574267180522681587:=0
def tw9746890752096193922:=0
def tw17057327773196565541:=0
def tw3774509155449369718:=0
def tw8743232559088263526:=0
def tw17364310535566244783:=0
def tw10448683901307074382:=0
def tw13057666329659274679:=0
def tw7594400553435415709:=0
def tw170115172601560748:=0
def tw15713858378676696133:=0
def tw1552569295031395076:=0
def tw17769466611042639496:=0
def tw10991352223012025378:=0
def tw17397656339858920612:=0
def tw686109262463404235:=0
def tw4560911723606906501:=0
def tw6784723172015402376:=0
def tw6706747863515080981:=0
def tw17929219995928614836:=0
def tw11603055002608614105:=0
def tw15413493319433377736:=0
def tw14269101438701662938:=0
def tw16539952342425801753:=0
def tw13185197737467505012:=0
def tw8587879334784698750:=0
def tw4256558940214280657:=0
def tw18302793800432317498:=0
def tw17553375747320383197:=0
def tw4414098859678730787:=0
def tw5936484401208937945:=0
def tw3341881665948306893:=0
def tw14874417945704384661:=0
def tw1933949310534296064:=0
def tw10728358491189413191:=0
def tw16425479932879523651:=0
def tw5919030290353746798:=0
def tw324836598577413576:=0
def tw8249235522410878694:=0
def tw11630782022409104444:=0
def tw258088248716979823:=0
def tw1160776960849358837:=0
def tw17075686604100833924:=0
def tw12217428026816635786:=0
def tw7853839244137826441:=0
def tw9379245882235126936:=0
def tw341008702553985550:=0
def tw9784029559962024288:=0
def tw3871689527999336351:=0
def tw4696549118021432276:=0
def tw5278991610605431658:=0
def tw13879806530852489129:=0
def tw3500831562936257379:=0
def tw15142474032546872448:=0
def tw9190303894136853068:=0
def tw8323229121308435902:=0
def tw296107857887152285:=0
def tw5471897615165152188:=0
def tw873801282212743853:=0
def tw9795602579550527145:=0
def tw12715342259046329397:=0
end PySem.W.Fast
open PySem PySem.W PyProof.Rows
set_option maxRecDepth 100000 in
set_option maxHeartbeats 0 in
theorem PySem.Challenge.cw_lazyhoist_k40_first_places_holds : PySem.Challenge.rw_lazyhoist_k40_first_places.Holds := by
  w_on; o_law; k_head; (case hw => w_witness2)
  k_fill
  refine aN.walk (l := PySem.Challenge.rw_lazyhoist_k40_first_places) rfl rfl rfl (fun w h Y => PySem.W.kIn_of Y) ?F
  case F =>
    intro w
    refine ⟨⟨(?_:C.DE _ "law" (aN.top 53)), (?_:C.DE _ "_law_due" (aN.top 52)), (?_:C.DE _ "_law_first" (aN.top 51)), (?_:C.DE _ "_law_right" (aN.top 50)), (?_:C.DE _ "_law_known" (aN.top 49)), (?_:C.DE _ "_law_changes" (aN.top 48)), (?_:C.DE _ "_law_has" (aN.top 47)), (?_:C.DE _ "_law_places" (aN.top 46)), (?_:C.DE _ "_law_program" (aN.top 44)), (?_:C.DE _ "_law_any_program" (aN.top 43)), (?_:C.DE _ "_law_mended" (aN.top 42)), (?_:C.DE _ "_law_comes_to" (aN.top 41)), (?_:C.DE _ "_law_followers" (aN.top 45)), (?_:C.DE _ "_law_any_row" (aN.top 40)), (?_:C.DE _ "_law_stairs" (aN.top 39)), (?_:C.DE _ "_law_with_else" (aN.top 38)), (?_:C.DE _ "_law_with_while" (aN.top 37)), (?_:C.DE _ "_law_goal" (aN.top 36)), (?_:C.DE _ "_law_rough" (aN.top 34)), (?_:C.DE _ "_law_number" (aN.top 35)), (?_:C.DE _ "_law_last" (aN.top 33)), (?_:C.DE _ "_law_row" (aN.top 32)), (?_:C.DE _ "_law_deeds" (aN.top 31)), (?_:C.DE _ "_law_operand" (aN.top 30)), (?_:C.DE _ "_law_names" (aN.top 29)), (?_:C.DE _ "_law_is_free" (aN.top 28)), (?_:C.DE _ "_law_mixed" (aN.top 27)), (?_:C.DE _ "_law_cell" (aN.top 26)), (?_:C.DE _ "firsts" (aN.top 23)), (?_:C.DE _ "starting_bits" (aN.top 24)), (?_:C.DE _ "wanted" (aN.top 20)), (?_:C.DE _ "unwanted_bits" (aN.top 21)), (?_:C.DE _ "standing" (aN.top 17)), (?_:C.DE _ "unstanding_bits" (aN.top 18)), (?_:C.DE _ "spread" (aN.top 15)), (?_:C.DE _ "changed_bits" (aN.top 14)), (?_:C.DE _ "reckoned_bits" (aN.top 13)), (?_:C.DE _ "every_bit" (aN.top 12)), (?_:C.DE _ "bits_of" (aN.top 11)), (?_:C.DE _ "turned" (aN.top 9)), (?_:C.DE _ "reckonings" (aN.top 8)), (?_:C.DE _ "places" (aN.top 7)), (?_:C.DE _ "all_followers" (aN.top 6)), (?_:C.DE _ "followers" (aN.top 5)), (?_:C.DE _ "changes" (aN.top 3)), (?_:C.DE _ "sets" (aN.top 2)), (?_:C.DE _ "reckoning_of" (aN.top 1)), trivial⟩, ⟨?qz0, ?qz1, ?qz2, ?qz3, ?qz4, ?qz5, ?qz6, ?qz7, ?qz8, ?qz9, trivial⟩, trivial⟩
    iterate 47 (refine' C.X9 ?a ?l ?c ?k; (case a => k_is); (case l => k_is); (case c => k_is); (case k => k_is))
    case qz0 => (show PySem.W.nsIn _ mainGlobals "bool" = some none); k_is
    case qz1 => (show PySem.W.nsIn _ mainGlobals "dict" = some none); k_is
    case qz2 => (show PySem.W.nsIn _ mainGlobals "enumerate" = some none); k_is
    case qz3 => (show PySem.W.nsIn _ mainGlobals "int" = some none); k_is
    case qz4 => (show PySem.W.nsIn _ mainGlobals "isinstance" = some none); k_is
    case qz5 => (show PySem.W.nsIn _ mainGlobals "len" = some none); k_is
    case qz6 => (show PySem.W.nsIn _ mainGlobals "list" = some none); k_is
    case qz7 => (show PySem.W.nsIn _ mainGlobals "max" = some none); k_is
    case qz8 => (show PySem.W.nsIn _ mainGlobals "range" = some none); k_is
    case qz9 => (show PySem.W.nsIn _ mainGlobals "sum" = some none); k_is
