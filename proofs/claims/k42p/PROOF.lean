import PyProof.Rows.All
import Wide.All
import OpenK.AllK
import Wide.FinOn
import Lean
import PyProof.EqAt
import PyProof.EqKinds
import PyProof.TupleCall
import PySem.Challenge.RW_lazyhoist_k42_live
set_option Elab.async false
set_option linter.all false
set_option maxRecDepth 100000
def aC:=@PySem.wpAny_bind
def aS:=@PySem.wpAny_pure
def aZ:=@Bool.false_ne_true
def a6:=@Nat.le_refl
def bt:=@of_decide_eq_true
def bu:=@List.mem_map
def bO:=@List.getElem?_eq_some_iff
def bP:=@Nat.le_trans
def bT:=@PySem.Heap.lt_size
def bV:=@List.mem_cons_self
def b9:=@List.mem_cons_of_mem
def cG:=@PySem.SeqAt.room_here
def cJ:=@List.mem_cons
def cU:=@List.mem_append
def cV:=@decide_eq_true
def df:=@decide_eq_false
def dw:=@PySem.Heap.get?_push_of_some
def dz:=@Nat.lt_of_le_of_lt
def dG:=@List.getElem?_map
def dN:=@List.mem_append_left
def dO:=@List.length_append
def eC:=@List.getElem?_set_ne
def eU:=@List.getElem?_eq_getElem
def fj:=@List.mem_append_right
def fm:=@List.mem_of_getElem?
namespace L2
open PySem PySem.Spec PyProof.Rows
inductive Key where|inl (i:Int)|inr (x:Str)|non
 deriving DecidableEq
noncomputable def Fu:Value→Bool
 |.none=>true
 |_=>false
theorem Mh{v:Value}(h:Fu v=true):v=.none:=by cases v<;>first|rfl|cases h
noncomputable def nG:Key→Value→Bool
 |.inl k,v=>Value.isInt k v
 |.inr x,v=>Value.isStrOf x v
 |.non,v=>Fu v
noncomputable def Vf(w:World):Key→Int
 |.inl k=>hashInt k
 |.inr x=>hashStr w x
 |.non=>4238894112
theorem jw:∀{k:Key}{v:Value},nG k v=true→(∃i t,k=.inl i∧v=Value.int i t)∨(∃x t,k=.inr x∧v=Value.str x t)∨(k=.non∧v=.none)
 |.inl i,v,h=>by
  obtain⟨t,e⟩:=Value.isInt_shape (k:=i) (v:=v) h
  exact .inl ⟨i,t,rfl,e⟩
 |.inr x,v,h=>by
  obtain⟨t,e⟩:=Value.isStrOf_shape (x:=x) (v:=v) h
  exact .inr (.inl ⟨x,t,rfl,e⟩)
 |.non,v,h=>.inr (.inr ⟨rfl,Mh h⟩)
theorem Lb(i:Int)(t:Tok):nG (.inl i) (.int i t)=true:=by simp[nG,Value.isInt]
theorem Lc(x:Str)(t:Tok):nG (.inr x) (.str x t)=true:=by simp[nG,Value.isStrOf]
theorem Qq(a b:Int):decide ((Key.inl a:Key)=.inl b)=(a==b):=by
 by_cases e:a=b
 ·subst e;simp
 ·rw[df fun q=>e (Key.inl.inj q)]
  exact(beq_eq_false_iff_ne.mpr e).symm
theorem Qr(a b:Str):decide ((Key.inr a:Key)=.inr b)=decide (a=b):=by
 by_cases e:a=b
 ·subst e;simp
 ·rw[df fun q=>e (Key.inr.inj q),df e]
theorem Ld{prog:Program}{w:World}{A:Around}{E:Value→Shared→Prop}{s:Shared}{Q:Int→Shared→Prop}(h:Q 4238894112 { s with toks:=s.toks+1 }):wpAny (model prog w) A (PySem.pyHash .none) Q E s:=by
 unfold PySem.pyHash
 have hv:[Value.none].any Value.onHeap=false:=rfl
 refine aC ?_
 rw[cRoomFor,if_neg (by rw[hv];exact aZ)];refine aS ?_
 refine aC (wpAny_specialOf (typeIs_none s) PySem.F.slot_NoneType_hash.lookup ?_)
 show wpAny _ _ (if (some (Value.builtin "NoneType.__hash__")==some Value.none)=true then _ else _) Q E s
 rw[if_neg (by rw[beq_builtin_none];exact aZ)]
 refine aC (wpAny_specialOf (typeIs_none s) PySem.F.slot_NoneType_hash.lookup ?_)
 show wpAny _ _ (callSpecialIfBoundUnlessNone? .none "__hash__" _ >>= _) Q E s
 refine aC (wpAny_callSpecialIfBoundUnlessNone?_slot (typeIs_none s) PySem.F.slot_NoneType_hash
  (wpAny_call_entry PySem.F.slot_NoneType_hash (typeIs_none s) PySem.F.entry_NoneType_hash
   (show wpAny _ _ (do ret (←mkInt 4238894112)) _ _ s from wpAny_ret_mkInt ?_) (PySem.F.args_NoneType_hash_1 _)))
 exact aS h
noncomputable def cZ(prog:Program)(w:World):PySem.KeyKind prog w Key where
 is:=nG
 hash:=Vf w
 inj:=fun v a b ha hb=>by
  rcases jw ha with⟨i,t,rfl,rfl⟩|⟨x,t,rfl,rfl⟩|⟨rfl,rfl⟩<;>rcases jw hb with⟨j,u,rfl,e⟩|⟨y,u,rfl,e⟩|⟨rfl,e⟩<;>first|rfl | (injection e with e1 _;rw[e1];done) | (cases e;done)
 byValue:=fun k v h=>by
  rcases jw h with⟨i,t,rfl,rfl⟩|⟨x,t,rfl,rfl⟩|⟨rfl,rfl⟩<;>rfl
 pyHash:=fun hv h=>by
  rcases jw hv with⟨i,t,rfl,rfl⟩|⟨x,t,rfl,rfl⟩|⟨rfl,rfl⟩
  ·exact wpAny_pyHash_int h
  ·exact wpAny_pyHash_str h
  ·exact Ld h
 eqBool:=fun hu hv h=>by
  rcases jw hu with⟨i,t,rfl,rfl⟩|⟨x,t,rfl,rfl⟩|⟨rfl,rfl⟩
  ·rcases jw hv with⟨j,u,rfl,rfl⟩|⟨y,u,rfl,rfl⟩|⟨rfl,rfl⟩
   ·rw[Qq]at h;exact wpAny_eqBool_int h
   ·exact SeqAt.EqAt.int_str i t y u _ _ _ _ h
   ·exact SeqAt.EqAt.int_none i t _ _ _ _ h
  ·rcases jw hv with⟨j,u,rfl,rfl⟩|⟨y,u,rfl,rfl⟩|⟨rfl,rfl⟩
   ·exact SeqAt.EqAt.str_int x t j u _ _ _ _ h
   ·rw[Qr]at h;exact wpAny_eqBool_str h
   ·exact SeqAt.EqAt.str_none x t _ _ _ _ h
  ·rcases jw hv with⟨j,u,rfl,rfl⟩|⟨y,u,rfl,rfl⟩|⟨rfl,rfl⟩
   ·exact SeqAt.EqAt.none_int j u _ _ _ _ h
   ·exact SeqAt.EqAt.none_str y u _ _ _ _ h
   ·exact SeqAt.EqAt.same .none _ _ _ _ h
 «strs»:=fun k x t v h=>by
  rcases jw h with⟨i,u,rfl,e⟩|⟨y,u,rfl,e⟩|⟨rfl,e⟩
  ·exact nomatch e
  ·injection e with e1 _
   subst e1
   cases v<;>rfl
  ·exact nomatch e
theorem Kn(prog:Program)(w:World)(i:Int)(t:Tok):(cZ prog w).is (.inl i) (.int i t)=true:=Lb i t
theorem Kp(prog:Program)(w:World)(x:Str)(t:Tok):(cZ prog w).is (.inr x) (.str x t)=true:=Lc x t
theorem Kq(prog:Program)(w:World):(cZ prog w).is .non .none=true:=rfl
inductive V where
 |non|bl (b:Bool)|int (i:Int)|str (x:Str)|fN (b:Array UInt8)|qC (b:UInt64)|ref (a:Addr)|ty (n:String)
 deriving DecidableEq
noncomputable def RelV:V→Value→Prop
 |.non,u=>u=Value.none
 |.bl b,u=>u=Value.bool b
 |.int i,u=>∃t,u=Value.int i t
 |.str x,u=>∃t,u=Value.str x t
 |.fN b,u=>∃t,u=Value.bytes b t
 |.qC b,u=>∃t,u=Value.float b t
 |.ref a,u=>u=Value.ref a
 |.ty n,u=>u=Value.type n
abbrev Vals:List V→List Value→Prop:=Paired RelV
theorem Vals.length{xs:List V}{us:List Value}(r:Vals xs us):xs.length=us.length:=Paired.length r
theorem Vals.get:∀{xs:List V}{us:List Value}{i:Nat}{x:V},Vals xs us→xs[i]?=some x→∃u,us[i]?=some u∧RelV x u
 |_,_,_,_,.nil,e=>by simp at e
 |_,_,0,_,.cons r _,e=>by simp at e;subst e;exact⟨_,rfl,r⟩
 |_,_,i+1,x,.cons _ t,e=>by
  obtain⟨u,h1,h2⟩:=Vals.get (i:=i) (x:=x) t (by simpa using e)
  exact⟨u,by simpa using h1,h2⟩
theorem Vals.set{x:V}{u:Value}(r:RelV x u):∀{xs:List V}{us:List Value} (i:Nat),Vals xs us→Vals (xs.set i x) (us.set i u)
 |_,_,_,.nil=>.nil
 |_,_,0,.cons _ t=>.cons r t
 |_,_,i+1,.cons q t=>.cons q (Vals.set r i t)
theorem Vals.append:∀{xs ys:List V}{us ws:List Value},Vals xs us→Vals ys ws→Vals (xs++ys) (us++ws)
 |_,_,_,_,.nil,s=>s
 |_,_,_,_,.cons r t,s=>.cons r (Vals.append t s)
theorem Vals.take:∀{xs:List V}{us:List Value} (n:Nat),Vals xs us→Vals (xs.take n) (us.take n)
 |_,_,0,_=>.nil
 |_,_,_+1,.nil=>.nil
 |_,_,n+1,.cons r t=>.cons r (Vals.take n t)
theorem Vals.drop:∀{xs:List V}{us:List Value} (n:Nat),Vals xs us→Vals (xs.drop n) (us.drop n)
 |_,_,0,r=>r
 |_,_,_+1,.nil=>.nil
 |_,_,n+1,.cons _ t=>Vals.drop n t
noncomputable def kz:Option V→Option Value→Prop
 |some v,some u=>RelV v u
 |none,none=>True
 |_,_=>False
def KV{κ:Type}:List (κ×V)→List (κ×Value)→Prop:=Paired fun(p:κ×V) (q:κ×Value)=>p.1=q.1∧RelV p.2 q.2
noncomputable def kV:Key→V
 |.inl i=>.int i
 |.inr x=>.str x
 |.non=>.non
inductive HO where
 |lst (xs:List V)
 |tup (xs:List V)
 |dK (ai:List (Key×V))|dT (ai:List (List Key×V))
 |set (S:Int→Bool) (n:Nat)
 |ins (C dx:Addr) (fs:List (Str×V))
 |own (x:Addr)
 |xd (fs:List (Str×V))
 |met (f x:Addr)
 |bY (lo hi:Int)
 |cw (o:Obj) (u:HO)
 |mj (ps:Array Value)
 |ext (φ:Heap→Prop)
noncomputable abbrev Hp:=Addr→Option HO
noncomputable def upd(H:Hp)(a:Addr)(o:HO):Hp:=fun b=>if b=a then some o else H b
theorem bF{H:Hp}{a:Addr}{o:HO}:upd H a o a=some o:=by unfold upd;rw[if_pos rfl]
theorem aP{H:Hp}{a b:Addr}{o:HO}(h:b≠a):upd H a o b=H b:=by unfold upd;rw[if_neg h]
theorem Tb{H:Hp}{a b:Addr}{o u:HO}(h:H a=some o)(h':H b=some u)(d:o≠u):a≠b:=by
 intro e;subst e;rw[h]at h';exact d (Option.some.inj h')
theorem dm{H:Hp}{a b:Addr}{o:HO}(h:H a=some o)(h':H b=none):a≠b:=by
 intro e;subst e;rw[h]at h';cases h'
def iZ(h:Heap)(a:Addr)(items:Array Value):Prop:=∃o,h.get? a=some o∧o.cls=.type "tuple" ∧ o.dict=none∧∃n,o.data=.seq items n
theorem iZ.tup{h:Heap}{a:Addr}{items:Array Value}(q:iZ h a items):IsTup h a items:=let ⟨o,h1,h2,_,h3⟩:=q;⟨o,h1,h2,h3⟩
theorem iZ.new(h:Heap)(items:Array Value):iZ (h.push { cls:=.type "tuple",data:=.seq items }) h.objs.size items:=⟨_,Heap.get?_push_size _ rfl,rfl,rfl,_,rfl⟩
section
variable (P:Program)(w:World)
noncomputable def cM(H:Hp)(h:Heap)(a:Addr):HO→Prop
 |.lst xs=>xs.length≤sizeLine∧∃(its:List Value) (n:Nat),Vals xs its∧h.get? a=some { cls:=.type "list",data:=.seq its.toArray n }
 |.tup xs=>xs.length≤sizeLine∧∃its:List Value,Vals xs its∧iZ h a its.toArray
 |.dK ai=>ai.length≤sizeLine∧(a==sysModules)=false∧∃vs,KV ai vs∧h.DictOf (cZ P w) a vs
 |.dT ai=>ai.length≤sizeLine∧(a==sysModules)=false∧∃xs:List (List Key×Addr×Value),
  Paired (fun(p:List Key×V) (q:List Key×Addr×Value)=>p.1=q.1∧H q.2.1=some (.tup (p.1.map kV))∧RelV p.2 q.2.2) ai xs ∧
  ∃o es ep,h.get? a=some o∧o.ExactDict∧o.data=.dict es ep∧es.toList=xs.map (entryOfKey (tupleKind (cZ P w)))∧(xs.map (·.1)).Nodup
 |.set S n=>h.SetOf (intKind P w) a S n
 |.ins C dx fs=>H dx=some (.own a)∧fs.length≤1000∧dx≠a∧h.get? a=some (PySem.W.instObj C dx) ∧
  ∃mA,h.Ns1 dx mA∧(∀f,kz (fs.lookup f) (mA f))∧PySem.Within mA (fs.map (·.1))
 |.own _=>∃o,h.get? a=some o
 |.xd fs=>∃mA,h.Ns1 a mA∧∀f,kz (fs.lookup f) (mA f)
 |.bY lo hi=>∃t u v,h.get? a=some { cls:=.type "range",data:=.fields #[.int lo t,.int hi u,.int 1 v] }
 |.cw o u=>h.get? a=some o∧cM H h a u
 |.mj ps=>h.get? a=some { cls:=.none,data:=.fields ps }
 |.met f x=>h.get? a=some (PySem.W.methodObj (.ref f) (.ref x))
 |.ext φ=>φ h∧(∃o,h.get? a=some o)∧∀h1 h2:Heap,φ h1→(∀o,h1.get? a=some o→h2.get? a=some o)→φ h2
def cy(H:Hp)(h:Heap):Prop:=∀a o,H a=some o→cM P w H h a o
end
section
variable {P:Program}{w:World}{H H':Hp}{h h':Heap}{a:Addr}{o:HO}
theorem cM.lt(x:cM P w H h a o):a<h.objs.size:=by
 cases o with
 |lst xs=>obtain⟨_,_,_,_,e⟩:=x;exact bT e
 |tup xs=>obtain⟨_,_,_,p⟩:=x;exact p.tup.lt
 |dK ai=>obtain⟨_,_,_,_,o,_,_,e,_⟩:=x;exact bT e
 |dT ai=>obtain⟨_,_,_,_,o,_,_,e,_⟩:=x;exact bT e
 |set S n=>obtain⟨o,_,_,_,e,_⟩:=x;exact bT e
 |ins C dx fs=>obtain⟨_,_,_,e,_⟩:=x;exact bT e
 |own y=>obtain⟨_,e⟩:=x;exact bT e
 |xd fs=>obtain⟨_,⟨_,_,_,e,_⟩,_⟩:=x;exact bT e
 |bY lo hi=>obtain⟨_,_,_,e⟩:=x;exact bT e
 |cw ob u=>obtain⟨e,_⟩:=x;exact bT e
 |mj ps=>exact bT (show h.get? a=some _ from x)
 |met f y=>exact bT (show h.get? a=some _ from x)
 |ext φ=>obtain⟨_,⟨_,e⟩,_⟩:=x;exact bT e
theorem Paired.y4{α β:Type}{F G:α→β→Prop}:∀{l₁:List α}{l₂:List β},Paired F l₁ l₂→(∀a b,F a b→G a b)→Paired G l₁ l₂
 |_,_,.nil,_=>.nil
 |_,_,.cons r t,f=>.cons (f _ _ r) (Paired.y4 t f)
theorem cM.lS(x:cM P w H h a o)(k:∀b u,(b=a∨H b=some (.own a))→h.get? b=some u→h'.get? b=some u)
  (ho:∀b,H b=some (.own a)→H' b=some (.own a)) (ht:∀b xs,H b=some (.tup xs)→H' b=some (.tup xs)):cM P w H' h' a o:=by
 induction o with
 |lst xs=>obtain⟨z,its,n,r,e⟩:=x;exact⟨z,its,n,r,k _ _ (.inl rfl) e⟩
 |tup xs=>obtain⟨z,its,r,ob,e,c⟩:=x;exact⟨z,its,r,ob,k _ _ (.inl rfl) e,c⟩
 |dK ai=>obtain⟨z,y,vs,r,ob,es,ep,e,c⟩:=x;exact⟨z,y,vs,r,ob,es,ep,k _ _ (.inl rfl) e,c⟩
 |dT ai =>
  obtain⟨z,y,xs,r,ob,es,ep,e,c⟩:=x
  exact⟨z,y,xs,Paired.y4 r fun p q z=>⟨z.1,ht _ _ z.2.1,z.2.2⟩,ob,es,ep,k _ _ (.inl rfl) e,c⟩
 |set S n=>obtain⟨ob,es,ep,t,e,c⟩:=x;exact⟨ob,es,ep,t,k _ _ (.inl rfl) e,c⟩
 |ins C dx fs =>
  obtain⟨d,z,ne,e,mA,⟨od,es,ep,e2,c⟩,r⟩:=x
  exact⟨ho _ d,z,ne,k _ _ (.inl rfl) e,mA,⟨od,es,ep,k _ _ (.inr d) e2,c⟩,r⟩
 |own y=>obtain⟨ob,e⟩:=x;exact⟨ob,k _ _ (.inl rfl) e⟩
 |xd fs=>obtain⟨mA,⟨od,es,ep,e,c⟩,r⟩:=x;exact⟨mA,⟨od,es,ep,k _ _ (.inl rfl) e,c⟩,r⟩
 |bY lo hi=>obtain⟨t,u,v,e⟩:=x;exact⟨t,u,v,k _ _ (.inl rfl) e⟩
 |cw ob u ih=>obtain⟨e,q⟩:=x;exact⟨k _ _ (.inl rfl) e,ih q⟩
 |mj ps =>
  have e:h.get? a=some { cls:=.none,data:=.fields ps }:=x
  show h'.get? a=some { cls:=.none,data:=.fields ps }
  exact k a _ (.inl rfl) e
 |met f y =>
  have e:h.get? a=some (PySem.W.methodObj (.ref f) (.ref y)):=x
  show h'.get? a=some (PySem.W.methodObj (.ref f) (.ref y))
  exact k a _ (.inl rfl) e
 |ext φ=>obtain⟨p,⟨o,e⟩,st⟩:=x;exact⟨st _ _ p fun o q=>k _ _ (.inl rfl) q,⟨o,k _ _ (.inl rfl) e⟩,st⟩
theorem cy.lt(x:cy P w H h)(e:H a=some o):a<h.objs.size:=(x a o e).lt
theorem cy.fresh(x:cy P w H h)(e:h.objs.size≤a):H a=none:=by
 cases q:H a with
 |none=>rfl
 |some u=>exact absurd (Nat.lt_of_lt_of_le (x.lt q) e) (Nat.lt_irrefl _)
theorem cy.kept(x:cy P w H h)(k:∀b u,h.get? b=some u→h'.get? b=some u):cy P w H h':=fun a o e =>
 (x a o e).lS (fun b u _ q=>k b u q) (fun _ q=>q) fun _ _ q=>q
theorem cy.laid(x:cy P w H h)(k:∀b u,h.get? b=some u→h'.get? b=some u)(hp:h.objs.size≤a)(new:cM P w (upd H a o) h' a o):cy P w (upd H a o) h':=fun b u e=>by
 have hn:=x.fresh hp
 by_cases hb:b=a
 ·subst hb;rw[bF]at e;cases e;exact new
 ·rw[aP hb]at e
  exact(x b u e).lS (fun c v _ q=>k c v q) (fun c q=>by rw[aP (dm q hn)];exact q) fun c xs q=>by rw[aP (dm q hn)];exact q
end
def Rd(H:Hp)(a:Addr)(u:HO):Prop:=H a=some u∨∃o,H a=some (.cw o u)
theorem Rd.ok{P:Program}{w:World}{H:Hp}{h:Heap}{a:Addr}{u:HO}(r:Rd H a u)(x:cy P w H h):cM P w H h a u:=by
 rcases r with r|⟨o,r⟩
 ·exact x a u r
 ·obtain⟨_,q⟩:=x a _ r
  exact q
noncomputable def qD:Option HO→Prop
 |some (.lst _)=>True
 |some (.dK _)=>True
 |some (.dT _)=>True
 |some (.set _ _)=>True
 |some (.ins _ _ _)=>True
 |some (.ext _)=>True
 |_=>False
section
variable {P:Program}{w:World}{H:Hp}{h h':Heap}{x e:Addr}{o':HO}
theorem cy.write(ok:cy P w H h)(mu:qD (H x))(he:e=x∨H e=some (.own x))(k:∀b u,b≠e→h.get? b=some u→h'.get? b=some u)(oa:∃u,h'.get? e=some u)
  (new:cM P w (upd H x o') h' x o'):cy P w (upd H x o') h':=fun b u q=>by
 have F8:∀c y,H c=some (.own y)→c≠x:=fun c y r z=>by subst z;rw[r]at mu;exact mu
 have Vg:∀c xs,H c=some (.tup xs)→c≠x:=fun c xs r z=>by subst z;rw[r]at mu;exact mu
 by_cases hb:b=x
 ·subst hb;rw[bF]at q;cases q;exact new
 ·rw[aP hb]at q
  by_cases jN:b=e
  ·have q':H b=some (.own x):=by
    rcases he with z|z
    ·exact absurd (jN.trans z) hb
    ·rw[jN];exact z
   rw[q]at q';cases q'
   obtain⟨v,hv⟩:=oa
   exact⟨v,by rw[jN];exact hv⟩
  ·refine(ok b u q).lS (fun c v hc r=>k c v ?_ r) (fun c r=>by rw[aP (F8 c b r)];exact r) fun c xs r=>by rw[aP (Vg c xs r)];exact r
   rcases hc with rfl|hc
   ·exact jN
   ·rintro rfl
    rcases he with z|z
    ·exact F8 c b hc z
    ·rw[hc]at z;cases z;exact hb rfl
end
structure Un (fs ex:List Addr)(H H':Hp)(h h':Heap):Prop where
 keep:∀b o,h.get? b=some o→H b=none→b∉fs→b∉ex→h'.get? b=some o
 slot:∀b o,h.get? b=some o→H b=none→b∈fs→b∉ex→∃sl,h'.get? b=some { o with slots:=sl }
 free:∀b o,h.get? b=some o→H b=none→b∉ex→H' b=none
 there:∀b o,h.get? b=some o→b∉ex→∃o',h'.get? b=some o'
 kC:∀b xs,H b=some (.tup xs)→H' b=some (.tup xs)
 jH:∀b o u,H b=some (.cw o u)→H' b=some (.cw o u)
 kE:∀b ps,H b=some (.mj ps)→∃more,H' b=some (.mj (ps++more))
section
variable {fs Wa ex YN:List Addr}{H H1 H2:Hp}{h h1 h2 h':Heap}{a x e:Addr}{o:HO}
theorem Un.any(u:Un fs ex H H1 h h1){b:Addr}{ob:Obj}(q:h.get? b=some ob)(n:H b=none)(hx:b∉ex):∃sl,h1.get? b=some { ob with slots:=sl }:=by
 by_cases hb:b∈fs
 ·exact u.slot b ob q n hb hx
 ·exact⟨ob.slots,u.keep b ob q n hb hx⟩
theorem Un.kept(k:∀b u,h.get? b=some u→h'.get? b=some u):Un fs ex H H h h' :=
 ⟨fun b ob q _ _ _=>k b ob q,fun b ob q _ _ _=>⟨ob.slots,k b ob q⟩,fun _ _ _ n _=>n,fun b ob q _=>⟨ob,k b ob q⟩,fun _ _ q=>q,fun _ _ _ q=>q,fun _ ps q=>⟨#[],by rw[q];simp⟩⟩
theorem Un.refl:Un fs ex H H h h:=Un.kept fun _ _ q=>q
theorem Un.laid(k:∀b u,h.get? b=some u→h'.get? b=some u)(hp:h.objs.size≤a)(hn:H a=none):Un fs ex H (upd H a o) h h' where
 keep:=fun b u q _ _ _=>k b u q
 slot:=fun b u q _ _ _=>⟨u.slots,k b u q⟩
 free:=fun b u q n _=>by rw[aP (Nat.ne_of_lt (Nat.lt_of_lt_of_le (bT q) hp))];exact n
 there:=fun b u q _=>⟨u,k b u q⟩
 kC:=fun b xs q=>by rw[aP (dm q hn)];exact q
 jH:=fun b u xs q=>by rw[aP (dm q hn)];exact q
 kE:=fun b ps q=>⟨#[],by rw[aP (dm q hn),q];simp⟩
theorem Un.write(mu:qD (H x))(he:e=x∨H e=some (.own x))(k:∀b u,b≠e→h.get? b=some u→h'.get? b=some u)(oa:∃u,h'.get? e=some u):Un fs ex H (upd H x o) h h':=by
 have hx:∀b,H b=none→b≠x:=fun b n z=>by subst z;rw[n]at mu;exact mu
 have hb:∀b,H b=none→b≠e:=fun b n z=>by
  subst z
  rcases he with r|r
  ·exact hx b n r
  ·rw[n]at r;cases r
 have hm:∀b u,H b=some u→¬qD (some u)→b≠x:=fun b u q nm z=>by subst z;rw[q]at mu;exact nm mu
 refine⟨fun b u q n _ _=>k b u (hb b n) q,fun b u q n _ _=>⟨u.slots,k b u (hb b n) q⟩,fun b u q n _=>by rw[aP (hx b n)];exact n,fun b u q _=>?_,
  fun b xs q=>by rw[aP (hm b _ q fun z=>z)];exact q,fun b u xs q=>by rw[aP (hm b _ q fun z=>z)];exact q,fun b ps q=>⟨#[],by rw[aP (hm b _ q fun z=>z),q];simp⟩⟩
 by_cases jN:b=e
 ·subst jN;exact oa
 ·exact⟨u,k b u jN q⟩
end
noncomputable def vx(h:Heap)(H:Hp):List Addr:=(List.range h.objs.size).filter fun a=>(H a).isSome
noncomputable def jI(h:Heap)(H:Hp):Heap:=PySem.W.hideAll h (vx h H)
theorem Le(h:Heap)(H:Hp):(jI h H).objs.size=h.objs.size:=PySem.W.hideAll_size _ _
theorem Mi{h:Heap}{H:Hp}{b:Addr}{o:Obj}(e:h.get? b=some o)(n:H b=none):(jI h H).get? b=some o :=
 PySem.W.hideAll_get _ e fun hm=>by
  have q:(H b).isSome=true:=(List.mem_filter.mp hm).2
  rw[n]at q;simp at q
theorem NZ{h:Heap}{H:Hp}{b:Addr}{o:Obj}(e:(jI h H).get? b=some o):h.get? b=some o∧H b=none:=by
 have e':h.get? b=some o:=PySem.W.of_hideAll (vx h H) e
 refine⟨e',?_⟩
 cases q:H b with
 |none=>rfl
 |some x =>
  have hm:b∈vx h H:=List.mem_filter.mpr ⟨List.mem_range.mpr (bT e'),by simp[q]⟩
  have z:(jI h H).get? b=none:=PySem.W.hideAll_none (vx h H) hm
  rw[z]at e;cases e
noncomputable def N0(g h:Heap)(L:Addr):List (Addr×Obj):=(List.range h.objs.size).filterMap fun a=>if a=L∨(g.get? a).isSome=true then none else (h.get? a).map fun o=>(a,o)
noncomputable def rest(g h:Heap)(L d:Addr):List (Addr×Obj):=(N0 g h L).filter fun p=>decide (p.1≠d)
structure Mod (K:PySem.W.Frag)(mg:Str→Option Value)(base:Heap):Prop where
 zV:K.In base
 glob:base.Ns mainGlobals mg
 blt:∃mb,base.Ns builtinsNs mb∧∀x:Str,x ≠ "__name__" → mb x=bootBuiltins x
 nolimit:base.NoLimit
structure Cx where
 prog:Program
 w:World
 K:PySem.W.Frag
 mg:Str→Option Value
 base:Heap
 A:Around
 N:List Str
 s₀:Shared
 H₀:Hp
 env:Env
 outer:List Env
 stack:List Env
 ex:List Addr
 fn:Str→Bool
 calm:Bool
 pn:List (Addr×Obj)
 xe:Value→Shared→Prop
noncomputable def hG(l:List Env):List Addr:=l.filterMap (·.frame)
noncomputable abbrev Cx.fs(X:Cx):List Addr:=hG X.outer
def vy(sc:Scope)(x:Str):Prop:=sc.names.lookup x=some .local∨sc.names.lookup x=some .cell∨sc.names.lookup x=some .free
def Loc(sc:Scope)(x:Str):Prop:=sc.names.lookup x=some .local∨sc.names.lookup x=some .cell
def Look(env:Env)(h:Heap)(m:Str→Option Value)(x:Str)(u:Value):Prop :=
 (env.kindOf x=some .local∧m x=some u)∨((env.kindOf x=some .cell∨env.kindOf x=some .free)∧∃c,env.cells.lookup x=some c∧h.IsCell c (some u))
structure Cx.Ok (X:Cx):Prop where
 mod:Mod X.K X.mg X.base
 kind:X.env.scope.kind=.function
 glob:X.env.globals=mainGlobals
 blt:X.env.builtins=builtinsNs
 above:X.s₀.heap.objs.size≤X.env.locals
 inj:∀x y c,X.env.cells.lookup x=some c→X.env.cells.lookup y=some c→x=y
 has:∀x,(X.env.kindOf x=some .cell∨X.env.kindOf x=some .free)→∃c,X.env.cells.lookup x=some c
 qE:∀x c,X.fn x=true→X.env.cells.lookup x=some c→X.s₀.heap.objs.size≤c
 hd:X.calm=true→X.A.handled=none
 frames:X.A.frames=some X.stack
 vz:X.stack=X.outer∨(X.stack=X.env::X.outer∧X.env.frame=some X.env.locals)
 Ho:∀b∈X.ex,b≠X.env.locals∧∀x c,X.env.cells.lookup x=some c→c≠b
 bs:∀b o,X.base.get? b=some o→X.s₀.heap.get? b=some o∧X.H₀ b=none
 jO:X.base.objs.size≤X.s₀.heap.objs.size
 qk:∀b o,X.base.get? b=some o→b∉X.ex
 uX:∀b∈X.ex,b∉X.fs
 iw:X.s₀.heap.FunFrames X.base X.outer
 og:∀b∈X.fs,X.H₀ b=none
structure Inv (X:Cx)(pins:List (Addr×Obj))(σ:List (Option V))(H:Hp)(s:Shared):Prop where
 ok:X.Ok
 os:s.os=X.s₀.os
 bare:AllBare s.gens
 base:Un X.fs X.ex X.H₀ H X.s₀.heap s.heap
 loc:∃m,s.heap.Ns X.env.locals m∧∀(i:Nat) (x:Str) (v:V),X.N[i]?=some x→σ[i]?=some (some v)→vy X.env.scope x→∃u,RelV v u∧Look X.env s.heap m x u
 cell:∀x c,X.env.cells.lookup x=some c→∃v,s.heap.IsCell c v
 free:H X.env.locals=none
 iq:∀x c,X.env.cells.lookup x=some c→H c=none
 pin:∀p∈X.pn++pins,s.heap.get? p.1=some p.2∧H p.1=none∧p.1≠X.env.locals∧p.1∉X.fs∧∀v,p.2.data≠.cell v
 aH:cy X.prog X.w H s.heap
 len:σ.length=X.N.length
section
variable {X:Cx}{pins:List (Addr×Obj)}{σ:List (Option V)}{H H':Hp}{s:Shared}{h':Heap}
theorem Cx.Ok.Vh(ok:X.Ok){b:Addr}{o:Obj}(e:X.base.get? b=some o):b∉X.fs:=fun hb=>by
 have:=(ok.iw.mem hb).1
 rw[e]at this;cases this
theorem Inv.bs(I:Inv X pins σ H s):∀b o,X.base.get? b=some o→s.heap.get? b=some o∧H b=none:=fun b o e =>
 ⟨I.base.keep b o (I.ok.bs b o e).1 (I.ok.bs b o e).2 (I.ok.Vh e) (I.ok.qk b o e),I.base.free b o (I.ok.bs b o e).1 (I.ok.bs b o e).2 (I.ok.qk b o e)⟩
theorem Inv.bk(I:Inv X pins σ H s):∀b o,X.base.get? b=some o→s.heap.get? b=some o:=fun b o e=>(I.bs b o e).1
theorem Inv.mod(I:Inv X pins σ H s):Mod X.K X.mg X.base:=I.ok.mod
theorem Inv.fO(I:Inv X pins σ H s):X.K.In s.heap:=I.ok.mod.zV.keeps I.bk
theorem Inv.fr(I:Inv X pins σ H s):∃m,Fr X.base X.env.locals s.heap m :=
 let ⟨m,hn,_⟩:=I.loc
 ⟨m,hn,I.bk,bP I.ok.jO I.ok.above⟩
theorem Inv.lt(I:Inv X pins σ H s):X.env.locals<s.heap.objs.size:=let ⟨_,hn,_⟩:=I.loc;hn.lt
theorem Inv.sz(I:Inv X pins σ H s):X.s₀.heap.objs.size≤s.heap.objs.size:=bP I.ok.above (Nat.le_of_lt I.lt)
theorem Inv.Vi(I:Inv X pins σ H s){a:Addr}(h:s.heap.objs.size≤a):a∉X.fs:=fun hb=>by
 obtain⟨_,o,ho,_⟩:=I.ok.iw.mem hb
 exact absurd (Nat.lt_of_lt_of_le (bT ho) (bP I.sz h)) (Nat.lt_irrefl _)
theorem Inv.ml(I:Inv X pins σ H s):∀x c,X.env.cells.lookup x=some c→c≠X.env.locals:=fun x c e z=>by
 obtain⟨v,o,ho,hd⟩:=I.cell x c e
 obtain⟨m,⟨o',es,ep,jP,Wb,_⟩,_⟩:=I.loc
 rw[z,jP]at ho;cases ho;rw[Wb]at hd;cases hd
theorem Inv.iw(I:Inv X pins σ H s):s.heap.FunFrames X.base X.outer:=by
 have all:∀(l:List Env),(∀b∈hG l,b∈X.fs)→X.s₀.heap.FunFrames X.base l→s.heap.FunFrames X.base l:=by
  intro l
  induction l with
  |nil=>intro _ _;trivial
  |cons env r ih =>
   intro hs hl
   obtain⟨hk,⟨L,o,hf,hn,ho,hd⟩,hr⟩:=hl
   have hL:L∈X.fs:=hs L (by unfold hG;rw[List.filterMap_cons,hf];exact bV)
   obtain⟨sl,e⟩:=I.base.slot L o ho (I.ok.og L hL) hL fun z=>I.ok.uX L z hL
   exact⟨hk,⟨L,_,hf,hn,e,hd⟩,ih (fun b hb=>hs b (by unfold hG;rw[List.filterMap_cons,hf];exact b9 _ hb)) hr⟩
 exact all X.outer (fun _ hb=>hb) I.ok.iw
theorem Inv.stack(I:Inv X pins σ H s):s.heap.FunFrames X.base X.stack:=by
 rcases I.ok.vz with e|⟨e,hf⟩
 ·rw[e];exact I.iw
 ·rw[e]
  obtain⟨m,hn,_⟩:=I.loc
  refine .cons (by rw[I.ok.kind];decide) hf hn ?_ I.iw
  exact Heap.get?_none_of_le (bP I.ok.jO I.ok.above)
theorem Inv.yi(I:Inv X pins σ H s):∀b∈hG X.stack,b∈X.env.locals::X.fs:=fun b hb=>by
 rcases I.ok.vz with e|⟨e,hf⟩
 ·rw[e]at hb;exact b9 _ hb
 ·rw[e]at hb
  unfold hG at hb
  rw[List.filterMap_cons,hf]at hb
  exact hb
theorem Inv.DN(I:Inv X pins σ H s):∀b∈hG X.stack,H b=none:=fun b hb=>by
 rcases cJ.mp (I.yi b hb)with e|hb
 ·rw[e];exact I.free
 ·obtain⟨_,o,ho,_⟩:=I.ok.iw.mem hb
  exact I.base.free b o ho (I.ok.og b hb) fun z=>I.ok.uX b z hb
theorem Inv.step{g':Array GenState}{t':Nat}{d':Drawn}{ch:List Addr}(I:Inv X pins σ H s)
  (hJ:∀b∈ch,(b∈X.ex∨X.s₀.heap.objs.size≤b)∧b≠X.env.locals∧(∀x c,X.env.cells.lookup x=some c→c≠b)∧∀p∈X.pn++pins,p.1≠b)
  (keep:∀b o,b≠X.env.locals→b∉X.fs→b∉ch→s.heap.get? b=some o→H b=none→h'.get? b=some o)
  (slot:∀b o,b≠X.env.locals→b∈X.fs→b∉ch→s.heap.get? b=some o→H b=none→∃sl,h'.get? b=some { o with slots:=sl }) (free:∀b o,b∉ch→s.heap.get? b=some o→H b=none→H' b=none)
  (there:∀b o,b∉ch→s.heap.get? b=some o→∃o',h'.get? b=some o')
  (kC:∀b xs,H b=some (.tup xs)→H' b=some (.tup xs)) (jH:∀b o u,H b=some (.cw o u)→H' b=some (.cw o u)) (kE:∀b ps,H b=some (.mj ps)→∃more,H' b=some (.mj (ps++more)))
  (ns:∀m,s.heap.Ns X.env.locals m→h'.Ns X.env.locals m) (aH:cy X.prog X.w H' h') (hg:AllBare g') :
  Inv X pins σ H' { s with heap:=h',gens:=g',drawn:=d',toks:=t' }:=by
 have jQ:∀b o,X.s₀.heap.get? b=some o→b≠X.env.locals:=fun b o e=>Nat.ne_of_lt (Nat.lt_of_lt_of_le (bT e) I.ok.above)
 have iE:∀b o,X.s₀.heap.get? b=some o→b∉X.ex→b∉ch:=fun b o e hx hb=>by
  rcases (hJ b hb).1 with z|z
  ·exact hx z
  ·exact absurd (Nat.lt_of_lt_of_le (bT e) z) (Nat.lt_irrefl _)
 have cellK:∀x c,X.env.cells.lookup x=some c→∀v,s.heap.IsCell c v→h'.IsCell c v:=fun x c e v ⟨o,ho,hd⟩=>by
  have qF:c∉ch:=fun z=>(hJ c z).2.2.1 x c e rfl
  by_cases hc:c∈X.fs
  ·obtain⟨sl,q⟩:=slot c o (I.ml x c e) hc qF ho (I.iq x c e)
   exact⟨_,q,hd⟩
  ·exact⟨o,keep c o (I.ml x c e) hc qF ho (I.iq x c e),hd⟩
 refine⟨I.ok,I.os,hg,⟨fun b o e n hb hx=>?_,fun b o e n hb hx=>?_,fun b o e n hx=>?_,fun b o e hx=>?_,fun b xs e=>kC b xs (I.base.kC b xs e),fun b o xs e=>jH b o xs (I.base.jH b o xs e),fun b ps e=>?_⟩,?_,fun x c e=>?_,?_,fun x c e=>?_,fun p hp=>?_,aH,I.len⟩
 ·exact keep b o (jQ b o e) hb (iE b o e hx) (I.base.keep b o e n hb hx) (I.base.free b o e n hx)
 ·obtain⟨sl,e1⟩:=I.base.slot b o e n hb hx
  obtain⟨Wc,e2⟩:=slot b _ (jQ b o e) hb (iE b o e hx) e1 (I.base.free b o e n hx)
  exact⟨Wc,e2⟩
 ·obtain⟨o',e1⟩:=I.base.there b o e hx
  exact free b o' (iE b o e hx) e1 (I.base.free b o e n hx)
 ·obtain⟨o',e1⟩:=I.base.there b o e hx
  exact there b o' (iE b o e hx) e1
 ·obtain⟨m1,e1⟩:=I.base.kE b ps e
  obtain⟨m2,e2⟩:=kE b _ e1
  exact⟨m1++m2,by rw[e2,Array.append_assoc]⟩
 ·obtain⟨m,hn,hl⟩:=I.loc
  refine⟨m,ns m hn,fun i x v e1 e2 e3=>?_⟩
  obtain⟨u,r,l⟩:=hl i x v e1 e2 e3
  refine⟨u,r,?_⟩
  rcases l with l|⟨k,c,e,z⟩
  ·exact .inl l
  ·exact .inr ⟨k,c,e,cellK x c e _ z⟩
 ·obtain⟨v,z⟩:=I.cell x c e
  exact⟨v,cellK x c e v z⟩
 ·obtain⟨m,⟨o,_,_,ho,_⟩,_⟩:=I.loc
  exact free _ o (fun z=>(hJ _ z).2.1 rfl) ho I.free
 ·obtain⟨v,o,ho,hd⟩:=I.cell x c e
  exact free c o (fun z=>(hJ c z).2.2.1 x c e rfl) ho (I.iq x c e)
 ·obtain⟨e,n,ne,nf,d⟩:=I.pin p hp
  have qF:p.1∉ch:=fun z=>(hJ p.1 z).2.2.2 p hp rfl
  exact⟨keep p.1 p.2 ne nf qF e n,free p.1 p.2 qF e n,ne,nf,d⟩
theorem Inv.un{t':Nat}(I:Inv X pins σ H s)(u:Un X.fs [] H H' s.heap h')(aH:cy X.prog X.w H' h'):Inv X pins σ H' { s with heap:=h',toks:=t' }:=by
 obtain⟨m,⟨o,es,ep,ho,r⟩,_⟩:=id I.loc
 obtain⟨sl,hL⟩:=u.any ho I.free (by simp)
 exact I.step (g':=s.gens) (d':=s.drawn) (ch:=[]) (fun _ z=>nomatch z) (fun b o _ hb _ e n=>u.keep b o e n hb (by simp)) (fun b o _ hb _ e n=>u.slot b o e n hb (by simp)) (fun b o _ e n=>u.free b o e n (by simp)) (fun b o _ e=>u.there b o e (by simp)) u.kC u.jH u.kE (fun m' hm=>by
  obtain⟨o',zW,zX,jP,r'⟩:=hm
  rw[ho]at jP;cases jP
  exact⟨_,zW,zX,hL,r'⟩) aH I.bare
theorem Inv.call{g':Array GenState}{t':Nat}{d':Drawn}{ch:List Addr}(I:Inv X pins σ H s)(u:Un (hG X.stack) ch H H' s.heap h')(aH:cy X.prog X.w H' h')(hg:AllBare g')
  (hJ:∀b∈ch,(b∈X.ex∨X.s₀.heap.objs.size≤b)∧b≠X.env.locals∧(∀x c,X.env.cells.lookup x=some c→c≠b)∧∀p∈X.pn++pins,p.1≠b) :
  Inv X pins σ H' { s with heap:=h',gens:=g',drawn:=d',toks:=t' }:=by
 obtain⟨m,⟨o,es,ep,ho,r⟩,_⟩:=id I.loc
 obtain⟨sl,hL⟩:=u.any ho I.free fun z=>(hJ _ z).2.1 rfl
 exact I.step (ch:=ch) hJ (fun b o hL hb hc e n=>u.keep b o e n (fun z=>(cJ.mp (I.yi b z)).elim hL hb) hc) (fun b o _ _ hc e n=>u.any e n hc) (fun b o hc e n=>u.free b o e n hc) (fun b o hc e=>u.there b o e hc) u.kC u.jH u.kE (fun m' hm=>by
  obtain⟨o',zW,zX,jP,r'⟩:=hm
  rw[ho]at jP;cases jP
  exact⟨_,zW,zX,hL,r'⟩) aH hg
theorem Inv.turned{t':Nat}{it:Addr}(I:Inv X pins σ H s)(k:∀b o,b≠it→s.heap.get? b=some o→h'.get? b=some o)(hn:H it=none)(hL:it≠X.env.locals)
  (h1:it∈X.ex∨X.s₀.heap.objs.size≤it) (h2:∀x c,X.env.cells.lookup x=some c→c≠it) (h3:∀p∈X.pn++pins,p.1≠it):Inv X pins σ H { s with heap:=h',toks:=t' }:=by
 have kZ:∀b u,H b=some u→b≠it:=fun b u e z=>by rw[z,hn]at e;cases e
 refine I.step (g':=s.gens) (d':=s.drawn) (ch:=[it]) (fun b hb=>?_) (fun b o _ _ hc e _=>k b o (fun z=>hc (by simp[z])) e) (fun b o _ _ hc e _=>⟨o.slots,k b o (fun z=>hc (by simp[z])) e⟩) (fun _ _ _ _ n=>n)
  (fun b o hc e=>⟨o,k b o (fun z=>hc (by simp[z])) e⟩) (fun _ _ e=>e) (fun _ _ _ e=>e) (fun b ps e=>⟨#[],by rw[e];simp⟩) (fun m hm=>?_) (fun b u e=>?_) I.bare
 ·have e:b=it:=by simpa using hb
  subst e
  exact⟨h1,hL,h2,h3⟩
 ·obtain⟨o,es,ep,ho,r⟩:=hm
  exact⟨o,es,ep,k _ o (Ne.symm hL) ho,r⟩
 ·refine(I.aH b u e).lS (fun c v hc q=>k c v ?_ q) (fun _ q=>q) fun _ _ q=>q
  rcases hc with z|z
  ·rw[z];exact kZ b u e
  ·exact kZ c _ z
theorem Inv.tok(I:Inv X pins σ H s)(t:Nat):Inv X pins σ H { s with toks:=t }:=I.un (h':=s.heap) (t':=t) Un.refl I.aH
theorem Inv.kept{t':Nat}(I:Inv X pins σ H s)(k:∀b u,s.heap.get? b=some u→h'.get? b=some u):Inv X pins σ H { s with heap:=h',toks:=t' }:=I.un (Un.kept k) (I.aH.kept k)
theorem Inv.laid{a:Addr}{o:HO}{t':Nat}(I:Inv X pins σ H s)(k:∀b u,s.heap.get? b=some u→h'.get? b=some u)(hp:s.heap.objs.size≤a)(new:cM X.prog X.w (upd H a o) h' a o) :
 Inv X pins σ (upd H a o) { s with heap:=h',toks:=t' }:=I.un (Un.laid k hp (I.aH.fresh hp)) (I.aH.laid k hp new)
theorem Inv.write{x e:Addr}{o:HO}{t':Nat}(I:Inv X pins σ H s)(mu:qD (H x))(he:e=x∨H e=some (.own x))(k:∀b u,b≠e→s.heap.get? b=some u→h'.get? b=some u)(oa:∃u,h'.get? e=some u)
 (new:cM X.prog X.w (upd H x o) h' x o):Inv X pins σ (upd H x o) { s with heap:=h',toks:=t' }:=I.un (Un.write mu he k oa) (I.aH.write mu he k oa new)
theorem Inv.weak{σ':List (Option V)}(I:Inv X pins σ H s)(hl:σ'.length=σ.length)(w:∀(i:Nat) v,σ'[i]?=some (some v)→σ[i]?=some (some v)):Inv X pins σ' H s :=
 ⟨I.ok,I.os,I.bare,I.base,let ⟨m,hn,mr⟩:=I.loc;⟨m,hn,fun i x v e1 e2 e3=>mr i x v e1 (w i v e2) e3⟩,I.cell,I.free,I.iq,I.pin,I.aH,hl.trans I.len⟩
theorem Inv.DP{Fv:List (Addr×Obj)}(I:Inv X pins σ H s)(h:∀p∈Fv,s.heap.get? p.1=some p.2∧H p.1=none∧p.1≠X.env.locals∧p.1∉X.fs∧∀v,p.2.data≠.cell v):Inv X Fv σ H s :=
 ⟨I.ok,I.os,I.bare,I.base,I.loc,I.cell,I.free,I.iq,fun p hp=>(cU.mp hp).elim (fun z=>I.pin p (dN _ z)) (h p),I.aH,I.len⟩
theorem pJ{N:List Str}(hN:N.Nodup){i j:Nat}{x:Str}(a:N[i]?=some x)(b:N[j]?=some x):i=j:=by
 obtain⟨h1,e1⟩:=bO.mp a
 obtain⟨h2,e2⟩:=bO.mp b
 exact(List.getElem_inj hN).mp (e1.trans e2.symm)
theorem xx{M:Model}{A:Around}{E:Value→Shared→Prop}{i:Nat}{x:Str}{v:V}{u:Value}{Q:Unit→Shared→Prop}(I:Inv X pins σ H s)(hN:X.N.Nodup)(hi:X.N[i]?=some x)(hx:Loc X.env.scope x)(r:RelV v u)
  (h:∀s',Inv X pins (σ.set i (some v)) H s'→(∃a,Heap.SameBut a s.heap s'.heap∧(a=X.env.locals∨X.env.cells.lookup x=some a))→Q () s') (hf:X.fn x=true∨X.env.scope.names.lookup x=some .local:=by first|exact .inl rfl|exact .inr rfl|assumption):wpAny M A (storeName X.env x u) Q E s:=by
 obtain⟨m,hn,hl⟩:=id I.loc
 have Vj:(X.env.scope.kind==.class||(X.env.scope.kind==.module&&X.env.locals != X.env.globals))=false:=by rw[I.ok.kind];rfl
 have F9:i<σ.length:=by rw[I.len];exact(bO.mp hi).1
 have ml:=I.ml
 have tracked:∀{a:Addr}{h':Heap},(∃o,s.heap.get? a=some o∧H a=none)→Heap.SameBut a s.heap h'→cy X.prog X.w H h':=fun {a h'} ha hs b ob e=>by
  obtain⟨_,_,uG⟩:=ha
  refine(I.aH b ob e).lS (fun c w' hc q=>(hs.2 c ?_).trans q) (fun _ q=>q) fun _ _ q=>q
  rintro rfl
  rcases hc with rfl|hc
  ·rw[uG]at e;cases e
  ·rw[uG]at hc;cases hc
 rcases hx with hk|hk
 ·refine wpAny_storeName_local hk hn (fun h' Wd hs=>?_) Vj
  obtain⟨oL,_,_,Wf,_⟩:=id hn
  refine h _ ⟨I.ok,I.os,I.bare,⟨fun b o e n hb hx=>?_,fun b o e n hb hx=>?_,I.base.free,fun b o e hx=>?_,I.base.kC,I.base.jH,I.base.kE⟩,⟨_,Wd,fun j y v' e1 e2 e3=>?_⟩,fun y c e=>?_,I.free,I.iq,fun p hp=>?_,tracked ⟨oL,Wf,I.free⟩ hs,by simpa using I.len⟩ ⟨_,hs,.inl rfl⟩
  ·exact(hs.2 b (Nat.ne_of_lt (Nat.lt_of_lt_of_le (bT e) I.ok.above))).trans (I.base.keep b o e n hb hx)
  ·obtain⟨sl,e1⟩:=I.base.slot b o e n hb hx
   exact⟨sl,(hs.2 b (Nat.ne_of_lt (Nat.lt_of_lt_of_le (bT e) I.ok.above))).trans e1⟩
  ·obtain⟨o',e1⟩:=I.base.there b o e hx
   exact⟨o',(hs.2 b (Nat.ne_of_lt (Nat.lt_of_lt_of_le (bT e) I.ok.above))).trans e1⟩
  ·by_cases hj:j=i
   ·subst hj
    rw[hi]at e1;cases e1
    rw[List.getElem?_set_self F9]at e2
    cases e2
    exact⟨u,r,.inl ⟨hk,by simp⟩⟩
   ·rw[eC (Ne.symm hj)]at e2
    obtain⟨u',r',q⟩:=hl j y v' e1 e2 e3
    refine⟨u',r',?_⟩
    rcases q with⟨k,e⟩|⟨k,c,e,z⟩
    ·refine .inl ⟨k,?_⟩
     have:y≠x:=fun e=>hj (pJ hN e1 (e▸hi))
     simp[this,e]
    ·exact .inr ⟨k,c,e,z.sameBut hs (ml y c e)⟩
  ·obtain⟨w',z⟩:=I.cell y c e
   exact⟨w',z.sameBut hs (ml y c e)⟩
  ·obtain⟨e,n,ne,nf,d⟩:=I.pin p hp
   exact⟨(hs.2 p.1 ne).trans e,n,ne,nf,d⟩
 ·have vA:X.fn x=true:=by
   rcases hf with z|z
   ·exact z
   ·rw[z]at hk;cases hk
  obtain⟨c,hc⟩:=I.ok.has x (.inl hk)
  obtain⟨w',z⟩:=I.cell x c hc
  refine wpAny_storeName_cell I.ok.kind hk hc z (fun h' qG hs=>?_)
  obtain⟨oc,Hq,Vk⟩:=id z
  refine h { s with heap:=h' } ⟨I.ok,I.os,I.bare,⟨fun b o e n hb hx=>?_,fun b o e n hb hx=>?_,I.base.free,fun b o e hx=>?_,I.base.kC,I.base.jH,I.base.kE⟩,⟨m,hn.sameBut hs (Ne.symm (ml x c hc)),fun j y v' e1 e2 e3=>?_⟩,fun y c' e=>?_,I.free,I.iq,fun p hp=>?_,tracked ⟨oc,Hq,I.iq x c hc⟩ hs,by simpa using I.len⟩ ⟨c,hs,.inr hc⟩
  ·exact(hs.2 b (Nat.ne_of_lt (Nat.lt_of_lt_of_le (bT e) (I.ok.qE x c vA hc)))).trans (I.base.keep b o e n hb hx)
  ·obtain⟨sl,e1⟩:=I.base.slot b o e n hb hx
   exact⟨sl,(hs.2 b (Nat.ne_of_lt (Nat.lt_of_lt_of_le (bT e) (I.ok.qE x c vA hc)))).trans e1⟩
  ·obtain⟨o',e1⟩:=I.base.there b o e hx
   exact⟨o',(hs.2 b (Nat.ne_of_lt (Nat.lt_of_lt_of_le (bT e) (I.ok.qE x c vA hc)))).trans e1⟩
  ·by_cases hj:j=i
   ·subst hj
    rw[hi]at e1;cases e1
    rw[List.getElem?_set_self F9]at e2
    cases e2
    exact⟨u,r,.inr ⟨.inl hk,c,hc,qG⟩⟩
   ·rw[eC (Ne.symm hj)]at e2
    obtain⟨u',r',q⟩:=hl j y v' e1 e2 e3
    refine⟨u',r',?_⟩
    rcases q with q|⟨k,c',e,z'⟩
    ·exact .inl q
    ·refine .inr ⟨k,c',e,z'.sameBut hs ?_⟩
     rintro rfl
     exact hj (pJ hN e1 (I.ok.inj _ _ _ e hc▸hi))
  ·by_cases vB:c'=c
   ·subst vB;exact⟨_,qG⟩
   ·obtain⟨w2,z2⟩:=I.cell y c' e
    exact⟨w2,z2.sameBut hs vB⟩
  ·obtain⟨e,n,ne,nf,d⟩:=I.pin p hp
   refine⟨(hs.2 p.1 ?_).trans e,n,ne,nf,d⟩
   intro q
   rw[q,Hq]at e
   have q':oc=p.2:=Option.some.inj e
   exact d w' (by rw[←q'];exact Vk)
theorem Dg{M:Model}{A:Around}{E:Value→Shared→Prop}{i:Nat}{x:Str}{v:V}{u:Value}{Q:Unit→Shared→Prop}(I:Inv X pins σ H s)(hN:X.N.Nodup)(hi:X.N[i]?=some x)(hx:Loc X.env.scope x)(r:RelV v u)
  (h:∀s',Inv X pins (σ.set i (some v)) H s'→Q () s') (hf:X.fn x=true∨X.env.scope.names.lookup x=some .local:=by first|exact .inl rfl|exact .inr rfl|assumption):wpAny M A (storeName X.env x u) Q E s :=
 xx I hN hi hx r (fun s' I' _=>h s' I') hf
theorem Inv.Tc{s':Shared}{ch:List Addr}(I:Inv X pins σ H s)(ho:s'.os=s.os)(u:Un (hG X.stack) ch H H' s.heap s'.heap)(aH:cy X.prog X.w H' s'.heap)(hg:AllBare s'.gens)
  (hJ:∀b∈ch,(b∈X.ex∨X.s₀.heap.objs.size≤b)∧b≠X.env.locals∧(∀x c,X.env.cells.lookup x=some c→c≠b)∧∀p∈X.pn++pins,p.1≠b):Inv X pins σ H' s':=by
 obtain⟨h',g',d',t',o'⟩:=s'
 have e:o'=s.os:=ho
 subst e
 exact I.call (g':=g') (t':=t') (d':=d') u aH hg hJ
end
noncomputable abbrev XK:=Value→Option Addr→Hp→Prop
noncomputable abbrev St:=List (Option V)
noncomputable abbrev VK:=V→Hp→Prop
noncomputable abbrev TE:=St→Hp→VK→Prop
noncomputable abbrev TT:=St→Hp→(Bool→Hp→Prop)→Prop
noncomputable abbrev TA:=St→Hp→(List V→Hp→Prop)→Prop
structure Ends where
 nx:St→Hp→Prop
 rt:VK
 bk:St→Hp→Prop:=fun _ _=>False
 ct:St→Hp→Prop:=fun _ _=>False
noncomputable abbrev TS:=Ends→St→Hp→Prop
def EP(X:Cx)(pins:List (Addr×Obj))(σ:St)(Q:VK)(u:Value)(s':Shared):Prop:=∃v H',Inv X pins σ H' s'∧RelV v u∧Q v H'
def TP(X:Cx)(pins:List (Addr×Obj))(σ:St)(Q:Bool→Hp→Prop)(b:Bool)(s':Shared):Prop:=∃H',Inv X pins σ H' s'∧Q b H'
def AP(X:Cx)(pins:List (Addr×Obj))(σ:St)(Q:List V→Hp→Prop)(us:List Value)(s':Shared):Prop:=∃vs H',Inv X pins σ H' s'∧Vals vs us∧Q vs H'
def SP(X:Cx)(pins:List (Addr×Obj))(D:Ends)(f:Flow)(s':Shared):Prop :=
 match f with
 |.next=>∃σ' H',Inv X pins σ' H' s'∧D.nx σ' H'
 |.brk=>∃σ' H',Inv X pins σ' H' s'∧D.bk σ' H'
 |.cont=>∃σ' H',Inv X pins σ' H' s'∧D.ct σ' H'
 |.ret u=>∃v σ' H',Inv X pins σ' H' s'∧RelV v u∧D.rt v H'
def PE(X:Cx)(e:Expr)(t:TE):Prop :=
 ∀(pins:List (Addr×Obj)) (s:Shared) (σ:St) (H:Hp) (Q:VK),Inv X pins σ H s→t σ H Q→wpAny (model X.prog X.w) X.A (eval e X.env) (EP X pins σ Q) X.xe s
def PT(X:Cx)(e:Expr)(t:TT):Prop :=
 ∀(pins:List (Addr×Obj)) (s:Shared) (σ:St) (H:Hp) (Q:Bool→Hp→Prop),Inv X pins σ H s→t σ H Q→wpAny (model X.prog X.w) X.A (isTrue e X.env (eval e X.env)) (TP X pins σ Q) X.xe s
def PW(X:Cx)(e:Expr)(t:TT):Prop :=
 ∀(whole:Sem Value) (pins:List (Addr×Obj)) (s:Shared) (σ:St) (H:Hp) (Q:Bool→Hp→Prop),Inv X pins σ H s→t σ H Q→wpAny (model X.prog X.w) X.A (isTrue e X.env whole) (TP X pins σ Q) X.xe s
theorem PW.pt{X:Cx}{e:Expr}{t:TT}(h:PW X e t):PT X e t:=h _
def PA(X:Cx)(es:List Expr)(t:TA):Prop :=
 ∀(pos:Pos) (pins:List (Addr×Obj)) (s:Shared) (σ:St) (H:Hp) (Q:List V→Hp→Prop),Inv X pins σ H s→t σ H Q→wpAny (model X.prog X.w) X.A (spliced (backTo pos (starEach es X.env))) (AP X pins σ Q) X.xe s
def PS(X:Cx)(st:Stmt)(t:TS):Prop :=
 ∀(pins:List (Addr×Obj)) (s:Shared) (σ:St) (H:Hp) (D:Ends),Inv X pins σ H s→t D σ H→wpAny (model X.prog X.w) X.A (exec st X.env) (SP X pins D) X.xe s
def fP(X:Cx)(st:List Stmt)(t:TS):Prop :=
 ∀(pins:List (Addr×Obj)) (s:Shared) (σ:St) (H:Hp) (D:Ends),Inv X pins σ H s→t D σ H→wpAny (model X.prog X.w) X.A (execs st X.env) (SP X pins D) X.xe s
theorem aG{α:Type}{t:Sem α}{Q Q':α→Shared→Prop}{M:Model}{A:Around}{E:Value→Shared→Prop}{s:Shared}(h:wpAny M A t Q E s)(hQ:∀a s,Q a s→Q' a s):wpAny M A t Q' E s:=wpAny_mono h hQ fun _ _ x=>x
section
variable {X:Cx}
noncomputable def iy(i:Nat):TE:=fun σ H Q=>∃v,σ[i]?=some (some v)∧Q v H
noncomputable def tC(v:V):TE:=fun _ H Q=>Q v H
theorem Ex {i:Nat}{x:Str}{pos:Pos} (hN:X.N[i]?=some x) (hv:vy X.env.scope x) (hd:(x==("__debug__" : Str))=false:=by decide) (gJ:(x==("__classdict__" : Str))=false:=by decide):PE X (.Name x pos) (iy i):=by
 intro pins s σ H Q I h
 obtain⟨v,e,h⟩:=h
 obtain⟨m,hn,hl⟩:=I.loc
 obtain⟨u,r,l⟩:=hl i x v hN e hv
 have fin:EP X pins σ Q u s:=⟨v,H,I,r,h⟩
 rcases l with⟨hk,hm⟩|⟨hk,c,hc,Fw⟩
 ·exact wpAny_Name (wpAny_loadName_local I.ok.kind hk hn hm fin) hd
 ·rcases hk with hk|hk
  ·exact wpAny_Name (wpAny_loadName_cell I.ok.kind hk hc Fw fin) hd
  ·exact wpAny_Name (wpAny_loadName_free I.ok.kind hk hc Fw fin gJ) hd
theorem Qs{i j pos}:PE X (.Constant (.int i) j pos) (tC (.int i)):=fun _ _ _ H _ I h=>wpAny_Constant_int ⟨.int i,H,I.tok _,⟨_,rfl⟩,h⟩
theorem Td{b j pos}:PE X (.Constant (.bool b) j pos) (tC (.bl b)):=fun _ _ _ H _ I h=>Constant_bool ⟨.bl b,H,I,rfl,h⟩
theorem Qt{j pos}:PE X (.Constant .none j pos) (tC .non):=fun _ _ _ H _ I h=>Constant_none ⟨.non,H,I,rfl,h⟩
theorem Qu{x j pos}:PE X (.Constant (.str x) j pos) (tC (.str x)):=fun _ _ _ H _ I h=>Calls.Constant_str ⟨.str x,H,I.tok _,⟨_,rfl⟩,h⟩
def Gl(X:Cx)(x:Str):Prop:=X.env.kindOf x=some .globalImplicit
theorem N1{E:Value→Shared→Prop}{pins:List (Addr×Obj)}{s:Shared}{σ:St}{H:Hp}{x:Str}{u:Value}{pos:Pos}{Q:Value→Shared→Prop}(I:Inv X pins σ H s)(hg:Gl X x)(hm:X.mg x=some u)(h:Q u s)
  (hd:(x==("__debug__" : Str))=false:=by decide):wpAny (model X.prog X.w) X.A (eval (.Name x pos) X.env) Q E s :=
 Calls.Name_function_global I.ok.kind hg (Calls.loadGlobal_global (by rw[I.ok.glob];exact I.mod.glob.keeps I.bk) hm h) hd
theorem m6{E:Value→Shared→Prop}{pins:List (Addr×Obj)}{s:Shared}{σ:St}{H:Hp}{x:Str}{u:Value}{pos:Pos}{Q:Value→Shared→Prop}(I:Inv X pins σ H s)(hg:Gl X x)(hm:X.mg x=none)(hv:bootBuiltins x=some u)(h:Q u s)
  (hn:x ≠ "__name__" := by decide) (hd:(x==("__debug__" : Str))=false:=by decide):wpAny (model X.prog X.w) X.A (eval (.Name x pos) X.env) Q E s:=by
 obtain⟨mb,h1,h2⟩:=I.mod.blt
 exact Calls.Name_function_global I.ok.kind hg (Calls.loadGlobal_builtin (by rw[I.ok.glob];exact I.mod.glob.keeps I.bk) hm (by rw[I.ok.blt];exact h1.keeps I.bk) ((h2 x hn).trans hv) h) hd
theorem N2 {x:Str}{v:V}{u:Value}{pos:Pos} (hg:Gl X x) (hm:X.mg x=none) (hv:bootBuiltins x=some u) (r:RelV v u) (hn:x ≠ "__name__" := by decide) (hd:(x==("__debug__" : Str))=false:=by decide):PE X (.Name x pos) (tC v) :=
 fun _ _ _ H _ I h=>m6 I hg hm hv ⟨v,H,I,r,h⟩ hn hd
variable {a b:Expr}{ta tb:TE}{pos:Pos}
def PC(X:Cx)(op:CmpOp)(a b:Expr)(t:TE):Prop :=
 ∀(pins:List (Addr×Obj)) (s:Shared) (σ:St) (H:Hp) (Q:VK),Inv X pins σ H s→t σ H Q →
  wpAny (model X.prog X.w) X.A (eval a X.env) (fun v s₁=>wpAny (model X.prog X.w) X.A (eval b X.env) (fun u s₂=>wpAny (model X.prog X.w) X.A (compareOp op v u) (EP X pins σ Q) X.xe s₂) X.xe s₁) X.xe s
noncomputable def tB(t:TE):TT:=fun σ H Q=>t σ H fun x H1=>∃c,x=.bl c∧Q c H1
theorem uj{op:CmpOp}{t:TE}(h:PC X op a b t)(h1:behindInMarks op b=false:=by first|exact YB _ (by decide) (by decide)|rfl):PT X (.Compare a [op] [b] pos) (tB t):=by
 intro pins s σ H Q I hw
 refine wpAny_isTrue_Compare1 (aG (h pins s σ H _ I hw) fun v s1 h1=>aG h1 fun u s2 h2=>aG h2 fun c s3 ⟨x,H1,I1,r1,q1⟩=>?_) h1
 obtain⟨d,rfl,q⟩:=q1
 cases r1
 exact wpAny_truthy_bool ⟨H1,I1,q⟩
variable {tA vC:TT}{rest:List Expr}
noncomputable def Ga(t u:TT):TT:=fun σ H Q=>t σ H fun c H1=>if c=true then u σ H1 Q else Q false H1
noncomputable def Hr(t u:TT):TT:=fun σ H Q=>t σ H fun c H1=>if c=true then Q true H1 else u σ H1 Q
noncomputable def Gb(t:TT):TT:=fun σ H Q=>t σ H fun c H1=>Q (!c) H1
theorem N3(ha:PT X a tA):PW X (.BoolOp .And [a] pos) tA:=by
 intro wh pins s σ H Q I h
 refine isTrue_and (aG (ha pins s σ H Q I h) fun c s1 e=>?_)
 cases c with
 |true=>exact isTrue_and_nil e
 |false=>exact e
theorem Qv(ha:PT X a tA):PW X (.BoolOp .Or [a] pos) tA:=by
 intro wh pins s σ H Q I h
 refine isTrue_or (aG (ha pins s σ H Q I h) fun c s1 e=>?_)
 cases c with
 |false=>exact isTrue_or_nil e
 |true=>exact e
theorem Qw(ha:PT X a tA)(hb:PW X (.BoolOp .And (b::rest) pos) vC):PW X (.BoolOp .And (a::b::rest) pos) (Ga tA vC):=by
 intro wh pins s σ H Q I h
 refine isTrue_and (aG (ha pins s σ H _ I h) fun c s1 ⟨H1,I1,q1⟩=>?_)
 cases c with
 |true=>exact hb wh pins s1 σ H1 Q I1 q1
 |false=>exact⟨H1,I1,q1⟩
theorem Te(ha:PT X a tA)(hb:PW X (.BoolOp .Or (b::rest) pos) vC):PW X (.BoolOp .Or (a::b::rest) pos) (Hr tA vC):=by
 intro wh pins s σ H Q I h
 refine isTrue_or (aG (ha pins s σ H _ I h) fun c s1 ⟨H1,I1,q1⟩=>?_)
 cases c with
 |true=>exact⟨H1,I1,q1⟩
 |false=>exact hb wh pins s1 σ H1 Q I1 q1
theorem Qx(ha:PT X a tA):PT X (.UnaryOp .Not a pos) (Gb tA):=by
 intro pins s σ H Q I h
 exact isTrue_not (ha pins s σ H (fun c H1=>Q (!c) H1) I h)
noncomputable def Fx(ta tb:TE):TE:=fun σ H Q=>ta σ H fun x H1=>∃c,x=.bl c∧if c=true then tb σ H1 Q else Q (.bl false) H1
noncomputable def Gd(ta tb:TE):TE:=fun σ H Q=>ta σ H fun x H1=>∃c,x=.bl c∧if c=true then Q (.bl true) H1 else tb σ H1 Q
noncomputable def Fy(ta:TE):TE:=fun σ H Q=>ta σ H fun x H1=>∃c,x=.bl c∧Q (.bl (!c)) H1
theorem Ey{op}{t:TE}(h:PE X a t):PE X (.BoolOp op [a] pos) t:=fun pins s σ H Q I hw=>BoolOp_one (h pins s σ H Q I hw)
theorem Qy(ha:PE X a ta)(hb:PE X (.BoolOp .And (b::rest) pos) tb):PE X (.BoolOp .And (a::b::rest) pos) (Fx ta tb):=by
 intro pins s σ H Q I h
 refine BoolOp_and (aG (ha pins s σ H _ I h) fun v s1 ⟨x,H1,I1,r1,q1⟩=>?_)
 obtain⟨c,rfl,q1⟩:=q1
 cases r1
 refine wpAny_truthy_bool ?_
 cases c with
 |true=>exact hb pins s1 σ H1 Q I1 q1
 |false=>exact⟨.bl false,H1,I1,rfl,q1⟩
theorem Tf(ha:PE X a ta)(hb:PE X (.BoolOp .Or (b::rest) pos) tb):PE X (.BoolOp .Or (a::b::rest) pos) (Gd ta tb):=by
 intro pins s σ H Q I h
 refine BoolOp_or (aG (ha pins s σ H _ I h) fun v s1 ⟨x,H1,I1,r1,q1⟩=>?_)
 obtain⟨c,rfl,q1⟩:=q1
 cases r1
 refine wpAny_truthy_bool ?_
 cases c with
 |false=>exact hb pins s1 σ H1 Q I1 q1
 |true=>exact⟨.bl true,H1,I1,rfl,q1⟩
theorem Qz(ha:PE X a ta):PE X (.UnaryOp .Not a pos) (Fy ta):=by
 intro pins s σ H Q I h
 refine UnaryOp_ (aG (ha pins s σ H _ I h) fun v s1 ⟨x,H1,I1,r1,q1⟩=>?_)
 obtain⟨c,rfl,q1⟩:=q1
 cases r1
 exact not_of (wpAny_truthy_bool ⟨.bl (!c),H1,I1,rfl,q1⟩)
noncomputable def Hs(t:TT)(ta tb:TE):TE:=fun σ H Q=>t σ H fun c H1=>if c=true then ta σ H1 Q else tb σ H1 Q
theorem Mj{c:Expr}(hc:PT X c tA)(ha:PE X a ta)(hb:PE X b tb):PE X (.IfExp c a b pos) (Hs tA ta tb):=by
 intro pins s σ H Q I h
 refine wpAny_IfExp (aG (hc pins s σ H _ I h) fun d s1 ⟨H1,I1,q1⟩=>?_)
 cases d with
 |true=>exact ha pins s1 σ H1 Q I1 q1
 |false=>exact hb pins s1 σ H1 Q I1 q1
end
def bH(K:PySem.W.Frag)(H:Hp)(a:Addr)(xs:List V):Prop :=
 Rd H a (.lst xs) ∨
  ∃(o:Obj) (its:Array Value) (n:Nat),K.lookup a=some o∧o.cls=.type "list" ∧ o.dict=none∧o.data=.seq its n∧its.size≤sizeLine∧Vals xs its.toList
def a8(K:PySem.W.Frag)(H:Hp)(a:Addr)(xs:List V):Prop :=
 H a=some (.tup xs) ∨
  ∃(o:Obj) (its:Array Value) (n:Nat),K.lookup a=some o∧o.cls=.type "tuple" ∧ o.dict=none∧o.data=.seq its n∧its.size≤sizeLine∧4≤its.size∧Vals xs its.toList
theorem a8.own{K:PySem.W.Frag}{H:Hp}{a:Addr}{xs:List V}(h:a8 K H a xs)(hl:xs.length<4):H a=some (.tup xs):=by
 rcases h with h|⟨_,its,_,_,_,_,_,_,h4,r⟩
 ·exact h
 ·have:=r.length
  simp only[Array.length_toList]at this
  omega
noncomputable def nU:Value→Option V
 |.none=>some .non
 |.bool b=>some (.bl b)
 |.int i _=>some (.int i)
 |.str x _=>some (.str x)
 |.bytes b _=>some (.fN b)
 |.float b _=>some (.qC b)
 |.ref a=>some (.ref a)
 |.type n=>some (.ty n)
 |_=>none
theorem RelV.abs{x:V}{u:Value}(r:RelV x u):nU u=some x:=by
 cases x with
 |non=>cases r;rfl
 |bl _=>cases r;rfl
 |int _=>obtain⟨t,rfl⟩:=r;rfl
 |str _=>obtain⟨t,rfl⟩:=r;rfl
 |fN _=>obtain⟨t,rfl⟩:=r;rfl
 |qC _=>obtain⟨t,rfl⟩:=r;rfl
 |ref _=>cases r;rfl
 |ty _=>cases r;rfl
theorem RelV.inj{x y:V}{u:Value}(r:RelV x u)(q:RelV y u):x=y:=Option.some.inj (r.abs.symm.trans q.abs)
theorem Vals.inj:∀{xs ys:List V}{us:List Value},Vals xs us→Vals ys us→xs=ys
 |_,_,_,.nil,.nil=>rfl
 |_,_,_,.cons r t,.cons r' t'=>by rw[r.inj r',Vals.inj t t']
section
variable {X:Cx}{pins:List (Addr×Obj)}{σ:St}{H:Hp}{s:Shared}{a:Addr}{xs ys:List V}
theorem a8.of{K:PySem.W.Frag}(h:H a=some (.tup xs)):a8 K H a xs:=.inl h
theorem Inv.list(I:Inv X pins σ H s)(h:bH X.K H a xs):∃its:List Value,Vals xs its∧PlainL s.heap a its.toArray∧xs.length≤sizeLine:=by
 rcases h with h|⟨o,its,n,hk,hc,hd,hs,hz,r⟩
 ·obtain⟨z,its,n,r,e⟩:=h.ok I.aH
  exact⟨its,r,⟨_,n,e,rfl,rfl,rfl⟩,z⟩
 ·refine⟨its.toList,r,⟨o,n,I.fO a o hk,hc,hd,by simpa using hs⟩,?_⟩
  have e:=r.length
  simp only[Array.length_toList]at e
  omega
theorem Inv.tuple(I:Inv X pins σ H s)(h:a8 X.K H a xs):∃its:List Value,Vals xs its∧IsTup s.heap a its.toArray∧xs.length≤sizeLine:=by
 rcases h with h|⟨o,its,n,hk,hc,_,hs,hz,_,r⟩
 ·obtain⟨z,its,r,p⟩:=I.aH _ _ h
  exact⟨its,r,p.tup,z⟩
 ·refine⟨its.toList,r,⟨o,I.fO a o hk,hc,n,by simpa using hs⟩,?_⟩
  have e:=r.length
  simp only[Array.length_toList]at e
  omega
theorem Inv.QB(I:Inv X pins σ H s)(h:a8 X.K H a xs):∃its:List Value,Vals xs its∧iZ s.heap a its.toArray∧xs.length≤sizeLine:=by
 rcases h with h|⟨o,its,n,hk,hc,hd,hs,hz,_,r⟩
 ·obtain⟨z,its,r,p⟩:=I.aH _ _ h
  exact⟨its,r,p,z⟩
 ·refine⟨its.toList,r,⟨o,I.fO a o hk,hc,hd,n,by simpa using hs⟩,?_⟩
  have e:=r.length
  simp only[Array.length_toList]at e
  omega
theorem Inv.tO(I:Inv X pins σ H s)(h:bH X.K H a xs)(h':bH X.K H a ys):xs=ys:=by
 obtain⟨its,r,⟨o,n,e,_,_,d⟩,_⟩:=I.list h
 obtain⟨its',r',⟨o',n',e',_,_,d'⟩,_⟩:=I.list h'
 rw[e]at e';cases e'
 rw[d]at d'
 injection d' with d1 _
 have:its=its':=by simpa using congrArg Array.toList d1
 subst this
 exact r.inj r'
theorem Inv.xA(I:Inv X pins σ H s)(h:a8 X.K H a xs)(h':a8 X.K H a ys):xs=ys:=by
 obtain⟨its,r,⟨o,e,_,n,d⟩,_⟩:=I.tuple h
 obtain⟨its',r',⟨o',e',_,n',d'⟩,_⟩:=I.tuple h'
 rw[e]at e';cases e'
 rw[d]at d'
 injection d' with d1 _
 have:its=its':=by simpa using congrArg Array.toList d1
 subst this
 exact r.inj r'
end
noncomputable abbrev Cx.wish(X:Cx)(E:Value→Shared→Prop):Cx:={ X with xe:=E }
noncomputable abbrev Cx.mv(X:Cx):Cx:=X.wish fun _ _=>False
theorem Cx.Ok.wish{X:Cx}(ok:X.Ok)(E:Value→Shared→Prop):(X.wish E).Ok :=
 ⟨ok.mod,ok.kind,ok.glob,ok.blt,ok.above,ok.inj,ok.has,ok.qE,ok.hd,ok.frames,ok.vz,ok.Ho,ok.bs,ok.jO,ok.qk,ok.uX,ok.iw,ok.og⟩
theorem Cx.Ok.kg{X:Cx}{E:Value→Shared→Prop}(ok:(X.wish E).Ok):X.Ok :=
 ⟨ok.mod,ok.kind,ok.glob,ok.blt,ok.above,ok.inj,ok.has,ok.qE,ok.hd,ok.frames,ok.vz,ok.Ho,ok.bs,ok.jO,ok.qk,ok.uX,ok.iw,ok.og⟩
section
variable {X:Cx}{pins:List (Addr×Obj)}{σ:St}{H:Hp}{s:Shared}{E:Value→Shared→Prop}
theorem Inv.wish(I:Inv X pins σ H s)(E:Value→Shared→Prop):Inv (X.wish E) pins σ H s:=⟨I.ok.wish E,I.os,I.bare,I.base,I.loc,I.cell,I.free,I.iq,I.pin,I.aH,I.len⟩
theorem Inv.kg(I:Inv (X.wish E) pins σ H s):Inv X pins σ H s:=⟨I.ok.kg,I.os,I.bare,I.base,I.loc,I.cell,I.free,I.iq,I.pin,I.aH,I.len⟩
theorem SP.kg{D:Ends}{f:Flow}{s':Shared}(h:SP (X.wish E) pins D f s'):SP X pins D f s':=by
 cases f with
 |next=>obtain⟨σ',H',I,q⟩:=h;exact⟨σ',H',I.kg,q⟩
 |brk=>obtain⟨σ',H',I,q⟩:=h;exact⟨σ',H',I.kg,q⟩
 |cont=>obtain⟨σ',H',I,q⟩:=h;exact⟨σ',H',I.kg,q⟩
 |ret u=>obtain⟨v,σ',H',I,r,q⟩:=h;exact⟨v,σ',H',I.kg,r,q⟩
theorem fP.mv{st:List Stmt}{t:TS}(h:fP X.mv st t):fP X st t:=fun pins s σ H D I hw =>
 wpAny_mono (h pins s σ H D (I.wish _) hw) (fun _ _ q=>q.kg) fun _ _ z=>False.elim z
end
section
variable {X:Cx}{st:Stmt}{rest:List Stmt}{t u:TS}{e:Expr}{te:TE}{pos:Pos}
noncomputable def yJ:TS:=fun D σ H=>D.nx σ H
noncomputable def y6(t u:TS):TS:=fun D σ H=>t { D with nx:=u D } σ H
theorem N4:fP X [] yJ:=fun _ _ σ H _ I h=>wpAny_execs_nil ⟨σ,H,I,h⟩
theorem Ml(h1:PS X st t)(h2:fP X rest u):fP X (st::rest) (y6 t u):=by
 intro pins s σ H D I h
 refine wpAny_execs_cons (aG (h1 pins s σ H { D with nx:=u D } I h) fun f s1 q=>?_)
 cases f with
 |next =>
  obtain⟨σ',H',I',q⟩:=q
  exact h2 pins s1 σ' H' D I' q
 |ret v=>exact q
 |brk=>exact q
 |cont=>exact q
theorem N5(h1:PS X st t):fP X [st] t:=by
 intro pins s σ H D I h
 refine wpAny_execs_cons (aG (h1 pins s σ H D I h) fun f s1 q=>?_)
 cases f with
 |next=>exact wpAny_execs_nil q
 |ret v=>exact q
 |brk=>exact q
 |cont=>exact q
noncomputable def yK:TS:=fun D σ H=>D.ct σ H
theorem Kr:PS X (.Continue pos) yK:=fun _ _ σ H _ I h=>wpAny_Continue ⟨σ,H,I,h⟩
theorem Inv.quiet{pins:List (Addr×Obj)}{σ:St}{H:Hp}{s:Shared}(I:Inv X pins σ H s):interactive X.env=false:=by simp[interactive,I.ok.kind]
noncomputable def qb(te:TE):TS:=fun D σ H=>te σ H fun _ H1=>D.nx σ H1
theorem N6(he:PE X e te)(hs:swapsWith e none pos.line X.env=pure false:=by rfl):PS X (.Expr e pos) (qb te):=by
 intro pins s σ H D I h
 exact wpAny_Expr_any (aG (he pins s σ H _ I h) fun v s1 ⟨x,H1,I1,r1,q1⟩=>⟨σ,H1,I1,q1⟩) I.quiet hs
noncomputable def uY(te:TE):TS:=fun D σ H=>te σ H D.rt
theorem QC(he:PE X e te):PS X (.Return (some e) pos) (uY te):=by
 intro pins s σ H D I h
 exact wpAny_Return_some (aG (he pins s σ H _ I h) fun v s1 ⟨x,H1,I1,r1,q1⟩=>⟨x,σ,H1,I1,r1,q1⟩)
noncomputable def y7(c:TT)(t u:TS):TS:=fun D σ H=>c σ H fun b H1=>if b=true then t D σ H1 else u D σ H1
theorem Ti{c:Expr}{a b:List Stmt}{tc:TT}(hc:PT X c tc)(ha:fP X a t)(hb:fP X b u):PS X (.If c a b pos) (y7 tc t u):=by
 intro pins s σ H D I h
 refine wpAny_If (aG (hc pins s σ H _ I h) fun d s1 ⟨H1,I1,q1⟩=>?_)
 cases d with
 |true=>exact ha pins s1 σ H1 D I1 q1
 |false=>exact hb pins s1 σ H1 D I1 q1
end
noncomputable abbrev TG:=V→St→Hp→(St→Hp→Prop)→Prop
noncomputable abbrev gK:=List V→St→Hp→(St→Hp→Prop)→Prop
def PG(X:Cx)(target:Expr)(t:TG):Prop :=
 ∀(pins:List (Addr×Obj)) (s:Shared) (σ:St) (H:Hp) (v:V) (u:Value) (Q:St→Hp→Prop),Inv X pins σ H s→RelV v u→t v σ H Q →
  wpAny (model X.prog X.w) X.A (assign target X.env u) (fun _ s'=>∃σ' H',Inv X pins σ' H' s'∧Q σ' H') X.xe s
def oh(X:Cx)(ts:List Expr)(t:gK):Prop :=
 ∀(pins:List (Addr×Obj)) (s:Shared) (σ:St) (H:Hp) (vs:List V) (us:List Value) (Q:St→Hp→Prop),Inv X pins σ H s→Vals vs us→t vs σ H Q →
  wpAny (model X.prog X.w) X.A (assignInOrder ((assignEach ts X.env).map (·.2)) us) (fun _ s'=>∃σ' H',Inv X pins σ' H' s'∧Q σ' H') X.xe s
noncomputable abbrev y8:=V→V→V→Hp→(Hp→Prop)→Prop
def Ge(X:Cx)(t:y8):Prop :=
 ∀(pins:List (Addr×Obj)) (s:Shared) (σ:St) (H:Hp) (o i v:V) (ov iv u:Value) (Q:Hp→Prop),Inv X pins σ H s→RelV o ov→RelV i iv→RelV v u→t o i v H Q →
  wpAny (model X.prog X.w) X.A (setItem ov iv u) (fun _ s'=>∃H',Inv X pins σ H' s'∧Q H') X.xe s
section
variable {X:Cx}{pos:Pos}
noncomputable def fK(i:Nat):TG:=fun v σ H Q=>Q (σ.set i (some v)) H
theorem tY{i:Nat}{x:Str}(hN:X.N.Nodup)(hi:X.N[i]?=some x)(hx:Loc X.env.scope x)(hf:X.fn x=true∨X.env.scope.names.lookup x=some .local:=by first|exact .inl rfl|exact .inr rfl|assumption):PG X (.Name x pos) (fK i):=by
 intro pins s σ H v u Q I r h
 exact wpAny_assign_Name (Dg I hN hi hx r (fun s' I'=>⟨_,H,I',h⟩) hf)
noncomputable def y9:gK:=fun vs σ H Q=>vs=[]∧Q σ H
noncomputable def uH(t:TG)(u:gK):gK:=fun vs σ H Q=>∃v r,vs=v::r∧t v σ H fun σ' H'=>u r σ' H' Q
theorem DQ:oh X [] y9:=by
 intro pins s σ H vs us Q I r h
 obtain⟨e,h⟩:=h
 subst e
 cases r
 exact assignInOrder_nil ⟨σ,H,I,h⟩
theorem xF{e:Expr}{es:List Expr}{t:TG}{u:gK}(h1:PG X e t)(h2:oh X es u)
  (hs:(assignEach (e::es) X.env).map (·.2)=assign e X.env::(assignEach es X.env).map (·.2):=by rfl):oh X (e::es) (uH t u):=by
 intro pins s σ H vs us Q I r h
 obtain⟨v,vr,e1,h⟩:=h
 subst e1
 cases r with
 |cons r rr =>
  rw[hs]
  refine assignInOrder_cons (aG (h1 pins s σ H _ _ _ I r h) fun _ s1 ⟨σ1,H1,I1,q1⟩=>?_)
  exact h2 pins s1 σ1 H1 _ _ Q I1 rr q1
noncomputable def za(K:PySem.W.Frag)(n:Nat)(t:gK):TG:=fun v σ H Q=>∃a xs,v=.ref a∧a8 K H a xs∧xs.length=n∧t xs σ H Q
theorem Ez{es:List Expr}{k:Nat}{t:gK}{n:Nat}(hc:X.calm=true)(h:oh X es t)
  (hn:(assignEach es X.env).length=n:=by rfl) (jR:(assignEach es X.env).findIdx? (·.1)=none:=by rfl):PG X (.Tuple es k pos) (za X.K n t):=by
 intro pins s σ H v u Q I r hw
 obtain⟨a,xs,e1,hq,hl,hw⟩:=hw
 subst e1
 cases r
 obtain⟨its,rv,ht,hz⟩:=I.tuple hq
 refine assign_Tuple_tuple (I.ok.hd hc) ht (by simp[hn,←hl,rv.length]) jR fun h' hx=>?_
 have I1:Inv X pins σ H { s with heap:=h' }:=I.kept (t':=s.toks) fun b o e=>hx b o (Nat.ne_of_lt (bT e)) e
 exact h pins _ σ H xs _ Q I1 (by simpa using rv) hw
noncomputable def Gf(to ti:TE)(t:y8):TG:=fun v σ H Q=>to σ H fun o H1=>ti σ H1 fun i H2=>t o i v H2 fun H3=>Q σ H3
theorem QD{o i:Expr}{to ti:TE}{t:y8}(ho:PE X o to)(hi:PE X i ti)(hs:Ge X t)
  (ha:∀v,assign (.Subscript o i pos) X.env v=(do
   let ov ←holding [v] (eval o X.env)
   let iv ←holding [v,ov] (eval i X.env)
   standAt pos
   holding [v,ov,iv] (setItem ov iv v)
   release [v,ov,iv] []):=by intro _;rfl):PG X (.Subscript o i pos) (Gf to ti t):=by
 intro pins s σ H v u Q I r h
 rw[ha]
 refine aC (wpAny_holding (aG (ho pins s σ H _ I h) fun ov s1 ⟨x,H1,I1,r1,q1⟩=>?_))
 refine aC (wpAny_holding (aG (hi pins s1 σ H1 _ I1 q1) fun iv s2 ⟨y,H2,I2,r2,q2⟩=>?_))
 refine aC (wpAny_standAt (aC (wpAny_holding (aG (hs pins s2 σ H2 x y v ov iv u _ I2 r1 r2 r q2) fun _ s3 ⟨H3,I3,q3⟩=>?_))))
 exact wpAny_release ⟨σ,H3,I3,q3⟩
noncomputable def gf(te:TE)(g:TG):TS:=fun D σ H=>te σ H fun x H1=>g x σ H1 D.nx
theorem QF{tg e:Expr}{te:TE}{g:TG}(he:PE X e te)(hg:PG X tg g)(hs:swapsWithSole [tg] e pos.line X.env=pure false:=by rfl)(hw:swappedStores [tg] e X.env=pure none:=by rfl)
  (h1:(assignEach [tg] X.env).map (·.2)=[assign tg X.env]:=by rfl):PS X (.Assign [tg] e pos) (gf te g):=by
 intro pins s σ H D I h
 refine wpAny_Assign_stores (aG (he pins s σ H _ I h) fun v s1 ⟨x,H1,I1,r1,q1⟩=>?_) hs hw
 rw[h1]
 exact aG (hg pins s1 σ H1 x v _ I1 r1 q1) fun _ s2 q=>q
theorem QG{i:Nat}{x:Str}{e:Expr}{te:TE}{pos':Pos}(hN:X.N.Nodup)(hi:X.N[i]?=some x)(hx:Loc X.env.scope x)(he:PE X e te)(hs:swapsWith e (some (.Name x pos')) pos.line X.env=pure false:=by rfl)(hf:X.fn x=true∨X.env.scope.names.lookup x=some .local:=by first|exact .inl rfl|exact .inr rfl|assumption) :
  PS X (.Assign [.Name x pos'] e pos) (gf te (fK i)):=by
 intro pins s σ H D I h
 refine wpAny_Assign_Name (aG (he pins s σ H _ I h) fun v s1 ⟨y,H1,I1,r1,q1⟩=>?_) hs
 exact Dg I1 hN hi hx r1 (fun s2 I2=>⟨_,H1,I2,q1⟩) hf
end
section
variable {X:Cx}{pos:Pos}
noncomputable def yj(c:TT)(tb:TS):TS:=fun D σ H=>∃W:Nat→St→Hp→Prop,(∃m,W m σ H)∧∀m σ H,W m σ H →
 c σ H fun b H1=>if b=true then ∃N:St→Hp→Prop,(∀σ' H',N σ' H'→∃m',m'<m∧W m' σ' H')∧tb { D with nx:=N,ct:=N,bk:=D.nx } σ H1 else D.nx σ H1
theorem Mm{c:Expr}{body:List Stmt}{tc:TT}{tb:TS}(hp:PassesOwn (model X.prog X.w) X.A X.env X.xe)(hc:PT X c tc)(hb:fP X body tb):PS X (.While c body [] pos) (yj tc tb):=by
 intro pins s σ H D I h
 obtain⟨W,⟨m0,w0⟩,turn⟩:=h
 refine wpAny_While (codeAny_whileLoop (fun n s'=>∃σ' H',Inv X pins σ' H' s'∧W n σ' H') ?_ m0 ⟨σ,H,I,w0⟩)
 rintro n s1 ⟨σ1,H1,I1,w1⟩
 refine wpAny_passesOwn hp (aG (hc pins s1 σ1 H1 _ I1 (turn n σ1 H1 w1)) fun b s2 ⟨H2,I2,q2⟩=>?_)
 cases b with
 |true =>
  obtain⟨N,hN,q2⟩:=q2
  rw[if_pos rfl]
  refine wpAny_passesOwn hp (aG (hb pins s2 σ1 H2 _ I2 q2) fun f s3 q3=>?_)
  cases f with
  |next =>
   obtain⟨σ3,H3,I3,n3⟩:=q3
   obtain⟨m',hm,w3⟩:=hN σ3 H3 n3
   exact⟨m',hm,σ3,H3,I3,w3⟩
  |cont =>
   obtain⟨σ3,H3,I3,n3⟩:=q3
   obtain⟨m',hm,w3⟩:=hN σ3 H3 n3
   exact⟨m',hm,σ3,H3,I3,w3⟩
  |brk=>exact q3
  |ret v=>exact q3
 |false =>
  rw[if_neg aZ]
  exact wpAny_execs_nil ⟨σ1,H2,I2,q2⟩
end
structure It where
 go:Nat→Hp→Prop
 iF:Nat→Hp→V→Hp→Prop
 stop:Nat→Hp→Prop
def gC(X:Cx)(pins:List (Addr×Obj))(H:Hp)(b:Addr):Prop :=
 H b=none∧b≠X.env.locals∧b∉X.fs∧(b∈X.ex∨X.s₀.heap.objs.size≤b)∧(∀x c,X.env.cells.lookup x=some c→c≠b)∧∀p∈X.pn++pins,p.1≠b
theorem Inv.nV{X:Cx}{pins:List (Addr×Obj)}{σ:St}{H H':Hp}{s:Shared}{b:Addr}(I:Inv X pins σ H s)(hb:s.heap.objs.size≤b)(hn:H' b=none):gC X pins H' b:=by
 refine⟨hn,Nat.ne_of_gt (Nat.lt_of_lt_of_le I.lt hb),I.Vi hb,.inr (bP I.sz hb),fun x c e z=>?_,fun p hp z=>?_⟩
 ·obtain⟨v,q⟩:=I.cell x c e
  exact absurd (Nat.lt_of_lt_of_le q.lt (by rw[z];exact hb)) (Nat.lt_irrefl _)
 ·exact absurd (Nat.lt_of_lt_of_le (bT (I.pin p hp).1) (by rw[z];exact hb)) (Nat.lt_irrefl _)
structure Turn (P:Program)(w:World)(K:PySem.W.Frag)(tg:Expr)(J:It)(fp:List Addr)(it:Addr)(tn:Nat→Heap→Prop):Prop where
 mem:it∈fp
 obj:∀i h,tn i h→∀b∈fp,∃o,h.get? b=some o∧∀v,o.data≠.cell v
 keep:∀i h h',tn i h→(∀b∈fp,∀o,h.get? b=some o→h'.get? b=some o)→tn i h'
 item:∀(X:Cx),X.prog=P→X.w=w→X.K=K→X.calm=true→∀(i:Nat) (pins:List (Addr×Obj)) (s:Shared) (σ:St) (H:Hp) (E:Value→Shared→Prop),Inv X pins σ H s→(∀b∈fp,gC X pins H b)→tn i s.heap→J.go i H →
  wpAny (model P w) X.A (pyNext (.ref it)) (fun r s1=>∃u,r=some u ∧
   wpAny (model P w) X.A (letOwnedTupleGo tg (.ref it) u) (fun _ s2=>∃x H',Inv X pins σ H' s2∧RelV x u∧J.iF i H x H'∧tn (i+1) s2.heap∧∀b∈fp,H' b=none) E s1) E s
 done:∀(X:Cx),X.prog=P→X.w=w→X.K=K→X.calm=true→∀(i:Nat) (pins:List (Addr×Obj)) (s:Shared) (σ:St) (H:Hp) (E:Value→Shared→Prop),Inv X pins σ H s→(∀b∈fp,gC X pins H b)→tn i s.heap→J.stop i H →
  wpAny (model P w) X.A (pyNext (.ref it)) (fun r s1=>r=none∧Inv X pins σ H s1) E s
 self:∀(A:Around) (i:Nat) (s:Shared) (Q:Value→Shared→Prop) (E:Value→Shared→Prop),tn i s.heap→Q (.ref it) s→wpAny (model P w) A (pyIter (.ref it)) Q E s
noncomputable abbrev TI:=St→Hp→(It→Hp→Prop)→Prop
def Ht(X:Cx)(pins:List (Addr×Obj))(σ:St)(tg:Expr)(R:It→Hp→Prop)(oi:Value)(s2:Shared):Prop :=
 ∃(it:Addr) (fp:List Addr) (tn:Nat→Heap→Prop) (J:It) (H':Hp),oi=.ref it∧Inv X pins σ H' s2∧Turn X.prog X.w X.K tg J fp it tn∧tn 0 s2.heap∧(∀b∈fp,gC X pins H' b)∧R J H'
def PI(X:Cx)(tg iter:Expr)(wi:TI):Prop :=
 ∀(pins:List (Addr×Obj)) (s:Shared) (σ:St) (H:Hp) (R:It→Hp→Prop),Inv X pins σ H s→wi σ H R →
  wpAny (model X.prog X.w) X.A (eval iter X.env) (fun v s1=>wpAny (model X.prog X.w) X.A (pyIter v) (Ht X pins σ tg R) X.xe s1) X.xe s
theorem uI{M:Model}{A:Around}{E:Value→Shared→Prop}{s:Shared}{tg:Expr}{it:Addr}{u:Value}{o:Obj}{n:String}{vs:Array Value}{Q:Unit→Shared→Prop}(ho:s.heap.get? it=some o)(hc:o.cls=.type n)(hd:o.data=.fields vs)
    (hn:["enumerate", "zip", "dict_itemiterator", "dict_reverseitemiterator", "odict_iterator", "itertools.zip_longest", "itertools.pairwise"].contains n=false) (hQ:Q () s):wpAny M A (letOwnedTupleGo tg (.ref it) u) Q E s:=by
  unfold letOwnedTupleGo
  cases tg<;>first
    |exact aS hQ
    | (cases u<;>first
        |exact aS hQ
        | (refine aC (wpAny_load ho ?_)
           rw[hc,hd]
           show wpAny M A (if (["enumerate", "zip", "dict_itemiterator", "dict_reverseitemiterator", "odict_iterator", "itertools.zip_longest", "itertools.pairwise"].contains n&&vs[0]?==some (rawInt _))=true then _ else _) Q E s
           rw[if_neg (by intro h;rw[hn,Bool.false_and]at h;cases h)]
           exact aS hQ))
noncomputable def zY(K:PySem.W.Frag)(a:Addr):It :=
 ⟨fun i H=>∃xs x,bH K H a xs∧xs[i]?=some x,fun i H x H'=>H'=H∧∀xs,bH K H a xs→xs[i]?=some x,fun i H=>∃xs,bH K H a xs∧xs.length≤i⟩
noncomputable def zZ(K:PySem.W.Frag)(a:Addr):It :=
 ⟨fun i H=>∃xs x,a8 K H a xs∧xs[i]?=some x,fun i H x H'=>H'=H∧∀xs,a8 K H a xs→xs[i]?=some x,fun i H=>∃xs,a8 K H a xs∧xs.length≤i⟩
noncomputable def qH(lo:Int)(n:Nat):It:=⟨fun i _=>i<n,fun i H x H'=>H'=H∧x=.int (lo+i),fun i _=>n≤i⟩
theorem Lf{P:Program}{w:World}{K:PySem.W.Frag}{tg:Expr}(a it:Addr):Turn P w K tg (zY K a) [it] it (fun i h=>h.IsListIter it a i) where
 mem:=by simp
 obj:=fun i h st b hb=>by
  have e:b=it:=by simpa using hb
  subst e
  obtain⟨o,e,c,d⟩:=st
  exact⟨o,e,fun v z=>by rw[d]at z;cases z⟩
 keep:=fun i h h' st k=>st.at fun o e=>k it (by simp) o e
 item:=by
  intro X hP hw hK hc i pins s σ H E I hf st hg
  subst hP hw hK
  obtain⟨xs,x,hq,hx⟩:=hg
  obtain⟨its,rv,p,hz⟩:=I.list hq
  obtain⟨u,hu,ru⟩:=rv.get hx
  obtain⟨f0,f1,f2,f3,f4,f5⟩:=hf it (by simp)
  refine wpAny_pyNext_list_item st p.isList (x:=u) (by simpa using hu) fun h' gM sb=>?_
  have I1:Inv X pins σ H { s with heap:=h' }:=I.turned (t':=s.toks) (fun b o hb e=>(sb.2 b hb).trans e) f0 f1 f3 f4 f5
  obtain⟨o,e,c,d⟩:=id gM
  exact⟨u,rfl,uI (s:={ s with heap:=h' }) e c d (by decide) ⟨x,H,I1,ru,⟨rfl,fun ys hy=>by rw[I.tO hy hq];exact hx⟩,gM,fun b hb=>(hf b hb).1⟩⟩
 done:=by
  intro X hP hw hK hc i pins s σ H E I hf st hg
  subst hP hw hK
  obtain⟨xs,hq,hx⟩:=hg
  obtain⟨its,rv,p,hz⟩:=I.list hq
  obtain⟨f0,f1,f2,f3,f4,f5⟩:=hf it (by simp)
  have hl:=rv.length
  exact wpAny_pyNext_list_end (I.ok.hd hc) st p.isList (by simp;omega) fun h' eb=>⟨rfl,I.turned (t':=s.toks) (fun b o hb e=>eb b o hb e) f0 f1 f3 f4 f5⟩
 self:=fun _ _ _ _ _ st h=>wpAny_pyIter_listiter st h
theorem KD{P:Program}{w:World}{K:PySem.W.Frag}{tg:Expr}(a it:Addr):Turn P w K tg (zZ K a) [it] it (fun i h=>h.IsTupleIter it a i) where
 mem:=by simp
 obj:=fun i h st b hb=>by
  have e:b=it:=by simpa using hb
  subst e
  obtain⟨o,e,c,d⟩:=st
  exact⟨o,e,fun v z=>by rw[d]at z;cases z⟩
 keep:=fun i h h' st k=>st.at fun o e=>k it (by simp) o e
 item:=by
  intro X hP hw hK hc i pins s σ H E I hf st hg
  subst hP hw hK
  obtain⟨xs,x,hq,hx⟩:=hg
  obtain⟨its,rv,p,hz⟩:=I.tuple hq
  obtain⟨u,hu,ru⟩:=rv.get hx
  obtain⟨f0,f1,f2,f3,f4,f5⟩:=hf it (by simp)
  refine wpAny_pyNext_tuple_item st (show s.heap.IsTuple a its.toArray from p) (x:=u) (by simpa using hu) fun h' gM sb=>?_
  have I1:Inv X pins σ H { s with heap:=h' }:=I.turned (t':=s.toks) (fun b o hb e=>(sb.2 b hb).trans e) f0 f1 f3 f4 f5
  obtain⟨o,e,c,d⟩:=id gM
  exact⟨u,rfl,uI (s:={ s with heap:=h' }) e c d (by decide) ⟨x,H,I1,ru,⟨rfl,fun ys hy=>by rw[I.xA hy hq];exact hx⟩,gM,fun b hb=>(hf b hb).1⟩⟩
 done:=by
  intro X hP hw hK hc i pins s σ H E I hf st hg
  subst hP hw hK
  obtain⟨xs,hq,hx⟩:=hg
  obtain⟨its,rv,p,hz⟩:=I.tuple hq
  obtain⟨f0,f1,f2,f3,f4,f5⟩:=hf it (by simp)
  have hl:=rv.length
  exact wpAny_pyNext_tuple_end (I.ok.hd hc) st (show s.heap.IsTuple a its.toArray from p) (by simp;omega) fun h' eb=>⟨rfl,I.turned (t':=s.toks) (fun b o hb e=>eb b o hb e) f0 f1 f3 f4 f5⟩
 self:=fun _ _ _ _ _ st h=>wpAny_pyIter_tupleiter st h
theorem KG{P:Program}{w:World}{K:PySem.W.Frag}{tg:Expr}(it:Addr)(lo:Int)(n:Nat):Turn P w K tg (qH lo n) [it] it (fun i h=>IsRangeIter h it (lo+(i:Nat)*1) ((n:Int)-(i:Nat)) 1) where
 mem:=by simp
 obj:=fun i h st b hb=>by
  have e:b=it:=by simpa using hb
  subst e
  exact⟨_,st,fun v z=>by
   have z':Data.fields _=Data.cell v:=z
   cases z'⟩
 keep:=fun i h h' st k=>k it (by simp) _ st
 item:=by
  intro X hP hw hK hc i pins s σ H E I hf st hg
  subst hP hw hK
  obtain⟨f0,f1,f2,f3,f4,f5⟩:=hf it (by simp)
  have W:=Walks.range (prog:=X.prog) (w:=X.w) (I.ok.hd hc) it lo 1 n
  refine W.item i s _ _ hg st fun v h' tk hv gM kk=>?_
  obtain⟨t,rfl⟩:=hv
  have I1:Inv X pins σ H { s with heap:=h',toks:=tk }:=I.turned (fun b o hb e=>kk b o (by simpa using hb) e) f0 f1 f3 f4 f5
  refine⟨_,rfl,uI (s:={ s with heap:=h',toks:=tk }) (n := "range_iterator") gM rfl rfl (by decide) ⟨.int (lo+i),H,I1,⟨t,?_⟩,⟨rfl,rfl⟩,gM,fun b hb=>(hf b hb).1⟩⟩
  rw[Int.mul_one]
 done:=by
  intro X hP hw hK hc i pins s σ H E I hf st hg
  subst hP hw hK
  obtain⟨f0,f1,f2,f3,f4,f5⟩:=hf it (by simp)
  exact wpAny_pyNext_range_end (I.ok.hd hc) st (by have:n≤i:=hg;omega) fun h' eb=>⟨rfl,I.turned (t':=s.toks) (fun b o hb e=>eb b o hb e) f0 f1 f3 f4 f5⟩
 self:=fun _ _ _ _ _ st h=>wpAny_pyIter_rangeiter st h
section
variable {X:Cx}{tg:Expr}
noncomputable def yL(K:PySem.W.Frag)(tl:TE):TI:=fun σ H R=>tl σ H fun x H1=>∃a,x=.ref a∧(∃xs,bH K H1 a xs)∧R (zY K a) H1
noncomputable def zb(K:PySem.W.Frag)(tl:TE):TI:=fun σ H R=>tl σ H fun x H1=>∃a,x=.ref a∧(∃xs,a8 K H1 a xs)∧R (zZ K a) H1
theorem N7{l:Expr}{tl:TE}(hl:PE X l tl):PI X tg l (yL X.K tl):=by
 intro pins s σ H R I h
 refine aG (hl pins s σ H _ I h) fun v s1 ⟨x,H1,I1,r1,q1⟩=>?_
 obtain⟨a,e,⟨xs,hq⟩,q⟩:=q1
 subst e
 cases r1
 obtain⟨its,rv,p,hz⟩:=I1.list hq
 refine wpAny_pyIter_list p.isList ?_
 refine⟨s1.heap.objs.size,[s1.heap.objs.size],_,_,H1,rfl,I1.kept (t':=s1.toks) fun b o e=>dw _ e,Lf a _,⟨_,Heap.get?_push_size _ rfl,rfl,rfl⟩,fun b hb=>?_,q⟩
 have e:b=s1.heap.objs.size:=by simpa using hb
 subst e
 exact I1.nV (a6 _) (I1.aH.fresh (a6 _))
theorem QH{l:Expr}{tl:TE}(hl:PE X l tl):PI X tg l (zb X.K tl):=by
 intro pins s σ H R I h
 refine aG (hl pins s σ H _ I h) fun v s1 ⟨x,H1,I1,r1,q1⟩=>?_
 obtain⟨a,e,⟨xs,hq⟩,q⟩:=q1
 subst e
 cases r1
 obtain⟨its,rv,p,hz⟩:=I1.tuple hq
 refine wpAny_pyIter_tuple (show s1.heap.IsTuple a its.toArray from p) ?_
 refine⟨s1.heap.objs.size,[s1.heap.objs.size],_,_,H1,rfl,I1.kept (t':=s1.toks) fun b o e=>dw _ e,KD a _,⟨_,Heap.get?_push_size _ rfl,rfl,rfl⟩,fun b hb=>?_,q⟩
 have e:b=s1.heap.objs.size:=by simpa using hb
 subst e
 exact I1.nV (a6 _) (I1.aH.fresh (a6 _))
theorem Dh{pins:List (Addr×Obj)}{σ:St}{H:Hp}{s:Shared}{R:It→Hp→Prop}{E:Value→Shared→Prop}{lo hi:Int}{t u v:Tok}{tk:Nat}(I:Inv X pins σ H s)(h1:-(2^62)≤lo)(h2:lo<2^62)(h3:-(2^62)≤hi)(h4:hi<2^62)
  (q:R (qH lo (hi-lo).toNat) H):wpAny (model X.prog X.w) X.A (pyIter (.ref s.heap.objs.size)) (Ht X pins σ tg R) E { s with heap:=s.heap.push { cls:=.type "range",data:=.fields #[.int lo t,.int hi u,.int 1 v] },toks:=tk }:=by
 refine wpAny_pyIter_range (IsRange.new ..) (small_one h1 h2 h3 h4) ?_
 have I1:Inv X pins σ H { s with heap:=s.heap.push { cls:=.type "range",data:=.fields #[.int lo t,.int hi u,.int 1 v] },toks:=tk }:=I.kept fun b o e=>dw _ e
 refine⟨(s.heap.push { cls:=.type "range",data:=.fields #[.int lo t,.int hi u,.int 1 v] }).objs.size,[(s.heap.push { cls:=.type "range",data:=.fields #[.int lo t,.int hi u,.int 1 v] }).objs.size],_,_,H,rfl,
  I1.kept (t':=tk) fun b o e=>dw _ e,KG _ lo (hi-lo).toNat,?_,fun b hb=>?_,q⟩
 ·have e1:lo+((0:Nat):Int)*1=lo:=by simp
  have e2:(((hi-lo).toNat:Nat):Int)-((0:Nat):Int)=Builtin.Range.rangeSize lo hi 1:=by rw[rangeSize_one];split<;>omega
  show IsRangeIter _ _ (lo+((0:Nat):Int)*1) ((((hi-lo).toNat:Nat):Int)-((0:Nat):Int)) 1
  rw[e1,e2]
  exact Heap.get?_push_size _ rfl
 ·have e:b=(s.heap.push { cls:=.type "range",data:=.fields #[.int lo t,.int hi u,.int 1 v] }).objs.size:=by simpa using hb
  subst e
  exact I1.nV (a6 _) (I1.aH.fresh (a6 _))
noncomputable def Fz(ta:TA):TI:=fun σ H R=>ta σ H fun vs H1=>∃j:Int,vs=[.int j]∧-(2^62)≤j∧j<2^62∧R (qH 0 j.toNat) H1
noncomputable def FC(ta:TA):TI:=fun σ H R=>ta σ H fun vs H1=>∃i j:Int,vs=[.int i,.int j]∧(-(2^62)≤i∧i<2^62∧-(2^62)≤j∧j<2^62)∧R (qH i (j-i).toNat) H1
theorem Lg {a:Expr}{ta:TA}{p pos:Pos} (hg:Gl X "range") (hm:X.mg "range" = none) (ha:PA X [a] ta) (hs:starEach [a] X.env=[(false,eval a X.env)]:=by rfl):PI X tg (.Call (.Name "range" p) [a] [] pos) (Fz ta):=by
 intro pins s σ H R I h
 refine Call_ (m6 I hg hm boot_range (PyProof.Rows.callWith_type1 (aG (ha pos pins s σ H _ I h) fun us s1 ⟨vs,H1,I1,r1,q1⟩=>?_) hs rfl))
 obtain⟨j,e,q1,q2,q⟩:=q1
 subst e
 cases r1 with
 |cons r rr =>
  cases rr
  obtain⟨t,rfl⟩:=r
  exact call_range_1 (Dh I1 (by omega) (by omega) q1 q2 (by simpa using q))
theorem Lh {a b:Expr}{ta:TA}{p pos:Pos} (hg:Gl X "range") (hm:X.mg "range" = none) (ha:PA X [a,b] ta) (hs:starEach [a,b] X.env=[(false,eval a X.env),(false,eval b X.env)]:=by rfl) (Hu:starEach [b] X.env=[(false,eval b X.env)]:=by rfl) :
  PI X tg (.Call (.Name "range" p) [a,b] [] pos) (FC ta):=by
 intro pins s σ H R I h
 refine Call_ (m6 I hg hm boot_range (PyProof.Rows.callWith_type1 (aG (ha pos pins s σ H _ I h) fun us s1 ⟨vs,H1,I1,r1,q1⟩=>?_) (by rw[hs,Hu]) (by rw[Hu];rfl)))
 obtain⟨i,j,e,⟨q1,q2,q3,q4⟩,q⟩:=q1
 subst e
 cases r1 with
 |cons r rr =>
  cases rr with
  |cons r' rr =>
   cases rr
   obtain⟨t,rfl⟩:=r
   obtain⟨t',rfl⟩:=r'
   exact call_range_2 (Dh I1 q1 q2 q3 q4 q)
noncomputable def zc(wi:TI)(g:TG)(tb:TS):TS:=fun D σ H=>wi σ H fun J H1=>∃W:Nat→Nat→St→Hp→Prop,(∃m,W 0 m σ H1)∧∀i m σ H,W i m σ H →
 (J.stop i H∧D.nx σ H)∨(J.go i H∧∃N:St→Hp→Prop,(∀σ' H',N σ' H'→∃m',m'<m∧W (i+1) m' σ' H')∧∀x H',J.iF i H x H'→g x σ H' fun σ2 H2=>tb { D with nx:=N,ct:=N,bk:=D.nx } σ2 H2)
noncomputable def pR(fp:List Addr)(h:Heap):List (Addr×Obj):=fp.filterMap fun b=>(h.get? b).map fun o=>(b,o)
theorem tG{fp:List Addr}{h:Heap}{b:Addr}{o:Obj}(hb:b∈fp)(e:h.get? b=some o):(b,o)∈pR fp h:=List.mem_filterMap.mpr ⟨b,hb,by rw[e];rfl⟩
theorem Li{fp:List Addr}{h:Heap}{p:Addr×Obj}(hp:p∈pR fp h):p.1∈fp∧h.get? p.1=some p.2:=by
 obtain⟨b,hb,e⟩:=List.mem_filterMap.mp hp
 cases q:h.get? b with
 |none=>rw[q]at e;cases e
 |some o =>
  rw[q]at e
  have e':(b,o)=p:=Option.some.inj e
  subst e'
  exact⟨hb,q⟩
theorem Inv.pinned{pins:List (Addr×Obj)}{σ:St}{H:Hp}{s:Shared}{fp:List Addr}(I:Inv X pins σ H s)(hf:∀b∈fp,gC X pins H b)(ho:∀b∈fp,∃o,s.heap.get? b=some o∧∀v,o.data≠.cell v):Inv X (pins++pR fp s.heap) σ H s :=
 I.DP fun p hp=>(cU.mp hp).elim (fun z=>I.pin p (fj _ z)) fun z=>by
  obtain⟨hb,e⟩:=Li z
  obtain⟨f0,f1,f2,_⟩:=hf p.1 hb
  obtain⟨o,e',d⟩:=ho p.1 hb
  rw[e]at e';cases e'
  exact⟨e,f0,f1,f2,d⟩
theorem Inv.tP{pins pl:List (Addr×Obj)}{σ:St}{H:Hp}{s:Shared}(I:Inv X (pins++pl) σ H s):Inv X pins σ H s:=I.DP fun p hp=>I.pin p (fj _ (dN _ hp))
theorem QI{iter:Expr}{body:List Stmt}{wi:TI}{g:TG}{tb:TS}{pos:Pos}(hp:PassesOwn (model X.prog X.w) X.A X.env X.xe)(hc:X.calm=true)(hi:PI X tg iter wi)(hg:PG X tg g)(hb:fP X body tb)
  (hs:∀x,foldedSetIterable iter X.env x=pure x:=by intro _;rfl):PS X (.For tg iter body [] pos) (zc wi g tb):=by
 intro pins s σ H D I h
 refine wpAny_For (aG (hi pins s σ H _ I h) fun v s1 h1=>aG h1 fun oi s2 h2=>?_) hs
 obtain⟨it,fp,tn,J,H2,e,I2,T,a7,f2,W,⟨m0,w0⟩,turn⟩:=h2
 subst e
 have stat:∀{H':Hp},(∀b∈fp,H' b=none)→∀b∈fp,gC X pins H' b:=fun hn b hb=>⟨hn b hb,(f2 b hb).2⟩
 refine codeAny_forLoop_any (fun n s'=>∃i σ' H',Inv X pins σ' H' s'∧tn i s'.heap∧(∀b∈fp,H' b=none)∧W i n σ' H') ?_ m0 ⟨0,σ,H2,I2,a7,fun b hb=>(f2 b hb).1,w0⟩
 rintro n s3 ⟨i,σ3,H3,I3,bD,qI,w3⟩
 rcases turn i n σ3 H3 w3 with⟨stop,qn⟩|⟨go,N,hN,step⟩
 ·refine wpAny_passesOwn hp (aG (T.done X rfl rfl rfl hc i pins s3 σ3 H3 X.xe I3 (stat qI) bD stop) fun r s4 ⟨hr,I4⟩=>?_)
  subst hr
  exact wpAny_execs_nil ⟨σ3,H3,I4,qn⟩
 ·refine wpAny_passesOwn hp (aG (T.item X rfl rfl rfl hc i pins s3 σ3 H3 X.xe I3 (stat qI) bD go) fun r s4 ⟨u,hr,h4⟩=>?_)
  subst hr
  refine wpAny_passesOwn hp (aG h4 fun _ s5 ⟨x,H5,I5,r5,y5,fQ,z4⟩=>?_)
  have z5:=I5.pinned (stat z4) (T.obj _ _ fQ)
  refine wpAny_passesOwn hp (aG (hg _ s5 σ3 H5 x u _ z5 r5 (step x H5 y5)) fun _ s6 ⟨σ6,H6,I6,q6⟩=>?_)
  refine wpAny_passesOwn hp (aG (hb _ s6 σ6 H6 _ I6 q6) fun f s7 q7=>?_)
  have again:∀{σ7:St}{H7:Hp},Inv X (pins++pR fp s5.heap) σ7 H7 s7→N σ7 H7→∃m,m<n∧∃i σ' H',Inv X pins σ' H' s7∧tn i s7.heap∧(∀b∈fp,H' b=none)∧W i m σ' H':=fun {σ7 H7} I7 n7=>by
   obtain⟨m',hm,w7⟩:=hN σ7 H7 n7
   refine⟨m',hm,i+1,σ7,H7,I7.tP,T.keep _ _ _ fQ fun b hb o e=>(I7.pin (b,o) (fj _ (fj _ (tG hb e)))).1,fun b hb=>?_,w7⟩
   obtain⟨o,e,d⟩:=T.obj _ _ fQ b hb
   exact(I7.pin (b,o) (fj _ (fj _ (tG hb e)))).2.1
  cases f with
  |next=>obtain⟨σ7,H7,I7,n7⟩:=q7;exact again I7 n7
  |cont=>obtain⟨σ7,H7,I7,n7⟩:=q7;exact again I7 n7
  |brk=>obtain⟨σ7,H7,I7,q7⟩:=q7;exact⟨σ7,H7,I7.tP,q7⟩
  |ret v=>obtain⟨x7,σ7,H7,I7,r7,q7⟩:=q7;exact⟨x7,σ7,H7,I7.tP,r7,q7⟩
end
noncomputable abbrev R2:=V→V→Hp→VK→Prop
def bI(X:Cx)(f:Value→Value→Sem Value)(r:R2):Prop :=
 ∀(pins:List (Addr×Obj)) (s:Shared) (σ:St) (H:Hp) (x y:V) (v u:Value) (Q:VK),Inv X pins σ H s→RelV x v→RelV y u→r x y H Q →
  wpAny (model X.prog X.w) X.A (f v u) (EP X pins σ Q) X.xe s
def vD(X:Cx)(f:Value→Sem Value)(r:V→Hp→VK→Prop):Prop :=
 ∀(pins:List (Addr×Obj)) (s:Shared) (σ:St) (H:Hp) (x:V) (v:Value) (Q:VK),Inv X pins σ H s→RelV x v→r x H Q →
  wpAny (model X.prog X.w) X.A (f v) (EP X pins σ Q) X.xe s
def ft(X:Cx)(f:Value)(r:List V→Hp→VK→Prop):Prop :=
 ∀(pins:List (Addr×Obj)) (s:Shared) (σ:St) (H:Hp) (xs:List V) (us:List Value) (Q:VK),Inv X pins σ H s→Vals xs us→r xs H Q →
  wpAny (model X.prog X.w) X.A (call f us) (EP X pins σ Q) X.xe s
def Vl(X:Cx)(r:V→Hp→(Bool→Hp→Prop)→Prop):Prop :=
 ∀(pins:List (Addr×Obj)) (s:Shared) (σ:St) (H:Hp) (x:V) (v:Value) (Q:Bool→Hp→Prop),Inv X pins σ H s→RelV x v→r x H Q →
  wpAny (model X.prog X.w) X.A (truthy v) (TP X pins σ Q) X.xe s
noncomputable def oj(r:R2)(ta tb:TE):TE:=fun σ H Q=>ta σ H fun x H1=>tb σ H1 fun y H2=>r x y H2 Q
noncomputable def Hv(r:V→Hp→VK→Prop)(ta:TE):TE:=fun σ H Q=>ta σ H fun x H1=>r x H1 Q
noncomputable def rI(C:Int→Int→Prop)(g:Int→Int→V):R2:=fun x y H Q=>∃i j,x=.int i∧y=.int j∧C i j∧Q (g i j) H
noncomputable def fS(g:Int→Int→V):R2:=fun x y H Q=>∃i j,x=.int i∧y=.int j∧Q (g i j) H
def rU(g:Int→V):V→Hp→VK→Prop:=fun x H Q=>∃i,x=.int i∧Q (g i) H
section
variable {X:Cx}{a b c:Expr}{ta tb tc:TE}{pos:Pos}
theorem zf(ha:PE X a ta)(hb:PE X b tb){pins:List (Addr×Obj)}{s:Shared}{σ:St}{H:Hp}{R:V→V→Hp→Prop}(I:Inv X pins σ H s)
  (h:ta σ H fun x H1=>tb σ H1 fun y H2=>R x y H2) {Q:Value→Shared→Prop}{f:Value→Value→Sem Value}
  (hf:∀v u s2 x y H2,Inv X pins σ H2 s2→RelV x v→RelV y u→R x y H2→wpAny (model X.prog X.w) X.A (f v u) Q X.xe s2) :
  wpAny (model X.prog X.w) X.A (eval a X.env) (fun v s₁=>wpAny (model X.prog X.w) X.A (eval b X.env) (fun u s₂=>wpAny (model X.prog X.w) X.A (f v u) Q X.xe s₂) X.xe s₁) X.xe s:=by
 refine aG (ha pins s σ H _ I h) fun v s1 ⟨x,H1,I1,r1,q1⟩=>?_
 refine aG (hb pins s1 σ H1 _ I1 q1) fun u s2 ⟨y,H2,I2,r2,q2⟩=>?_
 exact hf v u s2 x y H2 I2 r1 r2 q2
theorem Tj{op:Operator}{r:R2}(ho:bI X (binaryOp op) r)(ha:PE X a ta)(hb:PE X b tb):PE X (.BinOp a op b pos) (oj r ta tb):=by
 intro pins s σ H Q I h
 exact wpAny_BinOp (zf ha hb I h fun v u s2 x y H2 I2 rx ry q=>ho pins s2 σ H2 x y v u Q I2 rx ry q)
theorem Tn{op:UnaryOp}{r:V→Hp→VK→Prop}(ho:vD X (unaryOp op) r)(ha:PE X a ta):PE X (.UnaryOp op a pos) (Hv r ta):=by
 intro pins s σ H Q I h
 exact UnaryOp_ (aG (ha pins s σ H _ I h) fun v s1 ⟨x,H1,I1,r1,q1⟩=>ho pins s1 σ H1 x v Q I1 r1 q1)
theorem vE{f:Value→Value→Sem Value}{C:Int→Int→Prop}{g:Int→Int→Int}
  (rule:∀(i j:Int) (t u:Tok) (s:Shared) (Q:Value→Shared→Prop) (E:Value→Shared→Prop),C i j→Q (.int (g i j) s.toks) { s with toks:=s.toks+1 }→wpAny (model X.prog X.w) X.A (f (.int i t) (.int j u)) Q E s) :
  bI X f (rI C fun i j=>.int (g i j)):=by
 intro pins s σ H x y v u Q I rx ry h
 obtain⟨i,j,rfl,rfl,hc,q⟩:=h
 obtain⟨t,rfl⟩:=rx
 obtain⟨t',rfl⟩:=ry
 exact rule i j t t' s _ _ hc ⟨.int (g i j),H,I.tok _,⟨_,rfl⟩,q⟩
theorem Gg{f:Value→Value→Sem Value}{g:Int→Int→Int}
  (rule:∀(i j:Int) (t u:Tok) (s:Shared) (Q:Value→Shared→Prop) (E:Value→Shared→Prop),Q (.int (g i j) s.toks) { s with toks:=s.toks+1 }→wpAny (model X.prog X.w) X.A (f (.int i t) (.int j u)) Q E s) :
  bI X f (fS fun i j=>.int (g i j)):=by
 intro pins s σ H x y v u Q I rx ry h
 obtain⟨i,j,rfl,rfl,q⟩:=h
 obtain⟨t,rfl⟩:=rx
 obtain⟨t',rfl⟩:=ry
 exact rule i j t t' s _ _ ⟨.int (g i j),H,I.tok _,⟨_,rfl⟩,q⟩
theorem zg{f:Value→Value→Sem Value}{g:Int→Int→Bool}
  (rule:∀(i j:Int) (t u:Tok) (s:Shared) (Q:Value→Shared→Prop) (E:Value→Shared→Prop),Q (.bool (g i j)) s→wpAny (model X.prog X.w) X.A (f (.int i t) (.int j u)) Q E s) :
  bI X f (fS fun i j=>.bl (g i j)):=by
 intro pins s σ H x y v u Q I rx ry h
 obtain⟨i,j,rfl,rfl,q⟩:=h
 obtain⟨t,rfl⟩:=rx
 obtain⟨t',rfl⟩:=ry
 exact rule i j t t' s _ _ ⟨.bl (g i j),H,I,rfl,q⟩
def Gh(i j:Int):Prop:=0≤j∧j≤1000000∧i.natAbs<2^64
def ql(i j:Int):Prop:=(-(2^64)<i∧i<2^64)∨(-(2^64)<j∧j<2^64)
theorem ql.ok{i j:Int}(h:ql i j):IntMulOk i j:=by
 rcases h with⟨h1,h2⟩|⟨h1,h2⟩
 ·exact .of_left (intBits_le_64 h1 h2)
 ·exact .of_right (intBits_le_64 h1 h2)
theorem QJ:bI X (binaryOp .Add) (fS fun i j=>.int (i+j)):=Gg fun _ _ _ _ _ _ _ q=>add_int q
theorem QK:bI X (binaryOp .Sub) (fS fun i j=>.int (i-j)):=Gg fun _ _ _ _ _ _ _ q=>sub_int q
theorem QL:bI X (binaryOp .Mult) (rI ql fun i j=>.int (i*j)):=vE fun _ _ _ _ _ _ _ hc q=>mul_int q hc.ok
theorem QM:bI X (binaryOp .Mod) (rI (fun _ j=>0<j) fun i j=>.int (i%j)):=vE fun i j _ _ _ _ _ hc q=>by
 have h1:(0:Int)<j:=hc
 exact mod_int' (by omega) (by rw[Int.fmod_eq_emod_of_nonneg i (by omega)];exact q)
theorem QN:bI X (binaryOp .Pow) (rI Gh fun i j=>.int (i^j.toNat)):=vE fun _ _ _ _ _ _ _ hc q=>pow_int_small hc.1 hc.2.1 hc.2.2 q
theorem Wg{f:Value→Sem Value}{g:Int→Int}
  (rule:∀(i:Int) (t:Tok) (s:Shared) (Q:Value→Shared→Prop) (E:Value→Shared→Prop),Q (.int (g i) s.toks) { s with toks:=s.toks+1 }→wpAny (model X.prog X.w) X.A (f (.int i t)) Q E s) :
  vD X f (rU fun i=>.int (g i)):=by
 intro pins s σ H x v Q I rx h
 obtain⟨i,rfl,q⟩:=h
 obtain⟨t,rfl⟩:=rx
 exact rule i t s _ _ ⟨.int (g i),H,I.tok _,⟨_,rfl⟩,q⟩
theorem QO:vD X (unaryOp .USub) (rU fun i=>.int (-i)):=Wg fun _ _ _ _ _ q=>neg_int q
end
noncomputable def jJ:V→V→Bool
 |.non,.non=>true|.non,.int _=>true|.int _,.non=>true|.non,.bl _=>true|.bl _,.non=>true|.non,.str _=>true|.str _,.non=>true
 |.int _,.int _=>true|.bl _,.bl _=>true|.str _,.str _=>true|.fN _,.fN _=>true
 |.int _,.str _=>true|.str _,.int _=>true|.bl _,.str _=>true|.str _,.bl _=>true
 |_,_=>false
noncomputable def Hw:R2:=fun x y H Q=>jJ x y=true∧Q (.bl (decide (x=y))) H
noncomputable def Hx:R2:=fun x y H Q=>jJ x y=true∧Q (.bl (!decide (x=y))) H
theorem DS{i j:Int}:decide (V.int i=V.int j)=(i==j):=by
 rw[Bool.eq_iff_iff]
 simp
theorem EA{i j:Bool}:decide (V.bl i=V.bl j)=(i==j):=by
 rw[Bool.eq_iff_iff]
 simp
theorem DT{i j:Str}:decide (V.str i=V.str j)=(i==j):=by
 rw[Bool.eq_iff_iff]
 simp
theorem DU{i j:Array UInt8}:decide (V.fN i=V.fN j)=(i.toList==j.toList):=by
 rw[Bool.eq_iff_iff]
 cases i
 cases j
 simp
section
variable {X:Cx}{a b c:Expr}{ta tb tc:TE}{pos:Pos}
theorem b7{pins:List (Addr×Obj)}{σ:St}{H:Hp}{s:Shared}{Q:VK}{k k':Bool}(I:Inv X pins σ H s)(q:Q (.bl k) H)(e:k=k'):EP X pins σ Q (.bool k') s:=by
 subst e
 exact⟨.bl k,H,I,rfl,q⟩
theorem Tp:bI X (compareOp .Eq) Hw:=by
 intro pins s σ H x y v u Q I rx ry h
 obtain⟨hs,q⟩:=h
 cases x with
 |non =>
  cases rx
  cases y with
  |non=>cases ry;exact PySem.EqNone.eq_none_none (b7 I q (by simp))
  |bl j=>cases ry;exact PySem.EqNone.eq_none_bool (b7 I q (by simp))
  |int j=>obtain⟨t',rfl⟩:=ry;exact PySem.EqNone.eq_none_int (b7 I q (by simp))
  |str j=>obtain⟨t',rfl⟩:=ry;exact PySem.EqNone.eq_none_str (b7 I q (by simp))
  |_=>exact absurd (show false=true from hs) aZ
 |bl i =>
  cases rx
  cases y with
  |non=>cases ry;exact PySem.EqNone.eq_bool_none (b7 I q (by simp))
  |bl j=>cases ry;exact eq_bool (b7 I q EA)
  |str j=>obtain⟨t',rfl⟩:=ry;exact PySem.EqMixed.eq_bool_str (b7 I q (by simp))
  |_=>exact absurd (show false=true from hs) aZ
 |int i =>
  obtain⟨t,rfl⟩:=rx
  cases y with
  |non=>cases ry;exact PySem.EqNone.eq_int_none (b7 I q (by simp))
  |int j=>obtain⟨t',rfl⟩:=ry;exact eq_int (b7 I q DS)
  |str j=>obtain⟨t',rfl⟩:=ry;exact PySem.EqMixed.eq_int_str (b7 I q (by simp))
  |_=>exact absurd (show false=true from hs) aZ
 |str i =>
  obtain⟨t,rfl⟩:=rx
  cases y with
  |non=>cases ry;exact PySem.EqNone.eq_str_none (b7 I q (by simp))
  |bl j=>cases ry;exact PySem.EqMixed.eq_str_bool (b7 I q (by simp))
  |int j=>obtain⟨t',rfl⟩:=ry;exact PySem.EqMixed.eq_str_int (b7 I q (by simp))
  |str j=>obtain⟨t',rfl⟩:=ry;exact eq_str (b7 I q DT)
  |_=>exact absurd (show false=true from hs) aZ
 |fN i =>
  obtain⟨t,rfl⟩:=rx
  cases y with
  |fN j=>obtain⟨t',rfl⟩:=ry;exact PySem.W.eq_bytes (b7 I q DU)
  |_=>exact absurd (show false=true from hs) aZ
 |_=>cases y<;>exact absurd (show false=true from hs) aZ
theorem Tq:bI X (compareOp .NotEq) Hx:=by
 intro pins s σ H x y v u Q I rx ry h
 obtain⟨hs,q⟩:=h
 cases x with
 |non =>
  cases rx
  cases y with
  |non=>cases ry;exact PySem.EqNone.ne_none_none (b7 I q (by simp))
  |bl j=>cases ry;exact PySem.EqNone.ne_none_bool (b7 I q (by simp))
  |int j=>obtain⟨t',rfl⟩:=ry;exact PySem.EqNone.ne_none_int (b7 I q (by simp))
  |str j=>obtain⟨t',rfl⟩:=ry;exact PySem.EqNone.ne_none_str (b7 I q (by simp))
  |_=>exact absurd (show false=true from hs) aZ
 |bl i =>
  cases rx
  cases y with
  |non=>cases ry;exact PySem.EqNone.ne_bool_none (b7 I q (by simp))
  |bl j=>cases ry;exact ne_bool (b7 I q (congrArg not EA))
  |str j=>obtain⟨t',rfl⟩:=ry;exact PySem.EqMixed.ne_bool_str (b7 I q (by simp))
  |_=>exact absurd (show false=true from hs) aZ
 |int i =>
  obtain⟨t,rfl⟩:=rx
  cases y with
  |non=>cases ry;exact PySem.EqNone.ne_int_none (b7 I q (by simp))
  |int j=>obtain⟨t',rfl⟩:=ry;exact ne_int (b7 I q (congrArg not DS))
  |str j=>obtain⟨t',rfl⟩:=ry;exact PySem.EqMixed.ne_int_str (b7 I q (by simp))
  |_=>exact absurd (show false=true from hs) aZ
 |str i =>
  obtain⟨t,rfl⟩:=rx
  cases y with
  |non=>cases ry;exact PySem.EqNone.ne_str_none (b7 I q (by simp))
  |bl j=>cases ry;exact PySem.EqMixed.ne_str_bool (b7 I q (by simp))
  |int j=>obtain⟨t',rfl⟩:=ry;exact PySem.EqMixed.ne_str_int (b7 I q (by simp))
  |str j=>obtain⟨t',rfl⟩:=ry;exact ne_str (b7 I q (congrArg not DT))
  |_=>exact absurd (show false=true from hs) aZ
 |fN i =>
  obtain⟨t,rfl⟩:=rx
  cases y with
  |fN j=>obtain⟨t',rfl⟩:=ry;exact PySem.W.ne_bytes (b7 I q (congrArg not DU))
  |_=>exact absurd (show false=true from hs) aZ
 |_=>cases y<;>exact absurd (show false=true from hs) aZ
theorem Tr:bI X (compareOp .Lt) (fS fun i j=>.bl (decide (i<j))):=zg fun _ _ _ _ _ _ _ q=>lt_int q
theorem Ts:bI X (compareOp .LtE) (fS fun i j=>.bl (decide (i≤j))):=zg fun _ _ _ _ _ _ _ q=>le_int q
theorem Tt:bI X (compareOp .Gt) (fS fun i j=>.bl (decide (j<i))):=zg fun _ _ _ _ _ _ _ q=>gt_int q
theorem N8:bI X (compareOp .IsNot) (fun x y H Q=>y=.non∧Q (.bl (!decide (x=.non))) H):=by
 intro pins s σ H x y v u Q I rx ry h
 obtain⟨rfl,q⟩:=h
 cases ry
 refine isnot_none_gen (b7 I q ?_)
 cases x<;>first
  | (cases rx;rfl)
  | (obtain⟨t,rfl⟩:=rx;rfl)
theorem N9{op:CmpOp}{r:R2}(ho:bI X (compareOp op) r)(ha:PE X a ta)(hb:PE X b tb)(hm:behindInMarks op b=false):PE X (.Compare a [op] [b] pos) (oj r ta tb):=by
 intro pins s σ H Q I h
 exact wpAny_Compare1 (zf ha hb I h fun v u s2 x y H2 I2 rx ry q=>ho pins s2 σ H2 x y v u Q I2 rx ry q) hm
noncomputable def yM(t:TE):TT:=fun σ H Q=>t σ H fun x H'=>∃k,x=.bl k∧Q k H'
theorem Oa{op:CmpOp}{r:R2}(ho:bI X (compareOp op) r)(ha:PE X a ta)(hb:PE X b tb)(hm:behindInMarks op b=false):PT X (.Compare a [op] [b] pos) (yM (oj r ta tb)):=by
 intro pins s σ H Q I h
 refine wpAny_isTrue_Compare1 (aG (ha pins s σ H _ I h) fun v s1 ⟨x,H1,I1,r1,q1⟩=>aG (hb pins s1 σ H1 _ I1 q1) fun u s2 ⟨y,H2,I2,r2,q2⟩ =>
  aG (ho pins s2 σ H2 x y v u _ I2 r1 r2 q2) fun c s3 ⟨z,H3,I3,r3,k,e,q3⟩=>?_) hm
 subst e
 cases r3
 exact wpAny_truthy_bool ⟨H3,I3,q3⟩
noncomputable def EB(r r':R2)(ta tb tc:TE):TE:=fun σ H Q=>ta σ H fun x H1=>tb σ H1 fun y H2=>r x y H2 fun z H3=>∃k,z=.bl k ∧
 (if k=true then tc σ H3 fun w' H4=>r' y w' H4 Q else Q (.bl false) H3)
theorem Mp{op op':CmpOp}{r r':R2}(ho:bI X (compareOp op) r)(jP:bI X (compareOp op') r')(ha:PE X a ta)(hb:PE X b tb)(hc:PE X c tc)
  (hm:lastMarks [op,op'] [b,c]=false:=by with_unfolding_all rfl):PT X (.Compare a [op,op'] [b,c] pos) (yM (EB r r' ta tb tc)):=by
 intro pins s σ H Q I h
 refine isTrue_chain (aG (ha pins s σ H _ I h) fun v s1 ⟨x,H1,I1,r1,q1⟩=>test_link (aG (hb pins s1 σ H1 _ I1 q1) fun u s2 ⟨y,H2,I2,r2,q2⟩ =>
  aG (ho pins s2 σ H2 x y v u _ I2 r1 r2 q2) fun d s3 ⟨z,H3,I3,r3,k,e,q3⟩=>?_)) hm
 subst e
 cases r3
 refine wpAny_truthy_bool ?_
 cases k with
 |false =>
  obtain⟨k',e',q'⟩:=q3
  cases e'
  exact ite_ff ⟨H3,I3,q'⟩
 |true =>
  refine ite_tt (test_last (aG (hc pins s3 σ H3 _ I3 q3) fun w' s4 ⟨z',H4,I4,r4,q4⟩=>aG (jP pins s4 σ H4 y z' u w' _ I4 r2 r4 q4) fun d' s5 ⟨z2,H5,I5,r5,k2,e2,q5⟩=>?_))
  subst e2
  cases r5
  exact wpAny_truthy_bool ⟨H5,I5,q5⟩
def uZ(K:PySem.W.Frag)(x:V)(H:Hp)(k:Bool):Prop :=
 match x with
 |.non=>k=false
 |.bl b=>k=b
 |.int i=>k=(i != 0)
 |.str y=>y.length≤sizeLine∧k=((y.length:Int) != 0)
 |.fN y=>y.size≤sizeLine∧k=((y.size:Int) != 0)
 |.ref p=>(∃xs,bH K H p xs∧k=!xs.isEmpty)∨(∃xs,a8 K H p xs∧k=!xs.isEmpty)∨∃ai,H p=some (.dK ai)∧k=!ai.isEmpty
 |_=>False
theorem KH{κ:Type}{ai:List (κ×V)}{vs:List (κ×Value)}(r:KV ai vs):(!vs.isEmpty)=!ai.isEmpty:=by
 cases r<;>rfl
theorem Cd{xs:List V}{its:List Value}(r:Vals xs its):(!its.toArray.isEmpty)=!xs.isEmpty:=by
 cases r<;>simp
theorem m7:(sizeLine:Nat)<2^63:=by rw[sizeLine_eq];decide
theorem QP:Vl X (fun x H Q=>∃k,uZ X.K x H k∧Q k H):=by
 intro pins s σ H x v Q I rx h
 obtain⟨k,e,q⟩:=h
 have hl:=m7
 have hs:sizeLine=16777216:=sizeLine_eq
 cases x with
 |non =>
  cases rx
  have e':k=false:=e
  subst e'
  exact truthy_none ⟨H,I,q⟩
 |bl b =>
  cases rx
  have e':k=b:=e
  subst e'
  exact wpAny_truthy_bool ⟨H,I,q⟩
 |int i =>
  obtain⟨t,rfl⟩:=rx
  have e':k=(i != 0):=e
  subst e'
  exact PySem.P.truthy_int ⟨H,I,q⟩
 |str y =>
  obtain⟨t,rfl⟩:=rx
  obtain⟨hy,e'⟩:y.length≤sizeLine∧k=((y.length:Int) != 0):=e
  subst e'
  exact PySem.P.truthy_str (by omega) ⟨H,I.tok _,q⟩
 |fN y =>
  obtain⟨t,rfl⟩:=rx
  obtain⟨hy,e'⟩:y.size≤sizeLine∧k=((y.size:Int) != 0):=e
  subst e'
  exact PySem.W.truthy_bytes (by omega) ⟨H,I.tok _,q⟩
 |ref p =>
  cases rx
  have e':(∃xs,bH X.K H p xs∧k=!xs.isEmpty)∨(∃xs,a8 X.K H p xs∧k=!xs.isEmpty)∨∃ai,H p=some (.dK ai)∧k=!ai.isEmpty:=e
  rcases e' with⟨xs,hx,e'⟩|⟨xs,hx,e'⟩|⟨ai,hx,e'⟩
  ·subst e'
   obtain⟨its,r,pl,hz⟩:=I.list hx
   have hlen:=r.length
   exact wpAny_truthy_list pl.isList (by simp only[List.size_toArray];omega) ⟨H,I.tok _,by rw[Cd r];exact q⟩
  ·subst e'
   obtain⟨its,r,pl,hz⟩:=I.tuple hx
   have hlen:=r.length
   exact truthy_tuple pl (by simp only[List.size_toArray];omega) ⟨H,I.tok _,by rw[Cd r];exact q⟩
  ·subst e'
   obtain⟨hz,hS,vs,r,m⟩:ai.length≤sizeLine∧(p==sysModules)=false∧∃vs,KV ai vs∧s.heap.DictOf (cZ X.prog X.w) p vs:=I.aH p _ hx
   have hlen:ai.length=vs.length:=Paired.length r
   exact wpAny_truthy_dict hS m (by omega) ⟨H,I.tok _,by rw[KH r];exact q⟩
 |_=>exact(show False from e).elim
theorem Mq(ha:PE X a ta)(he:∀whole,isTrue a X.env whole=(do let v ←whole;standAt a.pos;holding [v] (truthy v))) :
  PT X a (fun σ H Q=>ta σ H fun x H'=>∃k,uZ X.K x H' k∧Q k H'):=by
 intro pins s σ H Q I h
 exact isTrue_plain (aG (ha pins s σ H _ I h) fun v s1 ⟨x,H1,I1,r1,q1⟩=>QP pins s1 σ H1 x v Q I1 r1 q1) (he _)
theorem KJ:bI X (binaryOp .Add) (fun x y H Q=>∃i j,x=.str i∧y=.str j∧i.length+j.length≤sizeLine∧Q (.str (i++j)) H):=by
 intro pins s σ H x y v u Q I rx ry h
 obtain⟨i,j,rfl,rfl,hz,q⟩:=h
 obtain⟨t,rfl⟩:=rx
 obtain⟨t',rfl⟩:=ry
 exact add_str (fun t' tk=>⟨.str (i++j),H,I.tok _,⟨_,rfl⟩,q⟩) hz
theorem vals1{x:V}{us:List Value}(r:Vals [x] us):∃u,us=[u]∧RelV x u:=by
 cases r with
 |cons r1 r2=>cases r2;exact⟨_,rfl,r1⟩
theorem vals2{x y:V}{us:List Value}(r:Vals [x,y] us):∃u w',us=[u,w']∧RelV x u∧RelV y w':=by
 cases r with
 |cons r1 r2 =>
  cases r2 with
  |cons r3 r4=>cases r4;exact⟨_,_,rfl,r1,r3⟩
theorem Lj(hc:X.calm=true):ft X (.builtin "max") (fun xs H Q=>∃i j,xs=[.int i,.int j]∧Q (.int (if j>i then j else i)) H):=by
 intro pins s σ H xs us Q I r h
 obtain⟨i,j,rfl,q⟩:=h
 obtain⟨u,w',rfl,⟨t,rfl⟩,⟨t',rfl⟩⟩:=vals2 r
 refine max_two_ints (I.ok.hd hc) fun h' tk k=>⟨_,H,I.kept k,?_,q⟩
 by_cases hj:j>i
 ·rw[if_pos hj,if_pos hj];exact⟨_,rfl⟩
 ·rw[if_neg hj,if_neg hj];exact⟨_,rfl⟩
theorem Lk:ft X (.type "int") (fun xs H Q=>(∃i,xs=[.int i]∧Q (.int i) H)∨∃k,xs=[.bl k]∧Q (.int (if k then 1 else 0)) H):=by
 intro pins s σ H xs us Q I r h
 rcases h with⟨i,rfl,q⟩|⟨k,rfl,q⟩
 ·obtain⟨u,rfl,t,rfl⟩:=vals1 r
  exact call_int_int ⟨.int i,H,I,⟨_,rfl⟩,q⟩
 ·obtain⟨u,rfl,r1⟩:=vals1 r
  cases r1
  exact call_int_bool ⟨.int (if k then 1 else 0),H,I.tok _,⟨_,rfl⟩,q⟩
def zh(K:PySem.W.Frag)(x:V)(H:Hp)(n:Nat):Prop :=
 match x with
 |.str y=>y.length≤sizeLine∧n=y.length
 |.fN y=>y.size≤sizeLine∧n=y.size
 |.ref p=>(∃xs,bH K H p xs∧n=xs.length)∨∃xs,a8 K H p xs∧n=xs.length
 |_=>False
theorem Mr:ft X (.builtin "len") (fun xs H Q=>∃x n,xs=[x]∧zh X.K x H n∧Q (.int n) H):=by
 intro pins s σ H xs us Q I r h
 obtain⟨x,n,rfl,e,q⟩:=h
 obtain⟨u,rfl,rx⟩:=vals1 r
 have hl:=m7
 have hs:sizeLine=16777216:=sizeLine_eq
 cases x with
 |str y =>
  obtain⟨t,rfl⟩:=rx
  obtain⟨hy,e'⟩:y.length≤sizeLine∧n=y.length:=e
  subst e'
  exact len_str (by omega) ⟨.int _,H,I.tok _,⟨_,rfl⟩,q⟩
 |fN y =>
  obtain⟨t,rfl⟩:=rx
  obtain⟨hy,e'⟩:y.size≤sizeLine∧n=y.size:=e
  subst e'
  exact PySem.W.len_bytes (by omega) ⟨.int _,H,I.tok _,⟨_,rfl⟩,q⟩
 |ref p =>
  cases rx
  have e':(∃xs,bH X.K H p xs∧n=xs.length)∨∃xs,a8 X.K H p xs∧n=xs.length:=e
  rcases e' with⟨xs,hx,e'⟩|⟨xs,hx,e'⟩
  ·subst e'
   obtain⟨its,r',pl,hz⟩:=I.list hx
   have hlen:=r'.length
   exact Calls.call_len_list pl.isList (by simp only[List.size_toArray];omega) ⟨.int xs.length,H,I.tok _,⟨_,by simp only[List.size_toArray];rw[hlen]⟩,q⟩
  ·subst e'
   obtain⟨its,r',pl,hz⟩:=I.tuple hx
   have hlen:=r'.length
   exact len_tuple pl (by simp only[List.size_toArray];omega) ⟨.int xs.length,H,I.tok _,⟨_,by simp only[List.size_toArray];rw[hlen]⟩,q⟩
 |_=>exact(show False from e).elim
end
structure YH (h:Heap)(x dx C:Addr)(mA:Str→Option Value):Prop where
 obj:h.get? x=some (PySem.W.instObj C dx)
 ns:h.Ns1 dx mA
 ne:dx≠x
section
variable {prog:Program}{w:World}{A:Around}{E:Value→Shared→Prop}{s:Shared}{K:PySem.W.Frag}{x dx C f:Addr}{mA:Str→Option Value}{name:Str}{v:Value}
end
section
variable {P:Program}{w:World}{H H':Hp}{h h':Heap}{a C dx:Addr}{fs Wa:List (Str×V)}
end
structure Wh (K:PySem.W.Frag)(C:Addr):Prop where
 pg:PySem.W.plainGet K C Str.empty=true
 hd:PySem.W.hasDictIn K C=true
 po:PySem.W.plainOver K C=true
 sa:PySem.W.findIn K (.ref C) "__setattr__" = some (some (.builtin "object.__setattr__"))
structure YQ (K:PySem.W.Frag)(C:Addr)(f:Str)(v:V)(u:Value):Prop where
 at_:PySem.W.findIn K (.ref C) f=some (some u)
 rel:RelV v u
 get:PySem.W.specialIn K u "__get__" = some none
 cp:PySem.W.copiedNames.contains f=false
structure Meth (K:PySem.W.Frag)(C:Addr)(m:Str)(f:Addr):Prop where
 at_:PySem.W.findIn K (.ref C) m=some (some (.ref f))
 fn:PySem.W.isFn K (.ref f)=true
 kp:PySem.W.keepIn K (.ref f)=true
section
variable {X:Cx}{pins:List (Addr×Obj)}{σ:St}{H:Hp}{s:Shared}{a C dx:Addr}{fs:List (Str×V)}{f:Str}{v:V}{A:Around}{E:Value→Shared→Prop}
end
section
variable {X:Cx}{o e value:Expr}{f:Str}{pos pos' Vm:Pos}{ta tv:TE}
def zi:V→V→Hp→VK→Prop:=fun x y H Q=>∃i j,x=.int i∧y=.int j∧Q (.int (i+j)) H
end
section
variable {X:Cx}{pins:List (Addr×Obj)}{σ:St}{H:Hp}{s:Shared}{A:Around}{E:Value→Shared→Prop}{Q:Value→Shared→Prop}{c:Value}{b:Bool}
inductive iz (K:PySem.W.Frag)(H:Hp):V→Value→Prop where
 |non:iz K H .non (.type "NoneType")
 |bl (x:Bool):iz K H (.bl x) (.type "bool")
 |int (i:Int):iz K H (.int i) (.type "int")
 |str (x:Str):iz K H (.str x) (.type "str")
 |qC (x:UInt64):iz K H (.qC x) (.type "float")
 |lst {a:Addr}{xs:List V} (e:H a=some (.lst xs)):iz K H (.ref a) (.type "list")
 |cw {a:Addr}{o:Obj}{xs:List V} (e:H a=some (.cw o (.lst xs))):iz K H (.ref a) (.type "list")
 |tup {a:Addr}{xs:List V} (e:H a=some (.tup xs)):iz K H (.ref a) (.type "tuple")
 |dK {a:Addr}{ai:List (Key×V)} (e:H a=some (.dK ai)):iz K H (.ref a) (.type "dict")
 |dT {a:Addr}{ai:List (List Key×V)} (e:H a=some (.dT ai)):iz K H (.ref a) (.type "dict")
 |ins {a C dx:Addr}{fs:List (Str×V)} (e:H a=some (.ins C dx fs)) (cl:Wh K C) (ha:PySem.W.findIn K (.ref C) "__class__" = some (some (.builtin "object.__class__")))
  (hn:PySem.W.specialIn K (.builtin "object.__class__") "__get__" = some (some (.builtin "getset_descriptor.__get__"))) (YR:PySem.W.takesIn K (.builtin "object.__class__")=some true)
  (hm:PySem.W.mroIn K C (.type "object")=some true):iz K H (.ref a) (.ref C)
end
structure dD (k:Nat)(A:Around):Prop where
 hd:A.handled=none
 dp:A.depth+3*k+5<recursionLimit
 un:A.units+16*k+200<cLine
theorem dD.mono{j k:Nat}{A:Around}(r:dD k A)(h:j≤k):dD j A:=⟨r.hd,by have:=r.dp;omega,by have:=r.un;omega⟩
theorem dD.deeper{k:Nat}{A:Around}(r:dD (k+1) A)(env:Env):dD k (A.deeper env) :=
 ⟨r.hd,by have:=r.dp;show A.depth+1+3*k+5<_;omega,by have:=r.un;show A.units+3+16*k+200<_;omega⟩
theorem dD.depth{k:Nat}{A:Around}(r:dD k A):A.depth<recursionLimit:=by have:=r.dp;omega
theorem dD.units{k:Nat}{A:Around}(r:dD k A):A.units+64<cLine:=by have:=r.un;omega
noncomputable def kH:TA:=fun _ H Q=>Q [] H
noncomputable def lJ(ta:TE)(tr:TA):TA:=fun σ H Q=>ta σ H fun x H1=>tr σ H1 fun xs H2=>Q (x::xs) H2
section
variable {X:Cx}{e:Expr}{es:List Expr}{te:TE}{t:TA}{pos:Pos}
theorem pS:PA X [] kH:=fun _ _ _ _ H Q I h=>Calls.spliced_nil ⟨[],H,I,.nil,h⟩
theorem tZ(ha:PE X e te)(hr:PA X es t)(hs:starEach (e::es) X.env=(false,eval e X.env)::starEach es X.env:=by rfl):PA X (e::es) (lJ te t):=by
 intro pos pins s σ H Q I h
 rw[hs]
 show wpAny _ _ (spliced ((false,eval e X.env)::backTo pos (starEach es X.env))) _ _ s
 refine Calls.spliced_cons (aG (ha pins s σ H _ I h) fun u s1 ⟨x,H1,I1,r1,q1⟩=>?_)
 exact aG (hr pos pins s1 σ H1 _ I1 q1) fun us s2 ⟨xs,H2,I2,r2,q2⟩=>⟨x::xs,H2,I2,.cons r1 r2,q2⟩
noncomputable def Gi(t:TA):TE:=fun σ H Q=>t σ H fun xs H1=>xs.length≤sizeLine∧∀p,H1 p=none→Q (.ref p) (upd H1 p (.tup xs))
noncomputable def u5(t:TA):TE:=fun σ H Q=>t σ H fun xs H1=>xs.length≤sizeLine∧∀p,H1 p=none→Q (.ref p) (upd H1 p (.lst xs))
theorem QQ{x1}(h:PA X es t):PE X (.Tuple es x1 pos) (Gi t):=by
 intro pins s σ H Q I hq
 refine wpAny_Tuple_spliced (aG (h pos pins s σ H _ I hq) fun us s1 ⟨xs,H1,I1,r,z,q⟩=>⟨by rw[←r.length];exact z,?_⟩)
 have hf:H1 s1.heap.objs.size=none:=I1.aH.fresh (a6 _)
 refine⟨.ref s1.heap.objs.size,upd H1 s1.heap.objs.size (.tup xs),I1.laid (t':=s1.toks) (fun b u e=>dw _ e) (a6 _) ?_,rfl,q _ hf⟩
 exact⟨z,us,r,⟨_,Heap.get?_push_size _ rfl,rfl,rfl,_,rfl⟩⟩
theorem yk(h:PA X es t):PE X (.List es pos) (u5 t):=by
 intro pins s σ H Q I hq
 refine wpAny_List_spliced (aG (h pos pins s σ H _ I hq) fun us s1 ⟨xs,H1,I1,r,z,q⟩=>⟨by rw[←r.length];exact z,?_⟩)
 have hf:H1 s1.heap.objs.size=none:=I1.aH.fresh (a6 _)
 refine⟨.ref s1.heap.objs.size,upd H1 s1.heap.objs.size (.lst xs),I1.laid (t':=s1.toks) (fun b u e=>dw _ e) (a6 _) ?_,rfl,q _ hf⟩
 exact⟨z,us,0,r,Heap.get?_push_size _ rfl⟩
end
noncomputable abbrev Sp:=List V→Hp→VK→XK→Prop
noncomputable abbrev iG:=List Env→Hp→Shared→XK→Value→Shared→Prop
structure u6 (P:Program)(w:World)(K:PySem.W.Frag)(mg:Str→Option Value)(base:Heap)(A:Around)(outer:List Env)(s:Shared)(H:Hp):Prop where
 frames:A.frames=some outer
 mod:Mod K mg base
 bs:∀b o,base.get? b=some o→s.heap.get? b=some o∧H b=none
 jO:base.objs.size≤s.heap.objs.size
 iw:s.heap.FunFrames base outer
 og:∀b∈hG outer,H b=none
 aH:cy P w H s.heap
 bare:AllBare s.gens
def CE(outer:List Env)(P:Program)(w:World)(H:Hp)(s:Shared)(Q:VK)(u:Value)(s':Shared):Prop :=
 ∃v H',s'.os=s.os∧AllBare s'.gens∧Un (hG outer) [] H H' s.heap s'.heap∧cy P w H' s'.heap∧RelV v u∧Q v H'
def CR(CX:iG)(outer:List Env)(P:Program)(w:World)(H:Hp)(s:Shared)(Q:VK)(E:XK)(r:Result)(s':Shared):Prop :=
 match r with
 |.ok (.ret u)=>CE outer P w H s Q u s'
 |.ok _=>False
 |.error e=>CX outer H s E e s'
structure jK (P:Program)(w:World)(K:PySem.W.Frag)(mg:Str→Option Value)(base:Heap)(CX:iG)(k:Nat)(f:Addr)(fd:FuncData)(ps:List Str)(sp:Sp):Prop where
 len:∀vs H Q E,sp vs H Q E→vs.length=ps.length
 run:∀(A:Around) (outer:List Env) (s:Shared) (H:Hp) (args:Args) (us:List Value) (vs:List V) (Q:VK) (E:XK),dD k A→u6 P w K mg base A outer s H→BindsTo s fd args (ps.zip us)→Vals vs us→sp vs H Q E →
  codeAny (model P w) A (.call (.ref f) args) (CR CX outer P w H s Q E) s
section
variable {X:Cx}{pins:List (Addr×Obj)}{σ:St}{H:Hp}{s s':Shared}
theorem Inv.Vn(I:Inv X pins σ H s):u6 X.prog X.w X.K X.mg X.base X.A X.stack s H :=
 ⟨I.ok.frames,I.ok.mod,I.bs,bP I.ok.jO I.sz,I.stack,I.DN,I.aH,I.bare⟩
theorem Inv.after{Q:VK}{u:Value}(I:Inv X pins σ H s)(h:CE X.stack X.prog X.w H s Q u s'):EP X pins σ Q u s':=by
 obtain⟨v,H',os,bare,un,aH,r,q⟩:=h
 obtain⟨hh,g,d,t,Wi⟩:=s'
 obtain rfl:Wi=s.os:=os
 exact⟨v,H',I.call (h':=hh) (g':=g) (d':=d) (t':=t) (ch:=[]) un aH bare (fun b z=>absurd z (by simp)),r,q⟩
end
noncomputable def qc(sp:Sp)(k5:List V)(E:XK)(t:TA):TE:=fun σ H Q=>t σ H fun vs H1=>sp (vs++k5) H1 Q E
def Binds(K:PySem.W.Frag)(fd:FuncData)(ps:List Str)(ds:List Value):Prop :=
 ∀(s:Shared) (us:List Value),K.In s.heap→(us++ds).length=ps.length→BindsTo s fd ⟨us,[]⟩ (ps.zip (us++ds))
theorem Binds.all{K:PySem.W.Frag}{fd:FuncData}{ps:List Str}(h:∀us:List Value,us.length=ps.length→bindArgs fd ⟨us,[]⟩=pure (ps.zip us)):Binds K fd ps []:=fun s us _ hl=>by
 rw[List.append_nil]at hl ⊢
 exact .of_eq (h us hl)
def Passes(CX:iG)(X:Cx)(E:XK):Prop:=∀(pins:List (Addr×Obj)) (σ:St) (H:Hp) (s:Shared) (e:Value) (s':Shared),Inv X pins σ H s→CX X.stack H s E e s'→X.xe e s'
section
variable {X:Cx}{CX:iG}{k:Nat}{f C:Addr}{fd:FuncData}{ps:List Str}{sp:Sp}{k5:List V}{ds:List Value}{E:XK}{x m:Str}{p pos apos:Pos}{e o:Expr}{es:List Expr}{ta:TE}{t:TA}
theorem QR{pins:List (Addr×Obj)}{σ:St}{H:Hp}{s:Shared}{Q:VK}{us:List Value}{vs:List V}(F:jK X.prog X.w X.K X.mg X.base CX k f fd ps sp)(hr:dD k X.A)(hb:Binds X.K fd ps ds)(hd:Vals k5 ds)(hx:Passes CX X E)
  (I:Inv X pins σ H s) (r:Vals vs us) (h:sp (vs++k5) H Q E):wpAny (model X.prog X.w) X.A (call (.ref f) us) (EP X pins σ Q) X.xe s:=by
 have r2:Vals (vs++k5) (us++ds):=r.append hd
 have hl:(us++ds).length=ps.length:=by rw[←r2.length];exact F.len _ _ _ _ h
 refine wpAny_call (codeAny_mono (F.run X.A X.stack s H ⟨us,[]⟩ (us++ds) (vs++k5) Q E hr I.Vn (hb s us I.fO hl) r2 h) fun r s' hq=>?_)
 cases r with
 |error e=>exact hx pins σ H s e s' I hq
 |ok fl =>
  cases fl with
  |ret u=>exact I.after hq
  |next=>exact False.elim hq
  |brk=>exact False.elim hq
  |cont=>exact False.elim hq
theorem DV(F:jK X.prog X.w X.K X.mg X.base CX k f fd ps sp)(hr:dD k X.A)(hg:Gl X x)(hm:X.mg x=some (.ref f))(hk:PySem.W.keepIn X.K (.ref f)=true)(hb:Binds X.K fd ps ds)(hd:Vals k5 ds)(hx:Passes CX X E)
  (ha:PA X (e::es) t) (qJ:(x==("__debug__" : Str))=false:=by decide) (he:starEach (e::es) X.env=(false,eval e X.env)::starEach es X.env:=by rfl) (i7:(backTo pos (starEach es X.env)).any (·.1)=false:=by rfl) :
  PE X (.Call (.Name x p) (e::es) [] pos) (qc sp k5 E t):=by
 intro pins s σ H Q I h
 refine wpAny_Call_Name_kw (N1 I hg hm ?_ qJ)
 refine PySem.W.callWith_K (h₀:=X.base) I.ok.mod.zV hk (aG (ha pos pins s σ H _ I h) fun us s1 ⟨vs,H1,I1,r,q⟩=>⟨I1.fO,?_⟩) he i7
 exact QR F hr hb hd hx I1 r q
structure Mk (K:PySem.W.Frag)(C f:Addr):Prop where
 makes:PySem.W.makesIn K C=true
 init:PySem.W.findIn K (.ref C) "__init__" = some (some (.ref f))
 fn:PySem.W.isFn K (.ref f)=true
 kp:PySem.W.keepIn K (.ref C)=true
end
section
variable {X:Cx}{CX:iG}{k:Nat}{f C:Addr}{fd:FuncData}{ps ks:List Str}{sp:Sp}{E:XK}{x m:Str}{p pos apos YJ:Pos}{e o:Expr}{es:List Expr}{kws:List Keyword}{te ta:TE}{t tk:TA}{nm:Option Str}
structure YC (K:PySem.W.Frag)(fd:FuncData)(ps ks:List Str)(g:List Value→List Value→List Value)(gV:List V→List V→List V):Prop where
 to:∀(s:Shared) (us ws:List Value),K.In s.heap→(g us ws).length=ps.length→BindsTo s fd ⟨us,ks.zip ws⟩ (ps.zip (g us ws))
 rel:∀{vs:List V}{us:List Value}{zs:List V}{ws:List Value},Vals vs us→Vals zs ws→Vals (gV vs zs) (g us ws)
variable {g:List Value→List Value→List Value}{gV:List V→List V→List V}
end
structure pO (N P:List Str)(sc:Scope):Prop where
 kind:sc.kind=.function
 co:sc.isCoroutine=false
 gen:sc.isGenerator=false
 nd:N.Nodup
 pre:N.take P.length=P
 par:∀x∈P,sc.names.lookup x=some .local∨sc.names.lookup x=some .cell
 QS:∀y∈sc.names,y.2≠.free
theorem CD{kindOf:Str→Option NameKind}{x:Str}:∀{binds:List (Str×Value)}{m:Str→Option Value},(∀v,(x,v)∉binds)→bindL kindOf binds m x=m x
  |[],_,_=>rfl
  | (n,v)::r,m,h=>by
    unfold bindL
    rw[CD fun w hw=>h w (b9 _ hw)]
    split
    · have:x≠n:=by rintro rfl;exact h v bV
      simp[this]
    · rfl
theorem CF{kindOf:Str→Option NameKind}{x:Str}:∀{binds:List (Str×Value)}{m:Str→Option Value},(∀v,(x,v)∉binds)→bindC kindOf binds m x=m x
  |[],_,_=>rfl
  | (n,v)::r,m,h=>by
    unfold bindC
    rw[CF fun w hw=>h w (b9 _ hw)]
    split
    · rfl
    · have:x≠n:=by rintro rfl;exact h v bV
      simp[this]
theorem CG{kindOf:Str→Option NameKind}{x:Str}{v:Value}:∀{P:List Str}{vs:List Value}{i:Nat}{m:Str→Option Value},P.Nodup→P[i]?=some x→vs[i]?=some v→kindOf x=some .local →
  bindL kindOf (P.zip vs) m x=some v
 |[],_,_,_,_,h,_,_=>by simp at h
 |_::_,[],_,_,_,_,h,_=>by simp at h
 |p::P,w::vs,0,m,nd,h1,h2,hk=>by
  simp at h1 h2;subst h1;subst h2
  show bindL kindOf ((p,w)::P.zip vs) m p=_
  unfold bindL
  rw[CD fun v hv=>(List.nodup_cons.mp nd).1 (List.of_mem_zip hv).1,if_pos hk]
  simp
 |p::P,w::vs,i+1,m,nd,h1,h2,hk=>by
  show bindL kindOf ((p,w)::P.zip vs) m x=_
  unfold bindL
  exact CG (i:=i) (List.nodup_cons.mp nd).2 (by simpa using h1) (by simpa using h2) hk
theorem CH{kindOf:Str→Option NameKind}{x:Str}{v:Value}:∀{P:List Str}{vs:List Value}{i:Nat}{m:Str→Option Value},P.Nodup→P[i]?=some x→vs[i]?=some v→kindOf x≠some .local →
  bindC kindOf (P.zip vs) m x=some v
 |[],_,_,_,_,h,_,_=>by simp at h
 |_::_,[],_,_,_,_,h,_=>by simp at h
 |p::P,w::vs,0,m,nd,h1,h2,hk=>by
  simp at h1 h2;subst h1;subst h2
  show bindC kindOf ((p,w)::P.zip vs) m p=_
  unfold bindC
  rw[CF fun v hv=>(List.nodup_cons.mp nd).1 (List.of_mem_zip hv).1,if_neg hk]
  simp
 |p::P,w::vs,i+1,m,nd,h1,h2,hk=>by
  show bindC kindOf ((p,w)::P.zip vs) m x=_
  unfold bindC
  exact CH (i:=i) (List.nodup_cons.mp nd).2 (by simpa using h1) (by simpa using h2) hk
noncomputable def start(N:List Str)(vs:List V):St:=vs.map some++List.replicate (N.length-vs.length) none
noncomputable def kJ(CX:iG)(P:Program)(w:World)(K:PySem.W.Frag)(mg:Str→Option Value)(base:Heap)(N:List Str)(qual:Str)(scope:Scope)(f:Addr)(cd:Value)(A:Around)(outer:List Env)(s:Shared)(H:Hp)(E:XK):Cx where
 prog:=P
 w:=w
 K:=K
 mg:=mg
 base:=base
 A:=A.deeper (envOfC qual scope s.heap.objs.size f cd)
 N:=N
 s₀:=s
 H₀:=H
 env:=envOfC qual scope s.heap.objs.size f cd
 outer:=outer
 stack:=envOfC qual scope s.heap.objs.size f cd::outer
 ex:=[]
 calm:=true
 fn:=fun _=>true
 pn:=[]
 xe:=fun e s'=>wpAny (model P w) (A.deeper (envOfC qual scope s.heap.objs.size f cd)) (leaving (envOfC qual scope s.heap.objs.size f cd) e) (fun _ z6=>CX outer H s E e z6) (fun e' z6=>CX outer H s E e' z6) s'
theorem Di{sc:Scope}{n:Nat}{x:Str}(h:sc.names.lookup x=some .cell):∃c,(cellsFrom n sc.names []).lookup x=some c:=by
 have q:=PySem.W.cellsFrom_some sc.names n [] (.inl h)
 exact Option.isSome_iff_exists.mp q
theorem Ln{CX:iG}{P:Program}{w:World}{K:PySem.W.Frag}{mg:Str→Option Value}{base:Heap}{N ps:List Str}{qual:Str}{scope:Scope}{f:Addr}{cd:Value}{A:Around}{outer:List Env}{s s1:Shared}{H:Hp}{E:XK}{us:List Value}{vs:List V}
  (S:pO N ps scope) (hd:A.handled=none) (e0:u6 P w K mg base A outer s H) (hl:vs.length=ps.length) (r:Vals vs us)
  (x:InCallC s s.heap.objs.size (bindL (envOfC qual scope s.heap.objs.size f cd).kindOf (ps.zip us) fun _=>none) (cellsFrom (s.heap.objs.size+1) scope.names []) (bindC (envOfC qual scope s.heap.objs.size f cd).kindOf (ps.zip us) fun _=>none) s1) :
  Inv (kJ CX P w K mg base N qual scope f cd A outer s H E) [] (start N vs) H s1:=by
 have i7:ps.length≤N.length:=by have:=congrArg List.length S.pre;rw[List.length_take]at this;omega
 obtain⟨h1,tk,rfl,hk⟩:=x.done
 have qK:∀b:Addr,b∉(kJ CX P w K mg base N qual scope f cd A outer s H E).ex:=fun b z=>absurd (show b∈([]:List Addr)from z) (by simp)
 refine⟨⟨e0.mod,S.kind,rfl,rfl,a6 _,fun y z c h1 h2=>?_,fun y hy=>?_,fun y c _ h=>?_,fun _=>hd,Around.frames_deeper e0.frames,.inr ⟨rfl,rfl⟩,fun b z=>absurd z (qK b),e0.bs,e0.jO,fun b _ _=>qK b,fun b z=>absurd z (qK b),e0.iw,e0.og⟩,
  rfl,e0.bare,Un.kept hk,⟨_,x.toInCall.ns,fun i y v h1 h2 h3=>?_⟩,fun y c h=>⟨_,x.cell y c h⟩,e0.aH.fresh (a6 _),fun y c h=>?_,fun p hp=>absurd (show p∈([]:List (Addr×Obj))from hp) (by simp),e0.aH.kept hk,?_⟩
 ·exact name_of_addr x.apart (PySem.mem_of_lookup h1) (PySem.mem_of_lookup h2)
 ·have hy:scope.names.lookup y=some .cell∨scope.names.lookup y=some .free:=hy
  rcases hy with hy|hy
  ·exact Di hy
  ·exact absurd rfl (S.QS _ (PySem.mem_of_lookup hy))
 ·exact Nat.le_of_lt (x.above y c (PySem.mem_of_lookup h))
 ·have hi:i<vs.length:=by
   unfold start at h2
   by_cases hi:i<vs.length
   ·exact hi
   ·rw[List.getElem?_append_right (by simpa using hi)]at h2
    rw[List.getElem?_replicate]at h2
    split at h2<;>cases h2
  have ha:vs[i]?=some v:=by
   unfold start at h2
   rw[List.getElem?_append_left (by simpa using hi),dG]at h2
   cases e:vs[i]? with
   |none=>rw[e]at h2;cases h2
   |some a=>rw[e]at h2;cases h2;rfl
  obtain⟨u,hu,rv⟩:=r.get ha
  have hp:ps[i]?=some y:=by
   rw[←S.pre,List.getElem?_take_of_lt (by omega)];exact h1
  have Hy:ps.Nodup:=by rw[←S.pre];exact S.nd.sublist (List.take_sublist _ _)
  refine⟨u,rv,?_⟩
  rcases S.par y (fm hp)with k|k
  ·exact .inl ⟨k,CG Hy hp hu k⟩
  ·obtain⟨c,e⟩:=Di (n:=s.heap.objs.size+1) k
   refine .inr ⟨.inl k,c,e,?_⟩
   have q:=x.cell y c e
   rw[CH Hy hp hu (by show scope.names.lookup y≠_;rw[k];decide)]at q
   exact q
 ·exact e0.aH.fresh (Nat.le_of_lt (x.above y c (PySem.mem_of_lookup h)))
 ·unfold start
  show _=N.length
  rw[dO,List.length_map,List.length_replicate]
  omega
theorem FD{CX:iG}{P:Program}{w:World}{K:PySem.W.Frag}{mg:Str→Option Value}{base:Heap}{k:Nat}{f:Addr}{name qual:Str}{params:Arguments}{body:List Stmt}{scope:Scope}{dV kV doc pm bM ct oc:Value}{an od:Option Addr}
  {iH:Array (Option Value)}{N ps:List Str}{sp:Sp} (lk:K.lookup f=some ⟨oc,od,.func (PySem.W.fnOf name qual params body scope dV kV doc pm an bM ct),iH⟩) (gJ:PySem.W.codeIn K bM qual=true) (S:pO N ps scope)
  (len:∀vs H Q E,sp vs H Q E→vs.length=ps.length)
  (qd:∀(A:Around) (outer:List Env) (s:Shared) (H:Hp) (vs:List V) (Q:VK) (E:XK),dD k (A.deeper (envOfC qual scope s.heap.objs.size f bM))→sp vs H Q E →
   ∃t,fP (kJ CX P w K mg base N qual scope f bM A outer s H E) body t∧t { nx:=fun _ H'=>Q .non H',rt:=Q } (start N vs) H) :
  jK P w K mg base CX (k+1) f (PySem.W.fnOf name qual params body scope dV kV doc pm an bM ct) ps sp:=by
 refine⟨len,fun A outer s H args us vs Q E hr e0 hb r i9=>?_⟩
 have hl:=len _ _ _ _ i9
 have KX:K.In s.heap:=e0.mod.zV.keeps fun b o e=>(e0.bs b o e).1
 have lim:s.heap.NoLimit:=e0.mod.nolimit.keeps fun b o e=>(e0.bs b o e).1
 have Tv:∀y∈ps.zip us,scope.names.lookup y.1=some .local∨(scope.names.lookup y.1=some .cell∧((cellsFrom (s.heap.objs.size+1) scope.names []).lookup y.1).isSome=true):=fun⟨n,v⟩ hy=>by
  rcases S.par n (List.of_mem_zip hy).1 with q|q
  ·exact .inl q
  ·exact .inr ⟨q,PySem.W.cellsFrom_some _ _ _ (.inl q)⟩
 refine codeAny_call_function hr.depth (KX _ _ lk) rfl S.co S.gen rfl (PySem.W.codeRec_of KX gJ) (hb _ _ _ _ ?_)
 refine wpAny_newFunctionEnv_cells S.kind Tv fun env he s1 x=>?_
 subst he
 refine⟨lim.keeps x.toInCall.keep,codeAny_func ?_⟩
 obtain⟨t,ht,hq⟩:=qd A outer s H vs Q E (hr.deeper _) i9
 have I:Inv (kJ CX P w K mg base N qual scope f bM A outer s H E) [] (start N vs) H s1:=Ln S hr.hd e0 hl r x
 refine wpAny_mono (ht [] s1 (start N vs) H _ I hq) (fun fl s' hs=>?_) fun e s' hs=>hs
 have fin:∀{σ':St}{H':Hp}{v:V}{u:Value},Inv (kJ CX P w K mg base N qual scope f bM A outer s H E) [] σ' H' s'→RelV v u→Q v H'→CE outer P w H s Q u s' :=
  fun {σ' H' v u} J rv q=>⟨v,H',J.os,J.bare,J.base,J.aH,rv,q⟩
 cases fl with
 |ret u =>
  obtain⟨v,σ',H',J,rv,q⟩:=hs
  exact fin J rv q
 |next =>
  obtain⟨σ',H',J,q⟩:=hs
  exact fin (v:=V.non) (u:=Value.none) J rfl q
 |brk =>
  obtain⟨_,_,_,q⟩:=hs
  exact False.elim q
 |cont =>
  obtain⟨_,_,_,q⟩:=hs
  exact False.elim q
section
variable {X:Cx}{x:Str}{p pos:Pos}{e:Expr}{es:List Expr}{t:TA}{id T:String}{r:List V→Hp→VK→Prop}
noncomputable def vF(r:List V→Hp→VK→Prop)(t:TA):TE:=fun σ H Q=>t σ H fun vs H1=>r vs H1 Q
theorem tQ (hc:ft X (.builtin id) r) (hg:Gl X x) (hm:X.mg x=none) (hv:bootBuiltins x=some (.builtin id)) (ha:PA X (e::es) t) (hn:x ≠ "__name__" := by decide) (qJ:(x==("__debug__" : Str))=false:=by decide)
  (he:starEach (e::es) X.env=(false,eval e X.env)::starEach es X.env:=by rfl) (i7:(backTo pos (starEach es X.env)).any (·.1)=false:=by rfl):PE X (.Call (.Name x p) (e::es) [] pos) (vF r t):=by
 intro pins s σ H Q I h
 refine wpAny_Call_Name_kw (m6 I hg hm hv ?_ hn qJ)
 exact PyProof.Rows.callWith_builtin1 (aG (ha pos pins s σ H _ I h) fun us s1 ⟨vs,H1,I1,r1,q1⟩=>hc pins s1 σ H1 vs us Q I1 r1 q1) he i7
theorem pC (hc:ft X (.type T) r) (hg:Gl X x) (hm:X.mg x=none) (hv:bootBuiltins x=some (.type T)) (ha:PA X (e::es) t) (hn:x ≠ "__name__" := by decide) (qJ:(x==("__debug__" : Str))=false:=by decide)
  (he:starEach (e::es) X.env=(false,eval e X.env)::starEach es X.env:=by rfl) (i7:(backTo pos (starEach es X.env)).any (·.1)=false:=by rfl):PE X (.Call (.Name x p) (e::es) [] pos) (vF r t):=by
 intro pins s σ H Q I h
 refine wpAny_Call_Name_kw (m6 I hg hm hv ?_ hn qJ)
 exact PyProof.Rows.callWith_type1 (aG (ha pos pins s σ H _ I h) fun us s1 ⟨vs,H1,I1,r1,q1⟩=>hc pins s1 σ H1 vs us Q I1 r1 q1) he i7
end
end L2
namespace HT
open PySem PyProof.Rows
section
open PySem.SeqAt
open PySem.AutoSeq1 (wpAny_loadPart')
open PySem.MeetsSeq PySem.MeetsSeq2 PySem.MeetsSeq3
end
section
variable {prog:Program}{w:World}{A:Around}{E:Value→Shared→Prop}{s:Shared}
theorem Ob{t b:Addr}{vs ws:List Value}{Q:Value→Shared→Prop}(ht:IsTup s.heap t vs.toArray)(hb:IsTup s.heap b ws.toArray)(hv:vs≠[])
  (h1:ws=[]→Q (.ref t) s) (h2:ws≠[]→Q (.ref s.heap.objs.size) { s with heap:=s.heap.push { cls:=.type "tuple",data:=.seq (vs++ws).toArray } })
  (hsz:vs.length+ws.length≤sizeLine):wpAny (model prog w) A (binaryOp .Add (.ref t) (.ref b)) Q E s:=by
 obtain⟨⟨cls,dd,data,sl⟩,ho,hc,n,hd⟩:=id ht
 obtain⟨⟨Vo,vG,data2,ot⟩,hU,gn,n2,hd2⟩:=id hb
 simp only at hc hd gn hd2
 subst hc hd gn hd2
 have e:vs.toArray++ws.toArray=(vs++ws).toArray:=by simp
 by_cases hw:ws=[]
 ·exact concat_meets ⟨_,ho,rfl⟩ ⟨_,hU,rfl⟩ noFill_tuple_add seq_tuple_add PySem.F.slot_tuple_add PySem.F.entry_tuple_add (PySem.F.args_tuple_add_2 _ _)
   (tuple_addW1 t b vs.toArray ws.toArray n n2 dd vG sl ot (by simpa using hv) (by simp[hw])) ⟨ho,hU,h1 hw⟩
 ·refine concat_meets ⟨_,ho,rfl⟩ ⟨_,hU,rfl⟩ noFill_tuple_add seq_tuple_add PySem.F.slot_tuple_add PySem.F.entry_tuple_add (PySem.F.args_tuple_add_2 _ _)
   (tuple_addW2 t b vs.toArray ws.toArray n n2 dd vG sl ot (by simpa using hv) (by simpa using hw) (by rw[List.size_toArray,List.size_toArray];exact hsz)) ⟨ho,hU,?_⟩
  rw[e]
  exact h2 hw
noncomputable def aW(n d:Nat):Option Int→Nat
 |none=>d
 |some v=>if v<0 then (v+(n:Int)).toNat else min v.toNat n
theorem QT(n d:Nat)(hd:d≤n)(o:Option Int):aW n d o≤n:=by
 cases o with
 |none=>exact hd
 |some v =>
  show(if v<0 then (v+(n:Int)).toNat else min v.toNat n)≤n
  by_cases hv:v<0
  ·rw[if_pos hv];omega
  ·rw[if_neg hv];exact Nat.min_le_right _ _
theorem DW(v:Int)(n d:Nat):(if v<0 then max (v+(n:Int)) 0 else min v (n:Int))=((aW n d (some v):Nat):Int):=by
 show(if v<0 then max (v+(n:Int)) 0 else min v (n:Int))=(((if v<0 then (v+(n:Int)).toNat else min v.toNat n):Nat):Int)
 by_cases hv:v<0
 ·simp only[if_pos hv];omega
 ·simp only[if_neg hv];omega
theorem KL(lo hi:Option Int)(n:Nat):Builtin.Slice.sliceAdjust lo hi 1 (n:Int)=(((aW n 0 lo:Nat):Int),((aW n n hi:Nat):Int)):=by
 have h1:¬((1:Int)<0):=by omega
 unfold Builtin.Slice.sliceAdjust
 simp only[h1,if_false]
 refine Prod.ext ?_ ?_
 ·cases lo with
  |none=>rfl
  |some v=>exact DW v n 0
 ·cases hi with
  |none=>rfl
  |some v=>exact DW v n n
theorem KN(i j:Nat):Builtin.Slice.slicePlaces (i:Int) (j:Int) 1=j-i:=by
 unfold Builtin.Slice.slicePlaces
 have h1:(1:Int)>0:=by omega
 simp only[h1,if_true,Int.ediv_one]
 split<;>omega
theorem Ce{v:Value}{o:Option Int}{Q:Option Int→Shared→Prop}(p:IsPart v o)(h:Q o s):wpAny (model prog w) A (Builtin.Slice.slicePartIndex v) Q E s:=by
 cases p with
 |none=>exact slicePart_none h
 |int i t=>exact slicePart_int h
theorem Bw{sl:Addr}{vl vu:Value}{lo hi:Option Int}{n:Nat}{Q:Int×Int×Nat→Shared→Prop}(hs:s.heap.IsSliceOf sl vl vu .none)(pl:IsPart vl lo)(pu:IsPart vu hi)
  (h:Q (((aW n 0 lo:Nat):Int),1,aW n n hi-aW n 0 lo) s):wpAny (model prog w) A (Builtin.Slice.sliceApplied (.ref sl) (pure (n:Int))) Q E s:=by
 obtain⟨os,mw,eV,iI⟩:=id hs
 unfold Builtin.Slice.sliceApplied Builtin.Slice.sliceFields
 refine aC (aC (wpAny_field mw iI (x:=vl) rfl (aC (wpAny_field mw iI (x:=vu) rfl (aC (wpAny_field mw iI (x:=.none) rfl (aS ?_)))))))
 refine aC (slicePart_none ?_)
 show wpAny _ _ (if ((1:Int)==0)=true then _ else _) _ _ s
 rw[if_neg (by decide)]
 refine aC (Ce pl (aC (Ce pu (aC (aS ?_)))))
 show wpAny _ _ (match Builtin.Slice.sliceAdjust lo hi 1 (n:Int)with | (lo,hi)=>pure (lo,(1:Int),Builtin.Slice.slicePlaces lo hi 1)) _ _ s
 rw[KL lo hi n]
 show wpAny _ _ (pure (((aW n 0 lo:Nat):Int),(1:Int),Builtin.Slice.slicePlaces ((aW n 0 lo:Nat):Int) ((aW n n hi:Nat):Int) 1)) _ _ s
 rw[KN]
 exact aS h
theorem Ms(xs:Array Value)(i k:Nat):((List.range k).filterMap fun(m:Nat)=>xs[((i:Int)+(m:Int)*1).toNat]?).toArray=((xs.toList.drop i).take k).toArray:=by
 have e:(fun(m:Nat)=>xs[((i:Int)+(m:Int)*1).toNat]?)=fun m=>xs[i+m]?:=by
  funext m
  have:((i:Int)+(m:Int)*1).toNat=i+m:=by omega
  rw[this]
 rw[e]
 have:=pick_run xs i k
 rw[List.filterMap_map]at this
 have e2:((fun x=>xs[x]?)∘fun x=>i+x)=fun m=>xs[i+m]?:=rfl
 rw[e2]at this
 rw[this]
theorem J5{t sl:Addr}{items:Array Value}{vl vu:Value}{lo hi:Option Int}{Q:Value→Shared→Prop}(ht:IsTup s.heap t items)(hs:s.heap.IsSliceOf sl vl vu .none)(pl:IsPart vl lo)(pu:IsPart vu hi)
  (hw:¬(aW items.size 0 lo=0∧aW items.size items.size hi=items.size))
  (h:Q (.ref s.heap.objs.size) { s with heap:=s.heap.push { cls:=.type "tuple",data:=.seq ((items.toList.drop (aW items.size 0 lo)).take (aW items.size items.size hi-aW items.size 0 lo)).toArray } })
  (hsz:items.size≤sizeLine):wpAny (model prog w) A (getItem (.ref t) (.ref sl)) Q E s:=by
 have uJ:sizeOk (.seq ((items.toList.drop (aW items.size 0 lo)).take (aW items.size items.size hi-aW items.size 0 lo)).toArray):=by
  show((items.toList.drop (aW items.size 0 lo)).take (aW items.size items.size hi-aW items.size 0 lo)).toArray.size≤sizeLine
  rw[List.size_toArray,List.length_take,List.length_drop,Array.length_toList]
  omega
 have hj:aW items.size items.size hi≤items.size:=QT _ _ (a6 _) hi
 obtain⟨os,mw,eV,iI⟩:=id hs
 have z7:s.TypeIs (.ref sl) "slice" := ⟨os,mw,eV⟩
 unfold getItem
 try with_reducible refine wpAny_holding ?_
 first|refine aC (aS ?_)|skip
 refine aC (wpAny_sequenceKey ht.typeIs (by decide) ?_)
 refine aC (wpAny_callSpecial?_slot (name:=Str.ofString "__getitem__") ht.typeIs PyProof.Rows.slot_tuple_getitem
  (wpAny_call_entry PyProof.Rows.slot_tuple_getitem ht.typeIs entry_tuple_getitem ?_ (args_tuple_getitem _ _)))
 show wpAny _ _ (Builtin.Tuple.tupleItemsOf (.ref t) >>= _) _ _ s
 refine aC (tupleItemsOf_ ht ?_)
 refine aC (wpAny_typeOf z7 ?_)
 rw[if_pos (by decide)]
 refine aC (Bw hs pl pu ?_)
 have Wj:¬((((aW items.size 0 lo:Nat):Int)==0&&(1:Int)==1&&(aW items.size items.size hi-aW items.size 0 lo)==items.size)=true):=by
  intro q
  rw[Bool.and_eq_true,Bool.and_eq_true]at q
  have q1:((aW items.size 0 lo:Nat):Int)=0:=eq_of_beq q.1.1
  have q2:aW items.size items.size hi-aW items.size 0 lo=items.size:=eq_of_beq q.2
  exact hw ⟨by omega,by omega⟩
 show wpAny _ _ (if (((aW items.size 0 lo:Nat):Int)==0&&(1:Int)==1&&(aW items.size items.size hi-aW items.size 0 lo)==items.size)=true then _ else _) _ _ s
 rw[if_neg Wj,Ms]
 first
  |exact aC (m:=Builtin.Tuple.tupleExact _) (wpAny_newObj_type (aS ⟨_,rfl,aS h⟩) uJ)
  |exact aC (m:=Builtin.Tuple.tupleExact _) (wpAny_newObj_type (aC (aS (aS ⟨_,rfl,aS h⟩))) uJ)
  |exact aC (aC (m:=Builtin.Tuple.tupleExact _) (wpAny_newObj_type (aS (aS ⟨_,rfl,aS h⟩)) uJ))
  |exact aC (aC (m:=Builtin.Tuple.tupleExact _) (wpAny_newObj_type (aS ⟨_,rfl,aS h⟩) uJ))
end
end HT
namespace L2
open PySem PySem.Spec PyProof.Rows
noncomputable abbrev TO:=St→Hp→(Option Int→Hp→Prop)→Prop
def PO(X:Cx)(e:Option Expr)(t:TO):Prop :=
 ∀(pins:List (Addr×Obj)) (s:Shared) (σ:St) (H:Hp) (Q:Option Int→Hp→Prop),Inv X pins σ H s→t σ H Q →
  wpAny (model X.prog X.w) X.A (evalPart e X.env) (fun u s'=>∃o H',Inv X pins σ H' s'∧IsPart u o∧Q o H') X.xe s
noncomputable def DX:TO:=fun _ H Q=>Q none H
noncomputable def FE(t:TE):TO:=fun σ H Q=>t σ H fun x H1=>∃i,x=.int i∧Q (some i) H1
section
variable {X:Cx}{e:Expr}{te:TE}{lo hi:Option Expr}{tl th:TO}{pos p2:Pos}
theorem Oc:PO X none DX:=by
 intro pins s σ H Q I h
 rw[evalPart_none]
 exact aS ⟨none,H,I,.none,h⟩
theorem Od(h:PE X e te):PO X (some e) (FE te):=by
 intro pins s σ H Q I hw
 rw[evalPart_some]
 refine aG (h pins s σ H _ I hw) fun u s1 ⟨x,H1,I1,r1,q1⟩=>?_
 obtain⟨i,rfl,q⟩:=q1
 obtain⟨t,rfl⟩:=r1
 exact⟨some i,H1,I1,.int i t,q⟩
def jS(X:Cx)(r:V→Option Int→Option Int→Hp→VK→Prop):Prop :=
 ∀(pins:List (Addr×Obj)) (s:Shared) (σ:St) (H:Hp) (x:V) (v vl vu:Value) (lo hi:Option Int) (sl:Addr) (Q:VK),Inv X pins σ H s→RelV x v→s.heap.IsSliceOf sl vl vu .none→IsPart vl lo→IsPart vu hi→r x lo hi H Q →
  ∃T id,typeLookup (.type T) "__getitem__" = pure (some (.builtin id))∧s.TypeIs v T∧wpAny (model X.prog X.w) X.A (getItem v (.ref sl)) (EP X pins σ Q) X.xe s
noncomputable def Hz(r:V→Option Int→Option Int→Hp→VK→Prop)(te:TE)(tl th:TO):TE:=fun σ H Q=>te σ H fun x H1=>tl σ H1 fun l H2=>th σ H2 fun u H3=>r x l u H3 Q
theorem Mt{r:V→Option Int→Option Int→Hp→VK→Prop}(hr:jS X r)(he:PE X e te)(hl:PO X lo tl)(hu:PO X hi th):PE X (.Subscript e (.Slice lo hi none p2) pos) (Hz r te tl th):=by
 intro pins s σ H Q I h
 refine Subscript_ (aG (he pins s σ H _ I h) fun v s1 ⟨x,H1,I1,r1,q1⟩=>?_)
 refine wpAny_Slice (aG (hl pins s1 σ H1 _ I1 q1) fun vl s2 ⟨l,H2,I2,pl,q2⟩=>aG (hu pins s2 σ H2 _ I2 q2) fun vu s3 ⟨u,H3,I3,pu,q3⟩=>?_)
 rw[evalPart_none]
 refine aS ?_
 have I4:Inv X pins σ H3 { s3 with heap:=s3.heap.push { cls:=.type "slice",data:=.fields #[vl,vu,.none] } }:=I3.kept (t':=s3.toks) fun b ob q=>dw _ q
 obtain⟨T,id,hT,ht,hg⟩:=hr pins { s3 with heap:=s3.heap.push { cls:=.type "slice",data:=.fields #[vl,vu,.none] } } σ H3 x v vl vu l u s3.heap.objs.size Q I4 r1 (Heap.IsSliceOf.new ..) pl pu q3
 show wpAny (model X.prog X.w) X.A (subscriptTail e (.Slice lo hi none p2) v (.ref s3.heap.objs.size)) (EP X pins σ Q) X.xe { s3 with heap:=s3.heap.push { cls:=.type "slice",data:=.fields #[vl,vu,.none] } }
 exact tail_any (ops:=[.ref s3.heap.objs.size,v]) ht hT hg (by with_unfolding_all rfl)
noncomputable def iA(xs:List V)(lo hi:Option Int):List V:=(xs.drop (HT.aW xs.length 0 lo)).take (HT.aW xs.length xs.length hi-HT.aW xs.length 0 lo)
theorem BX(xs:List V)(lo hi:Option Int):(iA xs lo hi).length≤xs.length:=by
 unfold iA
 rw[List.length_take,List.length_drop]
 omega
def Vp(K:PySem.W.Frag):V→Option Int→Option Int→Hp→VK→Prop:=fun x lo hi H Q=>∃a xs,x=.ref a∧a8 K H a xs ∧
 ¬(HT.aW xs.length 0 lo=0∧HT.aW xs.length xs.length hi=xs.length)∧∀p,H p=none→Q (.ref p) (upd H p (.tup (iA xs lo hi)))
theorem QV:jS X (Vp X.K):=by
 intro pins s σ H x v vl vu lo hi sl Q I rx hs pl pu h
 obtain⟨a,xs,rfl,hx,hw,q⟩:=h
 cases rx
 obtain⟨its,r,ht,hz⟩:=I.tuple hx
 have hlen:its.toArray.size=xs.length:=by rw[List.size_toArray];exact r.length.symm
 refine⟨"tuple",_,PyProof.Rows.slot_tuple_getitem.lookup,ht.typeIs,?_⟩
 refine HT.J5 ht hs pl pu (by rw[hlen];exact hw) ?_ (by rw[hlen];exact hz)
 rw[hlen]
 refine⟨.ref s.heap.objs.size,_,I.laid (t':=s.toks) (o:=.tup (iA xs lo hi)) (fun b ob q=>dw _ q) (a6 _) ?_,rfl,q _ (I.aH.fresh (a6 _))⟩
 exact⟨bP (BX xs lo hi) hz,_,(r.drop (HT.aW xs.length 0 lo)).take (HT.aW xs.length xs.length hi-HT.aW xs.length 0 lo),iZ.new _ _⟩
noncomputable def Tw(K:PySem.W.Frag):R2:=fun x y H Q=>∃a b xs ys,x=.ref a∧y=.ref b∧a8 K H a xs∧a8 K H b ys∧xs≠[]∧xs.length+ys.length≤sizeLine ∧
 (ys=[]→Q (.ref a) H)∧(ys≠[]→∀p,H p=none→Q (.ref p) (upd H p (.tup (xs++ys))))
theorem Vals.xS{xs:List V}{us:List Value}(r:Vals xs us):us=[]↔xs=[]:=by
 cases r with
 |nil=>simp
 |cons _ _=>simp
theorem Oe:bI X (binaryOp .Add) (Tw X.K):=by
 intro pins s σ H x y v u Q I rx ry h
 obtain⟨a,b,xs,ys,rfl,rfl,ha,hb,hx,hz,q1,q2⟩:=h
 cases rx
 cases ry
 obtain⟨its,r1,p1,_⟩:=I.tuple ha
 obtain⟨kK,r2,p2,_⟩:=I.tuple hb
 refine HT.Ob p1 p2 (fun z=>hx (r1.xS.mp z)) (fun z=>⟨.ref a,H,I,rfl,q1 (r2.xS.mp z)⟩) (fun z=>?_) (by rw[←r1.length,←r2.length];exact hz)
 refine⟨.ref s.heap.objs.size,_,I.laid (t':=s.toks) (o:=.tup (xs++ys)) (fun b ob q=>dw _ q) (a6 _) ?_,rfl,q2 (fun w=>z (r2.xS.mpr w)) _ (I.aH.fresh (a6 _))⟩
 exact⟨by rw[dO];exact hz,_,r1.append r2,iZ.new _ _⟩
end
noncomputable def dP(n:Nat)(i:Int):Option Nat:=if 0≤i then (if i<n then some i.toNat else none)else if -(n:Int)≤i then some (i+n).toNat else none
noncomputable def bB{α:Type}(xs:List α)(i:Int):Option α:=(dP xs.length i).bind fun j=>xs[j]?
theorem DY{n:Nat}{i:Int}{j:Nat}(h:dP n i=some j):seqIndex? i n=some j∧j<n∧-(n:Int)≤i∧i<n:=by
 unfold dP at h
 by_cases h0:0≤i
 ·rw[if_pos h0]at h
  by_cases h1:i<n
  ·rw[if_pos h1]at h
   have e:i.toNat=j:=Option.some.inj h
   exact⟨by rw[seqIndex_of h0 h1,e],by omega,by omega,h1⟩
  ·rw[if_neg h1]at h;cases h
 ·rw[if_neg h0]at h
  by_cases h1:-(n:Int)≤i
  ·rw[if_pos h1]at h
   have e:(i+n).toNat=j:=Option.some.inj h
   exact⟨by rw[seqIndex_neg (by omega) h1,e],by omega,h1,by omega⟩
  ·rw[if_neg h1]at h;cases h
theorem gW{α:Type}{xs:List α}{i:Int}{v:α}(h:bB xs i=some v):∃j,seqIndex? i xs.length=some j∧xs[j]?=some v∧j<xs.length∧-(xs.length:Int)≤i∧i<xs.length:=by
 unfold bB at h
 cases e:dP xs.length i with
 |none=>rw[e]at h;cases h
 |some j =>
  rw[e]at h
  obtain⟨h1,h2,h3,h4⟩:=DY e
  exact⟨j,h1,h,h2,h3,h4⟩
theorem lD{α:Type}{xs:List α}{j:Nat}{v:α}(h:xs[j]?=some v):bB xs (j:Int)=some v:=by
 have hj:j<xs.length:=(bO.mp h).1
 have e:dP xs.length (j:Int)=some j:=by
  unfold dP
  rw[if_pos (by omega),if_pos (by omega)];simp
 unfold bB;rw[e];exact h
def DZ(b:Expr):Prop:=∀o i,subscripted b false o i=operate [o,i] (getItem o i)
def jc(X:Cx)(r:R2):Prop :=
 ∀(value slice:Expr) (pins:List (Addr×Obj)) (s:Shared) (σ:St) (H:Hp) (x y:V) (v u:Value) (Q:VK),Inv X pins σ H s→RelV x v→RelV y u→r x y H Q →
  subscripted slice false v u=operate [v,u] (getItem v u)→wpAny (model X.prog X.w) X.A (subscriptTail value slice v u) (EP X pins σ Q) X.xe s
def z8(X:Cx)(id:String)(r:V→List V→Hp→VK→Prop):Prop :=
 ∀(pins:List (Addr×Obj)) (s:Shared) (σ:St) (H:Hp) (x:V) (xs:List V) (v:Value) (us:List Value) (Q:VK),Inv X pins σ H s→RelV x v→Vals xs us→r x xs H Q →
  wpAny (model X.prog X.w) X.A (call (.builtin id) (v::us)) (EP X pins σ Q) X.xe s
section
variable {X:Cx}{a b:Expr}{ta tb:TE}{pos:Pos}
theorem jc.or{r r':R2}(h:jc X r)(h':jc X r'):jc X (fun x y H Q=>r x y H Q∨r' x y H Q):=by
 intro value slice pins s σ H x y v u Q I rx ry q hs
 rcases q with q|q
 ·exact h value slice pins s σ H x y v u Q I rx ry q hs
 ·exact h' value slice pins s σ H x y v u Q I rx ry q hs
theorem FG{r:R2}(hr:jc X r)(ha:PE X a ta)(hb:PE X b tb)(hs:DZ b):PE X (.Subscript a b pos) (oj r ta tb):=by
 intro pins s σ H Q I h
 exact Subscript_ (zf ha hb I h fun v u s2 x y H2 I2 rx ry q=>hr a b pins s2 σ H2 x y v u Q I2 rx ry q (hs _ _))
noncomputable def Gj(K:PySem.W.Frag):R2:=fun x y H Q=>∃p xs i v,x=.ref p∧y=.int i∧bH K H p xs∧bB xs i=some v∧Q v H
noncomputable def Gk(K:PySem.W.Frag):R2:=fun x y H Q=>∃p xs i v,x=.ref p∧y=.int i∧a8 K H p xs∧bB xs i=some v∧Q v H
noncomputable def Gm:R2:=fun x y H Q=>∃z i c,x=.str z∧y=.int i∧z.length≤sizeLine∧bB z.cps.toList i=some c∧Q (.str ⟨#[c]⟩) H
theorem Og:jc X (Gj X.K):=by
 intro value slice pins s σ H x y v u Q I rx ry h hs
 obtain⟨p,xs,i,z,rfl,rfl,hq,he,q⟩:=h
 cases rx
 obtain⟨t,rfl⟩:=ry
 obtain⟨its,r,pl,hz⟩:=I.list hq
 obtain⟨j,h1,h2,h3,h4,h5⟩:=gW he
 obtain⟨w,ew,my⟩:=r.get h2
 have hl:=r.length
 have hn:=m7
 have fin:EP X pins σ Q w s:=⟨z,H,I,my,q⟩
 by_cases h0:0≤i
 ·have hj:i.toNat=j:=by
   rw[seqIndex_of h0 h5]at h1
   exact Option.some.inj h1
  exact item_listR pl.isList h0 (by omega) (by rw[hj];simpa using ew) fin hs
 ·have hj:(i+(its.toArray.size:Int)).toNat=j:=by
   rw[seqIndex_neg (by omega) h4]at h1
   rw[List.size_toArray,←hl]
   exact Option.some.inj h1
  exact subscriptTail_builtinR (x:=w) pl.isList.typeIs slot_list_getitem.lookup
   (wpAny_getItem_list_neg (Q:=fun r s'=>r=w∧EP X pins σ Q r s') pl.isList (by omega) (by rw[List.size_toArray]<;>omega) (by omega) (by rw[hj];simpa using ew) ⟨rfl,fin⟩) hs
theorem QW:jc X (Gk X.K):=by
 intro value slice pins s σ H x y v u Q I rx ry h hs
 obtain⟨p,xs,i,z,rfl,rfl,hq,he,q⟩:=h
 cases rx
 obtain⟨t,rfl⟩:=ry
 obtain⟨its,r,pl,hz⟩:=I.tuple hq
 obtain⟨j,h1,h2,h3,h4,h5⟩:=gW he
 obtain⟨w,ew,my⟩:=r.get h2
 have hl:=r.length
 have hn:=m7
 have fin:EP X pins σ Q w s:=⟨z,H,I,my,q⟩
 exact subscriptTail_builtinR (x:=w) pl.typeIs slot_tuple_getitem.lookup
  (getItem_tuple (j:=j) (Q:=fun r s'=>r=w∧EP X pins σ Q r s') pl (by omega) (by omega) (by rw[List.size_toArray,←hl];exact h1) (by simpa using ew) ⟨rfl,fin⟩) hs
theorem QX:jc X Gm:=by
 intro value slice pins s σ H x y v u Q I rx ry h hs
 obtain⟨z,i,c,rfl,rfl,hz,he,q⟩:=h
 obtain⟨t,rfl⟩:=rx
 obtain⟨t',rfl⟩:=ry
 obtain⟨j,h1,h2,h3,h4,h5⟩:=gW he
 have hl:z.cps.toList.length=z.length:=by simp[Str.length]
 rw[hl]at h1 h4 h5
 have hn:=m7
 exact tail_any (typeIs_str s z t) slot_str_getitem.lookup (getItem_str (c:=c) (by
  have e1:decide (i < -(2^63:Int))=false:=df (by omega)
  have e2:decide (i≥2^63)=false:=df (by omega)
  rw[e1,e2,Bool.or_false]) (by rw[h1];simpa using h2) ⟨.str ⟨#[c]⟩,H,I.tok _,⟨_,rfl⟩,q⟩) hs
noncomputable def vH(K:PySem.W.Frag):R2:=fun x y H Q=>Gj K x y H Q∨Gk K x y H Q∨Gm x y H Q
theorem QY:jc X (vH X.K):=Og.or (QW.or QX)
theorem KP(its:List Value)(n j:Nat)(u:Value):Obj.mapSeq (·.setIfInBounds j u) { cls:=.type "list",data:=.seq its.toArray n }={ cls:=.type "list",data:=.seq (its.set j u).toArray n }:=by
 simp[Obj.mapSeq]
theorem Inv.lst{pins:List (Addr×Obj)}{σ:St}{H:Hp}{s:Shared}{p:Addr}{xs:List V}(I:Inv X pins σ H s)(h:H p=some (.lst xs)) :
  ∃(its:List Value) (n:Nat),Vals xs its∧s.heap.get? p=some { cls:=.type "list",data:=.seq its.toArray n }∧xs.length≤sizeLine:=by
 obtain⟨z,its,n,r,e⟩:=I.aH p _ h
 exact⟨its,n,r,e,z⟩
theorem Inv.QZ{pins:List (Addr×Obj)}{σ:St}{H:Hp}{s:Shared}{p:Addr}{xs ys:List V}{its its':List Value}{n n':Nat}{f:Obj→Obj}(I:Inv X pins σ H s)(h:H p=some (.lst xs))
  (ho:s.heap.get? p=some { cls:=.type "list",data:=.seq its.toArray n }) (hf:f { cls:=.type "list",data:=.seq its.toArray n }={ cls:=.type "list",data:=.seq its'.toArray n' }) (r:Vals ys its') (hz:ys.length≤sizeLine) (t:Nat) :
  Inv X pins σ (upd H p (.lst ys)) { s with heap:=s.heap.update p f,toks:=t }:=by
 have e:(s.heap.update p f).get? p=some { cls:=.type "list",data:=.seq its'.toArray n' }:=by
  rw[Heap.get?_update_self f ho (by rw[hf]<;>rfl),hf]
 refine I.write (x:=p) (e:=p) (by rw[h];trivial) (.inl rfl) (fun b u hb q=>(Heap.get?_update_other _ _ (Ne.symm hb)).trans q) ⟨_,e⟩ ?_
 exact⟨hz,its',n',r,e⟩
def FH:V→V→V→Hp→(Hp→Prop)→Prop:=fun o i v H Q=>∃p xs k j,o=.ref p∧i=.int k∧H p=some (.lst xs)∧dP xs.length k=some j∧Q (upd H p (.lst (xs.set j v)))
theorem set_list:Ge X FH:=by
 intro pins s σ H o i v ov iv u Q I ro ri rv h
 obtain⟨p,xs,k,j,rfl,rfl,hp,hj,q⟩:=h
 cases ro
 obtain⟨t,rfl⟩:=ri
 obtain⟨its,n,r,ho,hz⟩:=I.lst hp
 obtain⟨h1,h2,h3,h4⟩:=DY hj
 have hl:=r.length
 have hn:=m7
 have I':Inv X pins σ (upd H p (.lst (xs.set j v))) { s with heap:=s.heap.update p (Obj.mapSeq (·.setIfInBounds j u)) } :=
  I.QZ hp ho (KP its n j u) (r.set rv j) (by rw[List.length_set];exact hz) s.toks
 by_cases h0:0≤k
 ·have hk:k.toNat=j:=by
   rw[seqIndex_of h0 h4]at h1
   exact Option.some.inj h1
  exact PySem.W.ki_setAt ho h0 (by omega) (by rw[List.size_toArray,←hl];exact h4) (by rw[hk];exact⟨_,I',q⟩)
 ·have hk:(k+(its.toArray.size:Int)).toNat=j:=by
   rw[seqIndex_neg (by omega) h3]at h1
   rw[List.size_toArray,←hl]
   exact Option.some.inj h1
  exact PySem.W.ki_setBack ho (by omega) (by rw[List.size_toArray,←hl];exact h3) (by omega) (by rw[hk];exact⟨_,I',q⟩)
theorem Kf(lo hi:Option Int)(n:Nat):(sliceBounds lo hi none n).1=((HT.aW n 0 lo:Nat):Int)∧(sliceBounds lo hi none n).2.1=((HT.aW n n hi:Nat):Int)∧(sliceBounds lo hi none n).2.2=1:=by
 refine⟨?_,?_,rfl⟩
 ·cases lo with
  |none=>simp[sliceBounds,HT.aW]
  |some i =>
   simp only[sliceBounds,HT.aW,Option.getD_none,show(1:Int)>0 by decide,if_true]
   by_cases h:i<0
   ·simp only[h,if_true]<;>omega
   ·simp only[h,if_false]<;>omega
 ·cases hi with
  |none=>simp[sliceBounds,HT.aW]
  |some i =>
   simp only[sliceBounds,HT.aW,Option.getD_none,show(1:Int)>0 by decide,if_true]
   by_cases h:i<0
   ·simp only[h,if_true]<;>omega
   ·simp only[h,if_false]<;>omega
theorem Ka(its:List Value)(lo hi:Option Int):slicePick its.toArray lo hi none=((its.drop (HT.aW its.length 0 lo)).take (HT.aW its.length its.length hi-HT.aW its.length 0 lo)).toArray:=by
 obtain⟨h1,h2,h3⟩:=Kf lo hi its.toArray.size
 unfold slicePick
 rw[h1,h2,h3]
 simp only[sliceRange_one,pick_run,List.size_toArray]<;>rfl
def zj(K:PySem.W.Frag):V→Option Int→Option Int→Hp→VK→Prop:=fun x lo hi H Q=>∃a xs,x=.ref a∧bH K H a xs∧∀p,H p=none→Q (.ref p) (upd H p (.lst (iA xs lo hi)))
theorem Oh:jS X (zj X.K):=by
 intro pins s σ H x v vl vu lo hi sl Q I rx hs pl pu h
 obtain⟨a,xs,rfl,hx,q⟩:=h
 cases rx
 obtain⟨its,r,ht,hz⟩:=I.list hx
 have hlen:=r.length
 refine⟨"list",_,slot_list_getitem.lookup,ht.isList.typeIs,?_⟩
 refine wpAny_getItem_list_slice ht.isList hs pl pu .none (by simp) ?_ (by rw[List.size_toArray]<;>omega)
 rw[Ka,←hlen]
 refine⟨.ref s.heap.objs.size,_,I.laid (t':=s.toks) (o:=.lst (iA xs lo hi)) (fun b ob q=>dw _ q) (a6 _) ?_,rfl,q _ (I.aH.fresh (a6 _))⟩
 exact⟨bP (BX xs lo hi) hz,_,0,(r.drop (HT.aW xs.length 0 lo)).take (HT.aW xs.length xs.length hi-HT.aW xs.length 0 lo),Heap.get?_push_size _ rfl⟩
noncomputable def iW:V→Bool
 |.non=>true
 |.bl _=>true
 |.int _=>true
 |.str _=>true
 |_=>false
noncomputable def jT:V→V→Bool
 |.non,.non=>true
 |.bl a,.bl b=>a==b
 |.bl a,.int b=>(if a then 1 else 0)==b
 |.int a,.bl b=>a==(if b then 1 else 0)
 |.int a,.int b=>a==b
 |.str a,.str b=>a==b
 |_,_=>false
theorem Q0{A:Around}{s:Shared}{y x:V}{u v:Value}(ry:RelV y u)(rx:RelV x v)(fy:iW y=true)(fx:iW x=true):SeqAt.EqAt A s u v (jT y x):=by
 cases y with
 |non =>
  cases ry
  cases x with
  |non=>cases rx;exact SeqAt.EqAt.same _
  |bl b=>cases rx;exact SeqAt.EqAt.none_bool b
  |int b=>obtain⟨t,rfl⟩:=rx;exact SeqAt.EqAt.none_int b t
  |str b=>obtain⟨t,rfl⟩:=rx;exact SeqAt.EqAt.none_str b t
  |_=>exact absurd (show false=true from fx) aZ
 |bl a =>
  cases ry
  cases x with
  |non=>cases rx;exact SeqAt.EqAt.bool_none a
  |bl b=>cases rx;exact SeqAt.EqAt.bool_bool a b
  |int b=>obtain⟨t,rfl⟩:=rx;exact SeqAt.EqAt.bool_int a b t
  |str b=>obtain⟨t,rfl⟩:=rx;exact SeqAt.EqAt.bool_str a b t
  |_=>exact absurd (show false=true from fx) aZ
 |int a =>
  obtain⟨t',rfl⟩:=ry
  cases x with
  |non=>cases rx;exact SeqAt.EqAt.int_none a t'
  |bl b=>cases rx;exact SeqAt.EqAt.int_bool a t' b
  |int b=>obtain⟨t,rfl⟩:=rx;exact SeqAt.EqAt.int_int a t' b t
  |str b=>obtain⟨t,rfl⟩:=rx;exact SeqAt.EqAt.int_str a t' b t
  |_=>exact absurd (show false=true from fx) aZ
 |str a =>
  obtain⟨t',rfl⟩:=ry
  cases x with
  |non=>cases rx;exact SeqAt.EqAt.str_none a t'
  |bl b=>cases rx;exact SeqAt.EqAt.str_bool a t' b
  |int b=>obtain⟨t,rfl⟩:=rx;exact SeqAt.EqAt.str_int a t' b t
  |str b=>obtain⟨t,rfl⟩:=rx;exact SeqAt.EqAt.str_str a t' b t
  |_=>exact absurd (show false=true from fx) aZ
 |_=>exact absurd (show false=true from fy) aZ
noncomputable def fT(x:V)(u:Value):Bool:=match u with
 |.none=>jT .non x
 |.bool b=>jT (.bl b) x
 |.int i _=>jT (.int i) x
 |.str z _=>jT (.str z) x
 |_=>false
theorem EC{x y:V}{u:Value}(r:RelV y u)(f:iW y=true):fT x u=jT y x:=by
 cases y with
 |non=>cases r;rfl
 |bl b=>cases r;rfl
 |int i=>obtain⟨t,rfl⟩:=r;rfl
 |str z=>obtain⟨t,rfl⟩:=r;rfl
 |_=>exact absurd (show false=true from f) aZ
theorem pP{x:V}:∀{xs:List V}{us:List Value},Vals xs us→xs.all iW=true→us.any (fT x)=xs.any fun y=>jT y x
 |_,_,.nil,_=>rfl
 |y::xs,u::us,.cons r t,f=>by
  rw[List.all_cons,Bool.and_eq_true]at f
  rw[List.any_cons,List.any_cons,EC r f.1,pP t f.2]
theorem pL{A:Around}{s:Shared}{x:V}{v:Value}(rx:RelV x v)(fx:iW x=true):∀{xs:List V}{us:List Value},Vals xs us→xs.all iW=true→∀u∈us,SeqAt.EqAt A s u v (fT x u)
 |_,_,.nil,_=>fun u hu=>by cases hu
 |y::xs,u::us,.cons r t,f=>fun u' hu=>by
  rw[List.all_cons,Bool.and_eq_true]at f
  rcases cJ.mp hu with rfl|hu
  ·rw[EC r f.1];exact Q0 r rx f.1 fx
  ·exact pL rx fx t f.2 u' hu
noncomputable def dQ(x:V)(xs:List V):Bool:=xs.any fun y=>jT y x
noncomputable def qL(K:PySem.W.Frag)(neg:Bool):R2:=fun x y H Q=>∃p xs,y=.ref p∧(bH K H p xs∨a8 K H p xs)∧iW x=true∧xs.all iW=true∧Q (.bl (if neg then !dQ x xs else dQ x xs)) H
theorem Lp:bI X (compareOp .In) (qL X.K false):=by
 intro pins s σ H x y v u Q I rx ry h
 obtain⟨p,xs,rfl,hq,fx,fs,q⟩:=h
 cases ry
 rcases hq with hq|hq
 ·obtain⟨its,r,pl,hz⟩:=I.list hq
  refine SeqAt.in_listAt (fT x) pl.isList (fun w hw=>pL rx fx r fs w (by simpa using hw)) ⟨.bl _,H,I,rfl,?_⟩
  rw[show its.toArray.any (fT x)=its.any (fT x) by simp,pP r fs]
  exact q
 ·obtain⟨its,r,pl,hz⟩:=I.tuple hq
  refine SeqAt.in_tupleAt (fT x) pl (fun w hw=>pL rx fx r fs w (by simpa using hw)) ⟨.bl _,H,I,rfl,?_⟩
  rw[show its.toArray.any (fT x)=its.any (fT x) by simp,pP r fs]
  exact q
theorem Kg:bI X (compareOp .NotIn) (qL X.K true):=by
 intro pins s σ H x y v u Q I rx ry h
 obtain⟨p,xs,rfl,hq,fx,fs,q⟩:=h
 cases ry
 rcases hq with hq|hq
 ·obtain⟨its,r,pl,hz⟩:=I.list hq
  refine SeqAt.notIn_listAt (fT x) pl.isList (fun w hw=>pL rx fx r fs w (by simpa using hw)) ⟨.bl _,H,I,rfl,?_⟩
  rw[show its.toArray.any (fT x)=its.any (fT x) by simp,pP r fs]
  exact q
 ·obtain⟨its,r,pl,hz⟩:=I.tuple hq
  refine SeqAt.notIn_tupleAt (fT x) pl (fun w hw=>pL rx fx r fs w (by simpa using hw)) ⟨.bl _,H,I,rfl,?_⟩
  rw[show its.toArray.any (fT x)=its.any (fT x) by simp,pP r fs]
  exact q
theorem Kh:ft X (.type "list") (fun xs H Q=>∃p ys,xs=[.ref p]∧(bH X.K H p ys∨a8 X.K H p ys)∧∀l,H l=none→Q (.ref l) (upd H l (.lst ys))):=by
 intro pins s σ H xs us Q I r h
 obtain⟨p,ys,rfl,hq,q⟩:=h
 obtain⟨u,rfl,rx⟩:=vals1 r
 cases rx
 have fin:∀(its:List Value),Vals ys its→ys.length≤sizeLine→∀(h':Heap) (c':Nat),(∀b o',s.heap.get? b=some o'→h'.get? b=some o') →
   h'.get? s.heap.objs.size=some { cls:=.type "list",dict:=none,data:=.seq its.toArray c',slots:=#[] }→EP X pins σ Q (.ref s.heap.objs.size) { s with heap:=h' }:=fun its r' hz h' c' kp e =>
  ⟨.ref s.heap.objs.size,_,I.laid (t':=s.toks) kp (a6 _) (show cM X.prog X.w _ h' _ (.lst ys) from⟨hz,its,c',r',e⟩),rfl,q _ (I.aH.fresh (a6 _))⟩
 rcases hq with hq|hq
 ·obtain⟨its,r',pl,hz⟩:=I.list hq
  have hlen:=r'.length
  obtain⟨o,ho,hc,n,hd⟩:=pl.isList
  exact call_list_seq p (.inl rfl) ho hc hd (fun h' c' kp e=>fin its r' hz h' c' kp e) (by simp only[List.size_toArray]<;>omega)
 ·obtain⟨its,r',pl,hz⟩:=I.tuple hq
  have hlen:=r'.length
  obtain⟨o,ho,hc,n,hd⟩:=pl
  exact call_list_seq p (.inr rfl) ho hc hd (fun h' c' kp e=>fin its r' hz h' c' kp e) (by simp only[List.size_toArray]<;>omega)
theorem Kc:ft X (.type "tuple") (fun xs H Q=>∃p ys,xs=[.ref p]∧((bH X.K H p ys∧∀l,H l=none→Q (.ref l) (upd H l (.tup ys)))∨(a8 X.K H p ys∧Q (.ref p) H))):=by
 intro pins s σ H xs us Q I r h
 obtain⟨p,ys,rfl,h⟩:=h
 obtain⟨u,rfl,rx⟩:=vals1 r
 cases rx
 rcases h with⟨hq,q⟩|⟨hq,q⟩
 ·obtain⟨its,r',pl,hz⟩:=I.list hq
  have hlen:=r'.length
  refine call_tuple_list pl.isList (fun h' kp=>?_) (by simp only[List.size_toArray]<;>omega)
  have I1:Inv X pins σ H { s with heap:=h' }:=I.kept (t':=s.toks) kp
  have I2:Inv X pins σ (upd H h'.objs.size (.tup ys)) { s with heap:=h'.push { cls:=.type "tuple",data:=.seq its.toArray } } :=
   I1.laid (t':=s.toks) (fun b o e=>dw _ e) (a6 _) (show cM X.prog X.w _ _ _ (.tup ys) from⟨hz,its,r',iZ.new _ _⟩)
  exact⟨.ref h'.objs.size,_,I2,rfl,q _ (I1.aH.fresh (a6 _))⟩
 ·obtain⟨its,r',pl,hz⟩:=I.tuple hq
  exact call_tuple_same pl ⟨.ref p,H,I,rfl,q⟩
def z9(K:PySem.W.Frag)(T:String)(x:V)(H:Hp):Prop:=match x with
 |.str _=>T = "str"
 |.int _=>T = "int"
 |.ref p=>(T = "list" ∧ ∃xs,bH K H p xs)∨(T = "tuple" ∧ ∃o,K.lookup p=some o∧o.cls=.type "tuple" ∧ o.dict=none) ∨
  (T = "dict" ∧ ((∃ai,H p=some (.dK ai))∨∃ai,H p=some (.dT ai)))∨(T = "set" ∧ ∃S n,H p=some (.set S n))
 |_=>False
theorem ED{pins:List (Addr×Obj)}{σ:St}{H:Hp}{s:Shared}{T:String}{x:V}{v:Value}(I:Inv X pins σ H s)(r:RelV x v)(ty:z9 X.K T x H) :
  s.TypeIs v T∧∀a,v=.ref a→∃ob,s.heap.get? a=some ob∧ob.dict=none:=by
 cases x with
 |str z =>
  obtain⟨t,rfl⟩:=r
  cases (show T = "str" from ty)
  exact⟨typeIs_str s z t,fun _ e=>nomatch e⟩
 |int i =>
  obtain⟨t,rfl⟩:=r
  cases (show T = "int" from ty)
  exact⟨typeIs_int s i t,fun _ e=>nomatch e⟩
 |ref p =>
  cases r
  rcases ty with⟨rfl,xs,hq⟩|⟨rfl,o,hk,hc,hd⟩|⟨rfl,hk⟩|⟨rfl,S,n,hk⟩
  ·obtain⟨its,_,pl,_⟩:=I.list hq
   refine⟨pl.isList.typeIs,fun a e=>?_⟩
   cases e
   obtain⟨o,n,e,c,hd,_⟩:=pl
   exact⟨o,e,hd⟩
  ·refine⟨⟨o,I.fO p o hk,hc⟩,fun a e=>?_⟩
   cases e
   exact⟨o,I.fO _ o hk,hd⟩
  ·have z:∃o,s.heap.get? p=some o∧o.ExactDict:=by
    rcases hk with⟨ai,hk⟩|⟨ai,hk⟩
    ·obtain⟨_,_,_,_,o,_,_,e,ex,_⟩:=I.aH p _ hk
     exact⟨o,e,ex⟩
    ·obtain⟨_,_,_,_,o,_,_,e,ex,_⟩:=I.aH p _ hk
     exact⟨o,e,ex⟩
   obtain⟨o,e,ex⟩:=z
   refine⟨⟨o,e,ex.1⟩,fun a e2=>?_⟩
   cases e2
   exact⟨o,e,ex.2.1⟩
  ·obtain⟨o,_,_,_,e,ex,_⟩:=I.aH p _ hk
   refine⟨⟨o,e,ex.1⟩,fun a e2=>?_⟩
   cases e2
   exact⟨o,e,ex.2.1⟩
 |_=>exact False.elim ty
noncomputable def u9(K:PySem.W.Frag)(T:String)(r:V→List V→Hp→VK→Prop)(to:TE):TE:=fun σ H Q=>to σ H fun x H1=>z9 K T x H1∧r x [] H1 Q
noncomputable def vI(K:PySem.W.Frag)(T:String)(r:V→List V→Hp→VK→Prop)(to:TE)(t:TA):TE:=fun σ H Q=>to σ H fun x H1=>z9 K T x H1∧t σ H1 fun xs H2=>r x xs H2 Q
variable {o e:Expr}{es:List Expr}{to:TE}{t:TA}{name:Str}{apos cE:Pos}{T id:String}{r:V→List V→Hp→VK→Prop}
theorem Q5 (pa:PlainAttrs T) (slot:Slot T name id) (jf:typeOf (.builtin id)=pure (.type "method_descriptor")) (hm:z8 X id r) (ho:PE X o to)
  (yN:attributeBase o name X.env (eval o X.env)=eval o X.env:=by rfl) (hline:(apos.endLine==cE.line)=true:=by rfl):PE X (.Call (.Attribute o name apos) [] [] cE) (u9 X.K T r to):=by
 intro pins s σ H Q I h
 refine wpAny_Call_method0_late yN hline (aG (ho pins s σ H _ I h) fun v s1 ⟨x,H1,I1,r1,ty,q1⟩=>?_)
 obtain⟨h1,h2⟩:=ED I1 r1 ty
 exact⟨T,id,pa,slot,jf,h1,h2,Calls.callWith_builtin rfl (PySem.evalArgs_none (hm pins s1 σ H1 x [] v [] Q I1 r1 .nil q1))⟩
theorem Tx (pa:PlainAttrs T) (slot:Slot T name id) (jf:typeOf (.builtin id)=pure (.type "method_descriptor")) (hm:z8 X id r) (ho:PE X o to) (ha:PA X (e::es) t)
  (yN:attributeBase o name X.env (eval o X.env)=eval o X.env:=by rfl)
  (Vq:((backTo cE (starEach (e::es) X.env)).all (fun x=>!x.1)&&(backToKw cE (keywordEach [] X.env)).all (fun x=>x.1.isSome)
   && decide ((e::es).length+([]:List Keyword).length+(if ([]:List Keyword).isEmpty then 0 else 1)<30))=true:=by rfl)
  (hline:(apos.endLine==cE.line)=true:=by rfl) (hs:starEach (e::es) X.env=(false,eval e X.env)::starEach es X.env:=by rfl) (Q6:(backTo cE (starEach es X.env)).any (·.1)=false:=by rfl) :
  PE X (.Call (.Attribute o name apos) (e::es) [] cE) (vI X.K T r to t):=by
 intro pins s σ H Q I h
 refine wpAny_Call_method_late yN Vq hline rfl (aG (ho pins s σ H _ I h) fun v s1 ⟨x,H1,I1,r1,ty,q1⟩=>?_)
 obtain⟨h1,h2⟩:=ED I1 r1 ty
 refine⟨T,id,pa,slot,jf,h1,h2,?_⟩
 have hA:=ha cE pins s1 σ H1 _ I1 q1
 rw[hs]at hA ⊢
 refine Calls.callWith_builtin (by show(false||(backTo cE (starEach es X.env)).any (·.1))=false;rw[Q6]<;>rfl) (Calls.evalArgs_plain ?_)
 exact aG hA fun us s2 ⟨vs,H2,I2,r2,q2⟩=>hm pins s2 σ H2 x vs v us Q I2 r1 r2 q2
end
def Aa(X:Cx)(id:String)(r:V→List V→Hp→VK→Prop):Prop :=
 ∀(pins:List (Addr×Obj)) (s:Shared) (σ:St) (H:Hp) (x:V) (xs:List V) (v:Value) (us:List Value) (Q:VK),Inv X pins σ H s→RelV x v→Vals xs us→r x xs H Q →
  wpAny (model X.prog X.w) X.A (call (.builtin id) (v::us)) (EP X pins σ Q) X.xe s
theorem Vals.zero{us:List Value}(h:Vals [] us):us=[]:=by cases h;rfl
theorem Vals.one{x:V}{us:List Value}(h:Vals [x] us):∃u,us=[u]∧RelV x u:=by
 cases h with|cons r t=>cases t;exact⟨_,rfl,r⟩
theorem Vals.two{x y:V}{us:List Value}(h:Vals [x,y] us):∃u v,us=[u,v]∧RelV x u∧RelV y v:=by
 cases h with|cons r t=>obtain⟨v,rfl,q⟩:=Vals.one t;exact⟨_,_,rfl,r,q⟩
theorem Vals.dropLast{xs:List V}{us:List Value}(h:Vals xs us):Vals xs.dropLast us.dropLast:=by
 induction h with
 |nil=>exact .nil
 |cons r t ih =>
  cases t with
  |nil=>exact .nil
  |cons q t'=>exact .cons r ih
theorem Vals.rep{xs:List V}{us:List Value}(h:Vals xs us):∀k:Nat,Vals (List.replicate k xs).flatten (List.replicate k us).flatten
 |0=>.nil
 |k+1=>by
  rw[List.replicate_succ,List.replicate_succ,List.flatten_cons,List.flatten_cons]
  exact Vals.append h (Vals.rep h k)
theorem KQ{α:Type}(l:List α):l.eraseIdx (l.length-1)=l.dropLast:=by
 induction l with
 |nil=>rfl
 |cons a r ih =>
  cases r with
  |nil=>rfl
  |cons b r =>
   have e:(a::b::r).length-1=((b::r).length-1)+1:=by
    have h1:(a::b::r).length=r.length+2:=rfl
    have h2:(b::r).length=r.length+1:=rfl
    omega
   rw[e,List.eraseIdx_cons_succ,ih]
   all_goals rfl
section
variable {X:Cx}{pins:List (Addr×Obj)}{σ:St}{H:Hp}{s:Shared}{l b:Addr}{xs ys zs:List V}
theorem Inv.zk{its its':List Value}{n:Nat}{f:Array Value→Array Value}{t':Nat}(I:Inv X pins σ H s)(hH:H l=some (.lst xs))
  (e:s.heap.get? l=some { cls:=.type "list",data:=.seq its.toArray n }) (hf:f its.toArray=its'.toArray) (hv:Vals ys its') (hz:ys.length≤sizeLine) :
  Inv X pins σ (upd H l (.lst ys)) { s with heap:=s.heap.update l (Obj.mapSeq f),toks:=t' }:=by
 have q:=PySem.IsL.update e f
 rw[hf]at q
 refine I.write (x:=l) (e:=l) (by rw[hH];exact trivial) (.inl rfl) (fun b' u hb hu=>(Heap.get?_update_other s.heap (Obj.mapSeq f) (Ne.symm hb)).trans hu) ⟨_,q⟩ ?_
 exact⟨hz,its',_,hv,q⟩
theorem Inv.Vr{its:List Value}{t':Nat}(I:Inv X pins σ H s)(hv:Vals ys its)(hz:ys.length≤sizeLine) :
  Inv X pins σ (upd H s.heap.objs.size (.lst ys)) { s with heap:=s.heap.push { cls:=.type "list",data:=.seq its.toArray },toks:=t' } :=
 I.laid (fun _ _ q=>dw _ q) (a6 _) ⟨hz,its,0,hv,Heap.get?_push_size _ rfl⟩
theorem Inv.fresh(I:Inv X pins σ H s):H s.heap.objs.size=none:=I.aH.fresh (a6 _)
theorem Inv.zl(I:Inv X pins σ H s)(hH:H l=some (.lst xs)):xs.length≤sizeLine∧∃(its:List Value) (n:Nat),Vals xs its∧xs.length=its.length∧s.heap.get? l=some { cls:=.type "list",data:=.seq its.toArray n }:=by
 obtain⟨z,its,n,r,e⟩:=I.aH l _ hH
 exact⟨z,its,n,r,r.length,e⟩
end
section
variable {X:Cx}
def ua:V→List V→Hp→VK→Prop:=fun x vs H Q=>∃l xs y,x=.ref l∧vs=[y]∧H l=some (.lst xs)∧xs.length<sizeLine∧Q .non (upd H l (.lst (xs++[y])))
theorem CJ:Aa X "list.append" ua:=by
 intro pins s σ H x vs v us Q I rx rv h
 obtain⟨l,xs,y,rfl,rfl,hH,hz,q⟩:=h
 cases rx
 obtain⟨u,rfl,ru⟩:=rv.one
 obtain⟨z,its,n,r,hl,e⟩:=I.zl hH
 refine call_meets F.slot_list_append ⟨_,e,rfl⟩ F.entry_list_append (F.args_list_append_2 _ _) (PySem.list_append l its.toArray n u (by rw[List.size_toArray];omega)) ⟨e,?_⟩
 refine⟨.non,_,I.zk (its':=its++[u]) hH e (by simp) (r.append (.cons ru .nil)) ?_,rfl,q⟩
 rw[dO,List.length_singleton]
 omega
def Gn:V→List V→Hp→VK→Prop:=fun x vs H Q=>∃l xs y,x=.ref l∧vs=[]∧H l=some (.lst xs)∧xs[xs.length-1]?=some y∧Q y (upd H l (.lst xs.dropLast))
theorem Q7:Aa X "list.pop" Gn:=by
 intro pins s σ H x vs v us Q I rx rv h
 obtain⟨l,xs,y,rfl,rfl,hH,hy,q⟩:=h
 cases rx
 have Ab:=rv.zero
 subst Ab
 obtain⟨z,its,n,r,hl,e⟩:=I.zl hH
 obtain⟨u,hu,ru⟩:=r.get hy
 have Ac:its.toArray[its.toArray.size-1]?=some u:=by
  show its.toArray[its.length-1]?=some u
  rw[←Array.getElem?_toList,←hl]
  exact hu
 refine call_meets F.slot_list_pop ⟨_,e,rfl⟩ F.entry_list_pop (F.args_list_pop_1 _) (MeetsSeq.list_pop_last l its.toArray n u Ac (by rw[List.size_toArray];omega)) ⟨e,?_⟩
 refine⟨y,_,I.zk (its':=its.dropLast) hH e ?_ r.dropLast ?_,ru,q⟩
 ·show its.toArray.eraseIdxIfInBounds (its.toArray.size-1)=its.dropLast.toArray
  rw[List.size_toArray,List.eraseIdxIfInBounds_toArray,KQ]
 ·rw[List.length_dropLast]
  omega
def EE:V→List V→Hp→VK→Prop:=fun x vs H Q=>∃l xs,x=.ref l∧vs=[]∧H l=some (.lst xs)∧Q .non (upd H l (.lst []))
theorem Mu:Aa X "list.clear" EE:=by
 intro pins s σ H x vs v us Q I rx rv h
 obtain⟨l,xs,rfl,rfl,hH,q⟩:=h
 cases rx
 have Ab:=rv.zero
 subst Ab
 obtain⟨z,its,n,r,hl,e⟩:=I.zl hH
 refine call_meets F.slot_list_clear ⟨_,e,rfl⟩ F.entry_list_clear (F.args_list_clear_1 _) (AutoSeq1.list_clear_list_0 l its.toArray n (by rw[List.size_toArray];omega)) ⟨e,?_⟩
 exact⟨.non,_,I.zk (its':=[]) (ys:=[]) hH e rfl .nil (Nat.zero_le _),rfl,q⟩
end
section
variable {prog:Program}{w:World}{A:Around}{E:Value→Shared→Prop}{s:Shared}
end
section
variable {X:Cx}
end
section
variable {κ:Type}[DecidableEq κ]
noncomputable def dE(ai:List (κ×V))(k:κ):Option V:=(ai.find? fun kv=>decide (kv.1=k)).map (·.2)
noncomputable def putK(ai:List (κ×V))(k:κ)(v:V):List (κ×V) :=
 if (ai.any fun kv=>decide (kv.1=k))=true then ai.map (fun kv=>if kv.1=k then (kv.1,v)else kv)else ai++[(k,v)]
noncomputable def YF(ai:List (κ×V))(k:κ):List (κ×V):=ai.filter fun kv=>decide (kv.1≠k)
theorem tR{p:κ×V}{r:List (κ×V)}{k:κ}(e:p.1=k):dE (p::r) k=some p.2:=by simp[dE,List.find?_cons,e]
theorem tS{p:κ×V}{r:List (κ×V)}{k:κ}(e:¬p.1=k):dE (p::r) k=dE r k:=by simp[dE,List.find?_cons,e]
theorem Dj(k:κ):∀ai:List (κ×V),(ai.any fun kv=>decide (kv.1=k))=(dE ai k).isSome
 |[]=>rfl
 |p::r=>by
  rw[List.any_cons]
  by_cases e:p.1=k
  ·simp only[tR e,decide_eq_true e,Bool.true_or,Option.isSome_some]
  ·rw[tS e,df e,Bool.false_or];exact Dj k r
theorem pf(ai:List (κ×V))(k:κ)(v:V):(putK ai k v).length≤ai.length+1:=by
 unfold putK
 split
 ·rw[List.length_map];omega
 ·rw[dO,List.length_cons,List.length_nil];omega
theorem kz.pD{o:Option V}{u:Option Value}(r:kz o u):o.isSome=u.isSome:=by
 cases o with
 |none=>cases u with
  |none=>rfl
  |some _=>exact(show False from r).elim
 |some _=>cases u with
  |none=>exact(show False from r).elim
  |some _=>rfl
theorem kz.getD{o:Option V}{u:Option Value}{d:V}{d':Value}(r:kz o u)(rd:RelV d d'):RelV (o.getD d) (u.getD d'):=by
 cases o with
 |none=>cases u with
  |none=>exact rd
  |some _=>exact(show False from r).elim
 |some _=>cases u with
  |none=>exact(show False from r).elim
  |some _=>exact r
theorem KV.val{ai:List (κ×V)}{vs:List (κ×Value)}(r:KV ai vs)(k:κ):kz (dE ai k) (valueAt vs k):=by
 unfold KV at r
 induction r with
 |nil=>exact True.intro
 |@cons p q ps qs h t ih =>
  obtain⟨h1,h2⟩:=h
  by_cases e:p.1=k
  ·have e':q.1=k:=h1.symm.trans e
   have b:valueAt (q::qs) k=some q.2:=by simp[valueAt,List.find?_cons,e']
   rw[tR e,b];exact h2
  ·have e':¬q.1=k:=fun z=>e (h1.trans z)
   have b:valueAt (q::qs) k=valueAt qs k:=by simp[valueAt,List.find?_cons,e']
   rw[tS e,b];exact ih
theorem KV.any{ai:List (κ×V)}{vs:List (κ×Value)}(r:KV ai vs)(k:κ):(ai.any fun kv=>decide (kv.1=k))=vs.any fun kv=>decide (kv.1=k):=by
 unfold KV at r
 induction r with
 |nil=>rfl
 |cons h t ih=>rw[List.any_cons,List.any_cons,ih,h.1]
theorem KV.repl{ai:List (κ×V)}{vs:List (κ×Value)}(r:KV ai vs)(k:κ){y:V}{u:Value}(ry:RelV y u) :
  KV (ai.map fun kv=>if kv.1=k then (kv.1,y)else kv) (vs.map fun kv=>if kv.1=k then (kv.1,u)else kv):=by
 unfold KV at r ⊢
 induction r with
 |nil=>exact .nil
 |@cons p q ps qs h t ih =>
  rw[List.map_cons,List.map_cons]
  refine .cons ?_ ih
  obtain⟨h1,h2⟩:=h
  by_cases e:p.1=k
  ·rw[if_pos e,if_pos (h1.symm.trans e)];exact⟨h1,ry⟩
  ·rw[if_neg e,if_neg (fun z=>e (h1.trans z))];exact⟨h1,h2⟩
theorem KV.put{ai:List (κ×V)}{vs:List (κ×Value)}(r:KV ai vs)(k:κ){y:V}{u:Value}(ry:RelV y u):KV (putK ai k y) (stored vs k u):=by
 unfold putK stored
 rw[r.any k]
 by_cases e:(vs.any fun kv=>decide (kv.1=k))=true
 ·rw[if_pos e,if_pos e];exact r.repl k ry
 ·rw[if_neg e,if_neg e];exact Paired.snoc r ⟨rfl,ry⟩
theorem KV.keys{ai:List (κ×V)}{vs:List (κ×Value)}(r:KV ai vs):ai.map (·.1)=vs.map (·.1):=by
 unfold KV at r
 induction r with
 |nil=>rfl
 |cons h t ih=>rw[List.map_cons,List.map_cons,ih,h.1]
theorem KV.length{ai:List (κ×V)}{vs:List (κ×Value)}(r:KV ai vs):ai.length=vs.length:=Paired.length r
end
theorem ko{P:Program}{w:World}{k:Key}{u:Value}(r:RelV (kV k) u):(cZ P w).is k u=true:=by
 cases k with
 |inl i=>obtain⟨t,e⟩:=(show ∃t,u=Value.int i t from r);subst e;exact Kn P w i t
 |inr x=>obtain⟨t,e⟩:=(show ∃t,u=Value.str x t from r);subst e;exact Kp P w x t
 |non=>rw[show u=Value.none from r];exact Kq P w
theorem CK{P:Program}{w:World}:∀{ks:List Key}{us:List Value},Vals (ks.map kV) us→ItemsAre (cZ P w) ks us
 |[],_,r=>by rw[List.map_nil]at r;cases r;exact .nil
 |k::ks,_,r=>by
  rw[List.map_cons]at r
  cases r with
  |cons h t=>exact .cons (ko h) (CK t)
abbrev KT(H:Hp):List (List Key×V)→List (List Key×Addr×Value)→Prop:=Paired fun p q=>p.1=q.1∧H q.2.1=some (.tup (p.1.map kV))∧RelV p.2 q.2.2
theorem KT.val{H:Hp}{ai:List (List Key×V)}{xs:List (List Key×Addr×Value)}(r:KT H ai xs)(k:List Key):kz (dE ai k) ((atKey xs k).map (·.2)):=by
 induction r with
 |nil=>exact True.intro
 |@cons p q ps qs h t ih =>
  obtain⟨h1,_,h2⟩:=h
  by_cases e:p.1=k
  ·have e':q.1=k:=h1.symm.trans e
   have b:atKey (q::qs) k=some q.2:=by simp[atKey,List.find?_cons,e']
   rw[tR e,b];exact h2
  ·have e':¬q.1=k:=fun z=>e (h1.trans z)
   have b:atKey (q::qs) k=atKey qs k:=by simp[atKey,List.find?_cons,e']
   rw[tS e,b];exact ih
theorem KT.repl{H:Hp}{ai:List (List Key×V)}{xs:List (List Key×Addr×Value)}(r:KT H ai xs)(k:List Key){y:V}{u:Value}(ry:RelV y u) :
  KT H (ai.map fun kv=>if kv.1=k then (kv.1,y)else kv) (xs.map (putAt k u)):=by
 induction r with
 |nil=>exact .nil
 |@cons p q ps qs h t ih =>
  rw[List.map_cons,List.map_cons]
  refine .cons ?_ ih
  obtain⟨h1,h2,h3⟩:=h
  unfold putAt
  by_cases e:p.1=k
  ·rw[if_pos e,if_pos (h1.symm.trans e)];exact⟨h1,h2,ry⟩
  ·rw[if_neg e,if_neg (fun z=>e (h1.trans z))];exact⟨h1,h2,h3⟩
theorem KT.put{H:Hp}{ai:List (List Key×V)}{xs:List (List Key×Addr×Value)}(r:KT H ai xs)(k:List Key){b:Addr}{y:V}{u:Value}(hb:H b=some (.tup (k.map kV)))(ry:RelV y u) :
  KT H (putK ai k y) (storedH xs k b u):=by
 have e:(ai.any fun kv=>decide (kv.1=k))=(atKey xs k).isSome:=by
  rw[Dj,(r.val k).pD,Option.isSome_map]
 unfold putK storedH
 rw[e]
 by_cases q:(atKey xs k).isSome=true
 ·rw[if_pos q,if_pos q];exact r.repl k ry
 ·rw[if_neg q,if_neg q];exact Paired.snoc r ⟨rfl,hb,ry⟩
theorem KT.keeps{H H':Hp}{ai:List (List Key×V)}{xs:List (List Key×Addr×Value)}(r:KT H ai xs)(ht:∀b ys,H b=some (.tup ys)→H' b=some (.tup ys)):KT H' ai xs :=
 Paired.y4 r fun _ _ z=>⟨z.1,ht _ _ z.2.1,z.2.2⟩
section
variable {P:Program}{w:World}{H:Hp}{h:Heap}{a:Addr}
theorem FI{u:HO}(ok:cy P w H h)(e:Rd H a u):cM P w H h a u:=e.ok ok
theorem nH{ai:List (Key×V)}(ok:cy P w H h)(e:Rd H a (.dK ai)):ai.length≤sizeLine∧(a==sysModules)=false∧∃vs,KV ai vs∧h.DictOf (cZ P w) a vs :=
 show cM P w H h a (.dK ai)from FI ok e
theorem yO{ai:List (Key×V)}(ok:cy P w H h)(e:H a=some (.dK ai)):ai.length≤sizeLine∧(a==sysModules)=false∧∃vs,KV ai vs∧h.DictOf (cZ P w) a vs:=nH ok (.inl e)
theorem m8{ks:List Key}(ok:cy P w H h)(e:H a=some (.tup (ks.map kV))):(tupleKind (cZ P w)).is h ks a:=by
 obtain⟨_,its,r,o,h1,h2,_,n,h3⟩:=(show cM P w H h a (.tup (ks.map kV))from ok a _ e)
 exact⟨o,its.toArray,n,h1,h2,h3,by simpa using CK r⟩
theorem nI{ai:List (List Key×V)}(ok:cy P w H h)(e:Rd H a (.dT ai)):ai.length≤sizeLine∧(a==sysModules)=false ∧
  ∃xs,KT H ai xs∧h.DictOfH (tupleKind (cZ P w)) a xs:=by
 obtain⟨z,y,xs,r,o,es,ep,h1,h2,h3,h4,h5⟩:=(show cM P w H h a (.dT ai)from FI ok e)
 refine⟨z,y,xs,r,o,es,ep,h1,h2,h3,h4,fun x hx=>?_,h5⟩
 have all:∀{l:List (List Key×V)}{m:List (List Key×Addr×Value)},KT H l m→∀x∈m,(tupleKind (cZ P w)).is h x.1 x.2.1:=by
  intro l m q
  induction q with
  |nil=>intro x hx;exact nomatch hx
  |@cons p q ps qs hq t ih =>
   intro x hx
   rcases cJ.mp hx with e|hx
   ·subst e
    exact m8 ok (by rw[←hq.1];exact hq.2.1)
   ·exact ih x hx
 exact all r x hx
theorem Tz{ai:List (List Key×V)}(ok:cy P w H h)(e:H a=some (.dT ai)):ai.length≤sizeLine∧(a==sysModules)=false ∧
 ∃xs,KT H ai xs∧h.DictOfH (tupleKind (cZ P w)) a xs:=nI ok (.inl e)
end
def g5(H:Hp)(a:Addr)(y:V)(r:Option V):Prop :=
 (∃ai k,Rd H a (.dK ai)∧y=kV k∧r=dE ai k)∨∃ai k b,Rd H a (.dT ai)∧y=.ref b∧H b=some (.tup (k.map kV))∧r=dE ai k
def nW(H:Hp)(a:Addr)(y v:V)(H':Hp):Prop :=
 (∃ai k,H a=some (.dK ai)∧y=kV k∧ai.length<sizeLine∧H'=upd H a (.dK (putK ai k v))) ∨
 ∃ai k b,H a=some (.dT ai)∧y=.ref b∧H b=some (.tup (k.map kV))∧ai.length<sizeLine∧H'=upd H a (.dT (putK ai k v))
theorem g5.k{H:Hp}{a:Addr}{ai:List (Key×V)}{k:Key}(e:H a=some (.dK ai)):g5 H a (kV k) (dE ai k):=.inl ⟨ai,k,.inl e,rfl,rfl⟩
theorem g5.t{H:Hp}{a b:Addr}{ai:List (List Key×V)}{k:List Key}(e:H a=some (.dT ai))(eb:H b=some (.tup (k.map kV))):g5 H a (.ref b) (dE ai k):=.inr ⟨ai,k,b,.inl e,rfl,eb,rfl⟩
theorem nW.k{H:Hp}{a:Addr}{ai:List (Key×V)}{k:Key}{v:V}(e:H a=some (.dK ai))(hl:ai.length<sizeLine):nW H a (kV k) v (upd H a (.dK (putK ai k v))):=.inl ⟨ai,k,e,rfl,hl,rfl⟩
theorem nW.t{H:Hp}{a b:Addr}{ai:List (List Key×V)}{k:List Key}{v:V}(e:H a=some (.dT ai))(eb:H b=some (.tup (k.map kV)))(hl:ai.length<sizeLine) :
 nW H a (.ref b) v (upd H a (.dT (putK ai k v))):=.inr ⟨ai,k,b,e,rfl,eb,hl,rfl⟩
section
variable {X:Cx}{pins:List (Addr×Obj)}{σ:St}{H:Hp}{s:Shared}{a:Addr}{y v:V}{u r:Value}{o:Option V}{A:Around}{E:Value→Shared→Prop}
theorem Inv.big(I:Inv X pins σ H s):sysModules<s.heap.objs.size:=by
 have h:mainGlobals<s.heap.objs.size:=(I.mod.glob.keeps I.bk).lt
 exact Nat.lt_trans (by decide) h
theorem Vs{Q:Value→Shared→Prop}(hu:A.units+1<cLine)(I:Inv X pins σ H s)(g:g5 H a y o)(ry:RelV y u)(h:∀s',Inv X pins σ H s'→Q (.bool o.isSome) s') :
  wpAny (model X.prog X.w) A (compareOp .In u (.ref a)) Q E s:=by
 rcases g with⟨ai,k,e,ey,l⟩|⟨ai,k,b,e,ey,eb,l⟩
 ·subst ey
  obtain⟨z,hd,vs,rel,dd⟩:=nH I.aH e
  refine wpAny_in_of (ko ry) hd dd.mapOf ?_
  rw[←(rel.val k).pD,←l]
  exact h _ (I.tok _)
 ·subst ey
  cases (show u=Value.ref b from ry)
  obtain⟨z,hd,xs,rel,dd⟩:=nI I.aH e
  refine wpAny_in_heap (tupleKind_room_in1 hu) (m8 I.aH eb) hd dd ?_
  have q:=(rel.val k).pD
  rw[Option.isSome_map]at q
  rw[←q,←l]
  exact h _ (I.tok _)
theorem Oi{Q:Value→Shared→Prop}(hu:A.units+1<cLine)(I:Inv X pins σ H s)(g:g5 H a y o)(ry:RelV y u)(h:∀s',Inv X pins σ H s'→Q (.bool (!o.isSome)) s') :
  wpAny (model X.prog X.w) A (compareOp .NotIn u (.ref a)) Q E s:=by
 rcases g with⟨ai,k,e,ey,l⟩|⟨ai,k,b,e,ey,eb,l⟩
 ·subst ey
  obtain⟨z,hd,vs,rel,dd⟩:=nH I.aH e
  refine wpAny_notIn_of (ko ry) hd dd.mapOf ?_
  rw[←(rel.val k).pD,←l]
  exact h _ (I.tok _)
 ·subst ey
  cases (show u=Value.ref b from ry)
  obtain⟨z,hd,xs,rel,dd⟩:=nI I.aH e
  refine wpAny_notIn_heap (tupleKind_room_in1 hu) (m8 I.aH eb) hd dd ?_
  have q:=(rel.val k).pD
  rw[Option.isSome_map]at q
  rw[←q,←l]
  exact h _ (I.tok _)
theorem ub{h':Heap}{t':Nat}{ob:HO}(I:Inv X pins σ H s)(mu:qD (H a))(hs:Heap.SameBut a s.heap h')(he:∃q,h'.get? a=some q)(new:cM X.prog X.w (upd H a ob) h' a ob) :
  Inv X pins σ (upd H a ob) { s with heap:=h',toks:=t' } :=
 I.write (x:=a) (e:=a) mu (.inl rfl) (fun b q hb z=>(hs.2 b hb).trans z) he new
theorem yl{P:Program}{w:World}{H':Hp}{h':Heap}{ai:List (Key×V)}{vs:List (Key×Value)}(z:ai.length≤sizeLine)(hd:(a==sysModules)=false)(rel:KV ai vs)(dd:h'.DictOf (cZ P w) a vs) :
 cM P w H' h' a (.dK ai):=⟨z,hd,vs,rel,dd⟩
theorem Lq{H':Hp}{Q:Unit→Shared→Prop}(hu:A.units+1<cLine)(I:Inv X pins σ H s)(g:nW H a y v H')(ry:RelV y u)(rv:RelV v r)(h:∀s',Inv X pins σ H' s'→Q () s') :
  wpAny (model X.prog X.w) A (setItem (.ref a) u r) Q E s:=by
 rcases g with⟨ai,k,e,ey,l,eH⟩|⟨ai,k,b,e,ey,eb,l,eH⟩
 ·subst ey eH
  obtain⟨z,hd,vs,rel,dd⟩:=yO I.aH e
  have hz:vs.length≤sizeLine:=by rw[←rel.length];exact z
  have hl:(putK ai k v).length≤sizeLine:=by have:=pf ai k v;omega
  refine wpAny_setItem_pairs (hsz:=hz) (ko ry) dd fun h' jh hs=>h _ ?_
  have he:∃q,h'.get? a=some q:=let ⟨q,_,_,hq,_⟩:=jh;⟨q,hq⟩
  exact ub I (by rw[e];exact True.intro) hs he (yl hl hd (rel.put k rv) jh)
 ·subst ey eH
  cases (show u=Value.ref b from ry)
  obtain⟨z,hd,xs,rel,dd⟩:=Tz I.aH e
  have hz:xs.length≤sizeLine:=by rw[←Paired.length rel];exact z
  have hl:(putK ai k v).length≤sizeLine:=by have:=pf ai k v;omega
  refine wpAny_setItem_heap (hsz:=hz) (tupleKind_room_in1 hu) (m8 I.aH eb) dd fun h' jh hs=>h _ ?_
  obtain⟨q,es,ep,hq,h2,h3,h4,_,h5⟩:=jh
  refine ub I (by rw[e];exact True.intro) hs ⟨q,hq⟩ ⟨hl,hd,_,(rel.put k eb rv).keeps fun c ys ec=>?_,q,es,ep,hq,h2,h3,h4,h5⟩
  rw[aP (Tb ec e (fun z=>nomatch z))]
  exact ec
end
section
variable {X:Cx}{pins:List (Addr×Obj)}{σ:St}{H:Hp}{s:Shared}{a:Addr}{ai:List (Key×V)}{k:Key}{u:Value}{A:Around}{E:Value→Shared→Prop}
end
noncomputable def zm(ty td:TE):TE:=fun σ H Q=>ty σ H fun y H1=>td σ H1 fun x H2=>∃a o,x=.ref a∧g5 H2 a y o∧Q (.bl o.isSome) H2
noncomputable def xT(ty td:TE):TE:=fun σ H Q=>ty σ H fun y H1=>td σ H1 fun x H2=>∃a o,x=.ref a∧g5 H2 a y o∧Q (.bl (!o.isSome)) H2
noncomputable def uK(td ty tv:TE):TS:=fun D σ H=>tv σ H fun v H1=>td σ H1 fun x H2=>ty σ H2 fun y H3=>∃a H4,x=.ref a∧nW H3 a y v H4∧D.nx σ H4
section
variable {X:Cx}{o i e value:Expr}{pos pos' Vm:Pos}{td ty tv:TE}
theorem EF(hu:X.A.units+1<cLine)(hi:PE X i ty)(ho:PE X o td):PC X .In i o (zm ty td):=by
 intro pins s σ H Q I h
 refine aG (hi pins s σ H _ I h) fun iv s1 ⟨y,H1,I1,ry,q1⟩=>aG (ho pins s1 σ H1 _ I1 q1) fun u s2 ⟨x,H2,I2,rx,a,ov,ex,g,q2⟩=>?_
 subst ex
 obtain rfl:u=Value.ref a:=rx
 exact Vs hu I2 g ry fun s3 I3=>⟨.bl ov.isSome,H2,I3,rfl,q2⟩
theorem CL(hu:X.A.units+1<cLine)(hi:PE X i ty)(ho:PE X o td):PC X .NotIn i o (xT ty td):=by
 intro pins s σ H Q I h
 refine aG (hi pins s σ H _ I h) fun iv s1 ⟨y,H1,I1,ry,q1⟩=>aG (ho pins s1 σ H1 _ I1 q1) fun u s2 ⟨x,H2,I2,rx,a,ov,ex,g,q2⟩=>?_
 subst ex
 obtain rfl:u=Value.ref a:=rx
 exact Oi hu I2 g ry fun s3 I3=>⟨.bl (!ov.isSome),H2,I3,rfl,q2⟩
theorem Oj(hu:X.A.units+1<cLine)(ho:PE X o td)(hi:PE X i ty)(hv:PE X value tv)(hs:swapsWith value (some (.Subscript o i pos')) pos.line X.env=pure false) :
  PS X (.Assign [.Subscript o i pos'] value pos) (uK td ty tv):=by
 intro pins s σ H D I h
 refine wpAny_Assign_Subscript (aG (hv pins s σ H _ I h) fun r s1 ⟨v,H1,I1,rv,q1⟩=>aG (ho pins s1 σ H1 _ I1 q1) fun u s2 ⟨x,H2,I2,rx,q2⟩=>aG (hi pins s2 σ H2 _ I2 q2) fun iv s3 ⟨y,H3,I3,ry,a,H4,ex,g,q3⟩=>?_) hs
 subst ex
 obtain rfl:u=Value.ref a:=rx
 exact Lq hu I3 g ry rv fun s4 I4=>⟨σ,H4,I4,q3⟩
end
theorem xG{P:Program}{w:World}{H:Hp}(h:Heap)(hb:sysModules<h.objs.size):cM P w H (h.push { cls:=.type "dict",data:=.dict #[] }) h.objs.size (.dK []) :=
 ⟨Nat.zero_le _,beq_eq_false_iff_ne.mpr (Ne.symm (Nat.ne_of_lt hb)),[],.nil,Heap.DictOf.new h⟩
theorem Mv{P:Program}{w:World}{H:Hp}(h:Heap)(hb:sysModules<h.objs.size):cM P w H (h.push { cls:=.type "dict",data:=.dict #[] }) h.objs.size (.dT []) :=
 ⟨Nat.zero_le _,beq_eq_false_iff_ne.mpr (Ne.symm (Nat.ne_of_lt hb)),[],.nil,_,#[],0,Heap.get?_push_size _ rfl,⟨rfl,rfl,rfl⟩,rfl,rfl,List.nodup_nil⟩
noncomputable def EG:TE:=fun _ H Q=>∀p,H p=none→Q (.ref p) (upd H p (.dK []))
noncomputable def EH:TE:=fun _ H Q=>∀p,H p=none→Q (.ref p) (upd H p (.dT []))
section
variable {X:Cx}{pos:Pos}
theorem Mw:PE X (.Dict [] [] pos) EG:=fun pins s σ H Q I h =>
 wpAny_Dict_empty ⟨.ref s.heap.objs.size,_,I.laid (a:=s.heap.objs.size) (o:=.dK []) (t':=s.toks) (fun _ _ q=>dw _ q) (a6 _) (xG s.heap I.big),rfl,h _ (I.aH.fresh (a6 _))⟩
theorem Mx:PE X (.Dict [] [] pos) EH:=fun pins s σ H Q I h =>
 wpAny_Dict_empty ⟨.ref s.heap.objs.size,_,I.laid (a:=s.heap.objs.size) (o:=.dT []) (t':=s.toks) (fun _ _ q=>dw _ q) (a6 _) (Mv s.heap I.big),rfl,h _ (I.aH.fresh (a6 _))⟩
end
noncomputable def ym:List (TE×TE)→St→Hp→(List (V×V)→Hp→Prop)→Prop
 |[],_,H,Q=>Q [] H
 | (tk,tv)::r,σ,H,Q=>tk σ H fun x H1=>tv σ H1 fun y H2=>ym r σ H2 fun ps H3=>Q ((x,y)::ps) H3
abbrev VV:List (V×V)→List (Value×Value)→Prop:=Paired fun p q=>RelV p.1 q.1∧RelV p.2 q.2
def vJ(X:Cx)(pos:Pos)(keys:List (Option Expr))(values:List Expr)(jU:List (TE×TE)):Prop :=
 ∀(pins:List (Addr×Obj)) (s:Shared) (σ:St) (H:Hp) (Q:List (V×V)→Hp→Prop),Inv X pins σ H s→ym jU σ H Q →
  wpAny (model X.prog X.w) X.A (evalPairs (pairTrees keys values X.env pos)) (fun vs s'=>∃ps H',Inv X pins σ H' s'∧VV ps vs∧Q ps H') X.xe s
theorem Ol{X:Cx}{pos:Pos}:vJ X pos [] [] []:=fun pins s σ H Q I h=>pairTrees_nil_walk ⟨[],H,I,.nil,h⟩
theorem Mz{X:Cx}{pos:Pos}{k v:Expr}{ks:List (Option Expr)}{vs:List Expr}{tk tv:TE}{jU:List (TE×TE)}(hk:PE X k tk)(hv:PE X v tv)(hr:vJ X pos ks vs jU) :
  vJ X pos (some k::ks) (v::vs) ((tk,tv)::jU):=fun pins s σ H Q I h =>
 pairTrees_cons_walk (aG (hk pins s σ H _ I h) fun u s1 ⟨x,H1,I1,rx,q1⟩=>aG (hv pins s1 σ H1 _ I1 q1) fun w2 s2 ⟨y,H2,I2,ry,q2⟩ =>
  aG (hr pins s2 σ H2 _ I2 q2) fun ws s3 ⟨ps,H3,I3,rel,q3⟩=>⟨(x,y)::ps,H3,I3,.cons ⟨rx,ry⟩ rel,q3⟩)
noncomputable def m9(ai more:List (Key×V)):List (Key×V):=more.foldl (fun acc kv=>putK acc kv.1 kv.2) ai
theorem KV.merge:∀{more:List (Key×V)}{rs:List (Key×Value)}{ai:List (Key×V)}{vs:List (Key×Value)},KV more rs→KV ai vs→KV (m9 ai more) (merged vs rs):=by
 intro more rs ai vs r
 unfold KV at r
 induction r generalizing ai vs with
 |nil=>intro q;exact q
 |@cons p q ps qs h t ih =>
  intro r0
  have e:KV (putK ai p.1 p.2) (stored vs q.1 q.2):=by
   have:=r0.put p.1 h.2
   rw[←h.1];exact this
  exact ih e
theorem BG:∀(more ai:List (Key×V)),(m9 ai more).length≤ai.length+more.length
 |[],ai=>by show ai.length≤ai.length+0;omega
 |p::r,ai=>by
  have h1:=BG r (putK ai p.1 p.2)
  have h2:=pf ai p.1 p.2
  show(m9 (putK ai p.1 p.2) r).length≤_
  rw[List.length_cons];omega
theorem Cg{P:Program}{w:World}:∀{ai:List (Key×V)}{ws:List (Value×Value)},VV (ai.map fun kv=>(kV kv.1,kv.2)) ws→∃rs,Carries (cZ P w) ws rs∧KV ai rs
 |[],_,r=>by rw[List.map_nil]at r;cases r;exact⟨[],True.intro,.nil⟩
 |p::ai,_,r=>by
  rw[List.map_cons]at r
  cases r with
  |@cons a b as bs h t =>
   obtain⟨rs,c,q⟩:=Cg (P:=P) (w:=w) t
   obtain⟨b1,b2⟩:=b
   exact⟨(p.1,b2)::rs,⟨ko h.1,rfl,c⟩,.cons ⟨rfl,h.2⟩ q⟩
noncomputable def FJ(jU:List (TE×TE)):TE:=fun σ H Q=>∀p,H p=none→ym jU σ (upd H p (.dK [])) fun ps H2=>H2 p=some (.dK [])∧∃ai:List (Key×V),ps=ai.map (fun kv=>(kV kv.1,kv.2))∧ai.length≤15∧Q (.ref p) (upd H2 p (.dK (m9 [] ai)))
theorem Om{X:Cx}{pos:Pos}{keys:List (Option Expr)}{values:List Expr}{jU:List (TE×TE)}(h:vJ X pos keys values jU)(nX:keys.all (·.isSome)=true)(hl:keys.length=values.length)(h0:keys≠[])
  (Wk:keys.length≤15):PE X (.Dict keys values pos) (FJ jU):=by
 intro pins s σ H Q I q
 have hn:=I.aH.fresh (a6 s.heap.objs.size)
 have I1:=I.laid (a:=s.heap.objs.size) (o:=.dK []) (h':=s.heap.push { cls:=.type "dict",data:=.dict #[] }) (t':=s.toks) (fun _ _ q=>dw _ q) (a6 _) (xG s.heap I.big)
 refine wpAny_Dict_walk (knd:=cZ X.prog X.w) nX hl h0 Wk (aG (h pins _ σ _ _ I1 (q _ hn)) fun ws s2 ⟨ps,H2,I2,rel,e,ai,ep,lk,q2⟩=>?_)
 subst ep
 obtain⟨rs,c,rk⟩:=Cg (P:=X.prog) (w:=X.w) rel
 obtain⟨z,hd,YS,r0,dd⟩:=yO I2.aH e
 cases r0
 refine⟨rs,c,dd,fun h' jh hs=>⟨.ref s.heap.objs.size,_,?_,rfl,q2⟩⟩
 have hz:(m9 [] ai).length≤sizeLine:=by
  have h1:=BG ai []
  rw[List.length_nil]at h1
  rw[sizeLine_eq];omega
 have he:∃q,h'.get? s.heap.objs.size=some q:=let ⟨q,_,_,hq,_⟩:=jh;⟨q,hq⟩
 exact ub I2 (by rw[e];exact True.intro) hs he (yl hz hd (rk.merge .nil) jh)
structure M1 (X:Cx)(o:Expr)(m:Str)(apos:Pos)(e:Expr)(cE:Pos):Prop where
 base:attributeBase o m X.env (eval o X.env)=eval o X.env
 few:((backTo cE (starEach [e] X.env)).all (fun x=>!x.1)&&(backToKw cE (keywordEach [] X.env)).all (fun x=>x.1.isSome)
  && decide (([e]:List Expr).length+([]:List Keyword).length+(if ([]:List Keyword).isEmpty then 0 else 1)<30))=true
 line:(apos.endLine==cE.line)=true
 trees:backTo cE (starEach [e] X.env)=[(false,eval e X.env)]
structure M2 (X:Cx)(o:Expr)(m:Str)(apos:Pos)(e f:Expr)(cE:Pos):Prop where
 base:attributeBase o m X.env (eval o X.env)=eval o X.env
 few:((backTo cE (starEach [e,f] X.env)).all (fun x=>!x.1)&&(backToKw cE (keywordEach [] X.env)).all (fun x=>x.1.isSome)
  && decide (([e,f]:List Expr).length+([]:List Keyword).length+(if ([]:List Keyword).isEmpty then 0 else 1)<30))=true
 line:(apos.endLine==cE.line)=true
 trees:backTo cE (starEach [e,f] X.env)=[(false,eval e X.env),(false,eval f X.env)]
def vK(H:Hp)(a:Addr):Prop:=(∃ai,Rd H a (.dK ai))∨∃ai,Rd H a (.dT ai)
theorem EI{X:Cx}{pins:List (Addr×Obj)}{σ:St}{H:Hp}{s:Shared}{a:Addr}(I:Inv X pins σ H s)(d:vK H a) :
  s.TypeIs (.ref a) "dict" ∧ (∀b,Value.ref a=.ref b→∃ob,s.heap.get? b=some ob∧ob.dict=none)∧(a==sysModules)=false:=by
 rcases d with⟨ai,e⟩|⟨ai,e⟩
 ·obtain⟨_,hd,vs,_,dd⟩:=nH I.aH e
  refine⟨dd.typeIs,fun b q=>?_,hd⟩
  cases q
  obtain⟨ob,_,_,h1,h2,_⟩:=dd
  exact⟨ob,h1,h2.2.1⟩
 ·obtain⟨_,hd,xs,_,dd⟩:=nI I.aH e
  refine⟨dd.typeIs,fun b q=>?_,hd⟩
  cases q
  obtain⟨ob,_,_,h1,h2,_⟩:=dd
  exact⟨ob,h1,h2.2.1⟩
section
variable {X:Cx}{pins:List (Addr×Obj)}{σ:St}{H:Hp}{s:Shared}{a:Addr}{y d:V}{u r:Value}{o:Option V}{A:Around}{E:Value→Shared→Prop}
theorem Q8{Q:Value→Shared→Prop}(hu:A.units+1<cLine)(I:Inv X pins σ H s)(g:g5 H a y o)(ry:RelV y u)(h:∀w' s',Inv X pins σ H s'→RelV (o.getD .non) w'→Q w' s') :
  wpAny (model X.prog X.w) A (call (.builtin "dict.get") [.ref a,u]) Q E s:=by
 rcases g with⟨ai,k,e,ey,l⟩|⟨ai,k,b,e,ey,eb,l⟩
 ·subst ey
  obtain⟨z,hd,vs,rel,dd⟩:=nH I.aH e
  refine call_meetsIn PySem.F.slot_dict_get dd.typeIs PySem.F.entry_dict_get (PySem.F.args_dict_get_2 _ _) (meets_dict_get (cZ X.prog X.w) a (ko ry) hd) ⟨_,dd.mapOf,h _ _ (I.tok _) ?_⟩
  rw[l]
  exact(rel.val k).getD rfl
 ·subst ey
  cases (show u=Value.ref b from ry)
  obtain⟨z,hd,xs,rel,dd⟩:=nI I.aH e
  refine call_meetsIn PySem.F.slot_dict_get dd.typeIs PySem.F.entry_dict_get (PySem.F.args_dict_get_2 _ _) (meetsH_dict_get (tupleKind (cZ X.prog X.w)) a b hd) ⟨tupleKind_room_in1 hu,k,xs,m8 I.aH eb,dd,h _ _ (I.tok _) ?_⟩
  rw[l]
  exact(rel.val k).getD rfl
theorem Q9{Q:Value→Shared→Prop}(hu:A.units+1<cLine)(I:Inv X pins σ H s)(g:g5 H a y o)(ry:RelV y u)(rd:RelV d r)(h:∀w' s',Inv X pins σ H s'→RelV (o.getD d) w'→Q w' s') :
  wpAny (model X.prog X.w) A (call (.builtin "dict.get") [.ref a,u,r]) Q E s:=by
 rcases g with⟨ai,k,e,ey,l⟩|⟨ai,k,b,e,ey,eb,l⟩
 ·subst ey
  obtain⟨z,hd,vs,rel,dd⟩:=nH I.aH e
  refine call_meetsIn PySem.F.slot_dict_get dd.typeIs PySem.F.entry_dict_get (PySem.F.args_dict_get_3 _ _ _) (meets_dict_get_default (cZ X.prog X.w) a (ko ry) hd r) ⟨_,dd.mapOf,h _ _ (I.tok _) ?_⟩
  rw[l]
  exact(rel.val k).getD rd
 ·subst ey
  cases (show u=Value.ref b from ry)
  obtain⟨z,hd,xs,rel,dd⟩:=nI I.aH e
  refine call_meetsIn PySem.F.slot_dict_get dd.typeIs PySem.F.entry_dict_get (PySem.F.args_dict_get_3 _ _ _) (meetsH_dict_get_default (tupleKind (cZ X.prog X.w)) a b hd r) ⟨tupleKind_room_in1 hu,k,xs,m8 I.aH eb,dd,h _ _ (I.tok _) ?_⟩
  rw[l]
  exact(rel.val k).getD rd
end
noncomputable def EJ(td ty:TE):TE:=fun σ H Q=>td σ H fun x H1=>∃a,x=.ref a∧vK H1 a∧ty σ H1 fun y H2=>∃o,g5 H2 a y o∧Q (o.getD .non) H2
noncomputable def EK(td ty tx:TE):TE:=fun σ H Q=>td σ H fun x H1=>∃a,x=.ref a∧vK H1 a∧ty σ H1 fun y H2=>tx σ H2 fun z H3=>∃o,g5 H3 a y o∧Q (o.getD z) H3
section
variable {X:Cx}{o e f:Expr}{apos cE:Pos}{td ty tx:TE}
theorem MA (hu:X.A.units+1<cLine) (ho:PE X o td) (he:PE X e ty) (m:M1 X o "get" apos e cE):PE X (.Call (.Attribute o "get" apos) [e] [] cE) (EJ td ty):=by
 intro pins s σ H Q I h
 refine wpAny_Call_method m.base m.few m.line PySem.F.plainAttrs_dict PySem.F.slot_dict_get PySem.F.type_dict_get (aG (ho pins s σ H _ I h) fun u s1 ⟨x,H1,I1,rx,a,ex,d,q1⟩=>?_)
 subst ex
 obtain rfl:u=Value.ref a:=rx
 obtain⟨t1,t2,_⟩:=EI I1 d
 refine⟨t1,t2,?_⟩
 rw[m.trees]
 refine Calls.callWith_builtin rfl (Calls.evalArgs_plain (Calls.spliced_cons (aG (he pins s1 σ H1 _ I1 q1) fun iv s2 ⟨y,H2,I2,ry,ov,g,q2⟩=>Calls.spliced_nil ?_)))
 exact Q8 hu I2 g ry fun w' s3 I3 my=>⟨_,H2,I3,my,q2⟩
theorem MB (hu:X.A.units+1<cLine) (ho:PE X o td) (he:PE X e ty) (hf:PE X f tx) (m:M2 X o "get" apos e f cE):PE X (.Call (.Attribute o "get" apos) [e,f] [] cE) (EK td ty tx):=by
 intro pins s σ H Q I h
 refine wpAny_Call_method m.base m.few m.line PySem.F.plainAttrs_dict PySem.F.slot_dict_get PySem.F.type_dict_get (aG (ho pins s σ H _ I h) fun u s1 ⟨x,H1,I1,rx,a,ex,d,q1⟩=>?_)
 subst ex
 obtain rfl:u=Value.ref a:=rx
 obtain⟨t1,t2,_⟩:=EI I1 d
 refine⟨t1,t2,?_⟩
 rw[m.trees]
 refine Calls.callWith_builtin rfl (Calls.evalArgs_plain (Calls.spliced_cons (aG (he pins s1 σ H1 _ I1 q1) fun iv s2 ⟨y,H2,I2,ry,q2⟩ =>
  Calls.spliced_cons (aG (hf pins s2 σ H2 _ I2 q2) fun fv s3 ⟨z,H3,I3,rz,ov,g,q3⟩=>Calls.spliced_nil ?_))))
 exact Q9 hu I3 g ry rz fun w' s4 I4 my=>⟨_,H3,I4,my,q3⟩
end
section
variable {X:Cx}{pins:List (Addr×Obj)}{σ:St}{H:Hp}{s:Shared}{a:Addr}{ai:List (Key×V)}{A:Around}{E:Value→Shared→Prop}
end
section
variable {X:Cx}{pins:List (Addr×Obj)}{σ:St}{H:Hp}{s:Shared}{a:Addr}{y:V}{u:Value}{A:Around}{E:Value→Shared→Prop}
end
end L2
namespace HB
open PySem PySem.W PySem.Calls PyProof.Rows
theorem J7{P:Params}{h:Heap}:∀(ns:List Int) (vs:List Value),WellAll P h vs (ns.map WData.int)→IntsAre vs ns:=by
 intro ns
 induction ns with
 |nil =>
  intro vs w
  rw[List.map_nil]at w
  cases w
  exact .nil
 |cons n ns ih =>
  intro vs w
  rw[List.map_cons]at w
  cases w with
  |cons a b =>
   cases a
   exact .cons _ _ (ih _ b)
theorem Lr{l:OpenLaw}{n:Nat}(hn:l.most=some n){P:Params}{h:Heap}{args:List WData}{vals:List Value}
  (vb:l.row.toRowW.claim.pre args=true) (qM:WellAll P h vals args) :
  ∃a vs ns,vals=[Value.ref a]∧args=[WData.list (ns.map WData.int)]∧h.get? a=some { cls:=.type "list",data:=.seq vs.toArray }∧IntsAre vs ns∧ns.length≤n:=by
 have Wm:WShape.hasAll [] args [.list .int]=true:=(pre_splitW vb).1
 have hc:l.pre.holds [] { args:=args }=true:=(pre_splitW vb).2
 obtain⟨d,r,rfl,h1,h2⟩:=hasAllW_cons Wm
 obtain rfl:=hasAllW_nil h2
 obtain⟨xs,rfl,h3⟩:=hasW_list h1
 obtain⟨ns,rfl⟩:=items_int h3
 have hlen:ns.length≤n:=by
  unfold OpenLaw.pre at hc
  have h4:(WTm.not (.lt (.lit (.int (n:Int))) (.len (.arg 0)))).holds [] { args:=[.list (ns.map .int)] }=true:=by
   have h4:=(holds_andW hc).1
   rw[hn]at h4
   exact h4
  have h5:=condW_of h4 (w_not (w_lt w_lit (w_len_list (w_arg rfl))))
  rw[List.length_map]at h5
  refine Nat.le_of_not_lt fun q=>?_
  have q':(n:Int)<((ns.length:Nat):Int):=by omega
  first
   | (rw[cV q']at h5;exact absurd h5 (by decide))
   | (simp at h5;omega)
 cases qM with
 |cons w1 w2 =>
  cases w2
  cases w1 with
  |list ho nX=>exact⟨_,_,ns,rfl,rfl,ho,J7 ns _ nX,hlen⟩
theorem Ls(l:OpenLaw)(args:List WData):l.row.toRowW.claim.post args (.bool true) args=true :=
 postW_of (r:=l.row.toRowW) (X:=(true==true))
  (show WShape.has [] (.bool true) .bool=true by first|rfl|decide|simp[WShape.has,WShape.arms,WShape.armsAll])
  (show(WTm.eq .res (.lit (.bool true))).value [] { args:=args,res:=some (.bool true),after:=args }=some (.bool (true==true))from w_eq_bool (w_res rfl) w_lit) rfl
theorem Ks{l:OpenLaw}{n:Nat}{q:Program}{loose:List Str}{XP:(Str→Option Value)→Heap→Prop}{YP:World→Heap→Prop}{d:DefRec}
  (hn:l.most=some n) (qN:d.params.defaults=[])
  (call:∀(w:World) (s₀ s₁:Shared) (mg mb:Str→Option Value) (fa:Addr) (o:Obj) (pm cd doc:Value) (a:Addr) (vs:List Value) (ns:List Int),
   Ground q loose [] XP w s₀ mg mb s₁.heap→YP w s₁.heap →
   s₁.heap.get? fa=some o→o.data=.func (docDef d.name d.params d.body d.scope pm cd doc)→s₁.heap.CodeRec cd d.name→mg d.name=some (.ref fa) →
   s₁.heap.get? a=some { cls:=.type "list",data:=.seq vs.toArray }→IntsAre vs ns→ns.length≤n→s₁.gens=#[] →
   codeAny (model l.prog w) callerA (.call (.ref fa) ⟨[.ref a],[]⟩) (fun r s'=>r=.ok (.ret (.bool true))∧OldK s₁.heap s'.heap∧s'.os=s₁.os∧AllBare s'.gens) s₁) :
  WalkO q loose XP YP l.row.toRowW d [] (fun f vs=>PySem.call f vs):=by
 intro w s₀ s₁ mg mb G Y fa o pm cd doc dV kV ho hd gJ hD Ad hg args vals as vb hlay mz qM YT
 obtain rfl:dV=.none:=Dflts.none hD qN
 obtain rfl:kV=.none:=Dflts.noKw hD
 obtain⟨a,vs,ns,rfl,rfl,zo,hints,hlen⟩:=Lr hn vb qM
 refine enter_call (codeAny_mono (call w s₀ s₁ mg mb fa o pm cd doc a vs ns G Y ho (fd_plain hd) gJ Ad zo hints hlen hg) fun r s' hq=>?_)
 obtain⟨rfl,h2,h3,h4⟩:=hq
 exact⟨.inl ⟨.bool true,.bool true,[],rfl,fun _=>rfl,.bool true,Ls l _,fun _=>⟨List.Pairwise.nil,fun _ hm=>(nomatch hm)⟩⟩,h2,h3,h4⟩
section
variable {prog:Program}{w:World}{A:Around}{E:Value→Shared→Prop}{s:Shared}{K:Frag}
end
end HB
namespace L2
open PySem PySem.Spec PyProof.Rows
theorem tK:∀{vs:List Value}{ns:List Int},IntsAre vs ns→Vals (ns.map V.int) vs
 |_,_,.nil=>.nil
 |_,_,.cons n t h=>.cons ⟨t,rfl⟩ (tK h)
def Only(H:Hp):Prop:=∀b,H b=none∨∃o xs,H b=some (.cw o (.lst xs))
theorem MC{P:Program}{w:World}{K:PySem.W.Frag}{mg mb:Str→Option Value}{CX:iG}{k:Nat}{fa a:Addr}{fd:FuncData}{x:Str}{sp:Sp}{s₁:Shared}{vs:List Value}{ns:List Int}
  (KX:K.In s₁.heap) (jj:s₁.heap.Ns mainGlobals mg) (hb:s₁.heap.Ns builtinsNs mb) (jW:∀x:Str,x ≠ "__name__" → mb x=bootBuiltins x) (Vt:s₁.heap.NoLimit) (hg:s₁.gens=#[])
  (ha:s₁.heap.get? a=some { cls:=.type "list",data:=.seq vs.toArray }) (hi:IntsAre vs ns) (hl:ns.length≤sizeLine) (hr:dD k callerA)
  (F:∀base:Heap,K.In base→base.Ns mainGlobals mg→jK P w K mg base CX k fa fd [x] sp) (TB:∀(s:Shared) (u:Value),BindsTo s fd ⟨[u],[]⟩ [(x,u)])
  (i9:∀H:Hp,Only H→bH K H a (ns.map V.int)→sp [.ref a] H (fun v _=>v=.bl true) fun _ _ _=>False)
  (Ae:∀H e s',CX [] H s₁ (fun _ _ _=>False) e s'→False) :
  codeAny (model P w) callerA (.call (.ref fa) ⟨[.ref a],[]⟩) (fun r s'=>r=.ok (.ret (.bool true))∧OldK s₁.heap s'.heap∧s'.os=s₁.os∧AllBare s'.gens) s₁:=by
 have rv:=tK hi
 have Vu:=hi.length
 have core:∀H:Hp,Only H→bH K H a (ns.map V.int)→cy P w H s₁.heap→(∀b,H b≠none→b=a)→(H a≠none→K.lookup a=none) →
   codeAny (model P w) callerA (.call (.ref fa) ⟨[.ref a],[]⟩) (fun r s'=>r=.ok (.ret (.bool true))∧OldK s₁.heap s'.heap∧s'.os=s₁.os∧AllBare s'.gens) s₁:=by
  intro H hO hS aH hA hK
  have D0:∀{b:Addr}{o:Obj},s₁.heap.get? b=some o→H b=none→(jI s₁.heap H).get? b=some o:=fun e n=>Mi e n
  have qK:∀{b:Addr}{o:Obj}{es:Array DictEntry}{ep:Nat},s₁.heap.get? b=some o→o.data=.dict es ep→H b=none:=fun {b o es ep} e d=>by
   cases q:H b with
   |none=>rfl
   |some u =>
    have e':b=a:=hA b (by rw[q];simp)
    subst e'
    rw[ha]at e;cases e
    have d':Data.seq vs.toArray _=Data.dict es ep:=d
    cases d'
  have vL:∀{b:Addr}{m:Str→Option Value},s₁.heap.Ns b m→(jI s₁.heap H).Ns b m:=fun {b m} ⟨o,es,ep,e,d,r⟩=>⟨o,es,ep,D0 e (qK e d),d,r⟩
  have HC:K.In (jI s₁.heap H):=fun b o e=>D0 (KX b o e) (by
   cases q:H b with
   |none=>rfl
   |some u =>
    have e':b=a:=hA b (by rw[q];simp)
    subst e'
    rw[hK (by rw[q];simp)]at e;cases e)
  have hM:Mod K mg (jI s₁.heap H):=⟨HC,vL jj,⟨mb,vL hb,jW⟩,let ⟨mc,h1,h2⟩:=Vt;⟨mc,vL h1,h2⟩⟩
  have e0:u6 P w K mg (jI s₁.heap H) callerA [] s₁ H:=⟨rfl,hM,fun b o e=>NZ e,Nat.le_of_eq (Le _ _),trivial,fun b hb=>absurd (show b∈([]:List Addr)from hb) (by simp),aH,.of_eq hg⟩
  refine codeAny_mono ((F _ HC (vL jj)).run callerA [] s₁ H ⟨[.ref a],[]⟩ [.ref a] [.ref a] _ _ hr e0 (TB s₁ (.ref a)) (.cons rfl .nil) (i9 H hO hS)) fun r s' h=>?_
  cases r with
  |error e=>exact(Ae H e s' h).elim
  |ok fl =>
   cases fl with
   |next=>exact False.elim h
   |brk=>exact False.elim h
   |cont=>exact False.elim h
   |ret u =>
    obtain⟨v,H',os,bare,un,Vv,r',q⟩:=h
    have q':v=.bl true:=q
    subst q'
    obtain rfl:u=Value.bool true:=r'
    refine⟨rfl,OldK.of_keep fun b o e=>?_,os,bare⟩
    cases q:H b with
    |none=>exact un.keep b o e q (by intro z;exact absurd (show b∈([]:List Addr)from z) (by simp)) (by simp)
    |some u =>
     rcases hO b with z|⟨ob,xs,z⟩
     ·rw[q]at z;cases z
     ·have z2:=un.jH b ob _ z
      obtain⟨e1,_⟩:=aH b _ z
      obtain⟨e2,_⟩:=Vv b _ z2
      rw[e]at e1;cases e1
      exact e2
 cases hk:K.lookup a with
 |some o =>
  have e:=KX a o hk
  rw[ha]at e
  cases e
  refine core (fun _=>none) (fun _=>.inl rfl) (.inr ⟨_,vs.toArray,_,hk,rfl,rfl,rfl,by rw[List.size_toArray,Vu];exact hl,by simpa using rv⟩) (fun b u z=>by have z':(none:Option HO)=some u:=z;cases z') (fun b z=>absurd rfl z) fun z=>absurd rfl z
 |none =>
  refine core (fun b=>if b=a then some (.cw { cls:=.type "list",data:=.seq vs.toArray } (.lst (ns.map V.int)))else none) (fun b=>?_) (.inl (.inr ⟨{ cls:=.type "list",data:=.seq vs.toArray },if_pos rfl⟩)) (fun b u z=>?_) (fun b z=>?_) fun _=>hk
  ·by_cases hb:b=a
   ·exact .inr ⟨_,_,if_pos hb⟩
   ·exact .inl (if_neg hb)
  ·by_cases hb:b=a
   ·have z':=(if_pos hb).symm.trans z
    cases z'
    subst hb
    exact⟨ha,by rw[List.length_map];exact hl,vs,_,rv,ha⟩
   ·have z':=(if_neg hb).symm.trans z
    cases z'
  ·by_cases hb:b=a
   ·exact hb
   ·exact absurd (if_neg hb) z
theorem Oo{l:PySem.W.OpenLaw}{n k:Nat}{q:Program}{loose:List Str}{XP:(Str→Option Value)→Heap→Prop}{YP:World→Heap→Prop}{d:DefRec}{K:Params→PySem.W.Frag}{CX:World→iG}{sp:World→Sp}{x:Str}
  (hn:l.most=some n) (ou:n≤sizeLine) (qN:d.params.defaults=[]) (hr:dD k callerA)
  (hY:∀(w:World) (h:Heap),YP w h→(K w.params).In h)
  (F:∀(w:World) (mg:Str→Option Value) (fa:Addr) (h:Heap),(K w.params).In h→h.Ns mainGlobals mg→mg d.name=some (.ref fa) →
   ∃fd:FuncData,(∀(s:Shared) (u:Value),BindsTo s fd ⟨[u],[]⟩ [(x,u)]) ∧
    ∀base:Heap,(K w.params).In base→base.Ns mainGlobals mg→jK l.prog w (K w.params) mg base (CX w) k fa fd [x] (sp w))
  (i9:∀(w:World) (H:Hp) (a:Addr) (ns:List Int),ns.length≤n→Only H→bH (K w.params) H a (ns.map V.int)→sp w [.ref a] H (fun v _=>v=.bl true) fun _ _ _=>False)
  (Ae:∀(w:World) (H:Hp) (s:Shared) (e:Value) (s':Shared),CX w [] H s (fun _ _ _=>False) e s'→False) :
  PySem.W.WalkO q loose XP YP l.row.toRowW d [] (fun f vs=>PySem.call f vs):=by
 refine HB.Ks hn qN fun w s₀ s₁ mg mb fa o pm cd doc a vs ns G Y ho hd gJ Ad zo hints hlen hg=>?_
 have KX:=hY w _ Y
 obtain⟨fd,hb,hF⟩:=F w mg fa _ KX G.T.g Ad
 exact MC KX G.T.g G.T.b G.T.builtins G.T.nolimit hg zo hints (bP hlen ou) hr hF hb (fun H hO hS=>i9 w H a ns hlen hO hS) fun H e s'=>Ae w H s₁ e s'
noncomputable def f9(s:Stmt):Arguments:=match s with
 |.FunctionDef _ a _ _ _ _ _ _ _ _=>a
 |_=>{ posonlyargs:=[],args:=[],vararg:=none,kwonlyargs:=[],kw_defaults:=[],kwarg:=none,defaults:=[] }
noncomputable def eY(s:Stmt):List Stmt:=match s with
 |.FunctionDef _ _ b _ _ _ _ _ _ _=>b
 |_=>[]
noncomputable def b6(s:Stmt):Scope:=match s with
 |.FunctionDef _ _ _ _ _ _ sc _ _ _=>sc
 |_=>{ kind:=.function,names:=[],isGenerator:=false,isCoroutine:=false }
noncomputable abbrev jX:iG:=fun _ _ _ _ _ _=>False
noncomputable abbrev E0:XK:=fun _ _ _=>False
theorem FK{X:Cx}:Passes jX X E0:=fun _ _ _ _ _ _ _ h=>h.elim
structure oz (K:PySem.W.Frag)(x qual:Str)(st:Stmt)(f:Addr)(fd:FuncData):Prop where
 ex:∃(oc:Value) (od:Option Addr) (kV doc pm:Value) (an:Option Addr) (bM ct:Value) (iH:Array (Option Value)),
  fd=PySem.W.fnOf x qual (f9 st) (eY st) (b6 st) .none kV doc pm an bM ct∧K.lookup f=some ⟨oc,od,.func fd,iH⟩∧PySem.W.codeIn K bM qual=true
 kp:PySem.W.keepIn K (.ref f)=true
section
variable {P:Program}{w:World}{K:PySem.W.Frag}{mg:Str→Option Value}{base:Heap}
theorem oz.ok{x qual:Str}{st:Stmt}{f:Addr}{fd:FuncData}{N ps:List Str}{k:Nat}{sp:Sp}(F:oz K x qual st f fd)(S:pO N ps (b6 st))(len:∀vs H Q E,sp vs H Q E→vs.length=ps.length)
  (qd:∀(bM:Value) (A:Around) (outer:List Env) (s:Shared) (H:Hp) (vs:List V) (Q:VK) (E:XK),dD k (A.deeper (envOfC qual (b6 st) s.heap.objs.size f bM))→sp vs H Q E →
   ∃t,fP (kJ jX P w K mg base N qual (b6 st) f bM A outer s H E).mv (eY st) t∧t { nx:=fun _ H'=>Q .non H',rt:=Q } (start N vs) H):jK P w K mg base jX (k+1) f fd ps sp:=by
 obtain⟨oc,od,kV,doc,pm,an,bM,ct,iH,rfl,lk,gJ⟩:=F.ex
 refine FD lk gJ S len fun A outer s H vs Q E hr i9=>?_
 obtain⟨t,h,q⟩:=qd bM A outer s H vs Q E hr i9
 exact⟨t,h.mv,q⟩
theorem oz.binds{x qual:Str}{st:Stmt}{f:Addr}{fd:FuncData}{ps:List Str}(F:oz K x qual st f fd)
  (h:∀(kV doc pm:Value) (an:Option Addr) (bM ct:Value) (us:List Value),us.length=ps.length→bindArgs (PySem.W.fnOf x qual (f9 st) (eY st) (b6 st) .none kV doc pm an bM ct) ⟨us,[]⟩=pure (ps.zip us)):Binds K fd ps []:=by
 obtain⟨oc,od,kV,doc,pm,an,bM,ct,iH,rfl,lk,gJ⟩:=F.ex
 exact .all (h kV doc pm an bM ct)
theorem yn{x qual:Str}{st:Stmt}{f:Addr}{oc:Value}{od an:Option Addr}{iH:Array (Option Value)}{kV doc pm bM ct:Value}(l:K.lookup f=some ⟨oc,od,.func (PySem.W.fnOf x qual (f9 st) (eY st) (b6 st) .none kV doc pm an bM ct),iH⟩)
 (c:PySem.W.codeIn K bM qual=true) (k:PySem.W.keepIn K (.ref f)=true):oz K x qual st f (PySem.W.fnOf x qual (f9 st) (eY st) (b6 st) .none kV doc pm an bM ct):=⟨⟨oc,od,kV,doc,pm,an,bM,ct,iH,rfl,l,c⟩,k⟩
end
theorem kr{A:Around}{k:Nat}(hr:dD k A):A.units+1<cLine:=dz (Nat.add_le_add_left (by decide:1≤64) _) hr.units
section
variable {X:Cx}
end
theorem Vw{A B:Prop}(h:A):if true=true then A else B:=by
 rw[if_pos rfl]
 exact h
def aJ(H H':Hp):Prop:=∀b o,H b=some o→H' b=some o
theorem aJ.refl(H:Hp):aJ H H:=fun _ _ h=>h
theorem aJ.trans{H H1 H2:Hp}(a:aJ H H1)(b:aJ H1 H2):aJ H H2:=fun c o h=>b c o (a c o h)
theorem aJ.free{H H':Hp}(e:aJ H H'){l:Addr}(h:H' l=Option.none):H l=Option.none:=by
 cases q:H l with
 |none=>rfl
 |some o =>
  rw[e l o q]at h
  cases h
section
variable {κ:Type}[DecidableEq κ]
end
theorem Ki{α β:Type}{l:List α}{f:α→β→Sem (ForInStep β)}(g:α→β→β):∀(c:β),(∀x∈l,∀c,f x c=pure (.yield (g x c)))→forIn l c f=pure (l.foldl (fun c x=>g x c) c):=by
 induction l with
 |nil=>intro c _;rfl
 |cons x l ih =>
  intro c h
  rw[List.forIn_cons,h x bV,pure_bind]
  exact ih (g x c) fun y hy=>h y (b9 _ hy)
noncomputable def gX(env:Env)(x:Str×NameKind)(cs:List (Str×Addr)):List (Str×Addr):=if (x.2==NameKind.free)=true then (x.1,(env.cells.lookup x.1).getD 0)::cs else cs
noncomputable def lT(sc:Scope)(env:Env):List (Str×Addr):=sc.names.foldl (fun cs x=>gX env x cs) []
theorem sQ{sc:Scope}{env:Env}(h:∀x∈sc.names,x.2=.free→∃c,env.cells.lookup x.1=some c):closureFor sc env=pure (lT sc env):=by
 simp only[closureFor]
 rw[Ki (gX env) [] (fun x hx c=>?_)]
 ·rfl
 ·obtain⟨n,kind⟩:=x
  cases hk:kind==NameKind.free with
  |false=>simp[gX,hk]
  |true =>
   obtain⟨a,ha⟩:=h (n,kind) hx (by simpa using hk)
   have Wn:env.cells.lookup n=some a:=ha
   simp[gX,hk,cellOf,Wn]
theorem EL(env:Env)(hh:∀(x:Str×NameKind),x.2=.free→True):∀(names:List (Str×NameKind)) (acc:List (Str×Addr)),(∀x∈names,x.2=.free→∃c,env.cells.lookup x.1=some c)→(∀x c,acc.lookup x=some c→env.cells.lookup x=some c) →
  ∀x c,(names.foldl (fun cs x=>gX env x cs) acc).lookup x=some c→env.cells.lookup x=some c
 |[],acc,_,ha,x,c,h=>ha x c h
 |y::r,acc,hf,ha,x,c,h=>by
  refine EL env hh r (gX env y acc) (fun z hz=>hf z (b9 _ hz)) (fun z d hd=>?_) x c h
  unfold gX at hd
  split at hd
  ·rename_i hk
   obtain⟨a,e⟩:=hf y bV (by simpa using hk)
   by_cases q:z=y.1
   ·subst q
    simp[e]at hd
    rw[e,hd]
   ·have q':(z==y.1)=false:=by simpa using q
    rw[List.lookup_cons,q']at hd
    exact ha z d hd
  ·exact ha z d hd
theorem ER(env:Env):∀(names:List (Str×NameKind)) (acc:List (Str×Addr)) (x:Str),((∃c,acc.lookup x=some c)∨(x,NameKind.free)∈names)→∃c,(names.foldl (fun cs x=>gX env x cs) acc).lookup x=some c
  |[],acc,x,h=>by
    rcases h with h|h
    · exact h
    · exact nomatch h
  |y::r,acc,x,h=>by
    refine ER env r (gX env y acc) x ?_
    by_cases hk:(y.2==NameKind.free)=true
    · by_cases q:x=y.1
      · refine .inl ⟨(env.cells.lookup y.1).getD 0,?_⟩
        unfold gX
        rw[if_pos hk,q]
        simp
      · have q':(x==y.1)=false:=by simpa using q
        rcases h with⟨c,h⟩|h
        · refine .inl ⟨c,?_⟩
          unfold gX
          rw[if_pos hk,List.lookup_cons,q']
          exact h
        · rcases cJ.mp h with e|e
          · exact absurd (congrArg (·.1) e) q
          · exact .inr e
    · rcases h with⟨c,h⟩|h
      · refine .inl ⟨c,?_⟩
        unfold gX
        rw[if_neg hk]
        exact h
      · rcases cJ.mp h with e|e
        · refine absurd ?_ hk
          rw[←e]
          rfl
        · exact .inr e
theorem sR{env:Env}{x:Str}{k:NameKind}:∀{names:List (Str×NameKind)},(names.map fun(n,k)=>if (k==NameKind.free&&env.scope.kind==.function&&env.kindOf n==some .cell)then (n,NameKind.cell)else (n,k)).lookup x=some k →
    names.lookup x=some k∨(k=.cell∧names.lookup x=some .free)
  |[],h=>by simp at h
  | (n,j)::r,h=>by
    have ih:=@sR env x k r
    rw[List.map_cons]at h
    cases hx:x==n with
    |true =>
      by_cases hc:(j==NameKind.free&&env.scope.kind==.function&&env.kindOf n==some .cell)=true
      · simp only[hc,if_true]at h
        rw[List.lookup_cons,hx]at h
        have e:NameKind.cell=k:=Option.some.inj h
        refine .inr ⟨e.symm,?_⟩
        rw[List.lookup_cons,hx]
        simp only[Bool.and_eq_true]at hc
        have ej:j=.free:=by simpa using hc.1.1
        rw[ej]
      · simp only[hc,Bool.false_eq_true,if_false]at h
        rw[List.lookup_cons,hx]at h
        exact .inl (by rw[List.lookup_cons,hx];exact h)
    |false =>
      have h':(r.map fun(n,k)=>if (k==NameKind.free&&env.scope.kind==.function&&env.kindOf n==some .cell)then (n,NameKind.cell)else (n,k)).lookup x=some k:=by
        by_cases hc:(j==NameKind.free&&env.scope.kind==.function&&env.kindOf n==some .cell)=true
        · simp only[hc,if_true]at h
          rw[List.lookup_cons,hx]at h
          exact h
        · simp only[hc,Bool.false_eq_true,if_false]at h
          rw[List.lookup_cons,hx]at h
          exact h
      rw[List.lookup_cons,hx]
      exact ih h'
noncomputable def Cx.bw(X:Cx)(N:List Str)(sc:Scope)(C:Addr)(s₂:Shared)(H₂:Hp)(fp:List Addr)(pn:List (Addr×Obj)):Cx where
 prog:=X.prog
 w:=X.w
 K:=X.K
 mg:=X.mg
 base:=X.base
 A:=X.A
 N:=N
 s₀:=s₂
 H₀:=H₂
 env:=compEnvC sc (lT sc X.env) C X.env
 outer:=X.stack
 stack:=X.stack
 ex:=fp
 fn:=fun _=>false
 calm:=X.calm
 pn:=pn
 xe:=fun _ _=>False
def iJ(X:Cx)(ifs:List Expr)(t:TT):Prop :=
 ∀(pins:List (Addr×Obj)) (s:Shared) (σ:St) (H:Hp) (Q:Bool→Hp→Prop),Inv X pins σ H s→t σ H Q →
  wpAny (model X.prog X.w) X.A (forIn ifs true fun c r=>if r=true then do let ok ←isTrue c X.env (eval c X.env);pure (ForInStep.yield ok)else pure (ForInStep.yield r)) (TP X pins σ Q) X.xe s
noncomputable def vd:TT:=fun _ H Q=>Q true H
theorem pQ{X:Cx}:iJ X [] vd:=fun _ _ _ H _ I h=>wpAny_tests_nil ⟨H,I,h⟩
theorem xU{X:Cx}{c:Expr}{t:TT}(h:PT X c t):iJ X [c] t:=fun pins s σ H Q I hq=>wpAny_tests_one (h pins s σ H Q I hq)
noncomputable def dF(σ:St)(ix:List Nat):St:=ix.map fun i=>(σ[i]?).getD none
def qe(J:It)(D:Addr)(H1:Hp)(fr:St)(tc:TT)(te:TE)(Q:Addr→Hp→Prop):Prop :=
 ∃W:Nat→Nat→Hp→Prop,(∃m,W 0 m (upd H1 D (.lst [])))∧∀i m H,W i m H→(J.stop i H∧Q D H) ∨
  (J.go i H∧∀x H',J.iF i H x H'→tc (some x::fr) H' fun b H3=>if b=true then te (some x::fr) H3 fun y H4=>∃ys,H4 D=some (.lst ys)∧ys.length<sizeLine∧∃m',m'<m∧W (i+1) m' (upd H4 D (.lst (ys++[y])))
   else ∃m',m'<m∧W (i+1) m' H3)
def uk(gg:TG)(n:Nat)(J:It)(D:Addr)(H1:Hp)(fr:St)(tc:TT)(te:TE)(Q:Addr→Hp→Prop):Prop :=
 ∃W:Nat→Nat→Hp→Prop,(∃m,W 0 m (upd H1 D (.lst [])))∧∀i m H,W i m H→(J.stop i H∧Q D H) ∨
  (J.go i H∧∀x H',J.iF i H x H'→gg x (List.replicate n none++fr) H' fun σ' H2=>H2=H'∧(∃ow:St,ow.length=n∧σ'=ow++fr)∧tc σ' H' fun b H3=>if b=true then te σ' H3 fun y H4=>∃ys,H4 D=some (.lst ys)∧ys.length<sizeLine∧∃m',m'<m∧W (i+1) m' (upd H4 D (.lst (ys++[y])))
   else ∃m',m'<m∧W (i+1) m' H3)
theorem qe.g{J:It}{D:Addr}{H1:Hp}{fr:St}{tc:TT}{te:TE}{Q:Addr→Hp→Prop}(h:qe J D H1 fr tc te Q):uk (fK 0) 1 J D H1 fr tc te Q:=by
 obtain⟨W,h0,h⟩:=h
 refine⟨W,h0,fun i m H w=>?_⟩
 rcases h i m H w with z|⟨g,z⟩
 ·exact .inl z
 ·exact .inr ⟨g,fun x H' y=>⟨rfl,⟨[some x],rfl,rfl⟩,z x H' y⟩⟩
noncomputable def nJ(wi:TI)(ix:List Nat)(tc:TT)(te:TE):TE:=fun σ H Q=>wi σ H fun J H1=>∀D,H1 D=none→qe J D H1 (dF σ ix) tc te fun D H=>Q (.ref D) H
theorem Kt{prog:Program}{w:World}{A:Around}{s:Shared}{R:Result→Shared→Prop}{elt target iter:Expr}{ifs:List Expr}{scope:Scope}{pos:Pos}{it acc:Value}{env:Env}(I:Nat→Shared→Prop)
  (turn:∀n s,I n s→wpAny (model prog w) A (pyNext it) (fun r s₁=>match r with
   |none=>R (.ok .next) s₁
   |some v=>wpAny (model prog w) A (letOwnedTupleGo target it v) (fun _ s₂=>wpAny (model prog w) A (assign target env v) (fun _ s₃ =>
    wpAny (model prog w) A (forIn ifs true fun c r=>if r=true then do let ok ←isTrue c env (eval c env);pure (ForInStep.yield ok)else pure (ForInStep.yield r)) (fun ok s₄ =>
     if ok=true then wpAny (model prog w) A (eval elt env) (fun x s₅ =>
      wpAny (model prog w) A (call (.builtin "list.append") [acc,x]) (fun _ s₆=>∃m,m<n∧I m s₆) (notedBy (model prog w) A env fun e s'=>R (.error e) s') s₅) (notedBy (model prog w) A env fun e s'=>R (.error e) s') s₄
     else ∃m,m<n∧I m s₄) (notedBy (model prog w) A env fun e s'=>R (.error e) s') s₃) (notedBy (model prog w) A env fun e s'=>R (.error e) s') s₂) (notedBy (model prog w) A env fun e s'=>R (.error e) s') s₁) (notedBy (model prog w) A env fun e s'=>R (.error e) s') s)
  (n:Nat) (h:I n s) :
  codeAny (model prog w) A (.compLoop (.ListComp elt [⟨target,iter,ifs,0⟩] scope pos) 0 it acc env) R s:=by
 refine codeAny_loop rfl I (fun n s hI=>?_) n h
 show wpAny _ A ((compTurn (.ListComp elt [⟨target,iter,ifs,0⟩] scope pos) 0 it acc env).onRaise (fun x=>do noteFrame x env;theTreesLotGoes x)) _ _ s
 refine wpAny_noted ?_
 rw[compTurn_list]
 refine aC (wpAny_standAt (aC (wpAny_mono (turn n s hI) (fun r s₁ h₁=>?_) fun _ _ h'=>h')))
 cases r with
 |none=>exact aS h₁
 |some v =>
  refine aC (wpAny_mono h₁ (fun _ s₂ h₂=>?_) fun _ _ h'=>h')
  refine aC (wpAny_mono h₂ (fun _ s₃ h₃=>aC (wpAny_mono h₃ (fun ok s₄ h₄=>?_) fun _ _ h'=>h')) fun _ _ h'=>h')
  cases ok with
  |false=>exact aS ⟨rfl,h₄⟩
  |true =>
   exact aC (aC (wpAny_mono h₄ (fun x s₅ h₅=>aC (wpAny_mono h₅ (fun _ s₆ h₆=>aS (aS ⟨rfl,h₆⟩)) fun _ _ h'=>h')) fun _ _ h'=>h'))
structure jA (N N':List Str)(sc au:Scope)(x:Str)(ix:List Nat):Prop where
 kind:au.kind=.function
 um:∀y∈au.names,y.2≠.cell
 names:∀y∈au.names,y.2=.local→au.names.lookup y.1=some .local
 loc:au.names.lookup x=some .local
 free:∀y∈au.names,y.2=.free→sc.names.lookup y.1=some .cell
 nd:N'.Nodup
 hd:N'[0]?=some x
 len:N'.length=ix.length+1
 fr:∀p∈ix.zip N'.tail,N[p.1]?=some p.2∧sc.names.lookup p.2=some .cell∧au.names.lookup p.2=some .free
structure mZ (n:Nat)(N N':List Str)(sc au:Scope)(ix:List Nat):Prop where
 kind:au.kind=.function
 um:∀y∈au.names,y.2≠.cell
 names:∀y∈au.names,y.2=.local→au.names.lookup y.1=some .local
 free:∀y∈au.names,y.2=.free→sc.names.lookup y.1=some .cell
 len:N'.length=ix.length+n
 fr:∀p∈ix.zip (N'.drop n),N[p.1]?=some p.2∧sc.names.lookup p.2=some .cell∧au.names.lookup p.2=some .free
theorem jA.g{N N':List Str}{sc au:Scope}{x:Str}{ix:List Nat}(h:jA N N' sc au x ix):mZ 1 N N' sc au ix :=
 ⟨h.kind,h.um,h.names,h.free,h.len,by rw[List.drop_one];exact h.fr⟩
section
variable {X:Cx}{N':List Str}{au:Scope}{x:Str}{ix:List Nat}{px pos:Pos}{elt iter:Expr}{ifs:List Expr}{wi:TI}{tc:TT}{te:TE}
theorem xq{n:Nat}{tg:Expr}{gg:TG}{pins:List (Addr×Obj)}{σ:St}{H2:Hp}{s2:Shared}{it:Addr}{fp:List Addr}{tn:Nat→Heap→Prop}{J:It}{RR:Value→Addr→Result→Shared→Prop}{E:Value→Shared→Prop}{Qd:Addr→Hp→Prop}
  (ok:mZ n X.N N' X.env.scope au ix) (hg:∀C s₂ H₂ fp pn,PG (X.bw N' au C s₂ H₂ fp pn) tg gg) (hc:X.calm=true) (I2:Inv X pins σ H2 s2) (T:Turn X.prog X.w X.K tg J fp it tn) (a7:tn 0 s2.heap) (f2:∀b∈fp,gC X pins H2 b)
  (eV:∀C s₂ H₂ fp pn,iJ (X.bw N' au C s₂ H₂ fp pn) ifs tc) (fB:∀C s₂ H₂ fp pn,PE (X.bw N' au C s₂ H₂ fp pn) elt te)
  (hW:∀D,H2 D=none→uk gg n J D H2 (dF σ ix) tc te Qd)
  (Af:∀D C s4 H4 m,Inv X pins σ H4 s4→s4.heap.Ns C m→(∀(h':Heap) (t':Nat) (σ':St) (s5:Shared),Inv X pins σ' H4 s5→Heap.SameBut C s5.heap h'→Inv X pins σ' H4 { s5 with heap:=h',toks:=t' })→C≠X.env.locals→(∀y c,X.env.cells.lookup y=some c→c≠C)→Qd D H4→RR (.ref D) C (.ok .next) s4) :
  wpAny (model X.prog X.w) X.A (newList []) (fun acc s₃=>wpAny (model X.prog X.w) X.A (newFunctionEnv au X.env.globals (lT au X.env) [] X.env.qual none .none (some X.env)) (fun qm s₄ =>
   codeAny (model X.prog X.w) X.A (.compStart (.ListComp elt [⟨tg,iter,ifs,0⟩] au pos) 0 (.ref it) acc { qm with scope:=relabel au X.env }) (RR acc qm.locals) s₄) E s₃) E s2:=by
 refine wpAny_newObj_type (wpAny_newFunctionEnv ok.um (by intro y hy;simp at hy) (fun h₁ hns₁ hsb₁=>?_) ok.kind)
 dsimp only at hns₁ hsb₁ ⊢
 generalize Ag:s2.heap.push { cls:=.type "list",dict:=none,data:=.seq ([]:List Value).toArray }=HP at hns₁ hsb₁ ⊢
 have hC:HP.objs.size=s2.heap.objs.size+1:=by rw[←Ag,Heap.size_push]
 have vM:s2.heap.objs.size≠HP.objs.size:=by rw[hC];exact Nat.ne_of_lt (Nat.lt_succ_self _)
 have qo:s2.heap.objs.size≤HP.objs.size:=by rw[hC];exact Nat.le_succ _
 have below:∀b,b<s2.heap.objs.size→b≠HP.objs.size∧b≠s2.heap.objs.size:=fun b hb=>⟨by rw[hC];exact Nat.ne_of_lt (Nat.lt_succ_of_lt hb),Nat.ne_of_lt hb⟩
 have old:∀b o,s2.heap.get? b=some o→h₁.get? b=some o:=fun b o e=>hsb₁.extBut b o (below b (bT e)).1 (dw _ (Ag▸dw _ e))
 have nY:h₁.get? s2.heap.objs.size=some { cls:=.type "list",dict:=none,data:=.seq ([]:List Value).toArray }:=hsb₁.extBut _ _ vM (dw _ (Ag▸Heap.get?_push_size _ rfl))
 have Ah:H2 s2.heap.objs.size=none:=I2.aH.fresh (a6 _)
 have HD:H2 HP.objs.size=none:=I2.aH.fresh qo
 generalize hD:s2.heap.objs.size=D at vM nY Ah ⊢
 generalize YV:HP.objs.size=C at hns₁ hsb₁ vM HD qo below ⊢
 have uG:∀y∈au.names,y.2=.free→∃c,X.env.cells.lookup y.1=some c:=fun y hy e=>I2.ok.has y.1 (.inl (ok.free y hy e))
 have k6:∀y c,(lT au X.env).lookup y=some c→X.env.cells.lookup y=some c:=EL X.env (fun _ _=>trivial) au.names [] uG (fun _ _ z=>by simp at z)
 have HF:∀y,(y,NameKind.free)∈au.names→∃c,(lT au X.env).lookup y=some c:=fun y hy=>ER X.env au.names [] y (.inr hy)
 have EV:∀y c,X.env.cells.lookup y=some c→c<s2.heap.objs.size:=fun y c e=>by
  obtain⟨v,o,ho,_⟩:=I2.cell y c e
  exact bT ho
 have zp:∀b∈fp,b<s2.heap.objs.size:=fun b hb=>by
  obtain⟨o,e,_⟩:=T.obj 0 _ a7 b hb
  exact bT e
 have zq:∀b,b≠X.env.locals→b∉X.fs→b∉hG X.stack:=fun b h1 h2 z=>(cJ.mp (I2.yi b z)).elim h1 h2
 have Wo:(X.bw N' au C s2 H2 fp (X.pn++pins)).Ok:=by
  refine⟨I2.ok.mod,ok.kind,I2.ok.glob,I2.ok.blt,qo,fun y z c h1 h2=>?_,fun y hy=>?_,fun y c z=>?_,I2.ok.hd,I2.ok.frames,.inl rfl,fun b hb=>?_,I2.bs,bP I2.ok.jO I2.sz,fun b o e hb=>?_,fun b hb=>?_,I2.stack,I2.DN⟩
  ·exact I2.ok.inj y z c (k6 y c h1) (k6 z c h2)
  ·have Ac:(relabel au X.env).names.lookup y=some .cell∨(relabel au X.env).names.lookup y=some .free:=hy
   have hf:au.names.lookup y=some .free:=by
    rcases Ac with z|z
    ·rcases sR z with q|q
     ·exact absurd rfl (ok.um _ (PySem.mem_of_lookup q))
     ·exact q.2
    ·rcases sR z with q|q
     ·exact q
     ·exact absurd q.1 (by decide)
   exact HF y (PySem.mem_of_lookup hf)
  ·exact nomatch z
  ·exact⟨(below b (zp b hb)).1,fun y c e=>(f2 b hb).2.2.2.2.1 y c (k6 y c e)⟩
  ·rcases (f2 b hb).2.2.2.1 with z|z
   ·exact I2.ok.qk b o e z
   ·exact absurd (Nat.lt_of_lt_of_le (bT e) (bP I2.ok.jO z)) (Nat.lt_irrefl _)
  ·exact zq b (f2 b hb).2.1 (f2 b hb).2.2.1
 have Ai:∀{H':Hp},(∀b∈fp,H' b=none)→∀b∈fp,gC (X.bw N' au C s2 H2 fp (X.pn++pins)) [] H' b:=fun hn b hb =>
  ⟨hn b hb,(below b (zp b hb)).1,zq b (f2 b hb).2.1 (f2 b hb).2.2.1,.inl hb,fun y c e=>(f2 b hb).2.2.2.2.1 y c (k6 y c e),fun p hp=>(f2 b hb).2.2.2.2.2 p (by simpa using (show p∈(X.pn++pins)++[] from hp))⟩
 obtain⟨mL,YW,TC⟩:=id I2.loc
 have IB:Inv (X.bw N' au C s2 H2 fp (X.pn++pins)) [] (List.replicate n none++dF σ ix) (upd H2 D (.lst [])) { s2 with heap:=h₁,toks:=s2.toks+([]:List (Str×Value)).length }:=by
  refine⟨Wo,rfl,I2.bare,Un.laid old (Nat.le_of_eq hD) Ah,⟨_,hns₁,fun i y v h1 h2 h3=>?_⟩,fun y c e=>?_,?_,fun y c e=>?_,fun p hp=>?_,I2.aH.laid old (Nat.le_of_eq hD) ⟨Nat.zero_le _,[],_,.nil,nY⟩,?_⟩
  ·by_cases jY:i<n
   ·rw[List.getElem?_append_left (by simpa using jY),List.getElem?_replicate,if_pos jY]at h2
    cases h2
   ·obtain⟨j,rfl⟩:∃j,i=n+j:=⟨i-n,by omega⟩
    have oA:(dF σ ix)[j]?=some (some v):=by
     rw[List.getElem?_append_right (by simp)]at h2
     simpa using h2
    unfold dF at oA
    rw[dG]at oA
    cases ei:ix[j]? with
    |none=>rw[ei]at oA;cases oA
    |some i =>
     rw[ei]at oA
     have ve:(σ[i]?).getD none=some v:=Option.some.inj oA
     have hσ:σ[i]?=some (some v):=by
      cases es:σ[i]? with
      |none=>rw[es]at ve;cases ve
      |some q=>rw[es]at ve;exact congrArg some ve
     have Vx:(N'.drop n)[j]?=some y:=by rw[List.getElem?_drop];exact h1
     obtain⟨n1,n2,n3⟩:=ok.fr (i,y) (fm (i:=j) (by rw[List.getElem?_zip_eq_some];exact⟨ei,Vx⟩))
     obtain⟨u,ru,lk⟩:=TC i y v n1 hσ (.inr (.inl n2))
     refine⟨u,ru,?_⟩
     rcases lk with⟨k,_⟩|⟨_,c,ec,z⟩
     ·have k':X.env.scope.names.lookup y=some .local:=k
      rw[n2]at k'
      cases k'
     ·obtain⟨c',HG⟩:=HF y (PySem.mem_of_lookup n3)
      have e3:=k6 y c' HG
      rw[ec]at e3
      cases e3
      have kk:(relabel au X.env).names.lookup y=some .cell∨(relabel au X.env).names.lookup y=some .free:=by
       rcases h3 with q|q|q
       ·have q':(relabel au X.env).names.lookup y=some .local:=q
        rcases sR q' with r|r
        ·rw[n3]at r;cases r
        ·exact absurd r.1 (by decide)
       ·exact .inl q
       ·exact .inr q
      exact .inr ⟨kk,c,HG,z.keeps old⟩
  ·obtain⟨v,z⟩:=I2.cell y c (k6 y c e)
   exact⟨v,z.keeps old⟩
  ·show upd H2 D (.lst []) C=none
   rw[aP (Ne.symm vM)]
   exact HD
  ·show upd H2 D (.lst []) c=none
   have l:=EV y c (k6 y c e)
   rw[aP (fun q=>by rw[q,←hD]at l;exact Nat.lt_irrefl _ l)]
   exact I2.iq y c (k6 y c e)
  ·have Wq:p∈X.pn++pins:=by simpa using (show p∈(X.pn++pins)++[] from hp)
   obtain⟨e,n,ne,nf,d⟩:=I2.pin p Wq
   have l:=bT e
   refine⟨old _ _ e,?_,(below p.1 l).1,zq p.1 ne nf,d⟩
   rw[aP (fun q=>by rw[q,←hD]at l;exact Nat.lt_irrefl _ l)]
   exact n
  ·show(List.replicate n none++dF σ ix:St).length=N'.length
   rw[ok.len]
   simp[dF,Nat.add_comm]
 have back:∀{H4:Hp}{s4:Shared}{σ4:St}{ps:List (Addr×Obj)},Inv (X.bw N' au C s2 H2 fp (X.pn++pins)) ps σ4 H4 s4→Inv X pins σ H4 s4:=fun I4 =>
  I2.Tc I4.os I4.base I4.aH I4.bare fun b hb=>⟨(f2 b hb).2.2.2.1,(f2 b hb).2.1,(f2 b hb).2.2.2.2.1,(f2 b hb).2.2.2.2.2⟩
 have jQ:C≠X.env.locals:=fun z=>by
  have l:=I2.lt
  rw[←z]at l
  exact absurd (Nat.lt_of_lt_of_le l qo) (Nat.lt_irrefl _)
 have iE:∀y c,X.env.cells.lookup y=some c→c≠C:=fun y c e=>(below c (EV y c e)).1
 have Wr:∀p∈X.pn++pins,p.1≠C:=fun p hp=>(below p.1 (bT (I2.pin p hp).1)).1
 have loop:∀s₃:Shared,s₃={ s2 with heap:=h₁,toks:=s2.toks+([]:List (Str×Value)).length } →
   codeAny (model X.prog X.w) X.A (.compLoop (.ListComp elt [⟨tg,iter,ifs,0⟩] au pos) 0 (.ref it) (.ref D) (compEnvC au (lT au X.env) C X.env)) (RR (.ref D) C) s₃:=by
  rintro s₃ rfl
  obtain⟨W,⟨m0,Ws⟩,turn⟩:=hW D Ah
  refine Kt (fun k s'=>∃i H',Inv (X.bw N' au C s2 H2 fp (X.pn++pins)) [] (List.replicate n none++dF σ ix) H' s'∧tn i s'.heap∧(∀b∈fp,H' b=none)∧W i k H') ?_ m0
   ⟨0,_,IB,T.keep _ _ _ a7 fun b _ o e=>old b o e,fun b hb=>?_,Ws⟩
  ·rintro k s3 ⟨i,H3,I3,bD,qI,w3⟩
   rcases turn i k H3 w3 with⟨stop,qn⟩|⟨go,step⟩
   ·refine aG (T.done (X.bw N' au C s2 H2 fp (X.pn++pins)) rfl rfl rfl hc i [] s3 _ H3 _ I3 (Ai qI) bD stop) fun r s4 ⟨hr,I4⟩=>?_
    subst hr
    obtain⟨m4,Wt,_⟩:=id I4.loc
    refine Af D C s4 H3 m4 (back I4) Wt (fun h' t' σ' s5 I5 sb=>I5.turned (it:=C) (fun b o hb e=>(sb.2 b hb).trans e) I4.free jQ (.inr (bP I2.sz qo)) iE Wr) jQ iE qn
   ·refine aG (T.item (X.bw N' au C s2 H2 fp (X.pn++pins)) rfl rfl rfl hc i [] s3 _ H3 _ I3 (Ai qI) bD go) fun r s4 ⟨u,hr,h4⟩=>?_
    subst hr
    refine aG h4 fun _ s5 ⟨v,H5,I5,r5,y5,fQ,z4⟩=>?_
    have z5:=I5.pinned (Ai z4) (T.obj _ _ fQ)
    have fin:∀{ow:St}{H7:Hp}{s7:Shared},ow.length=n→Inv (X.bw N' au C s2 H2 fp (X.pn++pins)) ([]++pR fp s5.heap) (ow++dF σ ix) H7 s7→∀{m':Nat},m'<k→W (i+1) m' H7 →
      ∃m,m<k∧∃i H',Inv (X.bw N' au C s2 H2 fp (X.pn++pins)) [] (List.replicate n none++dF σ ix) H' s7∧tn i s7.heap∧(∀b∈fp,H' b=none)∧W i m H':=fun {ow H7 s7} how I7 {m'} hm w7=>by
     refine⟨m',hm,i+1,H7,I7.tP.weak (by rw[dO,dO,how,List.length_replicate]) (fun j q e=>?_),T.keep _ _ _ fQ fun b hb o e=>(I7.pin (b,o) (fj _ (fj _ (tG hb e)))).1,fun b hb=>?_,w7⟩
     ·by_cases hj:j<n
      ·rw[List.getElem?_append_left (by simpa using hj),List.getElem?_replicate,if_pos hj]at e
       cases e
      ·rw[List.getElem?_append_right (by simpa using hj)]at e
       rw[List.getElem?_append_right (by omega),how]
       simpa using e
     ·obtain⟨o,e,d⟩:=T.obj _ _ fQ b hb
      exact(I7.pin (b,o) (fj _ (fj _ (tG hb e)))).2.1
    refine wpAny_mono (hg C s2 H2 fp (X.pn++pins) _ s5 _ H5 v u _ z5 r5 (step v H5 y5)) (fun _ s6 ⟨σ6,H6,I6,e1,⟨ow,how,e2⟩,q6⟩=>?_) fun _ _ z=>z.elim
    subst e1 e2
    refine wpAny_mono (eV C s2 H2 fp (X.pn++pins) _ s6 _ _ _ I6 q6) (fun b s7 ⟨H7,I7,q7⟩=>?_) fun _ _ z=>z.elim
    cases b with
    |false =>
     rw[if_neg aZ]at q7 ⊢
     obtain⟨m',hm,w7⟩:=q7
     exact fin how I7 hm w7
    |true =>
     rw[if_pos rfl]at q7 ⊢
     refine wpAny_mono (fB C s2 H2 fp (X.pn++pins) _ s7 _ _ _ I7 q7) (fun uy s8 ⟨y,H8,I8,r8,ys,gO,hl,m',hm,w8⟩=>?_) fun _ _ z=>z.elim
     refine wpAny_mono (CJ (X:=X.bw N' au C s2 H2 fp (X.pn++pins)) _ s8 _ H8 (.ref D) [y] (.ref D) [uy] (fun _ H'=>H'=upd H8 D (.lst (ys++[y]))) I8 rfl (.cons r8 .nil) ⟨D,ys,y,rfl,rfl,gO,hl,rfl⟩) (fun _ s9 ⟨z,H9,I9,_,q9⟩=>?_) fun _ _ z=>z.elim
     subst q9
     exact fin how I9 hm w8
  ·show upd H2 D (.lst []) b=none
   have l:=zp b hb
   rw[aP (fun q=>by rw[q,←hD]at l;exact Nat.lt_irrefl _ l)]
   exact(f2 b hb).1
 exact codeAny_compStart_list (loop _ rfl) (T.self X.A 0 _ _ _ (T.keep _ _ _ a7 fun b _ o e=>old b o e) (loop _ rfl))
theorem Ci{pins:List (Addr×Obj)}{σ:St}{H2:Hp}{s2:Shared}{it:Addr}{fp:List Addr}{tn:Nat→Heap→Prop}{J:It}{RR:Value→Addr→Result→Shared→Prop}{E:Value→Shared→Prop}{Qd:Addr→Hp→Prop}
  (ok:jA X.N N' X.env.scope au x ix) (hc:X.calm=true) (I2:Inv X pins σ H2 s2) (T:Turn X.prog X.w X.K (.Name x px) J fp it tn) (a7:tn 0 s2.heap) (f2:∀b∈fp,gC X pins H2 b)
  (eV:∀C s₂ H₂ fp pn,iJ (X.bw N' au C s₂ H₂ fp pn) ifs tc) (fB:∀C s₂ H₂ fp pn,PE (X.bw N' au C s₂ H₂ fp pn) elt te)
  (hW:∀D,H2 D=none→qe J D H2 (dF σ ix) tc te Qd)
  (Af:∀D C s4 H4 m,Inv X pins σ H4 s4→s4.heap.Ns C m→(∀(h':Heap) (t':Nat) (σ':St) (s5:Shared),Inv X pins σ' H4 s5→Heap.SameBut C s5.heap h'→Inv X pins σ' H4 { s5 with heap:=h',toks:=t' })→C≠X.env.locals→(∀y c,X.env.cells.lookup y=some c→c≠C)→Qd D H4→RR (.ref D) C (.ok .next) s4) :
  wpAny (model X.prog X.w) X.A (newList []) (fun acc s₃=>wpAny (model X.prog X.w) X.A (newFunctionEnv au X.env.globals (lT au X.env) [] X.env.qual none .none (some X.env)) (fun qm s₄ =>
   codeAny (model X.prog X.w) X.A (.compStart (.ListComp elt [⟨.Name x px,iter,ifs,0⟩] au pos) 0 (.ref it) acc { qm with scope:=relabel au X.env }) (RR acc qm.locals) s₄) E s₃) E s2:=by
 have qP:∀C s₂ H₂ fp pn,(X.bw N' au C s₂ H₂ fp pn).env.scope.names.lookup x=some .local:=fun _ _ _ _ _=>lookup_relabel_local ok.loc
 exact xq ok.g (fun C s₂ H₂ fp pn=>tY (X:=X.bw N' au C s₂ H₂ fp pn) (i:=0) ok.nd ok.hd (.inl (qP C s₂ H₂ fp pn)) (.inr (qP C s₂ H₂ fp pn))) hc I2 T a7 f2 eV fB (fun D hD=>(hW D hD).g) Af
theorem uc(ok:jA X.N N' X.env.scope au x ix)(hc:X.calm=true)(hi:PI X (.Name x px) iter wi)(eV:∀C s₂ H₂ fp pn,iJ (X.bw N' au C s₂ H₂ fp pn) ifs tc)(fB:∀C s₂ H₂ fp pn,PE (X.bw N' au C s₂ H₂ fp pn) elt te)
  (hs:∀x,foldedSetIterable iter X.env x=pure x:=by intro _;rfl):PE X (.ListComp elt [⟨.Name x px,iter,ifs,0⟩] au pos) (nJ wi ix tc te):=by
 intro pins s σ H Q I h
 rw[eval_ListComp]
 refine wpAny_comprehension_free (use:=none) rfl hs (sQ fun y hy e=>I.ok.has y.1 (.inl (ok.free y hy e))) ok.kind ok.names (aG (hi pins s σ H _ I h) fun v s1 h1=>aG h1 fun oi s2 h2=>?_)
 obtain⟨it,fp,tn,J,H2,e,I2,T,a7,f2,hW⟩:=h2
 subst e
 refine Ci (RR:=fun acc C=>compPost (model X.prog X.w) X.A X.xe none (EP X pins σ Q) acc C) (Qd:=fun D H=>Q (.ref D) H) ok hc I2 T a7 f2 eV fB hW ?_
 intro D C s4 H4 m I4 jj tr _ _ q
 exact⟨m,jj,fun h' sb=>⟨.ref D,H4,tr h' s4.toks σ s4 I4 sb,rfl,q⟩⟩
theorem KR{i:Nat}{y:Str}{py kM:Pos}(hN:X.N.Nodup)(qQ:X.N[i]?=some y)(hy:X.env.scope.names.lookup y=some .local)(ok:jA X.N N' X.env.scope au x ix)(hc:X.calm=true)(hi:PI X (.Name x px) iter wi)(eV:∀C s₂ H₂ fp pn,iJ (X.bw N' au C s₂ H₂ fp pn) ifs tc)
  (fB:∀C s₂ H₂ fp pn,PE (X.bw N' au C s₂ H₂ fp pn) elt te) (qR:swapsWith (.ListComp elt [⟨.Name x px,iter,ifs,0⟩] au pos) (some (.Name y py)) kM.line X.env=pure true:=by rfl)
  (hs:∀x,foldedSetIterable iter X.env x=pure x:=by intro _;rfl):PS X (.Assign [.Name y py] (.ListComp elt [⟨.Name x px,iter,ifs,0⟩] au pos) kM) (gf (nJ wi ix tc te) (fK i)):=by
 intro pins s σ H D I h
 rw[exec_Assign_Name_used _ _ _ _ qR]
 refine aC (wpAny_standAt (aC ?_))
 show wpAny _ X.A (do let _ ←comprehension (.ListComp elt [⟨.Name x px,iter,ifs,0⟩] au pos) au X.env _ (newList []) false (eval iter X.env) (some (assign (.Name y py) X.env))) _ _ s
 refine aC (wpAny_mono (wpAny_comprehension_free (use:=some (assign (.Name y py) X.env)) (Q:=fun _ s'=>SP X pins D .next s') rfl hs (sQ fun y hy e=>I.ok.has y.1 (.inl (ok.free y hy e))) ok.kind ok.names
  (aG (hi pins s σ H _ I h) fun v s1 h1=>aG h1 fun oi s2 h2=>?_)) (fun _ s' hq=>aS (aS hq)) fun _ _ e=>e)
 obtain⟨it,fp,tn,J,H2,e,I2,T,a7,f2,hW⟩:=h2
 subst e
 refine Ci (RR:=fun acc C=>compPost (model X.prog X.w) X.A X.xe (some (assign (.Name y py) X.env)) (fun _ s'=>SP X pins D .next s') acc C) (Qd:=fun B H=>D.nx (σ.set i (some (.ref B))) H) ok hc I2 T a7 f2 eV fB hW ?_
 intro B C s4 H4 m I4 jj tr jQ iE q
 show wpAny _ X.A (assign (.Name y py) X.env (.ref B)) _ _ s4
 refine wpAny_assign_Name (xx I4 hN qQ (.inl hy) (show RelV (.ref B) (.ref B)from rfl) (fun s5 I5 ⟨a,sb,ha⟩=>?_) (.inr hy))
 have Aj:C≠a:=by
  rcases ha with e|e
  ·rw[e];exact jQ
  ·exact Ne.symm (iE y a e)
 exact⟨m,jj.sameBut sb Aj,fun h' Ak=>⟨_,H4,tr h' s5.toks _ s5 I5 Ak,q⟩⟩
noncomputable def uq(gg:TG)(n:Nat)(wi:TI)(ix:List Nat)(tc:TT)(te:TE):TE:=fun σ H Q=>wi σ H fun J H1=>∀D,H1 D=none→uk gg n J D H1 (dF σ ix) tc te fun D H=>Q (.ref D) H
theorem MD{n:Nat}{tg:Expr}{gg:TG}(ok:mZ n X.N N' X.env.scope au ix)(hg:∀C s₂ H₂ fp pn,PG (X.bw N' au C s₂ H₂ fp pn) tg gg)(hc:X.calm=true)(hi:PI X tg iter wi)(eV:∀C s₂ H₂ fp pn,iJ (X.bw N' au C s₂ H₂ fp pn) ifs tc)(fB:∀C s₂ H₂ fp pn,PE (X.bw N' au C s₂ H₂ fp pn) elt te)
  (hs:∀x,foldedSetIterable iter X.env x=pure x:=by intro _;rfl):PE X (.ListComp elt [⟨tg,iter,ifs,0⟩] au pos) (uq gg n wi ix tc te):=by
 intro pins s σ H Q I h
 rw[eval_ListComp]
 refine wpAny_comprehension_free (use:=none) rfl hs (sQ fun y hy e=>I.ok.has y.1 (.inl (ok.free y hy e))) ok.kind ok.names (aG (hi pins s σ H _ I h) fun v s1 h1=>aG h1 fun oi s2 h2=>?_)
 obtain⟨it,fp,tn,J,H2,e,I2,T,a7,f2,hW⟩:=h2
 subst e
 refine xq (RR:=fun acc C=>compPost (model X.prog X.w) X.A X.xe none (EP X pins σ Q) acc C) (Qd:=fun D H=>Q (.ref D) H) ok hg hc I2 T a7 f2 eV fB hW ?_
 intro D C s4 H4 m I4 jj tr _ _ q
 exact⟨m,jj,fun h' sb=>⟨.ref D,H4,tr h' s4.toks σ s4 I4 sb,rfl,q⟩⟩
theorem Ku{n:Nat}{tg:Expr}{gg:TG}{i:Nat}{y:Str}{py kM:Pos}(hN:X.N.Nodup)(qQ:X.N[i]?=some y)(hy:X.env.scope.names.lookup y=some .local)(ok:mZ n X.N N' X.env.scope au ix)(hg:∀C s₂ H₂ fp pn,PG (X.bw N' au C s₂ H₂ fp pn) tg gg)(hc:X.calm=true)(hi:PI X tg iter wi)(eV:∀C s₂ H₂ fp pn,iJ (X.bw N' au C s₂ H₂ fp pn) ifs tc)
  (fB:∀C s₂ H₂ fp pn,PE (X.bw N' au C s₂ H₂ fp pn) elt te) (qR:swapsWith (.ListComp elt [⟨tg,iter,ifs,0⟩] au pos) (some (.Name y py)) kM.line X.env=pure true:=by rfl)
  (hs:∀x,foldedSetIterable iter X.env x=pure x:=by intro _;rfl):PS X (.Assign [.Name y py] (.ListComp elt [⟨tg,iter,ifs,0⟩] au pos) kM) (gf (uq gg n wi ix tc te) (fK i)):=by
 intro pins s σ H D I h
 rw[exec_Assign_Name_used _ _ _ _ qR]
 refine aC (wpAny_standAt (aC ?_))
 show wpAny _ X.A (do let _ ←comprehension (.ListComp elt [⟨tg,iter,ifs,0⟩] au pos) au X.env _ (newList []) false (eval iter X.env) (some (assign (.Name y py) X.env))) _ _ s
 refine aC (wpAny_mono (wpAny_comprehension_free (use:=some (assign (.Name y py) X.env)) (Q:=fun _ s'=>SP X pins D .next s') rfl hs (sQ fun y hy e=>I.ok.has y.1 (.inl (ok.free y hy e))) ok.kind ok.names
  (aG (hi pins s σ H _ I h) fun v s1 h1=>aG h1 fun oi s2 h2=>?_)) (fun _ s' hq=>aS (aS hq)) fun _ _ e=>e)
 obtain⟨it,fp,tn,J,H2,e,I2,T,a7,f2,hW⟩:=h2
 subst e
 refine xq (RR:=fun acc C=>compPost (model X.prog X.w) X.A X.xe (some (assign (.Name y py) X.env)) (fun _ s'=>SP X pins D .next s') acc C) (Qd:=fun B H=>D.nx (σ.set i (some (.ref B))) H) ok hg hc I2 T a7 f2 eV fB hW ?_
 intro B C s4 H4 m I4 jj tr jQ iE q
 show wpAny _ X.A (assign (.Name y py) X.env (.ref B)) _ _ s4
 refine wpAny_assign_Name (xx I4 hN qQ (.inl hy) (show RelV (.ref B) (.ref B)from rfl) (fun s5 I5 ⟨a,sb,ha⟩=>?_) (.inr hy))
 have Aj:C≠a:=by
  rcases ha with e|e
  ·rw[e];exact jQ
  ·exact Ne.symm (iE y a e)
 exact⟨m,jj.sameBut sb Aj,fun h' Ak=>⟨_,H4,tr h' s5.toks _ s5 I5 Ak,q⟩⟩
end
def gY(h:Heap)(d:Addr)(es:Array DictEntry)(ep:Nat):Prop:=∃o,h.get? d=some o∧o.ExactDict∧o.data=.dict es ep
theorem gY.ty{s:Shared}{d:Addr}{es:Array DictEntry}{ep:Nat}(x:gY s.heap d es ep):s.TypeIs (.ref d) "dict" := let ⟨o,ho,hc,_⟩:=x;⟨o,ho,hc.1⟩
theorem gY.at{h h':Heap}{d:Addr}{es:Array DictEntry}{ep:Nat}(x:gY h d es ep)(e:∀o,h.get? d=some o→h'.get? d=some o):gY h' d es ep:=let ⟨o,ho,r⟩:=x;⟨o,e _ ho,r⟩
theorem gY.lt{h:Heap}{d:Addr}{es:Array DictEntry}{ep:Nat}(x:gY h d es ep):d<h.objs.size:=let ⟨_,ho,_⟩:=x;bT ho
section
variable {prog:Program}{w:World}{A:Around}{E:Value→Shared→Prop}{s:Shared}{d it:Addr}{es:Array DictEntry}{i ep:Nat}
theorem KS{Q:Value→Shared→Prop}(hd:(d==sysModules)=false)(hm:gY s.heap d es ep)
  (hQ:Q (.ref s.heap.objs.size) { s with heap:=s.heap.push { cls:=.type "dict_keyiterator",data:=.fields #[.ref d,.int 0 0,.int es.size 0,.int ep 0] } }):wpAny (model prog w) A (pyIter (.ref d)) Q E s:=by
 obtain⟨o,ho,hc,jL⟩:=id hm
 have hT:=hm.ty
 refine wpAny_pyIter_slot hT F.slot_dict_iter (wpAny_call_entry F.slot_dict_iter hT F.entry_dict_iter ?_ (F.args_dict_iter_1 _));unfold Builtin.«dict.__iter__»
 refine aC ?_;unfold Builtin.Dict.dictSlotNone;refine aC (wpAny_notOrdered_dict hT ?_)
 show wpAny _ _ (pure (Value.ref d)) _ _ s;refine aS ?_
 show wpAny _ _ (Builtin.Dict.showsAll d >>= _) _ _ s;unfold Builtin.Dict.showsAll
 rw[if_neg (by rw[hd];exact aZ)];refine aC (aS ?_)
 refine aC (wpAny_dictEntries ho jL ?_);refine aC (wpAny_dictEpoch ho jL ?_)
 refine aC (wpAny_newObj_type (aS ⟨_,rfl, "dict_keyiterator",_,⟨_,Heap.get?_push_size _ rfl,rfl⟩,F.slot_dict_keyiterator_next.lookup,?_⟩));simpa[rawInt]using hQ
theorem KW{e:DictEntry}{Q:Option Value→Shared→Prop}(hit:s.heap.IsKeyIter it d i es.size ep)(hm:gY s.heap d es ep)(hx:es[i]?=some e)
  (hQ:∀h',h'.IsKeyIter it d (i+1) es.size ep→Heap.SameBut it s.heap h'→Q (some e.key) { s with heap:=h' }):wpAny (model prog w) A (pyNext (.ref it)) Q E s:=by
 obtain⟨o,ho,hc,hd⟩:=id hit;obtain⟨od,qS,gJ,qT⟩:=id hm
 unfold pyNext;refine aC (wpAny_attempt (wpAny_callSpecial?_slot (name:=Str.ofString "__next__") hit.typeIs F.slot_dict_keyiterator_next (wpAny_call_entry F.slot_dict_keyiterator_next hit.typeIs F.entry_dict_keyiterator_next ?_ (F.args_dict_keyiterator_next_1 _))))
 refine aC (aS ?_);refine aC ?_;refine aC ?_
 (first|refine aC (wpAny_typeNameOfWhole_keyiter hit.typeIs (aS ?_))|refine aC (wpAny_typeNameOf_keyiter hit.typeIs (aS ?_)));refine aC (wpAny_fieldsOf ho hd ?_)
 have zr:Builtin.Dict_items.ownsTuple "dict_keyiterator" = false:=by decide +kernel
 simp only[zr,Bool.false_eq_true,if_false];show wpAny _ _ (if (Value.ref d==Value.none)=true then _ else _) _ _ s
 rw[if_neg (show ¬((Value.ref d==Value.none)=true)from aZ)];refine aC (aS ?_)
 refine aC (wpAny_dictEntries qS qT ?_);rw[if_neg (by simp)];refine aC (aS ?_)
 refine aC (wpAny_dictEpoch qS qT ?_);rw[if_neg (by simp)];refine aS ?_
 have aU:i<es.size:=(Array.getElem?_eq_some_iff.mp hx).1
 have vN:es[i]=e:=(Array.getElem?_eq_some_iff.mp hx).2
 simp only[show ¬((i:Int)<0)from by omega,if_false,Int.toNat_natCast,Array.getElem?_eq_getElem aU];refine aC ?_
 (first|refine aC (wpAny_typeNameOfWhole_keyiter hit.typeIs (aS ?_))|refine aC (wpAny_typeNameOf_keyiter hit.typeIs (aS ?_)));refine aC (wpAny_isOneOf_keyiter hit.typeIs ?_)
 show wpAny _ _ (setField (.ref it) 1 (rawInt ((i:Int)+1)) >>= _) _ _ s;refine aC (wpAny_setField ho hd (by simp) ?_)
 have vf:(s.heap.update it (Obj.mapFields (·.setIfInBounds 1 (rawInt ((i:Int)+1))))).IsKeyIter it d (i+1) es.size ep:=⟨_,Heap.get?_update_self _ ho (Obj.isFreed_of_fields (Obj.data_mapFields hd _)),(Obj.cls_mapFields ..).trans hc,by rw[Obj.data_mapFields hd];simp[rawInt]⟩
 refine aC (wpAny_holding ?_);refine aC (wpAny_isOneOf_keyiter (s:={ s with heap:=s.heap.update it (Obj.mapFields (·.setIfInBounds 1 (rawInt ((i:Int)+1)))) }) vf.typeIs ?_)
 show wpAny _ _ (pure es[i].key) _ _ _;rw[vN]
 exact aS (aS ⟨_,rfl,aS (hQ _ vf (Heap.SameBut.update ..))⟩)
theorem Lw{Q:Option Value→Shared→Prop}(hh:A.handled=none)(hit:s.heap.IsKeyIter it d i es.size ep)(hm:gY s.heap d es ep)(hx:es.size≤i)
  (hQ:∀h',Heap.ExtBut it s.heap h'→Q none { s with heap:=h' }):wpAny (model prog w) A (pyNext (.ref it)) Q E s:=by
 obtain⟨o,ho,hc,hd⟩:=id hit;obtain⟨od,qS,gJ,qT⟩:=id hm
 unfold pyNext;refine aC (wpAny_attempt (wpAny_callSpecial?_slot (name:=Str.ofString "__next__") hit.typeIs F.slot_dict_keyiterator_next (wpAny_call_entry F.slot_dict_keyiterator_next hit.typeIs F.entry_dict_keyiterator_next ?_ (F.args_dict_keyiterator_next_1 _))))
 refine aC (aS ?_);refine aC ?_;refine aC ?_
 (first|refine aC (wpAny_typeNameOfWhole_keyiter hit.typeIs (aS ?_))|refine aC (wpAny_typeNameOf_keyiter hit.typeIs (aS ?_)));refine aC (wpAny_fieldsOf ho hd ?_)
 have zr:Builtin.Dict_items.ownsTuple "dict_keyiterator" = false:=by decide +kernel
 simp only[zr,Bool.false_eq_true,if_false];show wpAny _ _ (if (Value.ref d==Value.none)=true then _ else _) _ _ s
 rw[if_neg (show ¬((Value.ref d==Value.none)=true)from aZ)];refine aC (aS ?_)
 refine aC (wpAny_dictEntries qS qT ?_);rw[if_neg (by simp)];refine aC (aS ?_)
 refine aC (wpAny_dictEpoch qS qT ?_);rw[if_neg (by simp)];refine aS ?_
 simp only[show ¬((i:Int)<0)from by omega,if_false,Int.toNat_natCast,Array.getElem?_eq_none hx];refine aC ?_
 (first|refine aC (wpAny_typeNameOfWhole_keyiter hit.typeIs (aS ?_))|refine aC (wpAny_typeNameOf_keyiter hit.typeIs (aS ?_)));show wpAny _ _ (setField (.ref it) 0 .none >>= _) _ _ s
 refine aC (wpAny_setField ho hd (by simp) ?_);show wpAny _ _ (newExc (.type "StopIteration") [] >>= _) _ _ _
 refine aC ?_;simp only[newExc,newTuple];refine aC (wpAny_newObj_type ?_ (by size_fits))
 refine aC (m:=firstArgMember _ _) (wpAny_of_eq (a:=Value.none) (by first|rfl | (simp only[firstArgMember];rfl)) ?_);refine wpAny_newObj_type ?_ (by size_fits)
 simp only[raiseNew];refine aC (wpAny_handled ?_);rw[show A.in1.handled=none from hh]
 refine aC (aS (wpAny_throw ?_));refine aC (wpAny_isInstance (T := "StopIteration") (b:=true) ⟨_,Heap.get?_push_size _ rfl,rfl⟩ isSubtype_stop ?_)
 exact aS (hQ _ (((Heap.SameBut.update ..).extBut.push _).push _))
theorem Kv(hh:A.handled=none)(I d:Addr)(eD:d≠I)(es:Array DictEntry)(ep:Nat) :
  Walks prog w A I [I,d] [I] es.size (fun i v=>∃e,es[i]?=some e∧v=e.key) (fun i h=>h.IsKeyIter I d i es.size ep∧gY h d es ep) where
 sub:=fun b hb=>by
  have e:b=I:=by simpa using hb
  rw[e];exact bV
 frame:=fun _ _ _ st hk=>⟨st.1.at fun o e=>hk I bV o e,st.2.at fun o e=>hk d (b9 _ bV) o e⟩
 item:=fun i s Q E hi st hQ=>KW st.1 st.2 (e:=es[i]) (by simp[hi]) fun h' vf hV=>hQ _ h' s.toks ⟨es[i],by simp[hi],rfl⟩ ⟨vf,st.2.at fun o e=>hV.extBut d o eD e⟩ fun b o hb e=>hV.extBut b o (fun z=>hb (by rw[z];exact bV)) e
 done:=fun s Q E st hQ=>Lw hh st.1 st.2 (a6 _) fun h' Wu=>hQ h' s.toks fun b o hb e=>Wu b o (fun z=>hb (by rw[z];exact bV)) e
 self:=fun _ _ _ _ st hQ=>wpAny_pyIter_keyiter st.1 hQ
theorem Lx(lo:(d==sysModules)=false):PySem.W.KdlSrc prog w "dict" d d es.size (fun i v=>∃e,es[i]?=some e∧v=e.key) (fun h=>gY h d es ep) where
 type:=fun _ hm=>hm.ty
 there:=fun _ hm=>⟨hm.lt,hm.lt⟩
 keep:=fun _ _ hm hk=>hm.at fun o e=>hk d (.inl rfl) o e
 notList:=by decide +kernel
 notTuple:=by decide +kernel
 hint:=fun _ _ _ _ hm hq=>PySem.W.kdl_hint_dict hm.ty hq
 iter:=fun _ _ hh hm=>⟨_,_,(fun _ _ hq=>KS lo hm hq),Kv hh _ d (Nat.ne_of_lt hm.lt) es ep,⟨⟨_,Heap.get?_push_size _ rfl,rfl,rfl⟩,hm.at fun o e=>dw _ e⟩⟩
end
def pT(H:Hp):List (List Key)→List Addr→Prop:=Paired fun k b=>H b=some (.tup (k.map kV))
section
variable {X:Cx}
theorem By:∀(bs:List Addr),Vals (bs.map V.ref) (bs.map Value.ref)
 |[]=>.nil
 |_::r=>.cons rfl (By r)
theorem D1{H:Hp}:∀{ai:List (List Key×V)}{xs:List (List Key×Addr×Value)},Paired (fun(p:List Key×V) (q:List Key×Addr×Value)=>p.1=q.1∧H q.2.1=some (.tup (p.1.map kV))∧RelV p.2 q.2.2) ai xs→pT H (ai.map (·.1)) (xs.map (·.2.1))
 |_,_,.nil=>.nil
 |_,_,.cons r t=>.cons r.2.1 (D1 t)
theorem Kj(hc:X.calm=true):ft X (.type "list") (fun xs H Q=>∃d ai,xs=[.ref d]∧H d=some (.dT ai)∧∀l bs,H l=none→pT H (ai.map (·.1)) bs→Q (.ref l) (upd H l (.lst (bs.map V.ref)))):=by
 intro pins s σ H xs us Q I r h
 obtain⟨d,ai,rfl,hd,q⟩:=h
 obtain⟨u,rfl,rx⟩:=vals1 r
 cases rx
 obtain⟨hz,Wv,ys,rel,o,es,ep,ho,hex,jL,fB,dg⟩:=(show cM X.prog X.w H s.heap d (.dT ai)from I.aH d _ hd)
 have hlen:es.size=ai.length:=by
  have e1:es.toList.length=ys.length:=by rw[fB,List.length_map]
  have e2:=Paired.length rel
  simpa[e2]using e1
 refine PySem.W.kdl_call (Lx (es:=es) (ep:=ep) Wv) (I.ok.hd hc) ⟨o,ho,hex,jL⟩ (by rw[hlen];exact hz) fun h' tk nZ c' kp e nY=>?_
 have ka:=D1 rel
 have hv:nZ.toList=(ys.map (·.2.1)).map Value.ref:=by
  refine List.ext_getElem? fun j=>?_
  rw[List.map_map,dG]
  cases ej:ys[j]? with
  |none =>
   have:ys.length≤j:=List.getElem?_eq_none_iff.mp ej
   have e1:es.size=ys.length:=by rw[hlen,Paired.length rel]
   have e3:nZ.size=es.size:=nY.1
   exact List.getElem?_eq_none_iff.mpr (by rw[Array.length_toList];omega)
  |some y =>
   have hj:j<ys.length:=(bO.mp ej).1
   have e1:es.size=ys.length:=by rw[hlen,Paired.length rel]
   have e3:nZ.size=es.size:=nY.1
   have HJ:j<nZ.size:=by omega
   obtain⟨en,Ww,hk⟩:=nY.2 j nZ[j] (by simp[HJ])
   have Gp:es[j]?=some (entryOfKey (tupleKind (cZ X.prog X.w)) y):=by rw[←Array.getElem?_toList,fB,dG,ej];rfl
   rw[Ww]at Gp
   cases Gp
   rw[Array.getElem?_toList,Array.getElem?_eq_getElem HJ,hk]
   rfl
 refine⟨.ref s.heap.objs.size,upd H s.heap.objs.size (.lst ((ys.map (·.2.1)).map V.ref)),I.laid kp (a6 _) ?_,rfl,q _ _ (I.aH.fresh (a6 _)) ka⟩
 refine(show cM X.prog X.w _ h' _ (.lst ((ys.map (·.2.1)).map V.ref)) from⟨?_,nZ.toList,c',?_,?_⟩)
 ·rw[List.length_map,List.length_map,←Paired.length rel];exact hz
 ·rw[hv];exact By _
 ·rw[Array.toArray_toList];exact e
noncomputable def Gq(K:PySem.W.Frag)(n:Nat)(t:gK):TG:=fun v σ H Q=>∃a xs,v=.ref a∧bH K H a xs∧xs.length=n∧t xs σ H Q
theorem Ra{es:List Expr}{k:Nat}{pos:Pos}{t:gK}{n:Nat}(hc:X.calm=true)(h:oh X es t)
  (hn:(assignEach es X.env).length=n:=by rfl) (jR:(assignEach es X.env).findIdx? (·.1)=none:=by rfl):PG X (.Tuple es k pos) (Gq X.K n t):=by
 intro pins s σ H v u Q I r hw
 obtain⟨a,xs,e1,hq,hl,hw⟩:=hw
 subst e1
 cases r
 obtain⟨its,rv,pl,hz⟩:=I.list hq
 rw[assign_Tuple]
 refine aC (wpAny_standAt ?_)
 unfold unpack
 have hlen:(assignEach es X.env).length=its.toArray.size:=by rw[hn,←hl,rv.length];simp
 rw[hlen,jR]
 refine aC (wpAny_holding (PySem.W.kun_itemsOf (I.ok.hd hc) pl.isList fun h' hx=>?_))
 have I1:Inv X pins σ H { s with heap:=h' }:=I.kept (t':=s.toks) fun b o e=>hx b o (Nat.ne_of_lt (bT e)) e
 exact h pins _ σ H xs _ Q I1 (by simpa using rv) hw
mutual
inductive Dn (K:PySem.W.Frag)(H:Hp):V→PyData→Prop
 |non:Dn K H .non .none
 |bl (b:Bool):Dn K H (.bl b) (.bool b)
 |int (i:Int):Dn K H (.int i) (.int i)
 |str (x:Str):Dn K H (.str x) (.str x)
 |lst {a:Addr}{xs:List V}{ds:List PyData}:bH K H a xs→bG K H xs ds→Dn K H (.ref a) (.list ds)
 |tup {a:Addr}{xs:List V}{ds:List PyData}:a8 K H a xs→bG K H xs ds→Dn K H (.ref a) (.tuple ds)
inductive bG (K:PySem.W.Frag)(H:Hp):List V→List PyData→Prop
 |nil:bG K H [] []
 |cons {v:V}{d:PyData}{vs:List V}{ds:List PyData}:Dn K H v d→bG K H vs ds→bG K H (v::vs) (d::ds)
end
noncomputable def dV:V→PyData
 |.non=>.none
 |.bl b=>.bool b
 |.int i=>.int i
 |.str x=>.str x
 |_=>.none
theorem Inv.D2{pins:List (Addr×Obj)}{σ:St}{H:Hp}{s:Shared}{a:Addr}{xs ys:List V}(I:Inv X pins σ H s)(h:bH X.K H a xs)(h':a8 X.K H a ys):False:=by
 obtain⟨_,_,⟨o,n,e1,e2,_⟩,_⟩:=I.list h
 obtain⟨_,_,⟨o',k1,k2,_⟩,_⟩:=I.tuple h'
 rw[e1]at k1;cases k1;rw[e2]at k2;exact absurd k2 (by simp)
mutual
theorem Dn.unique{pins:List (Addr×Obj)}{σ:St}{H:Hp}{s:Shared}(I:Inv X pins σ H s):∀{v:V}{d d':PyData},Dn X.K H v d→Dn X.K H v d'→d=d'
 |_,_,_,.non,h=>by cases h;rfl
 |_,_,_,.bl _,h=>by cases h;rfl
 |_,_,_,.int _,h=>by cases h;rfl
 |_,_,_,.str _,h=>by cases h;rfl
 |_,_,_,.lst hq hs,h=>by
  cases h with
  |lst kq ks=>cases I.tO hq kq;rw[bG.unique I hs ks]
  |tup kq ks=>exact(I.D2 hq kq).elim
 |_,_,_,.tup hq hs,h=>by
  cases h with
  |tup kq ks=>cases I.xA hq kq;rw[bG.unique I hs ks]
  |lst kq ks=>exact(I.D2 kq hq).elim
theorem bG.unique{pins:List (Addr×Obj)}{σ:St}{H:Hp}{s:Shared}(I:Inv X pins σ H s):∀{vs:List V}{ds gP:List PyData},bG X.K H vs ds→bG X.K H vs gP→ds=gP
 |_,_,_,.nil,h=>by cases h;rfl
 |_,_,_,.cons h t,k=>by
  cases k with
  |cons h' t'=>rw[Dn.unique I h h',bG.unique I t t']
end
mutual
theorem Dn.refl{K:PySem.W.Frag}{H:Hp}:∀{v:V}{d:PyData},Dn K H v d→PyData.eqv d d=true
 |_,_,.non=>by simp[PyData.eqv]
 |_,_,.bl _=>by simp[PyData.eqv]
 |_,_,.int _=>by simp[PyData.eqv]
 |_,_,.str _=>by simp[PyData.eqv]
 |_,_,.lst _ hs=>by simp only[PyData.eqv];exact bG.refl hs
 |_,_,.tup _ hs=>by simp only[PyData.eqv];exact bG.refl hs
theorem bG.refl{K:PySem.W.Frag}{H:Hp}:∀{vs:List V}{ds:List PyData},bG K H vs ds→PyData.eqvAll ds ds=true
 |_,_,.nil=>by simp[PyData.eqvAll]
 |_,_,.cons h t=>by rw[PyData.eqvAll,Dn.refl h,bG.refl t];rfl
end
theorem bG.length{K:PySem.W.Frag}{H:Hp}:∀{vs:List V}{ds:List PyData},bG K H vs ds→vs.length=ds.length
 |_,_,.nil=>rfl
 |_,_,.cons _ t=>by simp[bG.length t]
mutual
theorem Dn.kN{pins:List (Addr×Obj)}{σ:St}{H:Hp}{s:Shared}(I:Inv X pins σ H s):∀{v:V}{d:PyData},Dn X.K H v d→∀{v':V}{d':PyData},Dn X.K H v' d'→∀{u u':Value},RelV v u→RelV v' u'→∀{A:Around},A.units+min d.depth d'.depth<cLine→SeqAt.EqAt A s u u' (PyData.eqv d d')
 |_,_,.non,_,_,h',_,_,r,r',A,hu=>by
  cases (show _=Value.none from r)
  cases h' with
  |non=>cases (show _=Value.none from r');exact SeqAt.EqAt.same _
  |bl y=>cases (show _=Value.bool y from r');exact SeqAt.EqAt.none_bool y
  |int y=>obtain⟨t,e⟩:=(show ∃t,_=Value.int y t from r');subst e;exact SeqAt.EqAt.none_int y t
  |str y=>obtain⟨t,e⟩:=(show ∃t,_=Value.str y t from r');subst e;exact SeqAt.EqAt.none_str y t
  |@lst a xs ds q hs=>cases (show _=Value.ref a from r');obtain⟨its,rv,pl,_⟩:=I.list q;exact SeqAt.EqAt.none_list pl.isList (cG hu)
  |@tup a xs ds q hs=>cases (show _=Value.ref a from r');obtain⟨its,rv,pl,_⟩:=I.tuple q;exact SeqAt.EqAt.none_tuple pl (cG hu)
 |_,_,.bl x,_,_,h',_,_,r,r',A,hu=>by
  cases (show _=Value.bool x from r)
  cases h' with
  |non=>cases (show _=Value.none from r');exact SeqAt.EqAt.bool_none x
  |bl y=>cases (show _=Value.bool y from r');exact SeqAt.EqAt.bool_bool x y
  |int y=>obtain⟨t,e⟩:=(show ∃t,_=Value.int y t from r');subst e;exact SeqAt.EqAt.bool_int x y t
  |str y=>obtain⟨t,e⟩:=(show ∃t,_=Value.str y t from r');subst e;exact SeqAt.EqAt.bool_str x y t
  |@lst a xs ds q hs=>cases (show _=Value.ref a from r');obtain⟨its,rv,pl,_⟩:=I.list q;exact SeqAt.EqAt.bool_list x pl.isList (cG hu)
  |@tup a xs ds q hs=>cases (show _=Value.ref a from r');obtain⟨its,rv,pl,_⟩:=I.tuple q;exact SeqAt.EqAt.bool_tuple x pl (cG hu)
 |_,_,.int x,_,_,h',_,_,r,r',A,hu=>by
  obtain⟨tx,ex⟩:=(show ∃t,_=Value.int x t from r);subst ex
  cases h' with
  |non=>cases (show _=Value.none from r');exact SeqAt.EqAt.int_none x tx
  |bl y=>cases (show _=Value.bool y from r');exact SeqAt.EqAt.int_bool x tx y
  |int y=>obtain⟨t,e⟩:=(show ∃t,_=Value.int y t from r');subst e;exact SeqAt.EqAt.int_int x tx y t
  |str y=>obtain⟨t,e⟩:=(show ∃t,_=Value.str y t from r');subst e;exact SeqAt.EqAt.int_str x tx y t
  |@lst a xs ds q hs=>cases (show _=Value.ref a from r');obtain⟨its,rv,pl,_⟩:=I.list q;exact SeqAt.EqAt.int_list x tx pl.isList (cG hu)
  |@tup a xs ds q hs=>cases (show _=Value.ref a from r');obtain⟨its,rv,pl,_⟩:=I.tuple q;exact SeqAt.EqAt.int_tuple x tx pl (cG hu)
 |_,_,.str x,_,_,h',_,_,r,r',A,hu=>by
  obtain⟨tx,ex⟩:=(show ∃t,_=Value.str x t from r);subst ex
  cases h' with
  |non=>cases (show _=Value.none from r');exact SeqAt.EqAt.str_none x tx
  |bl y=>cases (show _=Value.bool y from r');exact SeqAt.EqAt.str_bool x tx y
  |int y=>obtain⟨t,e⟩:=(show ∃t,_=Value.int y t from r');subst e;exact SeqAt.EqAt.str_int x tx y t
  |str y=>obtain⟨t,e⟩:=(show ∃t,_=Value.str y t from r');subst e;exact SeqAt.EqAt.str_str x tx y t
  |@lst a xs ds q hs=>cases (show _=Value.ref a from r');obtain⟨its,rv,pl,_⟩:=I.list q;exact SeqAt.EqAt.str_list x tx pl.isList (cG hu)
  |@tup a xs ds q hs=>cases (show _=Value.ref a from r');obtain⟨its,rv,pl,_⟩:=I.tuple q;exact SeqAt.EqAt.str_tuple x tx pl (cG hu)
 |_,_,.lst (a:=b) hq hs,_,_,h',_,_,r,r',A,hu=>by
  cases (show _=Value.ref b from r)
  obtain⟨fU,rb,dA,_⟩:=I.list hq
  cases h' with
  |non=>cases (show _=Value.none from r');exact SeqAt.EqAt.list_none dA.isList (cG hu)
  |bl y=>cases (show _=Value.bool y from r');exact SeqAt.EqAt.list_bool y dA.isList (cG hu)
  |int y=>obtain⟨t,e⟩:=(show ∃t,_=Value.int y t from r');subst e;exact SeqAt.EqAt.list_int y t dA.isList (cG hu)
  |str y=>obtain⟨t,e⟩:=(show ∃t,_=Value.str y t from r');subst e;exact SeqAt.EqAt.list_str y t dA.isList (cG hu)
  |@tup a xs ds q ks=>cases (show _=Value.ref a from r');obtain⟨its,rv,pl,_⟩:=I.tuple q;exact SeqAt.EqAt.list_tuple dA.isList pl (cG hu)
  |@lst a xs ds q ks =>
   cases (show _=Value.ref a from r')
   by_cases e:b=a
   ·subst e
    cases I.tO hq q
    rw[bG.unique I ks hs]
    simp only[PyData.eqv];rw[bG.refl hs];exact SeqAt.EqAt.same _
   ·obtain⟨its,rv,pl,_⟩:=I.list q
    have n1:=rb.length;have n2:=rv.length;have n3:=bG.length hs;have n4:=bG.length ks
    simp only[PyData.eqv]
    have he:∀j (j1:j<fU.toArray.size) (j2:j<its.toArray.size),SeqAt.EqAt A.in1 s fU.toArray[j] its.toArray[j] (SeqAt.pairEq _ _ j):=fun j j1 j2=>by
     have z:=bG.kN I hs ks rb rv (A:=A.in1) (SeqAt.room_in hu) j (by simpa using j1) (by simpa using j2)
     simpa using z
    refine SeqAt.EqAt.of_refs e ?_
    by_cases hsz:fU.toArray.size=its.toArray.size
    ·rw[←SeqAt.eqvAll_same_length (by simp at hsz;omega),show List.length _=fU.toArray.size by simp;omega]
     exact SeqAt.RcAt.lists dA.isList pl.isList hsz (cG hu) he
    ·rw[SeqAt.eqvAll_other_length (by simp at hsz;omega)]
     exact SeqAt.RcAt.lists_lengths dA.isList pl.isList (by simpa using hsz) (cG hu)
 |_,_,.tup (a:=b) hq hs,_,_,h',_,_,r,r',A,hu=>by
  cases (show _=Value.ref b from r)
  obtain⟨fU,rb,dA,_⟩:=I.tuple hq
  cases h' with
  |non=>cases (show _=Value.none from r');exact SeqAt.EqAt.tuple_none dA (cG hu)
  |bl y=>cases (show _=Value.bool y from r');exact SeqAt.EqAt.tuple_bool y dA (cG hu)
  |int y=>obtain⟨t,e⟩:=(show ∃t,_=Value.int y t from r');subst e;exact SeqAt.EqAt.tuple_int y t dA (cG hu)
  |str y=>obtain⟨t,e⟩:=(show ∃t,_=Value.str y t from r');subst e;exact SeqAt.EqAt.tuple_str y t dA (cG hu)
  |@lst a xs ds q ks=>cases (show _=Value.ref a from r');obtain⟨its,rv,pl,_⟩:=I.list q;exact SeqAt.EqAt.tuple_list dA pl.isList (cG hu)
  |@tup a xs ds q ks =>
   cases (show _=Value.ref a from r')
   by_cases e:b=a
   ·subst e
    cases I.xA hq q
    rw[bG.unique I ks hs]
    simp only[PyData.eqv];rw[bG.refl hs];exact SeqAt.EqAt.same _
   ·obtain⟨its,rv,pl,_⟩:=I.tuple q
    have n1:=rb.length;have n2:=rv.length;have n3:=bG.length hs;have n4:=bG.length ks
    simp only[PyData.eqv]
    have he:∀j (j1:j<fU.toArray.size) (j2:j<its.toArray.size),SeqAt.EqAt A.in1 s fU.toArray[j] its.toArray[j] (SeqAt.pairEq _ _ j):=fun j j1 j2=>by
     have z:=bG.kN I hs ks rb rv (A:=A.in1) (SeqAt.room_in hu) j (by simpa using j1) (by simpa using j2)
     simpa using z
    refine SeqAt.EqAt.of_refs e ?_
    rw[←SeqAt.eqvAll_eq,←n3,←n4,n1,n2]
    have z:=SeqAt.RcAt.tuples dA pl (cG hu) he
    simpa using z
theorem bG.kN{pins:List (Addr×Obj)}{σ:St}{H:Hp}{s:Shared}(I:Inv X pins σ H s):∀{vs:List V}{ds:List PyData},bG X.K H vs ds→∀{HK:List V}{gP:List PyData},bG X.K H HK gP→∀{us Al:List Value},Vals vs us→Vals HK Al→∀{A:Around},A.units+min (PyData.depthAll ds) (PyData.depthAll gP)<cLine →
  ∀j (h1:j<us.length) (h2:j<Al.length),SeqAt.EqAt A s us[j] Al[j] (SeqAt.pairEq ds gP j)
 |_,_,.nil,_,_,_,_,_,.nil,_,_,_,j,h1,_=>absurd h1 (Nat.not_lt_zero _)
 |_,_,.cons _ _,_,_,.nil,_,_,_,.nil,_,_,j,_,h2=>absurd h2 (Nat.not_lt_zero _)
 |_,_,.cons h t,_,_,.cons h' t',_,_,.cons r q,.cons r' q',A,hu,j,h1,h2=>by
  cases j with
  |zero=>exact Dn.kN I h h' r r' (SeqAt.room_head hu)
  |succ j=>exact bG.kN I t t' q q' (SeqAt.room_tail hu) j (Nat.lt_of_succ_lt_succ h1) (Nat.lt_of_succ_lt_succ h2)
end
inductive lU:PyData→PyData→Prop
 |lst (xs ys:List PyData):lU (.list xs) (.list ys)
 |tup (xs ys:List PyData):lU (.tuple xs) (.tuple ys)
 |non:lU .none .none
noncomputable def zt(K:PySem.W.Frag):R2:=fun x y H Q=>∃dx dy,Dn K H x dx∧Dn K H y dy∧lU dx dy∧min dx.depth dy.depth≤60∧Q (.bl (PyData.eqv dx dy)) H
noncomputable def zu(K:PySem.W.Frag):R2:=fun x y H Q=>∃dx dy,Dn K H x dx∧Dn K H y dy∧lU dx dy∧min dx.depth dy.depth≤60∧Q (.bl (!PyData.eqv dx dy)) H
theorem Dk{pins:List (Addr×Obj)}{σ:St}{H:Hp}{s:Shared}(I:Inv X pins σ H s){A:Around}{x y:V}{u u':Value}{dx dy:PyData}(hx:Dn X.K H x dx)(hy:Dn X.K H y dy)(l:lU dx dy)(rx:RelV x u)(ry:RelV y u')(hu:A.units+min dx.depth dy.depth<cLine) :
  SeqAt.RcAt A s u u' (PyData.eqv dx dy)∧SeqAt.RcNeAt A s u u' (!PyData.eqv dx dy):=by
 cases l with
 |non =>
  cases hx;cases hy
  cases (show u=Value.none from rx)
  cases (show u'=Value.none from ry)
  exact⟨SeqAt.RcAt.none_none,SeqAt.RcNeAt.none_none⟩
 |lst ds es =>
  cases hx with
  |@lst b _ _ hq hs =>
  cases hy with
  |@lst a _ _ q ks =>
   cases (show u=Value.ref b from rx)
   cases (show u'=Value.ref a from ry)
   obtain⟨fU,rb,dA,_⟩:=I.list hq
   obtain⟨its,rv,pl,_⟩:=I.list q
   have n1:=rb.length;have n2:=rv.length;have n3:=bG.length hs;have n4:=bG.length ks
   simp only[PyData.eqv]
   have he:∀j (j1:j<fU.toArray.size) (j2:j<its.toArray.size),SeqAt.EqAt A.in1 s fU.toArray[j] its.toArray[j] (SeqAt.pairEq ds es j):=fun j j1 j2=>by
    have z:=bG.kN I hs ks rb rv (A:=A.in1) (SeqAt.room_in hu) j (by simpa using j1) (by simpa using j2)
    simpa using z
   by_cases hsz:fU.toArray.size=its.toArray.size
   ·have e:ds.length=fU.toArray.size:=by simp;omega
    rw[←SeqAt.eqvAll_same_length (show ds.length=es.length by simp at hsz;omega),e]
    exact⟨SeqAt.RcAt.lists dA.isList pl.isList hsz (cG hu) he,SeqAt.RcNeAt.lists dA.isList pl.isList hsz (cG hu) he⟩
   ·rw[SeqAt.eqvAll_other_length (show ds.length≠es.length by simp at hsz;omega)]
    exact⟨SeqAt.RcAt.lists_lengths dA.isList pl.isList (by simpa using hsz) (cG hu),SeqAt.RcNeAt.lists_lengths dA.isList pl.isList (by simpa using hsz) (cG hu)⟩
 |tup ds es =>
  cases hx with
  |@tup b _ _ hq hs =>
  cases hy with
  |@tup a _ _ q ks =>
   cases (show u=Value.ref b from rx)
   cases (show u'=Value.ref a from ry)
   obtain⟨fU,rb,dA,_⟩:=I.tuple hq
   obtain⟨its,rv,pl,_⟩:=I.tuple q
   have n1:=rb.length;have n2:=rv.length;have n3:=bG.length hs;have n4:=bG.length ks
   simp only[PyData.eqv]
   have he:∀j (j1:j<fU.toArray.size) (j2:j<its.toArray.size),SeqAt.EqAt A.in1 s fU.toArray[j] its.toArray[j] (SeqAt.pairEq ds es j):=fun j j1 j2=>by
    have z:=bG.kN I hs ks rb rv (A:=A.in1) (SeqAt.room_in hu) j (by simpa using j1) (by simpa using j2)
    simpa using z
   have z1:=SeqAt.RcAt.tuples dA pl (cG hu) he
   have z2:=SeqAt.RcNeAt.tuples dA pl (cG hu) he
   rw[←SeqAt.eqvAll_eq ds es,←n3,←n4,n1,n2]
   exact⟨by simpa using z1,by simpa using z2⟩
theorem Rb(hu:X.A.units+64<cLine):bI X (compareOp .Eq) (zt X.K):=by
 intro pins s σ H x y v u Q I rx ry h
 obtain⟨dx,dy,hx,hy,l,hd,q⟩:=h
 exact(Dk I hx hy l rx ry (A:=X.A) (by omega)).1 X.prog X.w X.xe _ ⟨.bl _,H,I,rfl,q⟩
theorem Rc(hu:X.A.units+64<cLine):bI X (compareOp .NotEq) (zu X.K):=by
 intro pins s σ H x y v u Q I rx ry h
 obtain⟨dx,dy,hx,hy,l,hd,q⟩:=h
 exact(Dk I hx hy l rx ry (A:=X.A) (by omega)).2 X.prog X.w X.xe _ ⟨.bl _,H,I,rfl,q⟩
noncomputable def zv(K:PySem.W.Frag)(neg:Bool):R2:=fun x y H Q=>∃p xs ds dx,y=.ref p∧(bH K H p xs∨a8 K H p xs)∧bG K H xs ds∧Dn K H x dx∧dx.depth≤50∧Q (.bl (if neg then !(ds.any fun d=>PyData.eqv d dx)else ds.any fun d=>PyData.eqv d dx)) H
theorem Dl{pins:List (Addr×Obj)}{σ:St}{H:Hp}{s:Shared}(I:Inv X pins σ H s){A:Around}{x:V}{u:Value}{dx:PyData}(hx:Dn X.K H x dx)(rx:RelV x u)(hu:A.units+dx.depth<cLine):∀{xs:List V}{ds:List PyData}{its:List Value},bG X.K H xs ds→Vals xs its →
  ∃e:Value→Bool,(∀y∈its,SeqAt.EqAt A s y u (e y))∧its.any e=ds.any fun d=>PyData.eqv d dx:=by
 intro xs ds its hs rv
 classical
 refine⟨fun y=>decide (∃v d,Dn X.K H v d∧RelV v y∧PyData.eqv d dx=true),fun y hy=>?_,?_⟩
 ·have key:∀{xs:List V}{ds:List PyData}{its:List Value},bG X.K H xs ds→Vals xs its→y∈its→∃v d,Dn X.K H v d∧RelV v y:=fun {xs}=>by
   induction xs with
   |nil=>intro ds its hs rv hy;cases rv;exact nomatch hy
   |cons v r ih =>
    intro ds its hs rv hy
    cases rv with
    |cons a b =>
     cases hs with
     |cons c d =>
      rcases cJ.mp hy with e|e
      ·subst e;exact⟨_,_,c,a⟩
      ·exact ih d b e
  obtain⟨v,d,hv,ry⟩:=key hs rv hy
  have z:=Dn.kN I hv hx ry rx (A:=A) (dz (Nat.add_le_add_left (Nat.min_le_right _ _) _) hu)
  have e:PyData.eqv d dx=decide (∃v d,Dn X.K H v d∧RelV v y∧PyData.eqv d dx=true):=by
   cases q:PyData.eqv d dx with
   |true=>exact(cV ⟨v,d,hv,ry,q⟩).symm
   |false =>
    refine(df ?_).symm
    rintro⟨v',d',h1,h2,h3⟩
    cases RelV.inj ry h2
    rw[Dn.unique I h1 hv,q]at h3
    cases h3
  rw[e]at z
  exact z
 ·induction xs generalizing ds its with
  |nil=>cases rv;cases hs;rfl
  |cons v r ih =>
   cases rv with
   |cons a b =>
    cases hs with
    |@cons _ d0 _ _ c d =>
     rw[List.any_cons,List.any_cons,ih d b]
     congr 1
     cases q:PyData.eqv d0 dx with
     |true=>exact cV ⟨v,d0,c,a,q⟩
     |false =>
      refine df ?_
      rintro⟨v',d',h1,h2,h3⟩
      cases RelV.inj a h2
      rw[Dn.unique I h1 c,q]at h3
      cases h3
theorem Ly(hu:X.A.units+64<cLine):bI X (compareOp .NotIn) (zv X.K true):=by
 intro pins s σ H x y v u Q I rx ry h
 obtain⟨p,xs,ds,dx,rfl,hq,hs,hx,hd,q⟩:=h
 cases ry
 rcases hq with hq|hq
 ·obtain⟨its,rv,pl,_⟩:=I.list hq
  obtain⟨e,he,zx⟩:=Dl I hx rx (A:=X.A.in1) (show X.A.units+1+dx.depth<cLine by omega) hs rv
  refine SeqAt.notIn_listAt e pl.isList (fun w hw=>he w (by simpa using hw)) ⟨.bl _,H,I,rfl,?_⟩
  rw[show its.toArray.any e=its.any e by simp,zx]
  exact q
 ·obtain⟨its,rv,pl,_⟩:=I.tuple hq
  obtain⟨e,he,zx⟩:=Dl I hx rx (A:=X.A.in1) (show X.A.units+1+dx.depth<cLine by omega) hs rv
  refine SeqAt.notIn_tupleAt e pl (fun w hw=>he w (by simpa using hw)) ⟨.bl _,H,I,rfl,?_⟩
  rw[show its.toArray.any e=its.any e by simp,zx]
  exact q
end
def YG(D:Addr)(H H':Hp):Prop:=∀b o,b≠D→H b=some o→H' b=some o
section
variable {X:Cx}{K:PySem.W.Frag}
theorem D3(h:X.K=K):jc X (vH K):=by subst h;exact QY
theorem KY(h:X.K=K):bI X (compareOp .In) (qL K false):=by subst h;exact Lp
theorem Kd(h:X.K=K):bI X (compareOp .NotIn) (qL K true):=by subst h;exact Kg
theorem Lz(h:X.K=K):ft X (.builtin "len") (fun xs H Q=>∃x n,xs=[x]∧zh K x H n∧Q (.int n) H):=by subst h;exact Mr
theorem LC{a:Expr}{ta:TE}(h:X.K=K)(ha:PE X a ta)(he:∀whole,isTrue a X.env whole=(do let v ←whole;standAt a.pos;holding [v] (truthy v))):PT X a (fun σ H Q=>ta σ H fun x H'=>∃k,uZ K x H' k∧Q k H'):=by subst h;exact Mq ha he
theorem MF{tg l:Expr}{tl:TE}(h:X.K=K)(hl:PE X l tl):PI X tg l (yL K tl):=by subst h;exact N7 hl
end
end L2
namespace My
open PySem PySem.Spec PyProof.Rows L2
theorem aJ.none{H H':Hp}{p:Addr}(s:aJ H H')(h:H' p=none):H p=none:=s.free h
theorem Vy{σ:L2.St}{H:Hp}{A B:Hp→Prop}(h:A H):vd σ H fun b H3=>if b=true then A H3 else B H3:=by
 show if true=true then A H else B H
 exact Vw h
theorem Paired.at{α β:Type}{F:α→β→Prop}:∀{l:List α}{m:List β},Paired F l m→∀{i:Nat}{b:β},m[i]?=some b→∃a,l[i]?=some a∧F a b
 |_,_,.nil,_,_,h=>by simp at h
 |_,_,.cons r t,0,_,h=>by simp at h;subst h;exact⟨_,rfl,r⟩
 |_,_,.cons r t,i+1,b,h=>by
  obtain⟨a,e,q⟩:=Paired.at t (i:=i) (b:=b) (by simpa using h)
  exact⟨a,by simpa using e,q⟩
inductive Rw where
 |reckon (x s:Str) (a b:Key)|copy (x:Str) (a:Key)|say (a:Key)|go (n:Int)|part (a:Key) (n:Int)|fin
noncomputable def Rw.vs:Rw→List V
 |.reckon x s a b=>[.str "reckon",.str x,.str s,kV a,kV b]
 |.copy x a=>[.str "copy",.str x,kV a]
 |.say a=>[.str "say",kV a]
 |.go n=>[.str "go",.int n]
 |.part a n=>[.str "part",kV a,.int n]
 |.fin=>[.str "end"]
noncomputable def Rw.word:Rw→Str
 |.reckon .. => "reckon" |.copy .. => "copy" |.say _ => "say" |.go _ => "go" |.part .. => "part" |.fin => "end"
noncomputable def Rw.sets:Rw→V
 |.reckon x _ _ _=>.str x|.copy x _=>.str x|_=>.non
noncomputable def Rw.rk:Rw→Option (List Key)
 |.reckon _ s a b=>some [.inr s,a,b]|_=>none
theorem n1:¬(("copy" : Str) = "reckon"):=by decide +kernel
theorem n2:¬(("say" : Str) = "reckon"):=by decide +kernel
theorem n3:¬(("go" : Str) = "reckon"):=by decide +kernel
theorem n4:¬(("part" : Str) = "reckon"):=by decide +kernel
structure Df (K:PySem.W.Frag)(mg:Str→Option Value)(x:Str)(st:Stmt)(ps:List Str)(f:Addr)(fd:FuncData):Prop where
 mg:mg x=some (.ref f)
 fn:oz K x x st f fd
 bd:Binds K fd ps []
end My
namespace L2
open PySem PySem.Spec PyProof.Rows
noncomputable def vO(z:Str):It:=⟨fun i _=>i<z.cps.size,fun i H x H'=>H'=H∧∃c,z.cps[i]?=some c∧x=.str ⟨#[c]⟩,fun i _=>z.cps.size≤i⟩
theorem MG {P:Program}{w:World}{K:PySem.W.Frag}{tg:Expr} (it:Addr) (x:Str) (t:Tok) (ty:String) (jf:ty = "str_ascii_iterator" ∨ ty = "str_iterator"):Turn P w K tg (vO x) [it] it (fun i h=>h.IsStrIter it ty x t i) where
 mem:=by simp
 obj:=fun i h st b hb=>by
  have e:b=it:=by simpa using hb
  subst e
  obtain⟨o,e,c,d⟩:=st
  exact⟨o,e,fun v z=>by rw[d]at z;cases z⟩
 keep:=fun i h h' st k=>by obtain⟨o,e,r⟩:=st;exact⟨o,k it (by simp) o e,r⟩
 item:=by
  intro X hP hw hK hc i pins s σ H E I hf st hg
  subst hP hw hK
  have hi:i<x.cps.size:=hg
  obtain⟨f0,f1,f2,f3,f4,f5⟩:=hf it (by simp)
  have fin:∀h',h'.IsStrIter it ty x t (i+1)→Heap.SameBut it s.heap h'→∃u,some (Value.str ⟨#[x.cps[i]]⟩ s.toks)=some u ∧
    wpAny (model X.prog X.w) X.A (letOwnedTupleGo tg (.ref it) u) (fun _ s2=>∃y H',Inv X pins σ H' s2∧RelV y u∧(vO x).iF i H y H'∧s2.heap.IsStrIter it ty x t (i+1)∧∀b∈[it],H' b=none) E { s with heap:=h',toks:=s.toks+1 }:=fun h' gM sb=>by
   have I1:Inv X pins σ H { s with heap:=h',toks:=s.toks+1 }:=I.turned (fun b o hb e=>(sb.2 b hb).trans e) f0 f1 f3 f4 f5
   obtain⟨o,e,c,d⟩:=id gM
   refine⟨_,rfl,uI (s:={ s with heap:=h',toks:=s.toks+1 }) e c d (by rcases jf with q|q<;>(rw[q];decide)) ⟨.str ⟨#[x.cps[i]]⟩,H,I1,⟨_,rfl⟩,⟨rfl,x.cps[i],by simp[hi],rfl⟩,gM,fun b hb=>(hf b hb).1⟩⟩
  rcases jf with q|q
  ·subst q;exact wpAny_pyNext_ascii_item st (c:=x.cps[i]) (by simp[hi]) fin
  ·subst q;exact wpAny_pyNext_wide_item st (c:=x.cps[i]) (by simp[hi]) fin
 done:=by
  intro X hP hw hK hc i pins s σ H E I hf st hg
  subst hP hw hK
  have hi:x.cps.size≤i:=hg
  obtain⟨f0,f1,f2,f3,f4,f5⟩:=hf it (by simp)
  have fin:∀h',Heap.ExtBut it s.heap h'→(none:Option Value)=none∧Inv X pins σ H { s with heap:=h' }:=fun h' eb=>⟨rfl,I.turned (t':=s.toks) (fun b o hb e=>eb b o hb e) f0 f1 f3 f4 f5⟩
  rcases jf with q|q
  ·subst q;exact wpAny_pyNext_ascii_end (I.ok.hd hc) st (by simp[hi]) fin
  ·subst q;exact wpAny_pyNext_wide_end (I.ok.hd hc) st (by simp[hi]) fin
 self:=fun _ _ _ _ _ st h=>by
  rcases jf with q|q
  ·subst q;exact wpAny_pyIter_striter_ascii st h
  ·subst q;exact wpAny_pyIter_striter_wide st h
section
variable {X:Cx}{tg:Expr}
noncomputable def Gu(tl:TE):TI:=fun σ H R=>tl σ H fun x H1=>∃z,x=.str z∧R (vO z) H1
theorem Rf{l:Expr}{tl:TE}(hl:PE X l tl):PI X tg l (Gu tl):=by
 intro pins s σ H R I h
 refine aG (hl pins s σ H _ I h) fun v s1 ⟨x,H1,I1,r1,q1⟩=>?_
 obtain⟨z,e,q⟩:=q1
 subst e
 obtain⟨t,e⟩:=(show ∃t,v=Value.str z t from r1)
 subst e
 have jf:strIterType z = "str_ascii_iterator" ∨ strIterType z = "str_iterator" := by unfold strIterType;split<;>simp
 refine wpAny_pyIter_strU ?_
 refine⟨s1.heap.objs.size,[s1.heap.objs.size],_,_,H1,rfl,I1.kept (t':=s1.toks) fun b o e=>dw _ e,MG s1.heap.objs.size z t _ jf,⟨_,Heap.get?_push_size _ rfl,rfl,rfl⟩,fun b hb=>?_,q⟩
 have e:b=s1.heap.objs.size:=by simpa using hb
 subst e
 exact I1.nV (a6 _) (I1.aH.fresh (a6 _))
theorem Rg:jS X (fun x lo hi H Q=>∃z:Str,x=.str z∧z.length≤sizeLine∧Q (.str (Txt.slice z lo hi)) H):=by
 intro pins s σ H x v vl vu lo hi sl Q I rx hs pl pu h
 obtain⟨z,rfl,hz,q⟩:=h
 obtain⟨t,e⟩:=(show ∃t,v=Value.str z t from rx)
 subst e
 have fin:∀t' k,EP X pins σ Q (.str (Txt.slice z lo hi) t') { s with toks:=k }:=fun t' k=>⟨.str (Txt.slice z lo hi),H,I.tok k,⟨_,rfl⟩,q⟩
 refine⟨"str",_,F.slot_str_getitem.lookup,typeIs_str _ _ _,?_⟩
 cases pl with
 |none =>
  cases pu with
  |none=>exact wpAny_getItem_str_slice (l:=none) (u:=none) (st:=none) hs rfl (post_val_or_str ⟨bP (Txt.slice_le z _ _) hz,fin⟩)
  |int j tj=>exact wpAny_getItem_str_slice (l:=none) (u:=some (j,tj)) (st:=none) hs rfl (post_val_or_str ⟨bP (Txt.slice_le z _ _) hz,fin⟩)
 |int i ti =>
  cases pu with
  |none=>exact wpAny_getItem_str_slice (l:=some (i,ti)) (u:=none) (st:=none) hs rfl (post_val_or_str ⟨bP (Txt.slice_le z _ _) hz,fin⟩)
  |int j tj=>exact wpAny_getItem_str_slice (l:=some (i,ti)) (u:=some (j,tj)) (st:=none) hs rfl (post_val_or_str ⟨bP (Txt.slice_le z _ _) hz,fin⟩)
theorem MH{prog:Program}{w:World}{A:Around}{E:Value→Shared→Prop}{s:Shared}{t b:Addr}{ws:List Value}{Q:Value→Shared→Prop}(ht:IsTup s.heap t ([]:List Value).toArray)(hb:IsTup s.heap b ws.toArray)(h:Q (.ref b) s):wpAny (model prog w) A (binaryOp .Add (.ref t) (.ref b)) Q E s:=by
 obtain⟨⟨c1,d1,YX,vP⟩,ho,hc,n,hd⟩:=id ht;obtain⟨⟨c2,d2,YY,ot⟩,hU,gn,n2,hd2⟩:=id hb
 simp only at hc hd gn hd2;subst hc hd gn hd2
 exact concat_meets ⟨_,ho,rfl⟩ ⟨_,hU,rfl⟩ noFill_tuple_add seq_tuple_add PySem.F.slot_tuple_add PySem.F.entry_tuple_add (PySem.F.args_tuple_add_2 _ _) (tuple_addW0 t b ([]:List Value).toArray ws.toArray n n2 d1 d2 vP ot (by simp)) ⟨ho,hU,h⟩
theorem J6{prog:Program}{w:World}{A:Around}{E:Value→Shared→Prop}{s:Shared}{t sl:Addr}{items:Array Value}{vl vu:Value}{lo hi:Option Int}{Q:Value→Shared→Prop}(ht:IsTup s.heap t items)(hs:s.heap.IsSliceOf sl vl vu .none)(pl:IsPart vl lo)(pu:IsPart vu hi)
  (h0:HT.aW items.size 0 lo=0) (h1:HT.aW items.size items.size hi=items.size) (h:Q (.ref t) s):wpAny (model prog w) A (getItem (.ref t) (.ref sl)) Q E s:=by
 obtain⟨os,mw,eV,iI⟩:=id hs;have z7:s.TypeIs (.ref sl) "slice" := ⟨os,mw,eV⟩
 unfold getItem;try with_reducible refine wpAny_holding ?_
 first|refine aC (aS ?_)|skip
 refine aC (wpAny_sequenceKey ht.typeIs (by decide) ?_);refine aC (wpAny_callSpecial?_slot (name:=Str.ofString "__getitem__") ht.typeIs PyProof.Rows.slot_tuple_getitem (wpAny_call_entry PyProof.Rows.slot_tuple_getitem ht.typeIs entry_tuple_getitem ?_ (args_tuple_getitem _ _)))
 show wpAny _ _ (Builtin.Tuple.tupleItemsOf (.ref t) >>= _) _ _ s;refine aC (tupleItemsOf_ ht ?_);refine aC (wpAny_typeOf z7 ?_)
 rw[if_pos (by decide)];refine aC (HT.Bw hs pl pu ?_)
 show wpAny _ _ (if (((HT.aW items.size 0 lo:Nat):Int)==0&&(1:Int)==1&&(HT.aW items.size items.size hi-HT.aW items.size 0 lo)==items.size)=true then _ else _) _ _ s
 rw[if_pos (by rw[h0,h1];simp)]
 refine aC ?_;unfold Builtin.Tuple.tupleIsExact;refine aC (wpAny_typeOf ht.typeIs ?_)
 refine aS ?_;rw[if_pos (by decide)]
 first
  |exact aC (wpAny_rule (aS ⟨_,rfl,aS h⟩))
  |exact aC (wpAny_rule (aC (aS (aS ⟨_,rfl,aS h⟩))))
  |exact aC (aC (wpAny_rule (aS (aS ⟨_,rfl,aS h⟩))))
end
theorem LD:typeLookup (.type "tuple") "keys" = pure none:=am_miss_of_fast (by decide +kernel)
set_option maxRecDepth 8000 in
theorem LJ{prog:Program}{w:World}{A:Around}{E:Value→Shared→Prop}{s:Shared}{a:Addr}{xs:Array Value}{Q:Option Value→Shared→Prop}(p:iZ s.heap a xs)(hA:A.handled=none)
  (h:∀h' tk,(∀b o,s.heap.get? b=some o→h'.get? b=some o)→Q none { s with heap:=h',toks:=tk }):wpAny (model prog w) A (getAttr? (.ref a) "keys") Q E s:=by
 obtain⟨⟨c,dct,dat,sl⟩,hx,hc,hd,k,jL⟩:=p
 simp only at hc jL hd
 subst hc jL hd
 obtain⟨hp,g,d,tk,os⟩:=s
 have hT:∀Am,(⟨hp,g,d,Am,os⟩:Shared).TypeIs (.ref a) "tuple" := fun _=>⟨_,hx,rfl⟩
 have f1:=sub_AttributeError
 have f3:=F.slot_tuple_getattribute.lookup
 have f4:=F.slot_tuple_getattribute.bind (.ref a)
 have f5:=am_tuple_getattr_none
 unfold getAttr? getAttrBy? getAttrBy
 repeat (any_goals (first|assumption|exact hT _ | ((with_reducible show wpAny _ _ (call (Value.builtin "tuple.__getattribute__") _ _) _ _ _);refine call_meets F.slot_tuple_getattribute (hT _) am_entry_tuple_getattribute (F.args_tuple_getattribute_2 _ _) (meets_getattribute_miss_tuple a xs k sl "keys" _ LD (by decide)) ⟨hx,hA,fun h' Am e qP=>?_⟩)|wp_step))
 obtain⟨t',u',he⟩:=qP.there
 show wpAny _ _ (getattributeRaised _ _ _ _ _ _ _) _ _ _
 unfold getattributeRaised
 repeat (any_goals (first|assumption|wp_step))
 exact h h' Am qP.of.keeps
theorem tL:plainId "dict.update.loop" = true:=by decide +kernel
theorem CM:entryFor table "dict.update.loop" = some Builtin.«dict.update.loop»:=entryFor_of_fast (by kernel_rfl)
section
variable {X:Cx}{pins:List (Addr×Obj)}{σ:St}{H:Hp}{s:Shared}{A:Around}{E:Value→Shared→Prop}
theorem MJ{d:Addr}{o:HO}(e:H d=some o):upd H d o=H:=by
 funext b
 by_cases z:b=d
 ·subst z;rw[bF,e]
 ·rw[aP z]
theorem LK{a:Addr}{ai:List (Key×V)}{k:Key}{v:V}{u r:Value}{Q:Unit→Shared→Prop}(I:Inv X pins σ H s)(e:H a=some (.dK ai))(l:ai.length<sizeLine)(ry:RelV (kV k) u)(rv:RelV v r)
  (h:∀s',Heap.SameBut a s.heap s'.heap→Inv X pins σ (upd H a (.dK (putK ai k v))) s'→Q () s'):wpAny (model X.prog X.w) A (dictSet a u r) Q E s:=by
 obtain⟨z,hd,vs,rel,dd⟩:=yO I.aH e
 have hz:vs.length≤sizeLine:=by rw[←rel.length];exact z
 have hl:(putK ai k v).length≤sizeLine:=by have:=pf ai k v;omega
 refine wpAny_dictSet_pairs (hsz:=hz) (ko ry) dd fun h' jh hs=>h _ hs ?_
 have he:∃q,h'.get? a=some q:=let ⟨q,_,_,hq,_⟩:=jh;⟨q,hq⟩
 exact ub I (by rw[e];exact True.intro) hs he (yl hl hd (rel.put k rv) jh)
def ig(H:Hp)(ys:List V)(ps:List (Key×V)):Prop:=Paired (fun(v:V) (kv:Key×V)=>∃a,v=.ref a∧H a=some (.tup [kV kv.1,kv.2])) ys ps
theorem ig.at{ys:List V}{ps:List (Key×V)}(h:ig H ys ps):∀{i:Nat},i<ys.length→∃a kv,ys[i]?=some (.ref a)∧ps[i]?=some kv∧H a=some (.tup [kV kv.1,kv.2]):=by
 induction h with
 |nil=>intro i hi;exact absurd hi (Nat.not_lt_zero i)
 |@cons v kv ys ps hv t ih =>
  intro i hi
  cases i with
  |zero=>obtain⟨a,rfl,ha⟩:=hv;exact⟨a,kv,rfl,rfl,ha⟩
  |succ i=>exact ih (by simpa using hi)
theorem ig.put{ys:List V}{ps:List (Key×V)}{d:Addr}{ai Vz:List (Key×V)}(h:ig H ys ps)(hd:H d=some (.dK ai)):ig (upd H d (.dK Vz)) ys ps:=by
 induction h with
 |nil=>exact .nil
 |@cons v kv ys ps hv t ih =>
  obtain⟨a,rfl,ha⟩:=hv
  refine .cons ⟨a,rfl,?_⟩ ih
  rw[aP (fun z=>by rw[z,hd]at ha;cases ha)];exact ha
theorem LN{R:Result→Shared→Prop}{p it d:Addr}{ys:List V}{ps:List (Key×V)}(hA:A.in1.handled=none) :
  ∀(k i:Nat) (s:Shared) (H:Hp) (ai:List (Key×V)),ys.length-i=k→i≤ys.length→Inv X pins σ H s→gC X pins H it→s.heap.IsTupleIter it p i→a8 X.K H p ys→H d=some (.dK ai)→ig H ys ps→ai.length+(ys.length-i)≤sizeLine →
  (∀s',Inv X pins σ (upd H d (.dK ((ps.drop i).foldl (fun m kv=>putK m kv.1 kv.2) ai))) s'→R (.ok (.ret .none)) s') →
  codeAny (model X.prog X.w) A (.builtin "dict.update.loop" ⟨[.ref d,.ref it,rawInt i,.none],[]⟩) R s:=by
 intro k
 induction k with
 |zero =>
  intro i s H ai hk hi I hf st hq hd hp hz hR
  have jY:i=ys.length:=by omega
  obtain⟨its,rv,pt,Wx⟩:=I.tuple hq
  obtain⟨f0,f1,f2,f3,f4,f5⟩:=hf
  have hl:=rv.length
  refine codeAny_builtin CM ?_
  rw[Around.under_plainId tL _]
  show wpAny _ A.in1 (pyNext (.ref it) >>= _) _ _ s
  refine aC (wpAny_pyNext_tuple_end hA st (show s.heap.IsTuple p its.toArray from pt) (by simp;omega) fun h' eb=>?_)
  show wpAny _ _ (Builtin.Dict.addKeywords d [] >>= _) _ _ _
  refine aC (aS (aS ?_))
  refine hR _ ?_
  have Wy:ps.drop i=[]:=by
   rw[jY,Paired.length hp];simp
  rw[Wy,List.foldl_nil,MJ hd]
  exact I.turned (t':=s.toks) (fun b o hb e=>eb b o hb e) f0 f1 f3 f4 f5
 |succ k ih =>
  intro i s H ai hk hi I hf st hq hd hp hz hR
  have aU:i<ys.length:=by omega
  obtain⟨its,rv,pt,Wx⟩:=I.tuple hq
  obtain⟨a,kv,Wz,WB,WC⟩:=hp.at aU
  obtain⟨u,hu,ru⟩:=rv.get Wz
  cases ru
  obtain⟨f0,f1,f2,f3,f4,f5⟩:=id hf
  refine codeAny_builtin CM ?_
  rw[Around.under_plainId tL _]
  show wpAny _ A.in1 (pyNext (.ref it) >>= _) _ _ s
  refine aC (wpAny_pyNext_tuple_item st (show s.heap.IsTuple p its.toArray from pt) (x:=.ref a) (by simpa using hu) fun h' gM sb=>?_)
  have I1:Inv X pins σ H { s with heap:=h' }:=I.turned (t':=s.toks) (fun b o hb e=>(sb.2 b hb).trans e) f0 f1 f3 f4 f5
  obtain⟨kK,HL,jm,_⟩:=I1.tuple (a8.of WC)
  obtain⟨u1,u2,rfl,r1,r2⟩:=Vals.two HL
  obtain⟨o,ho,hc,n,jL⟩:=id jm
  refine aC (wpAny_holding (aC (wpAny_tryCatch ?_)))
  unfold Builtin.Dict.pairItems
  refine aC (wpAny_typeOf (show({ s with heap:=h' }:Shared).TypeIs (.ref a) "tuple" from⟨o,ho,hc⟩) ?_)
  rw[if_pos (by decide)]
  refine aC (wpAny_seqItems ho jL (aS ?_))
  show wpAny _ _ (holding [u1,u2] (dictSet d u1 u2)) _ _ _
  refine wpAny_holding (LK I1 hd (by omega) r1 r2 fun s2 WD I2=>?_)
  have eD:d≠it:=fun z=>by rw[z,f0]at hd;cases hd
  have a7:s2.heap.IsTupleIter it p (i+1):=gM.at fun o e=>(WD.2 it (Ne.symm eD)).trans e
  have WG:gC X pins (upd H d (.dK (putK ai kv.1 kv.2))) it:=⟨by rw[aP (Ne.symm eD)];exact f0,f1,f2,f3,f4,f5⟩
  have qU:a8 X.K (upd H d (.dK (putK ai kv.1 kv.2))) p ys:=by
   rcases hq with z|z
   ·exact .inl (by rw[aP (fun e=>by rw[e,hd]at z;cases z)];exact z)
   ·exact .inr z
  have YZ:=pf ai kv.1 kv.2
  refine aS ⟨plainId_quiet tL _,?_⟩
  have:=ih (i+1) s2 _ (putK ai kv.1 kv.2) (by omega) aU I2 WG a7 qU bF (hp.put hd) (by omega) fun s' I'=>hR s' (by
   have mB:ps.drop i=kv::ps.drop (i+1):=by
    obtain⟨hl,e⟩:=bO.mp WB
    rw[List.drop_eq_getElem_cons hl,e]
   rw[mB,List.foldl_cons]
   have An:∀o1 o2:HO,upd (upd H d o1) d o2=upd H d o2:=fun o1 o2=>funext fun b=>by
    by_cases z:b=d
    ·subst z;rw[bF,bF]
    ·rw[aP z,aP z,aP z]
   rw[An]at I'
   exact I')
  exact this
theorem J8(hc:X.calm=true):ft X (.type "dict") (fun xs H Q=>∃p ys ps,xs=[.ref p]∧a8 X.K H p ys∧ig H ys ps∧∀l,H l=none→Q (.ref l) (upd H l (.dK (ps.foldl (fun m kv=>putK m kv.1 kv.2) [])))):=by
 intro pins s σ H xs us Q I r h
 obtain⟨p,ys,ps,rfl,hq,hp,q⟩:=h
 obtain⟨u,rfl,rx⟩:=vals1 r
 cases rx
 have hA:X.A.handled=none:=I.ok.hd hc
 have Ao:H s.heap.objs.size=none:=I.aH.fresh (a6 _)
 have I1:Inv X pins σ (upd H s.heap.objs.size (.dK [])) { s with heap:=s.heap.push { cls:=.type "dict",data:=.dict #[] } }:=I.laid (a:=s.heap.objs.size) (o:=.dK []) (t':=s.toks) (fun _ _ q=>dw _ q) (a6 _) (xG s.heap I.big)
 refine callType_codes (Q₁:=fun obj s₁=>obj=.ref s.heap.objs.size∧s₁={ s with heap:=s.heap.push { cls:=.type "dict",data:=.dict #[] } }) F.kt_called_dict (F.kt_typeCall_dict_1 _) F.entry_dict_init (kt_code_dict_new _ ⟨rfl,rfl⟩) ?_
 rintro obj s₁ ⟨rfl,rfl⟩
 have Gw:(s.heap.push { cls:=.type "dict",data:=.dict #[] }).DictOf (cZ X.prog X.w) s.heap.objs.size []:=Heap.DictOf.new s.heap
 have mC:a8 X.K (upd H s.heap.objs.size (.dK [])) p ys:=by
  rcases hq with z|z
  ·exact .inl (by rw[aP (dm z Ao)];exact z)
  ·exact .inr z
 have vQ:ig (upd H s.heap.objs.size (.dK [])) ys ps:=by
  clear q hq mC
  induction hp with
  |nil=>exact .nil
  |@cons v kv ys ps hv t ih =>
   obtain⟨a,rfl,ha⟩:=hv
   exact .cons ⟨a,rfl,by rw[aP (dm ha Ao)];exact ha⟩ ih
 obtain⟨its,rv,pn,hz⟩:=I1.QB mC
 obtain⟨o,ho,WH,Y0,n,Y1⟩:=id pn
 refine⟨Gw.typeIs,F.args_dict_init_2 _ _,?_⟩
 unfold Builtin.«dict.__init__»
 refine aC ?_
 unfold Builtin.Dict.selfAndRest
 refine aC (wpAny_notOrdered_dict Gw.typeIs ?_)
 show wpAny _ _ (pure (s.heap.objs.size,[Value.ref p])) _ _ _
 refine aS ?_
 show wpAny _ _ (Builtin.Dict.updateFrom "dict.__init__" s.heap.objs.size (.ref p) [] .none) _ _ _
 unfold Builtin.Dict.updateFrom
 refine aC (wpAny_typeOf (show({ s with heap:=s.heap.push { cls:=.type "dict",data:=.dict #[] } }:Shared).TypeIs (.ref p) "tuple" from⟨o,ho,WH⟩) ?_)
 rw[if_pos (by decide)]
 refine aC (LJ pn hA fun h' tk kp=>?_)
 try rw[if_pos rfl]
 rw[if_pos (show(none:Option Value).isNone=true from rfl)]
 refine aC (wpAny_rule ?_)
 have I2:Inv X pins σ (upd H s.heap.objs.size (.dK [])) { s with heap:=h',toks:=tk }:=I1.kept (t':=tk) kp
 obtain⟨kK,HL,jm,_⟩:=I2.tuple mC
 refine aC (wpAny_pyIter_tuple (show h'.IsTuple p kK.toArray from jm) ?_)
 refine aS ⟨plainId_quiet tL _,?_⟩
 have I3:Inv X pins σ (upd H s.heap.objs.size (.dK [])) { s with heap:=h'.push { cls:=.type "tuple_iterator",data:=.fields #[.ref p,rawInt 0] },toks:=tk }:=I2.kept (t':=tk) fun b o e=>dw _ e
 refine LN (X:=X) (pins:=pins) (σ:=σ) (A:=X.A.in1) hA ys.length 0 _ _ [] (by omega) (Nat.zero_le _) I3 (I2.nV (a6 _) (I2.aH.fresh (a6 _))) ⟨_,Heap.get?_push_size _ rfl,rfl,rfl⟩ mC bF vQ (by simpa using hz) fun s' I'=>?_
 have An:∀o1 o2:HO,upd (upd H s.heap.objs.size o1) s.heap.objs.size o2=upd H s.heap.objs.size o2:=fun o1 o2=>funext fun b=>by
  by_cases z:b=s.heap.objs.size
  ·subst z;rw[bF,bF]
  ·rw[aP z,aP z,aP z]
 rw[An,List.drop_zero]at I'
 exact⟨rfl,.ref s.heap.objs.size,_,I',rfl,q _ Ao⟩
end
end L2
set_option maxHeartbeats 4000000
namespace J
open PySem L2
inductive D where
 |non|bl (b:Bool)|int (i:Int)|str (x:Str)|ty (n:String)
 |tup (ds:List D)|lst (ds:List D)|dk (ks:List (Key×D))|dt (ks:List (List Key×D))
mutual
noncomputable def D.bU:D→Bool
 |.tup ds=>D.bS ds
 |.lst _=>false
 |.dk _=>false
 |.dt _=>false
 |.non=>true
 |.bl _=>true
 |.int _=>true
 |.str _=>true
 |.ty _=>true
noncomputable def D.bS:List D→Bool
 |[]=>true
 |d::ds=>d.bU&&D.bS ds
end
def vR(K:PySem.W.Frag)(a:Addr)(xs:List V):Prop:=∃(o:Obj) (its:Array Value) (n:Nat),K.lookup a=some o∧o.cls=.type "list" ∧ o.dict=none∧o.data=.seq its n∧its.size≤sizeLine∧Vals xs its.toList
mutual
inductive Rp (K:PySem.W.Frag)(N:Addr→Prop)(H:Hp):V→D→Prop
 |non:Rp K N H .non .non
 |bl (b:Bool):Rp K N H (.bl b) (.bl b)
 |int (i:Int):Rp K N H (.int i) (.int i)
 |str (x:Str):Rp K N H (.str x) (.str x)
 |ty (n:String):Rp K N H (.ty n) (.ty n)
 |tup {a:Addr}{xs:List V}{ds:List D}:a8 K H a xs→aA K N H xs ds→Rp K N H (.ref a) (.tup ds)
 |lst {a:Addr}{xs:List V}{ds:List D}:Rd H a (.lst xs)→N a→aA K N H xs ds→Rp K N H (.ref a) (.lst ds)
 |lstK {a:Addr}{xs:List V}{ds:List D}:vR K a xs→aA K N H xs ds→Rp K N H (.ref a) (.lst ds)
 |dk {a:Addr}{ai:List (Key×V)}{ks:List (Key×D)}:Rd H a (.dK ai)→N a→ai.map (·.1)=ks.map (·.1)→aA K N H (ai.map (·.2)) (ks.map (·.2))→Rp K N H (.ref a) (.dk ks)
 |dt {a:Addr}{ai:List (List Key×V)}{ks:List (List Key×D)}:Rd H a (.dT ai)→N a→ai.map (·.1)=ks.map (·.1)→aA K N H (ai.map (·.2)) (ks.map (·.2))→Rp K N H (.ref a) (.dt ks)
inductive aA (K:PySem.W.Frag)(N:Addr→Prop)(H:Hp):List V→List D→Prop
 |nil:aA K N H [] []
 |cons {v:V}{d:D}{vs:List V}{ds:List D}:Rp K N H v d→aA K N H vs ds→aA K N H (v::vs) (d::ds)
end
noncomputable def hX:HO→Prop
 |.tup _=>True
 |.cw _ (.tup _)=>True
 |_=>False
def Keeps(N:Addr→Prop)(H H':Hp):Prop:=∀a o,H a=some o→(N a∨hX o)→H' a=some o
section
variable {K:PySem.W.Frag}{N N':Addr→Prop}{H H':Hp}
theorem Keeps.same(s:aJ H H'):Keeps N H H':=fun a o e _=>s a o e
theorem Keeps.sq{a:Addr}{xs:List V}(k:Keeps N H H')(h:a8 K H a xs):a8 K H' a xs:=by
 rcases h with h|h
 ·exact .inl (k _ _ h (.inr trivial))
 ·exact .inr h
theorem Keeps.rd{a:Addr}{u:HO}(k:Keeps N H H')(n:N a)(h:Rd H a u):Rd H' a u:=by
 rcases h with h|⟨o,h⟩
 ·exact .inl (k _ _ h (.inl n))
 ·exact .inr ⟨o,k _ _ h (.inl n)⟩
mutual
theorem Rp.keep(k:Keeps N H H'):∀{v:V}{d:D},Rp K N H v d→Rp K N H' v d
 |_,_,.non=>.non
 |_,_,.bl b=>.bl b
 |_,_,.int i=>.int i
 |_,_,.str x=>.str x
 |_,_,.ty n=>.ty n
 |_,_,.tup h r=>.tup (k.sq h) (aA.keep k r)
 |_,_,.lst h n r=>.lst (k.rd n h) n (aA.keep k r)
 |_,_,.lstK h r=>.lstK h (aA.keep k r)
 |_,_,.dk h n e r=>.dk (k.rd n h) n e (aA.keep k r)
 |_,_,.dt h n e r=>.dt (k.rd n h) n e (aA.keep k r)
theorem aA.keep(k:Keeps N H H'):∀{vs:List V}{ds:List D},aA K N H vs ds→aA K N H' vs ds
 |_,_,.nil=>.nil
 |_,_,.cons h r=>.cons (Rp.keep k h) (aA.keep k r)
end
theorem Rd.some{a:Addr}{u:HO}(h:Rd H a u):∃o,H a=some o:=by
 rcases h with h|⟨o,h⟩
 ·exact⟨_,h⟩
 ·exact⟨_,h⟩
mutual
theorem Rp.wk(w:∀a,N a→(∃o,H a=some o)→N' a):∀{v:V}{d:D},Rp K N H v d→Rp K N' H v d
 |_,_,.non=>.non
 |_,_,.bl b=>.bl b
 |_,_,.int i=>.int i
 |_,_,.str x=>.str x
 |_,_,.ty n=>.ty n
 |_,_,.tup h r=>.tup h (aA.wk w r)
 |_,_,.lst h n r=>.lst h (w _ n (Rd.some h)) (aA.wk w r)
 |_,_,.lstK h r=>.lstK h (aA.wk w r)
 |_,_,.dk h n e r=>.dk h (w _ n (Rd.some h)) e (aA.wk w r)
 |_,_,.dt h n e r=>.dt h (w _ n (Rd.some h)) e (aA.wk w r)
theorem aA.wk(w:∀a,N a→(∃o,H a=some o)→N' a):∀{vs:List V}{ds:List D},aA K N H vs ds→aA K N' H vs ds
 |_,_,.nil=>.nil
 |_,_,.cons h r=>.cons (Rp.wk w h) (aA.wk w r)
end
mutual
theorem Rp.im:∀{v:V}{d:D},d.bU=true→Rp K N H v d→Rp K N' H v d
 |_,_,_,.non=>.non
 |_,_,_,.bl b=>.bl b
 |_,_,_,.int i=>.int i
 |_,_,_,.str x=>.str x
 |_,_,_,.ty n=>.ty n
 |_,.tup ds,e,.tup h r=>.tup h (aA.im (by simpa only[D.bU]using e) r)
 |_,.lst ds,e,.lst h n r=>by simp[D.bU]at e
 |_,.lst ds,e,.lstK h r=>by simp[D.bU]at e
 |_,.dk ds,e,.dk h n _ r=>by simp[D.bU]at e
 |_,.dt ds,e,.dt h n _ r=>by simp[D.bU]at e
theorem aA.im:∀{vs:List V}{ds:List D},D.bS ds=true→aA K N H vs ds→aA K N' H vs ds
 |_,_,_,.nil=>.nil
 |_,d::ds,e,.cons h r=>by
  have e':d.bU=true∧D.bS ds=true:=by simpa[D.bS]using e
  exact .cons (Rp.im e'.1 h) (aA.im e'.2 r)
end
theorem aA.paired:∀{vs:List V}{ds:List D},aA K N H vs ds→Paired (fun d v=>Rp K N H v d) ds vs
 |_,_,.nil=>.nil
 |_,_,.cons h r=>.cons h (aA.paired r)
theorem aA.len{vs:List V}{ds:List D}(r:aA K N H vs ds):vs.length=ds.length:=(Paired.length r.paired).symm
theorem aA.get:∀{vs:List V}{ds:List D}{i:Nat}{d:D},aA K N H vs ds→ds[i]?=some d→∃v,vs[i]?=some v∧Rp K N H v d
 |_,_,_,_,.nil,e=>by simp at e
 |_,_,0,_,.cons h _,e=>by simp at e;subst e;exact⟨_,rfl,h⟩
 |_,_,i+1,d,.cons _ r,e=>by
  obtain⟨v,h1,h2⟩:=aA.get (i:=i) (d:=d) r (by simpa using e)
  exact⟨v,by simpa using h1,h2⟩
theorem aA.app:∀{vs ws:List V}{ds es:List D},aA K N H vs ds→aA K N H ws es→aA K N H (vs++ws) (ds++es)
 |_,_,_,_,.nil,s=>s
 |_,_,_,_,.cons h r,s=>.cons h (aA.app r s)
theorem aA.set{v:V}{d:D}(q:Rp K N H v d):∀{vs:List V}{ds:List D} (i:Nat),aA K N H vs ds→aA K N H (vs.set i v) (ds.set i d)
 |_,_,_,.nil=>.nil
 |_,_,0,.cons _ t=>.cons q t
 |_,_,i+1,.cons h t=>.cons h (aA.set q i t)
theorem aA.take:∀{vs:List V}{ds:List D} (n:Nat),aA K N H vs ds→aA K N H (vs.take n) (ds.take n)
 |_,_,0,_=>.nil
 |_,_,_+1,.nil=>.nil
 |_,_,n+1,.cons r t=>.cons r (aA.take n t)
theorem aA.drop:∀{vs:List V}{ds:List D} (n:Nat),aA K N H vs ds→aA K N H (vs.drop n) (ds.drop n)
 |_,_,0,r=>r
 |_,_,_+1,.nil=>.nil
 |_,_,n+1,.cons _ t=>aA.drop n t
theorem aA.dl{vs:List V}{ds:List D}(h:aA K N H vs ds):aA K N H vs.dropLast ds.dropLast:=by
 rw[List.dropLast_eq_take,List.dropLast_eq_take,h.len]
 exact h.take _
theorem aA.rep:∀{vs:List V}{ds:List D} (n:Nat),aA K N H vs ds→aA K N H (List.replicate n vs).flatten (List.replicate n ds).flatten
 |_,_,0,_=>.nil
 |_,_,n+1,h=>by
  rw[List.replicate_succ,List.replicate_succ,List.flatten_cons,List.flatten_cons]
  exact h.app (aA.rep n h)
theorem aA.bB{vs:List V}{ds:List D}{i:Int}{d:D}(r:aA K N H vs ds)(e:L2.bB ds i=some d):∃v,L2.bB vs i=some v∧Rp K N H v d:=by
 unfold L2.bB at e ⊢
 rw[r.len]
 cases q:dP ds.length i with
 |none=>rw[q]at e;cases e
 |some j =>
  rw[q]at e
  exact r.get e
end
inductive M where|al|fr|un|bo|bi|rb|nb
 deriving DecidableEq
noncomputable abbrev Ev:=List (Option (M×D))
noncomputable def Cell(K:PySem.W.Frag)(N:Addr→Prop)(H:Hp)(p:Addr):D→Prop
 |.lst ds=>∃xs,H p=some (.lst xs)∧aA K N H xs ds
 |.dk ks=>∃ai,H p=some (.dK ai)∧ai.map (·.1)=ks.map (·.1)∧aA K N H (ai.map (·.2)) (ks.map (·.2))
 |.dt ks=>∃ai,H p=some (.dT ai)∧ai.map (·.1)=ks.map (·.1)∧aA K N H (ai.map (·.2)) (ks.map (·.2))
 |_=>False
noncomputable def NM(H₀:Hp)(O:Addr→Prop):M→Addr→Prop
 |.al,a=>¬O a
 |.rb,a=>H₀ a=none
 |_,a=>¬O a∧H₀ a=none
def iB(K:PySem.W.Frag)(H₀:Hp)(O:Addr→Prop)(H:Hp)(d:D)(v:V):Prop :=
 ∃(p:Addr) (qs:List Addr) (aT:List (List D)),v=.ref p∧d=.lst (aT.map D.lst)∧O p∧H₀ p=none∧H p=some (.lst (qs.map V.ref))∧qs.Nodup∧(∀q∈qs,O q∧H₀ q=none∧q≠p) ∧
  Paired (fun q ds=>∃xs,H q=some (.lst xs)∧aA K (fun a=>¬O a∧H₀ a=none) H xs ds) qs aT
noncomputable def Val(K:PySem.W.Frag)(H₀:Hp)(O:Addr→Prop)(Hb H:Hp):M→D→V→Prop
 |.al,d,v=>Rp K (fun a=>¬O a) H v d
 |.fr,d,v=>Rp K (fun a=>¬O a∧H₀ a=none) H v d
 |.rb,d,v=>Rp K (fun a=>H₀ a=none) H v d
 |.un,d,v=>∃p,v=.ref p∧Hb p=none∧H₀ p=none∧¬O p∧Cell K (fun a=>(¬O a∧H₀ a=none)∧a≠p) H p d
 |.bo,d,v=>∃p,v=.ref p∧O p∧H₀ p=none∧Cell K (fun a=>¬O a∧H₀ a=none) H p d
 |.bi,d,v=>∃p,v=.ref p∧O p∧Cell K (fun a=>¬O a∧H₀ a=none) H p d
 |.nb,d,v=>iB K H₀ O H d v
noncomputable def aQ:M→M
 |.al=>.al
 |.rb=>.rb
 |.nb=>.rb
 |_=>.fr
noncomputable abbrev HE:Hp:=fun _=>none
section
variable {K:PySem.W.Frag}{N N':Addr→Prop}{H H' H₀ Hb HM:Hp}{O:Addr→Prop}{m:M}{d:D}{v:V}{p:Addr}
theorem Cell.keep(k:Keeps N H H')(e:H' p=H p)(h:Cell K N H p d):Cell K N H' p d:=by
 cases d<;>simp only[Cell]at h ⊢
 ·obtain⟨xs,q,r⟩:=h;exact⟨xs,e.trans q,r.keep k⟩
 ·obtain⟨xs,q,z,r⟩:=h;exact⟨xs,e.trans q,z,r.keep k⟩
 ·obtain⟨xs,q,z,r⟩:=h;exact⟨xs,e.trans q,z,r.keep k⟩
theorem Cell.some(h:Cell K N H p d):∃o,H p=some o∧¬hX o:=by
 cases d<;>simp only[Cell]at h
 ·obtain⟨xs,q,r⟩:=h;exact⟨_,q,fun z=>z⟩
 ·obtain⟨xs,q,z,r⟩:=h;exact⟨_,q,fun z=>z⟩
 ·obtain⟨xs,q,z,r⟩:=h;exact⟨_,q,fun z=>z⟩
theorem Cell.wk(w:∀a,N a→(∃o,H a=Option.some o)→N' a)(h:Cell K N H p d):Cell K N' H p d:=by
 cases d<;>simp only[Cell]at h ⊢
 ·obtain⟨xs,q,r⟩:=h;exact⟨xs,q,r.wk w⟩
 ·obtain⟨xs,q,z,r⟩:=h;exact⟨xs,q,z,r.wk w⟩
 ·obtain⟨xs,q,z,r⟩:=h;exact⟨xs,q,z,r.wk w⟩
theorem Cell.rp(n:N p)(h:Cell K N H p d):Rp K N H (.ref p) d:=by
 cases d<;>simp only[Cell]at h
 ·obtain⟨xs,q,r⟩:=h;exact .lst (.inl q) n r
 ·obtain⟨xs,q,z,r⟩:=h;exact .dk (.inl q) n z r
 ·obtain⟨xs,q,z,r⟩:=h;exact .dt (.inl q) n z r
theorem kh{F G:Addr→List D→Prop}:∀{qs:List Addr}{aT:List (List D)},(∀q ds,q∈qs→F q ds→G q ds)→Paired F qs aT→Paired G qs aT
 |_,_,_,.nil=>.nil
 |_,_,h,.cons a t=>.cons (h _ _ bV a) (kh (fun q ds m=>h q ds (b9 _ m)) t)
theorem iB.keep(s:aJ H H')(h:iB K H₀ O H d v):iB K H₀ O H' d v:=by
 obtain⟨p,qs,aT,e1,e2,h1,h2,h3,h4,h5,h6⟩:=h
 exact⟨p,qs,aT,e1,e2,h1,h2,s _ _ h3,h4,h5,kh (fun q ds _ ⟨xs,a,b⟩=>⟨xs,s _ _ a,b.keep (.same s)⟩) h6⟩
theorem iB.iK{F:Addr→Prop}(w:∀a,H₀ a=none→F a):∀{qs:List Addr}{aT:List (List D)},(∀q∈qs,O q∧H₀ q=none∧q≠p)→Paired (fun q ds=>∃xs,H q=some (.lst xs)∧aA K (fun a=>¬O a∧H₀ a=none) H xs ds) qs aT→aA K F H (qs.map V.ref) (aT.map D.lst)
 |_,_,_,.nil=>.nil
 |_,_,h,.cons ⟨xs,a,b⟩ t=>.cons (.lst (.inl a) (w _ (h _ bV).2.1) (b.wk fun x z _=>w x z.2)) (iB.iK w (fun q m=>h q (b9 _ m)) t)
theorem iB.rp{F:Addr→Prop}(w:∀a,H₀ a=none→F a)(h:iB K H₀ O H d v):Rp K F H v d:=by
 obtain⟨p,qs,aT,rfl,rfl,h1,h2,h3,h4,h5,h6⟩:=h
 exact .lst (.inl h3) (w _ h2) (iB.iK w h5 h6)
theorem Val.keep(s:aJ H H')(h:Val K H₀ O Hb H m d v):Val K H₀ O Hb H' m d v:=by
 cases m<;>simp only[Val]at h ⊢
 ·exact h.keep (.same s)
 ·exact h.keep (.same s)
 ·obtain⟨p,e,h1,h2,h3,c⟩:=h
  obtain⟨o,q,_⟩:=c.some
  exact⟨p,e,h1,h2,h3,c.keep (.same s) ((s _ _ q).trans q.symm)⟩
 ·obtain⟨p,e,h1,h2,c⟩:=h
  obtain⟨o,q,_⟩:=c.some
  exact⟨p,e,h1,h2,c.keep (.same s) ((s _ _ q).trans q.symm)⟩
 ·obtain⟨p,e,h1,c⟩:=h
  obtain⟨o,q,_⟩:=c.some
  exact⟨p,e,h1,c.keep (.same s) ((s _ _ q).trans q.symm)⟩
 ·exact h.keep (.same s)
 ·exact h.keep s
theorem Val.hb(w:∀a,Hb a=none→HM a=none)(h:Val K H₀ O Hb H m d v):Val K H₀ O HM H m d v:=by
 cases m<;>simp only[Val]at h ⊢
 ·exact h
 ·exact h
 ·obtain⟨p,e,h1,r⟩:=h;exact⟨p,e,w _ h1,r⟩
 ·exact h
 ·exact h
 ·exact h
 ·exact h
theorem Val.h0(h:Val K H₀ O Hb H m d v):Val K H₀ O HE H m d v:=h.hb fun _ _=>rfl
theorem Val.weak(h:Val K H₀ O Hb H m d v):Rp K (fun _=>True) H v d:=by
 cases m<;>simp only[Val]at h
 ·exact h.wk fun _ _ _=>trivial
 ·exact h.wk fun _ _ _=>trivial
 ·obtain⟨p,rfl,_,_,_,c⟩:=h;exact(c.wk fun _ _ _=>trivial).rp trivial
 ·obtain⟨p,rfl,_,_,c⟩:=h;exact(c.wk fun _ _ _=>trivial).rp trivial
 ·obtain⟨p,rfl,_,c⟩:=h;exact(c.wk fun _ _ _=>trivial).rp trivial
 ·exact h.wk fun _ _ _=>trivial
 ·exact h.rp fun _ _=>trivial
theorem Rp.int_inv{i:Int}(h:Rp K N H v (.int i)):v=.int i:=by cases h;rfl
theorem Rp.EW{b:Bool}(h:Rp K N H v (.bl b)):v=.bl b:=by cases h;rfl
theorem Rp.str_inv{x:Str}(h:Rp K N H v (.str x)):v=.str x:=by cases h;rfl
theorem Rp.D4(h:Rp K N H v .non):v=.non:=by cases h;rfl
theorem Rp.Rh{n:String}(h:Rp K N H v (.ty n)):v=.ty n:=by cases h;rfl
theorem Val.int{i:Int}(h:Val K H₀ O Hb H m (.int i) v):v=.int i:=h.weak.int_inv
theorem Val.bl{b:Bool}(h:Val K H₀ O Hb H m (.bl b) v):v=.bl b:=h.weak.EW
theorem Val.str{x:Str}(h:Val K H₀ O Hb H m (.str x) v):v=.str x:=h.weak.str_inv
theorem Val.non(h:Val K H₀ O Hb H m .non v):v=.non:=h.weak.D4
theorem Val.ty{x:String}(h:Val K H₀ O Hb H m (.ty x) v):v=.ty x:=h.weak.Rh
theorem Val.lst{ds:List D}(h:Val K H₀ O Hb H m (.lst ds) v):∃a xs,v=.ref a∧bH K H a xs∧aA K (NM H₀ O (aQ m)) H xs ds:=by
 cases m<;>simp only[Val,Cell]at h
 ·cases h with
  |lst r n q=>exact⟨_,_,rfl,.inl r,q⟩
  |lstK r q=>exact⟨_,_,rfl,.inr r,q⟩
 ·cases h with
  |lst r n q=>exact⟨_,_,rfl,.inl r,q⟩
  |lstK r q=>exact⟨_,_,rfl,.inr r,q⟩
 ·obtain⟨p,rfl,_,_,_,xs,q,r⟩:=h;exact⟨_,_,rfl,.inl (.inl q),r.wk fun a h _=>h.1⟩
 ·obtain⟨p,rfl,_,_,xs,q,r⟩:=h;exact⟨_,_,rfl,.inl (.inl q),r⟩
 ·obtain⟨p,rfl,_,xs,q,r⟩:=h;exact⟨_,_,rfl,.inl (.inl q),r⟩
 ·cases h with
  |lst r n q=>exact⟨_,_,rfl,.inl r,q⟩
  |lstK r q=>exact⟨_,_,rfl,.inr r,q⟩
 ·obtain⟨p,qs,aT,rfl,e2,h1,h2,h3,h4,h5,h6⟩:=h
  cases e2
  exact⟨p,_,rfl,.inl (.inl h3),iB.iK (fun _ z=>z) h5 h6⟩
theorem Val.tup{ds:List D}(h:Val K H₀ O Hb H m (.tup ds) v):∃a xs,v=.ref a∧a8 K H a xs∧aA K (NM H₀ O (aQ m)) H xs ds:=by
 cases m<;>simp only[Val,Cell]at h
 ·cases h with|tup r q=>exact⟨_,_,rfl,r,q⟩
 ·cases h with|tup r q=>exact⟨_,_,rfl,r,q⟩
 ·obtain⟨p,rfl,_,_,_,z⟩:=h;exact z.elim
 ·obtain⟨p,rfl,_,_,z⟩:=h;exact z.elim
 ·obtain⟨p,rfl,_,z⟩:=h;exact z.elim
 ·cases h with|tup r q=>exact⟨_,_,rfl,r,q⟩
 ·obtain⟨p,qs,aT,rfl,e2,_⟩:=h;cases e2
theorem Val.el{a:V}{e:D}(h:Rp K (NM H₀ O (aQ m)) H a e):Val K H₀ O Hb H (aQ m) e a:=by
 cases m<;>exact h
noncomputable def cf:M→D→Bool
 |.fr,_=>true
 |.un,_=>true
 |_,d=>d.bU
noncomputable def fC:M→D→Bool
 |.fr,_=>true
 |.un,_=>true
 |.al,_=>true
 |_,d=>d.bU
noncomputable def qV:M→D→Bool
 |.fr,_=>true
 |.un,_=>true
 |.bo,_=>true
 |.rb,_=>true
 |_,d=>d.bU
theorem Val.cf(h:Val K H₀ O Hb H m d v)(e:J.cf m d=true):Rp K (fun a=>¬O a∧H₀ a=none) H v d:=by
 cases m<;>simp only[J.cf]at e
 ·exact h.weak.im e
 ·exact h
 ·obtain⟨p,rfl,_,h1,h2,c⟩:=h
  exact(c.wk fun a h _=>h.1).rp ⟨h2,h1⟩
 ·exact h.weak.im e
 ·exact h.weak.im e
 ·exact h.weak.im e
 ·exact Rp.im e h.weak
theorem Val.fC(h:Val K H₀ O Hb H m d v)(e:J.fC m d=true):Rp K (fun a=>¬O a) H v d:=by
 cases m<;>simp only[J.fC]at e
 ·exact h
 ·exact Rp.wk (fun a h _=>h.1) (show Rp K (fun a=>¬O a∧H₀ a=none) H v d from h)
 ·exact Rp.wk (fun a h _=>h.1) (h.cf rfl)
 ·exact h.weak.im e
 ·exact h.weak.im e
 ·exact h.weak.im e
 ·exact Rp.im e h.weak
theorem Val.qV(h:Val K H₀ O Hb H m d v)(e:J.qV m d=true):Rp K (fun a=>H₀ a=none) H v d:=by
 cases m<;>simp only[J.qV]at e
 ·exact h.weak.im e
 ·exact Rp.wk (fun a h _=>h.2) (show Rp K (fun a=>¬O a∧H₀ a=none) H v d from h)
 ·exact Rp.wk (fun a h _=>h.2) (h.cf rfl)
 ·obtain⟨p,rfl,_,h1,c⟩:=h
  exact(c.wk fun a h _=>h.2).rp h1
 ·exact h.weak.im e
 ·exact h
 ·exact Rp.im e h.weak
end
noncomputable def gQ:M→Bool
 |.un=>false
 |.rb=>false
 |_=>true
structure de (K:PySem.W.Frag)(H₀:Hp)(O:Addr→Prop)(H:Hp)(σ:St)(env:Ev):Prop where
 sl:Paired (fun(e:Option (M×D)) (x:Option V)=>∀m d,e=some (m,d)→gQ m=true∧∃v,x=some v∧Val K H₀ O HE H m d v) env σ
 od:∀a,O a→∃o,H a=some o
 hd:∀a o,H₀ a=some o→∃o',H a=some o'
 on:∀a o,O a→H a=some o→¬hX o
def JT(K:PySem.W.Frag)(te:TE)(f:Ev→Option (M×D)):Prop :=
 ∀H₀ O H σ env Q m d,de K H₀ O H σ env→f env=some (m,d)→(∀v H',aJ H H'→Val K H₀ O H H' m d v→Q v H')→te σ H Q
def dR(K:PySem.W.Frag)(tt:TT)(f:Ev→Option Bool):Prop :=
 ∀H₀ O H σ env Q b,de K H₀ O H σ env→f env=some b→(∀H',aJ H H'→Q b H')→tt σ H Q
def eO(K:PySem.W.Frag)(H₀:Hp)(O:Addr→Prop)(Hb H:Hp)(aB:List (M×D))(vs:List V):Prop:=Paired (fun md v=>Val K H₀ O Hb H md.1 md.2 v) aB vs
def iL(K:PySem.W.Frag)(ta:TA)(f:Ev→Option (List (M×D))):Prop :=
 ∀H₀ O H σ env Q aB,de K H₀ O H σ env→f env=some aB→(∀vs H',aJ H H'→eO K H₀ O H H' aB vs→Q vs H')→ta σ H Q
section
variable {K:PySem.W.Frag}{H H' H₀:Hp}{O:Addr→Prop}{σ:St}{env:Ev}
theorem ku{α β:Type}{F G:α→β→Prop}(h:∀a b,F a b→G a b):∀{l:List α}{r:List β},Paired F l r→Paired G l r
 |_,_,.nil=>.nil
 |_,_,.cons q t=>.cons (h _ _ q) (ku h t)
theorem de.keep(R:de K H₀ O H σ env)(s:aJ H H'):de K H₀ O H' σ env :=
 ⟨ku (fun e x h m d q=>⟨(h m d q).1,let ⟨v,e,z⟩:=(h m d q).2;⟨v,e,z.keep s⟩⟩) R.sl,fun a h=>let ⟨o,q⟩:=R.od a h;⟨o,s _ _ q⟩,fun a o h=>let ⟨o,q⟩:=R.hd a o h;⟨o,s _ _ q⟩,fun a o h e=>by
  obtain⟨o',q⟩:=R.od a h
  have z:=s _ _ q
  rw[e]at z;cases z
  exact R.on a _ h q⟩
theorem Gx{α β:Type}{F:α→β→Prop}:∀{l:List α}{r:List β}{i:Nat}{a:α},Paired F l r→l[i]?=some a→∃b,r[i]?=some b∧F a b
 |_,_,_,_,.nil,e=>by simp at e
 |_,_,0,_,.cons h _,e=>by simp at e;subst e;exact⟨_,rfl,h⟩
 |_,_,i+1,a,.cons _ r,e=>by
  obtain⟨v,h1,h2⟩:=Gx (i:=i) (a:=a) r (by simpa using e)
  exact⟨v,by simpa using h1,h2⟩
theorem de.at{i:Nat}{m:M}{d:D}(R:de K H₀ O H σ env)(e:env[i]?=some (some (m,d))):∃v,σ[i]?=some (some v)∧gQ m=true∧Val K H₀ O HE H m d v:=by
 obtain⟨x,hx,h⟩:=Gx R.sl e
 obtain⟨h0,v,rfl,hz⟩:=h m d rfl
 exact⟨v,hx,h0,hz⟩
theorem Val.FL{m:M}{d:D}{v:V}{Hb:Hp}(n:gQ m=true)(h:Val K H₀ O HE H m d v):Val K H₀ O Hb H m d v:=by
 cases m<;>first|exact h|cases n
noncomputable def jV(i:Nat):Ev→Option (M×D):=fun e=>(e[i]?).bind id
theorem Ri{i:Nat}:JT K (iy i) (jV i):=by
 intro H₀ O H σ env Q m d R h q
 unfold jV at h
 cases e:env[i]? with
 |none=>rw[e]at h;cases h
 |some x =>
  rw[e]at h
  obtain rfl:x=some (m,d):=h
  obtain⟨v,hv,n,hm⟩:=R.at e
  exact⟨v,hv,q v H (aJ.refl H) (hm.FL n)⟩
noncomputable def jC(d:D):Ev→Option (M×D):=fun _=>some (.fr,d)
noncomputable def cD:V→Option D
 |.non=>some .non
 |.bl b=>some (.bl b)
 |.int i=>some (.int i)
 |.str x=>some (.str x)
 |.ty n=>some (.ty n)
 |_=>none
theorem n5{v:V}{d:D}(e:cD v=some d):JT K (tC v) (jC d):=by
 intro H₀ O H σ env Q m d' R h q
 cases h
 refine q v H (aJ.refl H) ?_
 cases v<;>simp only[cD]at e<;>cases e<;>constructor
def JR(K:PySem.W.Frag)(r:R2)(g:M×D→M×D→Option (M×D)):Prop :=
 ∀H₀ O H x y a b Q m d,(∀a,O a→∃o,H a=some o)→(∀a o,H₀ a=some o→∃o',H a=some o')→Val K H₀ O HE H (Prod.fst a) a.2 x→Val K H₀ O HE H (Prod.fst b) b.2 y→g a b=some (m,d)→(∀v H',aJ H H'→Val K H₀ O H H' m d v→Q v H')→r x y H Q
noncomputable def ag(g:M×D→M×D→Option (M×D))(fa fb:Ev→Option (M×D)):Ev→Option (M×D):=fun e=>(fa e).bind fun x=>(fb e).bind fun y=>g x y
theorem uL{r:R2}{g:M×D→M×D→Option (M×D)}{ta tb:TE}{fa fb:Ev→Option (M×D)}(hr:JR K r g)(ha:JT K ta fa)(hb:JT K tb fb):JT K (oj r ta tb) (ag g fa fb):=by
 intro H₀ O H σ env Q m d R h q
 unfold ag at h
 cases ea:fa env with
 |none=>rw[ea]at h;cases h
 |some a =>
  cases eb:fb env with
  |none=>rw[ea,eb]at h;cases h
  |some b =>
   rw[ea,eb]at h
   refine ha H₀ O H σ env _ a.1 a.2 R ea fun x H1 s1 h1=>?_
   refine hb H₀ O H1 σ env _ b.1 b.2 (R.keep s1) eb fun y H2 s2 h2=>?_
   have R2:=(R.keep s1).keep s2
   refine hr H₀ O H2 x y a b Q m d R2.od R2.hd (h1.keep s2).h0 h2.h0 h fun v H3 s3 h3=>?_
   exact q v H3 ((s1.trans s2).trans s3) (h3.hb fun a z=>(s1.trans s2).free z)
noncomputable def cB(g:M×D→Option (M×D))(fa:Ev→Option (M×D)):Ev→Option (M×D):=fun e=>(fa e).bind g
def JU(K:PySem.W.Frag)(r:V→Hp→VK→Prop)(g:M×D→Option (M×D)):Prop :=
 ∀H₀ O H x a Q m d,(∀a,O a→∃o,H a=some o)→(∀a o,H₀ a=some o→∃o',H a=some o')→Val K H₀ O HE H (Prod.fst a) a.2 x→g a=some (m,d)→(∀v H',aJ H H'→Val K H₀ O H H' m d v→Q v H')→r x H Q
theorem TF{r:V→Hp→VK→Prop}{g:M×D→Option (M×D)}{ta:TE}{fa:Ev→Option (M×D)}(hr:JU K r g)(ha:JT K ta fa):JT K (Hv r ta) (cB g fa):=by
 intro H₀ O H σ env Q m d R h q
 unfold cB at h
 cases ea:fa env with
 |none=>rw[ea]at h;cases h
 |some a =>
  rw[ea]at h
  refine ha H₀ O H σ env _ a.1 a.2 R ea fun x H1 s1 h1=>?_
  have R1:=R.keep s1
  exact hr H₀ O H1 x a Q m d R1.od R1.hd h1.h0 h fun v H3 s3 h3=>q v H3 (s1.trans s3) (h3.hb fun a z=>s1.free z)
theorem iX{H:Hp}{Hb:Hp}{i:Int}:Val K H₀ O Hb H .fr (.int i) (.int i):=Rp.int i
theorem eJ{H:Hp}{Hb:Hp}{i:Bool}:Val K H₀ O Hb H .fr (.bl i) (.bl i):=Rp.bl i
theorem yP{H:Hp}{Hb:Hp}{i:Str}:Val K H₀ O Hb H .fr (.str i) (.str i):=Rp.str i
theorem TH{H:Hp}{Hb:Hp}:Val K H₀ O Hb H .fr .non .non:=Rp.non
noncomputable def gI(c:Int→Int→Prop)[∀i j,Decidable (c i j)](f:Int→Int→Int):M×D→M×D→Option (M×D)
 | (_,.int i),(_,.int j)=>if c i j then some (.fr,.int (f i j))else none
 |_,_=>none
noncomputable def Ap(f:Int→Int→Int):M×D→M×D→Option (M×D)
 | (_,.int i),(_,.int j)=>some (.fr,.int (f i j))
 |_,_=>none
noncomputable def vS(f:Int→Int→Bool):M×D→M×D→Option (M×D)
 | (_,.int i),(_,.int j)=>some (.fr,.bl (f i j))
 |_,_=>none
theorem vg{C:Int→Int→Prop}{c:Int→Int→Prop}[∀i j,Decidable (c i j)]{f:Int→Int→Int}(w:∀i j,c i j→C i j):JR K (rI C fun i j=>.int (f i j)) (gI c f):=by
 intro H₀ O H x y a b Q m d _ _ h1 h2 h q
 obtain⟨ma,da⟩:=a;obtain⟨mb,db⟩:=b
 cases da<;>try (cases h;done)
 cases db<;>try (cases h;done)
 rename_i i j
 simp only[gI]at h
 split at h
 ·rename_i hc
  cases h
  exact⟨i,j,h1.int,h2.int,w i j hc,q _ H (aJ.refl H) iX⟩
 ·cases h
theorem FN{f:Int→Int→Int}:JR K (fS fun i j=>.int (f i j)) (Ap f):=by
 intro H₀ O H x y a b Q m d _ _ h1 h2 h q
 obtain⟨ma,da⟩:=a;obtain⟨mb,db⟩:=b
 cases da<;>try (cases h;done)
 cases db<;>try (cases h;done)
 rename_i i j
 cases h
 exact⟨i,j,h1.int,h2.int,q _ H (aJ.refl H) iX⟩
theorem yQ{f:Int→Int→Bool}:JR K (fS fun i j=>.bl (f i j)) (vS f):=by
 intro H₀ O H x y a b Q m d _ _ h1 h2 h q
 obtain⟨ma,da⟩:=a;obtain⟨mb,db⟩:=b
 cases da<;>try (cases h;done)
 cases db<;>try (cases h;done)
 rename_i i j
 cases h
 exact⟨i,j,h1.int,h2.int,q _ H (aJ.refl H) eJ⟩
noncomputable def Gy:=Ap (·+·)
noncomputable def g6:=Ap (· - ·)
noncomputable def eQ:=gI (fun i j=>(-18446744073709551616<i∧i<18446744073709551616)∨(-18446744073709551616<j∧j<18446744073709551616)) (· * ·)
noncomputable def aR:=gI (fun _ j=>0<j) (· % ·)
noncomputable def gD:=gI (fun i j=>0≤j∧j≤1000000∧i.natAbs<2^64) (fun i j=>i^j.toNat)
noncomputable def fD:=vS (fun i j=>decide (i<j))
noncomputable def oB:=vS (fun i j=>decide (i≤j))
noncomputable def gR:=vS (fun i j=>decide (j<i))
theorem Rj:JR K (fS fun i j=>.int (i+j)) Gy:=FN
theorem Rk:JR K (fS fun i j=>.int (i-j)) g6:=FN
theorem WK:(2:Int)^64=18446744073709551616:=by decide
theorem Rl:JR K (rI ql fun i j=>.int (i*j)) eQ:=vg fun i j h=>by
 unfold ql;rw[WK];exact h
theorem Rm:JR K (rI (fun _ j=>0<j) fun i j=>.int (i%j)) aR:=vg fun _ _ h=>h
theorem Rn:JR K (rI Gh fun i j=>.int (i^j.toNat)) gD:=vg fun _ _ h=>h
theorem TJ:JR K (fS fun i j=>.bl (decide (i<j))) fD:=yQ
theorem TK:JR K (fS fun i j=>.bl (decide (i≤j))) oB:=yQ
theorem TL:JR K (fS fun i j=>.bl (decide (j<i))) gR:=yQ
noncomputable def dH:D→Option V
 |.non=>some .non
 |.bl b=>some (.bl b)
 |.int i=>some (.int i)
 |.str x=>some (.str x)
 |_=>none
theorem nK{N:Addr→Prop}{d:D}{v w:V}(h:Rp K N H v d)(e:dH d=some w):v=w:=by
 cases h<;>simp only[dH]at e<;>cases e<;>rfl
noncomputable def aL:M×D→M×D→Option (M×D):=fun a b=>(dH a.2).bind fun x=>(dH b.2).bind fun y=>if jJ x y=true then some (.fr,.bl (decide (x=y)))else none
noncomputable def dS:M×D→M×D→Option (M×D):=fun a b=>(dH a.2).bind fun x=>(dH b.2).bind fun y=>if jJ x y=true then some (.fr,.bl (!decide (x=y)))else none
theorem TN:JR K Hw aL:=by
 intro H₀ O H x y a b Q m d _ _ h1 h2 h q
 unfold aL at h
 cases e1:dH a.2 with
 |none=>rw[e1]at h;cases h
 |some x' =>
  cases e2:dH b.2 with
  |none=>rw[e1,e2]at h;cases h
  |some y' =>
   rw[e1,e2]at h
   obtain rfl:=nK h1.weak e1
   obtain rfl:=nK h2.weak e2
   simp only[Option.bind_some]at h
   split at h
   ·rename_i hc
    cases h
    exact⟨hc,q _ H (aJ.refl H) eJ⟩
   ·cases h
theorem TQ:JR K Hx dS:=by
 intro H₀ O H x y a b Q m d _ _ h1 h2 h q
 unfold dS at h
 cases e1:dH a.2 with
 |none=>rw[e1]at h;cases h
 |some x' =>
  cases e2:dH b.2 with
  |none=>rw[e1,e2]at h;cases h
  |some y' =>
   rw[e1,e2]at h
   obtain rfl:=nK h1.weak e1
   obtain rfl:=nK h2.weak e2
   simp only[Option.bind_some]at h
   split at h
   ·rename_i hc
    cases h
    exact⟨hc,q _ H (aJ.refl H) eJ⟩
   ·cases h
noncomputable def qf:M×D→M×D→Option (M×D)
 | (_,.non),(_,.non)=>some (.fr,.bl false)
 | (_,_),(_,.non)=>some (.fr,.bl true)
 |_,_=>none
theorem Ro{N:Addr→Prop}{d:D}{v:V}(h:Rp K N H v d):(v=.non↔d=.non):=by
 cases h<;>simp
theorem Oq:JR K (fun x y H Q=>y=.non∧Q (.bl (!decide (x=.non))) H) qf:=by
 intro H₀ O H x y a b Q m d _ _ h1 h2 h q
 obtain⟨ma,da⟩:=a;obtain⟨mb,db⟩:=b
 have e:=Ro h1.weak
 cases db<;>try (cases da<;>cases h;done)
 refine⟨h2.non,?_⟩
 cases da<;>cases h<;>(simp only[e,reduceCtorEq,decide_true,decide_false];exact q _ H (aJ.refl H) eJ)
noncomputable def ao:M×D→M×D→Option (M×D)
 | (m,.lst ds),(_,.int i)=>(bB ds i).map fun d=>(aQ m,d)
 | (m,.tup ds),(_,.int i)=>(bB ds i).map fun d=>(aQ m,d)
 | (_,.str z),(_,.int i)=>if z.length≤sizeLine then (bB z.cps.toList i).map fun c=>(.fr,.str ⟨#[c]⟩)else none
 |_,_=>none
theorem TR:JR K (vH K) ao:=by
 intro H₀ O H x y a b Q m d _ _ h1 h2 h q
 obtain⟨ma,da⟩:=a;obtain⟨mb,db⟩:=b
 cases da<;>try (cases db<;>cases h;done)
 ·cases db<;>try (cases h;done)
  rename_i z i
  simp only[ao]at h
  split at h
  ·rename_i hl
   cases e:bB z.cps.toList i with
   |none=>rw[e]at h;cases h
   |some c =>
    rw[e]at h;cases h
    exact .inr (.inr ⟨z,i,c,h1.str,h2.int,hl,e,q _ H (aJ.refl H) yP⟩)
  ·cases h
 ·cases db<;>try (cases h;done)
  rename_i ds i
  simp only[ao]at h
  cases e:bB ds i with
  |none=>rw[e]at h;cases h
  |some c =>
   rw[e]at h;cases h
   obtain⟨p,xs,rfl,hp,hs⟩:=h1.tup
   obtain⟨v,hv,r⟩:=hs.bB e
   exact .inr (.inl ⟨p,xs,i,v,rfl,h2.int,hp,hv,q _ H (aJ.refl H) (.el r)⟩)
 ·cases db<;>try (cases h;done)
  rename_i ds i
  simp only[ao]at h
  cases e:bB ds i with
  |none=>rw[e]at h;cases h
  |some c =>
   rw[e]at h;cases h
   obtain⟨p,xs,rfl,hp,hs⟩:=h1.lst
   obtain⟨v,hv,r⟩:=hs.bB e
   exact .inl ⟨p,xs,i,v,rfl,h2.int,hp,hv,q _ H (aJ.refl H) (.el r)⟩
end
section
variable {K:PySem.W.Frag}{H H' H₀:Hp}{O:Addr→Prop}{σ:St}{env:Ev}
noncomputable def k7:M×D→Option Bool
 | (_,.bl b)=>some b
 |_=>none
theorem ng{a:M×D}{b:Bool}(h:k7 a=some b):a.2=.bl b:=by
 obtain⟨m,d⟩:=a
 cases d<;>simp only[k7]at h<;>first | (cases h;rfl)|cases h
noncomputable def kO(fa fb:Ev→Option (M×D)):Ev→Option (M×D):=fun e=>(fa e).bind fun x=>(k7 x).bind fun b=>if b=true then fb e else some (.fr,.bl false)
noncomputable def qW(fa fb:Ev→Option (M×D)):Ev→Option (M×D):=fun e=>(fa e).bind fun x=>(k7 x).bind fun b=>if b=true then some (.fr,.bl true)else fb e
noncomputable def zy(fa:Ev→Option (M×D)):Ev→Option (M×D):=fun e=>(fa e).bind fun x=>(k7 x).bind fun b=>some (.fr,.bl (!b))
theorem ax{α β:Type}{x:Option α}{f:α→Option β}{y:β}(h:x.bind f=some y):∃a,x=some a∧f a=some y:=by
 cases x with
 |none=>cases h
 |some a=>exact⟨a,rfl,h⟩
theorem Rq{ta tb:TE}{fa fb:Ev→Option (M×D)}(ha:JT K ta fa)(hb:JT K tb fb):JT K (Fx ta tb) (kO fa fb):=by
 intro H₀ O H σ env Q m d R h q
 obtain⟨a,ea,h⟩:=ax h
 obtain⟨b,eb,h⟩:=ax h
 refine ha H₀ O H σ env _ a.1 a.2 R ea fun x H1 s1 h1=>?_
 rw[ng eb]at h1
 refine⟨b,h1.bl,?_⟩
 cases b with
 |true =>
  rw[if_pos rfl]at h ⊢
  exact hb H₀ O H1 σ env _ m d (R.keep s1) h fun v H2 s2 h2=>q v H2 (s1.trans s2) (h2.hb fun a z=>s1.free z)
 |false =>
  rw[if_neg aZ]at h ⊢
  cases h
  exact q _ H1 s1 eJ
theorem TV{ta tb:TE}{fa fb:Ev→Option (M×D)}(ha:JT K ta fa)(hb:JT K tb fb):JT K (Gd ta tb) (qW fa fb):=by
 intro H₀ O H σ env Q m d R h q
 obtain⟨a,ea,h⟩:=ax h
 obtain⟨b,eb,h⟩:=ax h
 refine ha H₀ O H σ env _ a.1 a.2 R ea fun x H1 s1 h1=>?_
 rw[ng eb]at h1
 refine⟨b,h1.bl,?_⟩
 cases b with
 |true =>
  rw[if_pos rfl]at h ⊢
  cases h
  exact q _ H1 s1 eJ
 |false =>
  rw[if_neg aZ]at h ⊢
  exact hb H₀ O H1 σ env _ m d (R.keep s1) h fun v H2 s2 h2=>q v H2 (s1.trans s2) (h2.hb fun a z=>s1.free z)
theorem Rr{ta:TE}{fa:Ev→Option (M×D)}(ha:JT K ta fa):JT K (Fy ta) (zy fa):=by
 intro H₀ O H σ env Q m d R h q
 obtain⟨a,ea,h⟩:=ax h
 obtain⟨b,eb,h⟩:=ax h
 cases h
 refine ha H₀ O H σ env _ a.1 a.2 R ea fun x H1 s1 h1=>?_
 rw[ng eb]at h1
 exact⟨b,h1.bl,q _ H1 s1 eJ⟩
noncomputable def jB(f:Ev→Option (M×D)):Ev→Option Bool:=fun e=>(f e).bind k7
theorem qg{t:TE}{f:Ev→Option (M×D)}(h:JT K t f):dR K (tB t) (jB f):=by
 intro H₀ O H σ env Q b R e q
 obtain⟨a,ea,e⟩:=ax e
 refine h H₀ O H σ env _ a.1 a.2 R ea fun x H1 s1 h1=>?_
 rw[ng e]at h1
 exact⟨b,h1.bl,q H1 s1⟩
theorem Dm{t:TE}{f:Ev→Option (M×D)}(h:JT K t f):dR K (yM t) (jB f):=qg h
theorem LQ{t:TE}{f:Ev→Option (M×D)}(h:JT K t f):dR K (fun σ H Q=>t σ H fun x H'=>∃k,uZ K x H' k∧Q k H') (jB f):=by
 intro H₀ O H σ env Q b R e q
 obtain⟨a,ea,e⟩:=ax e
 refine h H₀ O H σ env _ a.1 a.2 R ea fun x H1 s1 h1=>?_
 rw[ng e]at h1
 exact⟨b,by rw[h1.bl];exact rfl,q H1 s1⟩
noncomputable def bX(f g:Ev→Option Bool):Ev→Option Bool:=fun e=>(f e).bind fun b=>if b=true then g e else some false
noncomputable def cW(f g:Ev→Option Bool):Ev→Option Bool:=fun e=>(f e).bind fun b=>if b=true then some true else g e
noncomputable def g7(f:Ev→Option Bool):Ev→Option Bool:=fun e=>(f e).bind fun b=>some (!b)
theorem Ot{t u:TT}{f g:Ev→Option Bool}(h:dR K t f)(h':dR K u g):dR K (Ga t u) (bX f g):=by
 intro H₀ O H σ env Q b R e q
 obtain⟨c,ec,e⟩:=ax e
 refine h H₀ O H σ env _ c R ec fun H1 s1=>?_
 cases c with
 |true =>
  rw[if_pos rfl]at e ⊢
  exact h' H₀ O H1 σ env _ b (R.keep s1) e fun H2 s2=>q H2 (s1.trans s2)
 |false =>
  rw[if_neg aZ]at e ⊢
  cases e
  exact q H1 s1
theorem Ru{t u:TT}{f g:Ev→Option Bool}(h:dR K t f)(h':dR K u g):dR K (Hr t u) (cW f g):=by
 intro H₀ O H σ env Q b R e q
 obtain⟨c,ec,e⟩:=ax e
 refine h H₀ O H σ env _ c R ec fun H1 s1=>?_
 cases c with
 |true =>
  rw[if_pos rfl]at e ⊢
  cases e
  exact q H1 s1
 |false =>
  rw[if_neg aZ]at e ⊢
  exact h' H₀ O H1 σ env _ b (R.keep s1) e fun H2 s2=>q H2 (s1.trans s2)
theorem Ou{t:TT}{f:Ev→Option Bool}(h:dR K t f):dR K (Gb t) (g7 f):=by
 intro H₀ O H σ env Q b R e q
 obtain⟨c,ec,e⟩:=ax e
 cases e
 exact h H₀ O H σ env _ c R ec fun H1 s1=>q H1 s1
noncomputable def zz(c:Ev→Option Bool)(fa fb:Ev→Option (M×D)):Ev→Option (M×D):=fun e=>(c e).bind fun b=>if b=true then fa e else fb e
theorem Rv{t:TT}{c:Ev→Option Bool}{ta tb:TE}{fa fb:Ev→Option (M×D)}(hc:dR K t c)(ha:JT K ta fa)(hb:JT K tb fb):JT K (Hs t ta tb) (zz c fa fb):=by
 intro H₀ O H σ env Q m d R h q
 obtain⟨b,eb,h⟩:=ax h
 refine hc H₀ O H σ env _ b R eb fun H1 s1=>?_
 cases b with
 |true =>
  rw[if_pos rfl]at h ⊢
  exact ha H₀ O H1 σ env _ m d (R.keep s1) h fun v H2 s2 h2=>q v H2 (s1.trans s2) (h2.hb fun a z=>s1.free z)
 |false =>
  rw[if_neg aZ]at h ⊢
  exact hb H₀ O H1 σ env _ m d (R.keep s1) h fun v H2 s2 h2=>q v H2 (s1.trans s2) (h2.hb fun a z=>s1.free z)
noncomputable def nh(g g':M×D→M×D→Option (M×D))(fa fb fc:Ev→Option (M×D)):Ev→Option (M×D):=fun e=>(fa e).bind fun x=>(fb e).bind fun y=>(g x y).bind fun z=>(k7 z).bind fun k=>if k=true then (fc e).bind fun w=>g' y w else some (.fr,.bl false)
noncomputable def ah:Ev→Option (List (M×D)):=fun _=>some []
noncomputable def ae(f:Ev→Option (M×D))(g:Ev→Option (List (M×D))):Ev→Option (List (M×D)):=fun e=>(f e).bind fun x=>(g e).bind fun r=>some (x::r)
theorem Ov:iL K kH ah:=by
 intro H₀ O H σ env Q aB R h q
 cases h
 exact q [] H (aJ.refl H) .nil
theorem MK{te:TE}{ta:TA}{f:Ev→Option (M×D)}{g:Ev→Option (List (M×D))}(hf:JT K te f)(hg:iL K ta g):iL K (lJ te ta) (ae f g):=by
 intro H₀ O H σ env Q aB R h q
 obtain⟨x,ex,h⟩:=ax h
 obtain⟨r,er,h⟩:=ax h
 cases h
 refine hf H₀ O H σ env _ x.1 x.2 R ex fun v H1 s1 h1=>?_
 refine hg H₀ O H1 σ env _ r (R.keep s1) er fun vs H2 s2 h2=>?_
 exact q (v::vs) H2 (s1.trans s2) (.cons (h1.keep s2) (ku (fun _ _ z=>z.hb fun a z=>s1.free z) h2))
theorem eO.keep{Hb:Hp}{aB:List (M×D)}{vs:List V}(s:aJ H H')(h:eO K H₀ O Hb H aB vs):eO K H₀ O Hb H' aB vs:=ku (fun _ _ z=>z.keep s) h
theorem eO.iK{N:Addr→Prop}{Hb:Hp}:∀{aB:List (M×D)}{vs:List V},(∀md∈aB,∀v,Val K H₀ O Hb H md.1 md.2 v→Rp K N H v md.2)→eO K H₀ O Hb H aB vs→aA K N H vs (aB.map (·.2))
 |_,_,_,.nil=>.nil
 |md::aB,v::vs,h,.cons a r=>.cons (h md bV v a) (eO.iK (fun x hx=>h x (b9 _ hx)) r)
theorem cn{p:Addr}{o:HO}(h:H p=none):aJ H (upd H p o):=fun b u e=>by rw[aP (dm e h)];exact e
noncomputable def c9(aB:List (M×D)):Option (M×D) :=
 if aB.length≤sizeLine then
  if (aB.all fun md=>cf md.1 md.2)=true then some (.un,.lst (aB.map (·.2)))
  else if (aB.all fun md=>fC md.1 md.2)=true then some (.al,.lst (aB.map (·.2)))else none
 else none
noncomputable def bp(fs:Ev→Option (List (M×D))):Ev→Option (M×D):=fun e=>(fs e).bind c9
theorem tT{p:Addr}{xs:List V}{ds:List D}(od:∀a,O a→∃o,H a=some o)(hd:∀a o,H₀ a=some o→∃o',H a=some o')(hp:H p=none)(r:aA K (fun a=>¬O a∧H₀ a=none) H xs ds):Val K H₀ O H (upd H p (.lst xs)) .un (.lst ds) (.ref p):=by
 refine⟨p,rfl,hp,?_,?_,xs,bF,?_⟩
 ·cases e:H₀ p with
  |none=>rfl
  |some o=>obtain⟨o',e'⟩:=hd p o e;rw[hp]at e';cases e'
 ·intro z;obtain⟨o,e⟩:=od p z;rw[hp]at e;cases e
 ·refine(aA.wk (fun a h ⟨o,e⟩=>⟨h,?_⟩) r).keep (.same (cn hp))
  exact dm e hp
theorem f7{p:Addr}(od:∀a,O a→∃o,H a=some o)(hp:H p=none):¬O p:=by
 intro z;obtain⟨o,e⟩:=od p z;rw[hp]at e;cases e
theorem iT{p:Addr}(hd:∀a o,H₀ a=some o→∃o',H a=some o')(hp:H p=none):H₀ p=none:=by
 cases e:H₀ p with
 |none=>rfl
 |some o=>obtain⟨o',e'⟩:=hd p o e;rw[hp]at e';cases e'
theorem Rx{ta:TA}{fs:Ev→Option (List (M×D))}(ha:iL K ta fs):JT K (u5 ta) (bp fs):=by
 intro H₀ O H σ env Q m d R h q
 obtain⟨aB,e,h⟩:=ax h
 unfold c9 at h
 split at h
 ·rename_i hl
  refine ha H₀ O H σ env _ aB R e fun vs H1 s1 h1=>⟨by rw[←Paired.length h1];exact hl,fun p hp=>?_⟩
  have R1:=R.keep s1
  split at h
  ·rename_i hs
   cases h
   rw[List.all_eq_true]at hs
   exact q _ _ (s1.trans (cn hp)) ((tT R1.od R1.hd hp (h1.iK fun md hm v hv=>hv.cf (hs md hm))).hb fun a z=>s1.free z)
  ·split at h
   ·rename_i hs
    cases h
    rw[List.all_eq_true]at hs
    refine q _ _ (s1.trans (cn hp)) ?_
    exact Rp.lst (.inl bF) (f7 R1.od hp) ((h1.iK fun md hm v hv=>hv.fC (hs md hm)).keep (.same (cn hp)))
   ·cases h
 ·cases h
noncomputable def iY(aB:List (M×D)):Option (M×D) :=
 if aB.length≤sizeLine then
  if (aB.all fun md=>cf md.1 md.2)=true then some (.fr,.tup (aB.map (·.2)))
  else if (aB.all fun md=>fC md.1 md.2)=true then some (.al,.tup (aB.map (·.2)))
  else if (aB.all fun md=>qV md.1 md.2)=true then some (.rb,.tup (aB.map (·.2)))else none
 else none
noncomputable def aM(fs:Ev→Option (List (M×D))):Ev→Option (M×D):=fun e=>(fs e).bind iY
theorem Ry{ta:TA}{fs:Ev→Option (List (M×D))}(ha:iL K ta fs):JT K (Gi ta) (aM fs):=by
 intro H₀ O H σ env Q m d R h q
 obtain⟨aB,e,h⟩:=ax h
 unfold iY at h
 split at h
 ·rename_i hl
  refine ha H₀ O H σ env _ aB R e fun vs H1 s1 h1=>⟨by rw[←Paired.length h1];exact hl,fun p hp=>?_⟩
  split at h
  ·rename_i hs
   cases h
   rw[List.all_eq_true]at hs
   exact q _ _ (s1.trans (cn hp)) (Rp.tup (.inl bF) ((h1.iK fun md hm v hv=>hv.cf (hs md hm)).keep (.same (cn hp))))
  ·split at h
   ·rename_i hs
    cases h
    rw[List.all_eq_true]at hs
    exact q _ _ (s1.trans (cn hp)) (Rp.tup (.inl bF) ((h1.iK fun md hm v hv=>hv.fC (hs md hm)).keep (.same (cn hp))))
   ·split at h
    ·rename_i hs
     cases h
     rw[List.all_eq_true]at hs
     exact q _ _ (s1.trans (cn hp)) (Rp.tup (.inl bF) ((h1.iK fun md hm v hv=>hv.qV (hs md hm)).keep (.same (cn hp))))
    ·cases h
 ·cases h
noncomputable def gp(m:M)(ds:List D):Option (M×D) :=
 if aQ m=.al then (if D.bS ds=true then some (.un,.lst ds)else some (.al,.lst ds))else if aQ m=.rb then (if D.bS ds=true then some (.un,.lst ds)else none)else some (.un,.lst ds)
theorem ud{p:Addr}{xs:List V}{ds:List D}{m m':M}{d:D}(od:∀a,O a→∃o,H a=some o)(hd:∀a o,H₀ a=some o→∃o',H a=some o')(hp:H p=none)(r:aA K (NM H₀ O (aQ m)) H xs ds)(h:gp m ds=some (m',d)):Val K H₀ O H (upd H p (.lst xs)) m' d (.ref p):=by
 unfold gp at h
 split at h
 ·rename_i e
  rw[e]at r
  split at h
  ·rename_i e;cases h;exact tT od hd hp (aA.im e r)
  ·cases h;exact Rp.lst (.inl bF) (f7 od hp) (r.keep (.same (cn hp)))
 ·split at h
  ·split at h
   ·rename_i e;cases h;exact tT od hd hp (aA.im e r)
   ·cases h
  ·rename_i e1 e2
   cases h
   have e:aQ m=.fr:=by cases m<;>simp[aQ]at e1 e2 ⊢
   rw[e]at r
   exact tT od hd hp r
def iM(K:PySem.W.Frag)(r:List V→Hp→VK→Prop)(g:List (M×D)→Option (M×D)):Prop :=
 ∀H₀ O H vs aB Q m d,(∀a,O a→∃o,H a=some o)→(∀a o,H₀ a=some o→∃o',H a=some o')→eO K H₀ O HE H aB vs→g aB=some (m,d)→(∀v H',aJ H H'→Val K H₀ O H H' m d v→Q v H')→r vs H Q
noncomputable def aI(g:List (M×D)→Option (M×D))(fs:Ev→Option (List (M×D))):Ev→Option (M×D):=fun e=>(fs e).bind g
theorem TX{r:List V→Hp→VK→Prop}{g:List (M×D)→Option (M×D)}{ta:TA}{fs:Ev→Option (List (M×D))}(hr:iM K r g)(ha:iL K ta fs):JT K (vF r ta) (aI g fs):=by
 intro H₀ O H σ env Q m d R h q
 obtain⟨aB,e,h⟩:=ax h
 refine ha H₀ O H σ env _ aB R e fun vs H1 s1 h1=>?_
 have R1:=R.keep s1
 exact hr H₀ O H1 vs aB Q m d R1.od R1.hd (ku (fun _ _ z=>z.h0) h1) h fun v H3 s3 h3=>q v H3 (s1.trans s3) (h3.hb fun a z=>s1.free z)
theorem eO.one{Hb:Hp}{a:M×D}{vs:List V}(h:eO K H₀ O Hb H [a] vs):∃v,vs=[v]∧Val K H₀ O Hb H a.1 a.2 v:=by
 cases h with|cons q t=>cases t;exact⟨_,rfl,q⟩
theorem eO.two{Hb:Hp}{a b:M×D}{vs:List V}(h:eO K H₀ O Hb H [a,b] vs):∃v w,vs=[v,w]∧Val K H₀ O Hb H a.1 a.2 v∧Val K H₀ O Hb H b.1 b.2 w:=by
 cases h with|cons q t=>cases t with|cons q' t=>cases t;exact⟨_,_,rfl,q,q'⟩
noncomputable def bx:List (M×D)→Option (M×D)
 |[(_,.lst ds)]=>some (.fr,.int ds.length)
 |[(_,.tup ds)]=>some (.fr,.int ds.length)
 |[(_,.str z)]=>if z.length≤sizeLine then some (.fr,.int z.length)else none
 |_=>none
theorem Ow:iM K (fun xs H Q=>∃x n,xs=[x]∧zh K x H n∧Q (.int n) H) bx:=by
 intro H₀ O H vs aB Q m d _ _ hv h q
 unfold bx at h
 split at h
 ·cases h
  obtain⟨v,rfl,hw⟩:=hv.one
  obtain⟨a,xs,rfl,r,s⟩:=hw.lst
  exact⟨_,_,rfl,.inl ⟨xs,r,s.len.symm⟩,q _ H (aJ.refl H) iX⟩
 ·cases h
  obtain⟨v,rfl,hw⟩:=hv.one
  obtain⟨a,xs,rfl,r,s⟩:=hw.tup
  exact⟨_,_,rfl,.inr ⟨xs,r,s.len.symm⟩,q _ H (aJ.refl H) iX⟩
 ·split at h
  ·rename_i hz
   cases h
   obtain⟨v,rfl,hw⟩:=hv.one
   obtain rfl:=hw.str
   exact⟨_,_,rfl,⟨hz,rfl⟩,q _ H (aJ.refl H) iX⟩
  ·cases h
 ·cases h
noncomputable def kQ:List (M×D)→Option (M×D)
 |[(_,.int i)]=>some (.fr,.int i)
 |[(_,.bl k)]=>some (.fr,.int (if k then 1 else 0))
 |_=>none
theorem Ox:iM K (fun xs H Q=>(∃i,xs=[.int i]∧Q (.int i) H)∨∃k,xs=[.bl k]∧Q (.int (if k then 1 else 0)) H) kQ:=by
 intro H₀ O H vs aB Q m d _ _ hv h q
 unfold kQ at h
 split at h
 ·cases h
  obtain⟨v,rfl,hw⟩:=hv.one
  obtain rfl:=hw.int
  exact .inl ⟨_,rfl,q _ H (aJ.refl H) iX⟩
 ·cases h
  obtain⟨v,rfl,hw⟩:=hv.one
  obtain rfl:=hw.bl
  exact .inr ⟨_,rfl,q _ H (aJ.refl H) iX⟩
 ·cases h
noncomputable def lV:List (M×D)→Option (M×D)
 |[(_,.int i),(_,.int j)]=>some (.fr,.int (if j>i then j else i))
 |_=>none
theorem Oy:iM K (fun xs H Q=>∃i j,xs=[.int i,.int j]∧Q (.int (if j>i then j else i)) H) lV:=by
 intro H₀ O H vs aB Q m d _ _ hv h q
 unfold lV at h
 split at h
 ·cases h
  obtain⟨v,w,rfl,hx,hw⟩:=hv.two
  obtain rfl:=hx.int
  obtain rfl:=hw.int
  exact⟨_,_,rfl,q _ H (aJ.refl H) iX⟩
 ·cases h
noncomputable def qh:List (M×D)→Option (M×D)
 |[(m,.lst ds)]=>gp m ds
 |[(m,.tup ds)]=>gp m ds
 |_=>none
theorem ML:iM K (fun xs H Q=>∃p ys,xs=[.ref p]∧(bH K H p ys∨a8 K H p ys)∧∀l,H l=none→Q (.ref l) (upd H l (.lst ys))) qh:=by
 intro H₀ O H vs aB Q m d od hd hv h q
 unfold qh at h
 split at h
 ·obtain⟨v,rfl,hw⟩:=hv.one
  obtain⟨a,xs,rfl,r,s⟩:=hw.lst
  exact⟨_,_,rfl,.inl r,fun l hl=>q _ _ (cn hl) (ud od hd hl s h)⟩
 ·obtain⟨v,rfl,hw⟩:=hv.one
  obtain⟨a,xs,rfl,r,s⟩:=hw.tup
  exact⟨_,_,rfl,.inr r,fun l hl=>q _ _ (cn hl) (ud od hd hl s h)⟩
 ·cases h
def qX(K:PySem.W.Frag)(t:TO)(f:Ev→Option (Option Int)):Prop :=
 ∀H₀ O H σ env Q b,de K H₀ O H σ env→f env=some b→(∀H',aJ H H'→Q b H')→t σ H Q
noncomputable def gi:Ev→Option (Option Int):=fun _=>some none
noncomputable def lW:M×D→Option Int
 | (_,.int i)=>some i
 |_=>none
theorem xV{a:M×D}{b:Int}(h:lW a=some b):a.2=.int b:=by
 obtain⟨m,d⟩:=a
 cases d<;>simp only[lW]at h<;>first | (cases h;rfl)|cases h
noncomputable def eZ(f:Ev→Option (M×D)):Ev→Option (Option Int):=fun e=>(f e).bind fun x=>(lW x).map some
theorem MN:qX K DX gi:=by
 intro H₀ O H σ env Q b R h q
 cases h
 exact q H (aJ.refl H)
theorem MP{t:TE}{f:Ev→Option (M×D)}(h:JT K t f):qX K (FE t) (eZ f):=by
 intro H₀ O H σ env Q b R e q
 obtain⟨a,ea,e⟩:=ax e
 cases ei:lW a with
 |none=>rw[ei]at e;cases e
 |some i =>
  rw[ei]at e;cases e
  refine h H₀ O H σ env _ a.1 a.2 R ea fun x H1 s1 h1=>?_
  rw[xV ei]at h1
  exact⟨i,h1.int,q H1 s1⟩
def k8(K:PySem.W.Frag)(r:V→Option Int→Option Int→Hp→VK→Prop)(g:M×D→Option Int→Option Int→Option (M×D)):Prop :=
 ∀H₀ O H x lo hi a Q m d,(∀a,O a→∃o,H a=some o)→(∀a o,H₀ a=some o→∃o',H a=some o')→Val K H₀ O HE H (Prod.fst a) a.2 x→g a lo hi=some (m,d)→(∀v H',aJ H H'→Val K H₀ O H H' m d v→Q v H')→r x lo hi H Q
noncomputable def fE(g:M×D→Option Int→Option Int→Option (M×D))(f:Ev→Option (M×D))(l u:Ev→Option (Option Int)):Ev→Option (M×D):=fun e=>(f e).bind fun x=>(l e).bind fun lo=>(u e).bind fun hi=>g x lo hi
theorem TY{r:V→Option Int→Option Int→Hp→VK→Prop}{g:M×D→Option Int→Option Int→Option (M×D)}{te:TE}{tl th:TO}{f:Ev→Option (M×D)}{l u:Ev→Option (Option Int)}(hr:k8 K r g)(he:JT K te f)(hl:qX K tl l)(hu:qX K th u):JT K (Hz r te tl th) (fE g f l u):=by
 intro H₀ O H σ env Q m d R h q
 obtain⟨x,ex,h⟩:=ax h
 obtain⟨lo,el,h⟩:=ax h
 obtain⟨hi,eh,h⟩:=ax h
 refine he H₀ O H σ env _ x.1 x.2 R ex fun v H1 s1 h1=>?_
 refine hl H₀ O H1 σ env _ lo (R.keep s1) el fun H2 s2=>?_
 refine hu H₀ O H2 σ env _ hi ((R.keep s1).keep s2) eh fun H3 s3=>?_
 have R3:=((R.keep s1).keep s2).keep s3
 exact hr H₀ O H3 v lo hi x Q m d R3.od R3.hd ((h1.keep s2).keep s3).h0 h fun v H4 s4 h4=>q v H4 (((s1.trans s2).trans s3).trans s4) (h4.hb fun a z=>((s1.trans s2).trans s3).free z)
noncomputable def cut{α:Type}(xs:List α)(lo hi:Option Int):List α:=(xs.drop (HT.aW xs.length 0 lo)).take (HT.aW xs.length xs.length hi-HT.aW xs.length 0 lo)
noncomputable def zA:M×D→Option Int→Option Int→Option (M×D)
 | (m,.lst ds),lo,hi=>gp m (cut ds lo hi)
 |_,_,_=>none
theorem aA.cut{N:Addr→Prop}{xs:List V}{ds:List D}{lo hi:Option Int}(r:aA K N H xs ds):aA K N H (iA xs lo hi) (J.cut ds lo hi):=by
 unfold iA J.cut
 rw[r.len]
 exact(r.drop _).take _
theorem MQ:k8 K (zj K) zA:=by
 intro H₀ O H x lo hi a Q m d od hd h1 h q
 obtain⟨ma,da⟩:=a
 cases da<;>try (cases h;done)
 obtain⟨p,xs,rfl,r,s⟩:=h1.lst
 exact⟨p,xs,rfl,r,fun l hl=>q _ _ (cn hl) (ud od hd hl s.cut h)⟩
noncomputable def mJ:M→M→M
 |.al,_=>.al
 |_,.al=>.al
 |.rb,_=>.rb
 |_,.rb=>.rb
 |_,_=>.fr
theorem NM.HN{a b:M}{x:Addr}(ha:aQ a≠.rb)(hb:aQ b≠.rb)(h:NM H₀ O (aQ a) x):NM H₀ O (aQ (mJ a b)) x:=by
 cases a<;>cases b<;>first|exact h|exact h.1|exact absurd rfl ha|exact absurd rfl hb
theorem NM.HQ{a b:M}{x:Addr}(ha:aQ a≠.rb)(hb:aQ b≠.rb)(h:NM H₀ O (aQ b) x):NM H₀ O (aQ (mJ a b)) x:=by
 cases a<;>cases b<;>first|exact h|exact h.1|exact absurd rfl ha|exact absurd rfl hb
noncomputable def n6:M×D→M×D→Option (M×D)
 | (m,.lst ds),(n,.lst es)=>if aQ m=.rb∨aQ n=.rb then none else if ds.length+es.length≤sizeLine then gp (mJ m n) (ds++es)else none
 |_,_=>none
noncomputable def uM(K:PySem.W.Frag):R2:=fun x y H Q=>∃l b xs zs,x=.ref l∧y=.ref b∧bH K H l xs∧bH K H b zs∧xs.length+zs.length≤sizeLine∧∀p,H p=none→Q (.ref p) (upd H p (.lst (xs++zs)))
theorem Rz:JR K (uM K) n6:=by
 intro H₀ O H x y a b Q m d od hd h1 h2 h q
 obtain⟨ma,da⟩:=a;obtain⟨mb,db⟩:=b
 cases da<;>try (cases db<;>cases h;done)
 cases db<;>try (cases h;done)
 simp only[n6]at h
 split at h
 ·cases h
 ·rename_i hn
  split at h
  ·rename_i hl
   obtain⟨p,xs,rfl,r,s⟩:=h1.lst
   obtain⟨p',Aq,rfl,r',s'⟩:=h2.lst
   have n1:aQ ma≠.rb:=fun z=>hn (.inl z)
   have n2:aQ mb≠.rb:=fun z=>hn (.inr z)
   refine⟨p,p',xs,Aq,rfl,rfl,r,r',by rw[s.len,s'.len];exact hl,fun l hl=>q _ _ (cn hl) (ud od hd hl (aA.app (s.wk fun _ h _=>NM.HN n1 n2 h) (s'.wk fun _ h _=>NM.HQ n1 n2 h)) h)⟩
  ·cases h
end
noncomputable def own:M→Bool
 |.bo=>true
 |.bi=>true
 |_=>false
theorem Oz{m:M}(h:own m=true):gQ m=true:=by cases m<;>first|rfl|cases h
theorem lz{α β:Type}{F:α→β→Prop}:∀{l:List α}{r:List β},l.length=r.length→(∀(j:Nat) a b,l[j]?=some a→r[j]?=some b→F a b)→Paired F l r
 |[],[],_,_=>.nil
 |a::l,b::r,e,h=>.cons (h 0 a b rfl rfl) (lz (by simpa using e) fun j x y h1 h2=>h (j+1) x y (by simpa using h1) (by simpa using h2))
 |[],_::_,e,_=>by simp at e
 |_::_,[],e,_=>by simp at e
def vT(H:Hp)(σ:St)(env:Ev):Prop :=
 (∀(i j:Nat) (d d':D),env[i]?=some (some (.nb,d))→env[j]?=some (some (.nb,d'))→i=j) ∧
 ∀(i j:Nat) (d:D) (x:M×D) (p q:Addr) (xs:List V),env[i]?=some (some (.nb,d))→σ[i]?=some (some (.ref p))→env[j]?=some (some x)→own x.1=true→σ[j]?=some (some (.ref q))→H p=some (.lst xs)→q≠p∧V.ref q∉xs
structure Rel (K:PySem.W.Frag)(H₀:Hp)(I:Nat→Option Addr)(O:Addr→Prop)(H:Hp)(σ:St)(env:Ev):Prop where
 e:de K H₀ O H σ env
 fr:∀a o,(∀i,I i≠some a)→H₀ a=some o→H a=some o
 ow:∀a,O a→(∃i,I i=some a)∨H₀ a=none
 ba:∀(i:Nat) d p,env[i]?=some (some (.bi,d))→σ[i]?=some (some (.ref p))→I i=some p
 dj:∀(i j:Nat) (x y:M×D) (p:Addr),env[i]?=some (some x)→env[j]?=some (some y)→own x.1=true→own y.1=true→σ[i]?=some (some (.ref p))→σ[j]?=some (some (.ref p))→i=j
 nd:vT H σ env
def aV(O:Addr→Prop)(H:Hp)(O':Addr→Prop)(H':Hp):Prop:=∀a o,H a=some o→¬O a→H' a=some o∧¬O' a
inductive Fl where
 |nx (e:Ev)|bk (e:Ev)|ct (e:Ev)|rt (e:Ev) (m:M) (d:D)
noncomputable def qq(K:PySem.W.Frag)(H₀:Hp)(I:Nat→Option Addr)(O:Addr→Prop)(H:Hp)(Ds:Ends):Fl→Prop
 |.nx e=>∀O' H' σ',Rel K H₀ I O' H' σ' e→aV O H O' H'→Ds.nx σ' H'
 |.bk e=>∀O' H' σ',Rel K H₀ I O' H' σ' e→aV O H O' H'→Ds.bk σ' H'
 |.ct e=>∀O' H' σ',Rel K H₀ I O' H' σ' e→aV O H O' H'→Ds.ct σ' H'
 |.rt e m d=>∀O' H' σ' v,Rel K H₀ I O' H' σ' e→aV O H O' H'→Val K H₀ O' HE H' m d v→Ds.rt v H'
def JS(K:PySem.W.Frag)(ts:TS)(g:Ev→Option Fl):Prop :=
 ∀H₀ I O H σ env Ds fl,Rel K H₀ I O H σ env→g env=some fl→qq K H₀ I O H Ds fl→ts Ds σ H
section
variable {K:PySem.W.Frag}{H H' H₀:Hp}{I:Nat→Option Addr}{O O':Addr→Prop}{σ:St}{env:Ev}
theorem aV.refl:aV O H O H:=fun a o h n=>⟨h,n⟩
theorem aV.trans{O1 O2:Addr→Prop}{H1 H2:Hp}(a:aV O H O1 H1)(b:aV O1 H1 O2 H2):aV O H O2 H2:=fun x o h n=>b x o (a x o h n).1 (a x o h n).2
theorem aV.same(s:aJ H H'):aV O H O H':=fun a o h n=>⟨s a o h,n⟩
theorem vT.keep(h:vT H σ env)(w:∀(i:Nat) d p,env[i]?=some (some (.nb,d))→σ[i]?=some (some (.ref p))→H' p=H p):vT H' σ env :=
 ⟨h.1,fun i j d x p q xs h1 h2 h3 h4 h5 h6=>h.2 i j d x p q xs h1 h2 h3 h4 h5 (by rw[←w i d p h1 h2];exact h6)⟩
theorem de.nest(R:de K H₀ O H σ env){i:Nat}{d:D}{p:Addr}(h1:env[i]?=some (some (.nb,d)))(h2:σ[i]?=some (some (.ref p))):∃(qs:List Addr) (aT:List (List D)),d=.lst (aT.map D.lst)∧O p∧H₀ p=none∧H p=some (.lst (qs.map V.ref))∧qs.Nodup∧(∀q∈qs,O q∧H₀ q=none∧q≠p) ∧
  Paired (fun q ds=>∃xs,H q=some (.lst xs)∧aA K (fun a=>¬O a∧H₀ a=none) H xs ds) qs aT:=by
 obtain⟨v,hv,_,hm⟩:=R.at h1
 rw[h2]at hv;cases hv
 obtain⟨p',qs,aT,e,r⟩:=hm
 cases e
 exact⟨qs,aT,r⟩
theorem Rel.keep(R:Rel K H₀ I O H σ env)(s:aJ H H'):Rel K H₀ I O H' σ env:=⟨R.e.keep s,fun a o n h=>s _ _ (R.fr a o n h),R.ow,R.ba,R.dj,R.nd.keep fun i d p h1 h2=>by
 obtain⟨qs,aT,_,_,_,e,_⟩:=R.e.nest h1 h2
 rw[s _ _ e,e]⟩
noncomputable def HR:M→Bool
 |.al=>true
 |.fr=>true
 |_=>false
theorem OB{m:M}(h:HR m=true):gQ m=true:=by cases m<;>first|rfl|cases h
theorem qq.pre{O1:Addr→Prop}{H1:Hp}{Ds:Ends}{fl:Fl}(s:aV O H O1 H1)(h:qq K H₀ I O H Ds fl):qq K H₀ I O1 H1 Ds fl:=by
 cases fl<;>simp only[qq]at h ⊢
 ·exact fun O' H' σ' R t=>h O' H' σ' R (s.trans t)
 ·exact fun O' H' σ' R t=>h O' H' σ' R (s.trans t)
 ·exact fun O' H' σ' R t=>h O' H' σ' R (s.trans t)
 ·exact fun O' H' σ' v R t=>h O' H' σ' v R (s.trans t)
noncomputable def aY:Ev→Option Fl:=fun e=>some (.nx e)
theorem OD:JS K yJ aY:=by
 intro H₀ I O H σ env Ds fl R h q
 cases h
 exact q O H σ R aV.refl
noncomputable def yR:Ev→Option Fl:=fun e=>some (.ct e)
theorem OG:JS K yK yR:=by
 intro H₀ I O H σ env Ds fl R h q
 cases h
 exact q O H σ R aV.refl
noncomputable def aq(f g:Ev→Option Fl):Ev→Option Fl:=fun e=>(f e).bind fun r=>match r with
 |.nx e'=>g e'
 |.bk e'=>some (.bk e')
 |.ct e'=>some (.ct e')
 |.rt e' m d=>some (.rt e' m d)
theorem RA{t u:TS}{f g:Ev→Option Fl}(ht:JS K t f)(hu:JS K u g):JS K (y6 t u) (aq f g):=by
 intro H₀ I O H σ env Ds fl R h q
 obtain⟨r,er,h⟩:=ax h
 refine ht H₀ I O H σ env _ r R er ?_
 cases r with
 |nx e'=>exact fun O' H' σ' R' s=>hu H₀ I O' H' σ' e' Ds fl R' h (q.pre s)
 |bk e'=>cases h;exact q
 |ct e'=>cases h;exact q
 |rt e' m d=>cases h;exact q
noncomputable def aK(f:Ev→Option (M×D)):Ev→Option Fl:=fun e=>(f e).bind fun x=>some (.rt e x.1 x.2)
theorem RB{t:TE}{f:Ev→Option (M×D)}(h:JT K t f):JS K (uY t) (aK f):=by
 intro H₀ I O H σ env Ds fl R e q
 obtain⟨x,ex,e⟩:=ax e
 cases e
 exact h H₀ O H σ env _ x.1 x.2 R.e ex fun v H1 s1 h1=>q O H1 σ v (R.keep s1) (aV.same s1) h1.h0
noncomputable def aO(c:Ev→Option Bool)(f g:Ev→Option Fl):Ev→Option Fl:=fun e=>(c e).bind fun b=>if b=true then f e else g e
theorem T4{c:TT}{t u:TS}{fc:Ev→Option Bool}{f g:Ev→Option Fl}(hc:dR K c fc)(ht:JS K t f)(hu:JS K u g):JS K (y7 c t u) (aO fc f g):=by
 intro H₀ I O H σ env Ds fl R h q
 obtain⟨b,eb,h⟩:=ax h
 refine hc H₀ O H σ env _ b R.e eb fun H1 s1=>?_
 cases b with
 |true =>
  rw[if_pos rfl]at h ⊢
  exact ht H₀ I O H1 σ env Ds fl (R.keep s1) h (q.pre (aV.same s1))
 |false =>
  rw[if_neg aZ]at h ⊢
  exact hu H₀ I O H1 σ env Ds fl (R.keep s1) h (q.pre (aV.same s1))
noncomputable def FP:M→Option M
 |.al=>some .al
 |.fr=>some .fr
 |.un=>some .bo
 |_=>none
noncomputable def nr(x:M×D):Option (M×D):=match FP x.1 with
 |some m=>some (m,x.2)
 |none=>if x.2.bU=true then some (.fr,x.2)else none
theorem zB{α β:Type}{F:α→β→Prop}{a:α}{b:β}(q:F a b):∀{l:List α}{r:List β} (i:Nat),Paired F l r→Paired F (l.set i a) (r.set i b)
 |_,_,_,.nil=>.nil
 |_,_,0,.cons _ t=>.cons q t
 |_,_,i+1,.cons h t=>.cons h (zB q i t)
theorem get_set{α:Type}{l:List α}{i j:Nat}{a b:α}(h:(l.set i a)[j]?=some b):(j=i∧b=a)∨(j≠i∧l[j]?=some b):=by
 rw[List.getElem?_set]at h
 split at h
 ·rename_i e
  split at h
  ·exact .inl ⟨e.symm,(Option.some.inj h).symm⟩
  ·cases h
 ·rename_i e
  exact .inr ⟨fun z=>e z.symm,h⟩
theorem Rel.lH{i:Nat}{x:M×D}{p:Addr}(R:Rel K H₀ I O H σ env)(hx:env[i]?=some (some x))(ho:own x.1=true)(hp:σ[i]?=some (some (.ref p))):O p∧Cell K (fun a=>¬O a∧H₀ a=none) H p x.2:=by
 obtain⟨m,d⟩:=x
 obtain⟨v,hv,n,hm⟩:=R.e.at hx
 rw[hp]at hv
 cases hv
 cases m<;>simp only[own]at ho<;>try (cases ho;done)
 ·obtain⟨p',e,h1,_,c⟩:=hm;cases e;exact⟨h1,c⟩
 ·obtain⟨p',e,h1,c⟩:=hm;cases e;exact⟨h1,c⟩
theorem xH{F:Addr→List D→Prop}:∀{qs:List Addr}{aT:List (List D)}{q:Addr},Paired F qs aT→q∈qs→∃ds,F q ds
 |_,_,_,.nil,h=>nomatch h
 |_,_,_,.cons a t,h=>by
  rcases cJ.mp h with rfl|h
  ·exact⟨_,a⟩
  ·exact xH t h
theorem Rel.set_plain{i:Nat}{m:M}{d:D}{v:V}(R:Rel K H₀ I O H σ env)(hm:own m=false)(hu:HR m=true)(h:Val K H₀ O HE H m d v):Rel K H₀ I O H (σ.set i (some v)) (env.set i (some (m,d))):=by
 refine⟨⟨zB (fun m' d' q=>?_) i R.e.sl,R.e.od,R.e.hd,R.e.on⟩,R.fr,R.ow,fun i' d' p h1 p1=>?_,fun i' j x y p h1 h2 o1 o2 p1 p2=>?_,⟨fun i' j d1 d2 h1 h2=>?_,fun i' j d1 x p q xs h1 p1 h2 o2 p2 e=>?_⟩⟩
 ·cases q;exact⟨OB hu,v,rfl,h⟩
 ·rcases get_set h1 with⟨rfl,q⟩|⟨n1,q1⟩
  ·cases q;cases hm
  ·rw[eC (fun z=>n1 z.symm)]at p1
   exact R.ba i' d' p q1 p1
 ·rcases get_set h1 with⟨rfl,q⟩|⟨n1,q1⟩
  ·cases q;rw[hm]at o1;cases o1
  ·rcases get_set h2 with⟨rfl,q⟩|⟨n2,q2⟩
   ·cases q;rw[hm]at o2;cases o2
   ·rw[eC (fun z=>n1 z.symm)]at p1
    rw[eC (fun z=>n2 z.symm)]at p2
    exact R.dj i' j x y p q1 q2 o1 o2 p1 p2
 ·rcases get_set h1 with⟨rfl,q⟩|⟨n1,q1⟩
  ·cases q;cases hu
  ·rcases get_set h2 with⟨rfl,q⟩|⟨n2,q2⟩
   ·cases q;cases hu
   ·exact R.nd.1 i' j d1 d2 q1 q2
 ·rcases get_set h1 with⟨rfl,q⟩|⟨n1,q1⟩
  ·cases q;cases hu
  ·rcases get_set h2 with⟨rfl,q⟩|⟨n2,q2⟩
   ·cases q;rw[hm]at o2;cases o2
   ·rw[eC (fun z=>n1 z.symm)]at p1
    rw[eC (fun z=>n2 z.symm)]at p2
    exact R.nd.2 i' j d1 x p q xs q1 p1 q2 o2 p2 e
theorem Rel.RC{i:Nat}{d:D}{v:V}{H1:Hp}(R:Rel K H₀ I O H σ env)(s:aJ H H1)(h:Val K H₀ O H H1 .un d v):∃O',Rel K H₀ I O' H1 (σ.set i (some v)) (env.set i (some (.bo,d)))∧aV O H O' H1:=by
 obtain⟨p,rfl,hp,h0,ho,c⟩:=h
 have np:∀a,(∃o,H a=some o)→a≠p:=fun a ⟨o,e⟩=>dm e hp
 have wk:∀{N:Addr→Prop}{d:D}{v:V},Rp K N H v d→Rp K (fun a=>N a∧a≠p) H1 v d:=fun r=>(r.wk fun a n e=>⟨n,np a e⟩).keep (.same s)
 have qY:∀{N:Addr→Prop}{d:D}{q:Addr},Cell K N H q d→Cell K (fun a=>N a∧a≠p) H1 q d:=fun {N d q} r=>by
  obtain⟨o,e,_⟩:=r.some
  exact(r.wk fun a n e=>⟨n,np a e⟩).keep (.same s) ((s _ _ e).trans e.symm)
 obtain⟨o,eo,WL⟩:=c.some
 refine⟨fun a=>O a∨a=p,⟨⟨zB (fun m' d' q=>?_) i (ku (fun e x h m d q=>?_) R.e.sl),?_,?_,?_⟩,?_,?_,?_,?_,?_⟩,?_⟩
 ·cases q
  exact⟨rfl,_,rfl,p,rfl,.inr rfl,h0,c.wk fun a h _=>⟨fun z=>z.elim h.1.1 h.2,h.1.2⟩⟩
 ·obtain⟨n,v,rfl,z⟩:=h m d q
  refine⟨n,v,rfl,?_⟩
  cases m
  ·exact(wk z).wk fun a h _=>fun z=>z.elim h.1 h.2
  ·exact(wk z).wk fun a h _=>⟨fun z=>z.elim h.1.1 h.2,h.1.2⟩
  ·cases n
  ·obtain⟨q,rfl,h1,h2,c'⟩:=z
   exact⟨q,rfl,.inl h1,h2,(qY c').wk fun a h _=>⟨fun z=>z.elim h.1.1 h.2,h.1.2⟩⟩
  ·obtain⟨q,rfl,h1,c'⟩:=z
   exact⟨q,rfl,.inl h1,(qY c').wk fun a h _=>⟨fun z=>z.elim h.1.1 h.2,h.1.2⟩⟩
  ·cases n
  ·obtain⟨q,qs,aT,e1,e2,h1,h2,h3,h4,h5,h6⟩:=z
   exact⟨q,qs,aT,e1,e2,.inl h1,h2,s _ _ h3,h4,fun x hx=>⟨.inl (h5 x hx).1,(h5 x hx).2⟩,kh (fun x ds _ ⟨xs,a,r⟩=>⟨xs,s _ _ a,((r.wk fun a n e=>(⟨n,np a e⟩:(¬O a∧H₀ a=none)∧a≠p)).keep (.same s)).wk fun a h _=>⟨fun z=>z.elim h.1.1 h.2,h.1.2⟩⟩) h6⟩
 ·intro a ha
  rcases ha with ha|rfl
  ·obtain⟨o,e⟩:=R.e.od a ha;exact⟨o,s _ _ e⟩
  ·exact⟨o,eo⟩
 ·exact fun a o h=>let ⟨o,e⟩:=R.e.hd a o h;⟨o,s _ _ e⟩
 ·intro a u ha e
  rcases ha with ha|rfl
  ·exact(R.e.keep s).on a u ha e
  ·rw[eo]at e;cases e;exact WL
 ·exact fun a o n h=>s _ _ (R.fr a o n h)
 ·intro a ha
  rcases ha with ha|rfl
  ·exact R.ow a ha
  ·exact .inr h0
 ·intro i' d' p' h1 p1
  rcases get_set h1 with⟨rfl,q⟩|⟨n1,q1⟩
  ·cases q
  ·rw[eC (fun z=>n1 z.symm)]at p1
   exact R.ba i' d' p' q1 p1
 ·intro i' j x y q h1 h2 o1 o2 p1 p2
  rcases get_set h1 with⟨rfl,q1⟩|⟨n1,q1⟩
  ·rcases get_set h2 with⟨rfl,q2⟩|⟨n2,q2⟩
   ·rfl
   ·exfalso
    rw[eC (fun z=>n2 z.symm)]at p2
    rcases get_set p1 with⟨_,z⟩|⟨z,_⟩
    ·cases z
     obtain⟨_,c'⟩:=R.lH q2 o2 p2
     obtain⟨o',e',_⟩:=c'.some
     rw[hp]at e';cases e'
    ·exact z rfl
  ·rcases get_set h2 with⟨rfl,q2⟩|⟨n2,q2⟩
   ·exfalso
    rw[eC (fun z=>n1 z.symm)]at p1
    rcases get_set p2 with⟨_,z⟩|⟨z,_⟩
    ·cases z
     obtain⟨_,c'⟩:=R.lH q1 o1 p1
     obtain⟨o',e',_⟩:=c'.some
     rw[hp]at e';cases e'
    ·exact z rfl
   ·rw[eC (fun z=>n1 z.symm)]at p1
    rw[eC (fun z=>n2 z.symm)]at p2
    exact R.dj i' j x y q q1 q2 o1 o2 p1 p2
 ·refine⟨fun i' j d1 d2 h1 h2=>?_,fun i' j d1 x p' q xs h1 p1 h2 o2 p2 e=>?_⟩
  ·rcases get_set h1 with⟨rfl,z⟩|⟨n1,q1⟩
   ·cases z
   ·rcases get_set h2 with⟨rfl,z⟩|⟨n2,q2⟩
    ·cases z
    ·exact R.nd.1 i' j d1 d2 q1 q2
  ·rcases get_set h1 with⟨rfl,z⟩|⟨n1,q1⟩
   ·cases z
   ·rw[eC (fun z=>n1 z.symm)]at p1
    obtain⟨qs,aT,_,_,_,e3,_,_,h6⟩:=R.e.nest q1 p1
    rw[s _ _ e3]at e;cases e
    rcases get_set h2 with⟨rfl,z⟩|⟨n2,q2⟩
    ·rcases get_set p2 with⟨_,z⟩|⟨z,_⟩
     ·cases z
      refine⟨(fun z=>by rw[z,e3]at hp;cases hp),fun z=>?_⟩
      obtain⟨a,ha,ea⟩:=bu.mp z
      cases ea
      obtain⟨ds,xs,hx,_⟩:=xH h6 ha
      rw[hp]at hx;cases hx
     ·exact absurd rfl z
    ·rw[eC (fun z=>n2 z.symm)]at p2
     exact R.nd.2 i' j d1 x p' q _ q1 p1 q2 o2 p2 e3
 ·intro a o h n
  exact⟨s a o h,fun z=>z.elim n (np a ⟨o,h⟩)⟩
theorem Rel.give{i:Nat}{x y:M×D}{v:V}{H1:Hp}(R:Rel K H₀ I O H σ env)(s:aJ H H1)(h:Val K H₀ O H H1 x.1 x.2 v)(e:nr x=some y):∃O',Rel K H₀ I O' H1 (σ.set i (some v)) (env.set i (some y))∧aV O H O' H1:=by
 obtain⟨m,d⟩:=x
 unfold nr at e
 cases m<;>simp only[FP]at e
 ·cases e;exact⟨O,(R.keep s).set_plain rfl rfl h,.same s⟩
 ·cases e;exact⟨O,(R.keep s).set_plain rfl rfl h,.same s⟩
 ·cases e;exact R.RC s h
 ·split at e
  ·rename_i hi;cases e;exact⟨O,(R.keep s).set_plain rfl rfl (show Rp K _ H1 v d from h.weak.im hi),.same s⟩
  ·cases e
 ·split at e
  ·rename_i hi;cases e;exact⟨O,(R.keep s).set_plain rfl rfl (show Rp K _ H1 v d from h.weak.im hi),.same s⟩
  ·cases e
 ·split at e
  ·rename_i hi;cases e;exact⟨O,(R.keep s).set_plain rfl rfl (show Rp K _ H1 v d from h.weak.im hi),.same s⟩
  ·cases e
 ·split at e
  ·rename_i hi;cases e;exact⟨O,(R.keep s).set_plain rfl rfl (show Rp K _ H1 v d from h.weak.im hi),.same s⟩
  ·cases e
noncomputable def av(i:Nat)(f:Ev→Option (M×D)):Ev→Option Fl:=fun e=>(f e).bind fun x=>(nr x).bind fun y=>some (.nx (e.set i (some y)))
theorem ur{i:Nat}{t:TE}{f:Ev→Option (M×D)}(h:JT K t f):JS K (gf t (fK i)) (av i f):=by
 intro H₀ I O H σ env Ds fl R e q
 obtain⟨x,ex,e⟩:=ax e
 obtain⟨y,ey,e⟩:=ax e
 cases e
 refine h H₀ O H σ env _ x.1 x.2 R.e ex fun v H1 s1 h1=>?_
 obtain⟨O',R',st⟩:=R.give (i:=i) s1 h1 ey
 exact q O' H1 _ R' st
theorem Rel.mut{i:Nat}{m:M}{d d':D}{p:Addr}{o:HO}(R:Rel K H₀ I O H σ env)(hx:env[i]?=some (some (m,d)))(ho:own m=true)(hp:σ[i]?=some (some (.ref p)))
  (c:Cell K (fun a=>¬O a∧H₀ a=none) (upd H p o) p d'):Rel K H₀ I O (upd H p o) σ (env.set i (some (m,d')))∧aV O H O (upd H p o):=by
 obtain⟨hO,c0⟩:=R.lH hx ho hp
 obtain⟨o0,e0,nt⟩:=c0.some
 have kp:∀{N:Addr→Prop},(∀a,N a→¬O a)→Keeps N H (upd H p o):=fun w a u h z=>by
  have eD:a≠p:=by
   rintro rfl
   rcases z with z|z
   ·exact w _ z hO
   ·rw[e0]at h;cases h;exact nt z
  rw[aP eD];exact h
 have hi:i<env.length:=by
  rcases Nat.lt_or_ge i env.length with h|h
  ·exact h
  ·rw[List.getElem?_eq_none h]at hx;cases hx
 have hσ:σ=σ.set i (some (.ref p)):=by
  refine List.ext_getElem? fun j=>?_
  rw[List.getElem?_set]
  split
  ·rename_i z;subst z
   have hl:i<σ.length:=by rw[←Paired.length R.e.sl];exact hi
   rw[if_pos hl,hp]
  ·rfl
 refine⟨⟨⟨?_,?_,?_,?_⟩,?_,R.ow,?_,?_,?_⟩,?_⟩
 ·
  have base:∀(j:Nat) (e:Option (M×D)) (x:Option V),(env.set i (some (m,d')))[j]?=some e→σ[j]?=some x→∀m d,e=some (m,d)→gQ m=true∧∃v,x=some v∧Val K H₀ O HE (upd H p o) m d v:=by
   intro j e x he qZ m1 d1 q
   subst q
   rcases get_set he with⟨rfl,q⟩|⟨nj,q⟩
   ·cases q
    rw[hp]at qZ;cases qZ
    refine⟨Oz ho,_,rfl,?_⟩
    cases m<;>simp only[own]at ho<;>try (cases ho;done)
    ·obtain⟨v,hv,n,hm⟩:=R.e.at hx
     rw[hp]at hv;cases hv
     obtain⟨p',e,h1,h2,_⟩:=hm;cases e
     exact⟨p,rfl,h1,h2,c⟩
    ·exact⟨p,rfl,hO,c⟩
   ·obtain⟨v,hv,n,hm⟩:=R.e.at q
    rw[qZ]at hv;cases hv
    refine⟨n,v,rfl,?_⟩
    have nq:∀{p':Addr},own m1=true→v=.ref p'→p'≠p:=fun {p'} Ar ev z=>by
     subst ev;subst z
     exact nj (R.dj j i _ _ p' q hx Ar ho qZ hp)
    cases m1
    ·exact Rp.keep (kp fun a h=>h) hm
    ·exact Rp.keep (kp fun a h=>h.1) hm
    ·cases n
    ·obtain⟨p',rfl,h1,h2,c'⟩:=hm
     exact⟨p',rfl,h1,h2,c'.keep (kp fun a h=>h.1) (aP (nq rfl rfl))⟩
    ·obtain⟨p',rfl,h1,c'⟩:=hm
     exact⟨p',rfl,h1,c'.keep (kp fun a h=>h.1) (aP (nq rfl rfl))⟩
    ·cases n
    ·obtain⟨p',qs,aT,rfl,e2,h1,h2,h3,h4,h5,h6⟩:=hm
     obtain⟨z1,z2⟩:=R.nd.2 j i d1 (m,d) p' p _ q qZ hx ho hp h3
     refine⟨p',qs,aT,rfl,e2,h1,h2,by rw[aP (fun z=>z1 z.symm)];exact h3,h4,h5,kh (fun x ds hx ⟨xs,a,r⟩=>⟨xs,?_,r.keep (kp fun a h=>h.1)⟩) h6⟩
     rw[aP (fun z=>z2 (bu.mpr ⟨x,hx,by rw[z]⟩))];exact a
  refine lz ?_ fun j e x h1 h2=>base j e x h1 h2
  rw[List.length_set];exact Paired.length R.e.sl
 ·intro a ha
  by_cases z:a=p
  ·subst z;exact⟨o,bF⟩
  ·rw[aP z];exact R.e.od a ha
 ·intro a u h
  by_cases z:a=p
  ·subst z;exact⟨o,bF⟩
  ·rw[aP z];exact R.e.hd a u h
 ·intro a u ha e
  by_cases z:a=p
  ·subst z
   obtain⟨o1,e1,n1⟩:=c.some
   rw[e]at e1;cases e1;exact n1
  ·rw[aP z]at e;exact R.e.on a u ha e
 ·intro a u n h
  have z:a≠p:=by
   rintro rfl
   rcases R.ow a hO with⟨i,q⟩|q
   ·exact n i q
   ·rw[h]at q;cases q
  rw[aP z];exact R.fr a u n h
 ·intro i' e' p' h1 p1
  rcases get_set h1 with⟨rfl,q⟩|⟨n1,q1⟩
  ·cases q;exact R.ba _ d p' hx p1
  ·exact R.ba i' e' p' q1 p1
 ·intro i' j x y q h1 h2 o1 o2 p1 p2
  have f:∀{k:Nat}{x:M×D},(env.set i (some (m,d')))[k]?=some (some x)→own x.1=true→∃x',env[k]?=some (some x')∧own x'.1=true:=fun {k x} h o=>by
   rcases get_set h with⟨rfl,q⟩|⟨_,q⟩
   ·exact⟨_,hx,ho⟩
   ·exact⟨x,q,o⟩
  obtain⟨x',a1,b1⟩:=f h1 o1
  obtain⟨y',a2,b2⟩:=f h2 o2
  exact R.dj i' j x' y' q a1 a2 b1 b2 p1 p2
 ·have g:∀{k:Nat}{d1:D},(env.set i (some (m,d')))[k]?=some (some (.nb,d1))→env[k]?=some (some (.nb,d1)):=fun {k d1} h=>by
   rcases get_set h with⟨rfl,q⟩|⟨_,q⟩
   ·cases q;cases ho
   ·exact q
  refine⟨fun i' j d1 d2 h1 h2=>R.nd.1 i' j d1 d2 (g h1) (g h2),fun i' j d1 x p' q xs h1 p1 h2 o2 p2 e=>?_⟩
  obtain⟨qs,aT,_,_,_,e3,_⟩:=R.e.nest (g h1) p1
  obtain⟨z1,_⟩:=R.nd.2 i' i d1 (m,d) p' p _ (g h1) p1 hx ho hp e3
  rw[aP (fun z=>z1 z.symm)]at e
  rcases get_set h2 with⟨rfl,z⟩|⟨_,z⟩
  ·cases z;exact R.nd.2 i' j d1 (m,d) p' q xs (g h1) p1 hx ho p2 e
  ·exact R.nd.2 i' j d1 x p' q xs (g h1) p1 z o2 p2 e
 ·intro a u h n
  have z:a≠p:=by rintro rfl;exact n hO
  exact⟨by rw[aP z];exact h,n⟩
end
section
variable {K:PySem.W.Frag}{H H' H₀:Hp}{I:Nat→Option Addr}{O O':Addr→Prop}{σ:St}{env:Ev}
noncomputable def dW(i:Nat)(e:Ev):Option (M×List D):=match e[i]? with
 |some (some (m,.lst ds))=>if own m=true then some (m,ds)else none
 |_=>none
theorem D5{i:Nat}{e:Ev}{m:M}{ds:List D}(h:dW i e=some (m,ds)):e[i]?=some (some (m,.lst ds))∧own m=true:=by
 unfold dW at h
 split at h
 ·rename_i e
  split at h
  ·cases h;exact⟨e,by assumption⟩
  ·cases h
 ·cases h
theorem Rel.lst{i:Nat}{m:M}{ds:List D}(R:Rel K H₀ I O H σ env)(h:dW i env=some (m,ds)):∃p xs,σ[i]?=some (some (.ref p))∧O p∧H p=some (.lst xs)∧aA K (fun a=>¬O a∧H₀ a=none) H xs ds:=by
 obtain⟨e,o⟩:=D5 h
 obtain⟨v,hv,n,hm⟩:=R.e.at e
 cases m<;>simp only[own]at o<;>try (cases o;done)
 ·obtain⟨p,rfl,h1,h2,xs,c,r⟩:=hm;exact⟨p,xs,hv,h1,c,r⟩
 ·obtain⟨p,rfl,h1,xs,c,r⟩:=hm;exact⟨p,xs,hv,h1,c,r⟩
theorem aA.upd{xs:List V}{ds:List D}{p:Addr}{o:HO}{o0:HO}(hO:O p)(h0:H p=some o0)(nt:¬hX o0)(r:aA K (fun a=>¬O a∧H₀ a=none) H xs ds):aA K (fun a=>¬O a∧H₀ a=none) (L2.upd H p o) xs ds:=by
 refine r.keep fun a u e z=>?_
 have eD:a≠p:=by
  rintro rfl
  rcases z with z|z
  ·exact z.1 hO
  ·rw[h0]at e;cases e;exact nt z
 rw[aP eD];exact e
theorem Rel.vh{i:Nat}{m:M}{ds:List D}{p:Addr}{xs ys:List V}{es:List D}(R:Rel K H₀ I O H σ env)(h:dW i env=some (m,ds))(hp:σ[i]?=some (some (.ref p)))(hx:H p=some (.lst xs))(r:aA K (fun a=>¬O a∧H₀ a=none) H ys es) :
  Rel K H₀ I O (L2.upd H p (.lst ys)) σ (env.set i (some (m,.lst es)))∧aV O H O (L2.upd H p (.lst ys)):=by
 obtain⟨e,o⟩:=D5 h
 have hO:=(R.lH e o hp).1
 exact R.mut e o hp ⟨ys,bF,r.upd hO hx (fun z=>z)⟩
noncomputable def cF(i:Nat)(f:Ev→Option (M×D)):Ev→Option Fl:=fun e=>(f e).bind fun x=>if cf x.1 x.2=true then (dW i e).bind fun y=>if y.2.length<sizeLine then some (.nx (e.set i (some (y.1,.lst (y.2++[x.2])))))else none else none
theorem RD{i:Nat}{t:TE}{f:Ev→Option (M×D)}(h:JT K t f):JS K (qb (vI K "list" ua (iy i) (lJ t kH))) (cF i f):=by
 intro H₀ I O H σ env Ds fl R e q
 obtain⟨x,ex,e⟩:=ax e
 split at e
 ·rename_i hs
  obtain⟨⟨m,ds⟩,ey,e⟩:=ax e
  split at e
  ·rename_i hl
   cases e
   obtain⟨p,xs,hp,hO,hx,r⟩:=R.lst ey
   refine⟨.ref p,hp,.inl ⟨rfl,xs,.inl (.inl hx)⟩,?_⟩
   refine h H₀ O H σ env _ x.1 x.2 R.e ex fun v H1 s1 h1=>?_
   refine⟨p,xs,v,rfl,rfl,s1 _ _ hx,by rw[r.len];exact hl,?_⟩
   have R1:=R.keep s1
   obtain⟨R2,st⟩:=R1.vh (ys:=xs++[v]) (es:=ds++[x.2]) ey hp (s1 _ _ hx) ((r.keep (.same s1)).app (.cons (h1.cf hs) .nil))
   exact q O _ σ R2 ((aV.same s1).trans st)
  ·cases e
 ·cases e
noncomputable def fq(i:Nat)(fk fe:Ev→Option (M×D)):Ev→Option Fl:=fun e=>(fe e).bind fun x=>(fk e).bind fun k=>(lW k).bind fun k=>if cf x.1 x.2=true then (dW i e).bind fun y=>(dP y.2.length k).bind fun j=>some (.nx (e.set i (some (y.1,.lst (y.2.set j x.2)))))else none
theorem MR{i:Nat}{t tk:TE}{f fk:Ev→Option (M×D)}(h:JT K t f)(hk:JT K tk fk):JS K (gf t (Gf (iy i) tk FH)) (fq i fk f):=by
 intro H₀ I O H σ env Ds fl R e q
 obtain⟨x,ex,e⟩:=ax e
 obtain⟨k,ek,e⟩:=ax e
 obtain⟨k',WM,e⟩:=ax e
 split at e
 ·rename_i hs
  obtain⟨⟨m,ds⟩,ey,e⟩:=ax e
  obtain⟨j,ej,e⟩:=ax e
  cases e
  obtain⟨p,xs,hp,hO,hx,r⟩:=R.lst ey
  refine h H₀ O H σ env _ x.1 x.2 R.e ex fun v H1 s1 h1=>?_
  refine⟨.ref p,hp,?_⟩
  refine hk H₀ O H1 σ env _ k.1 k.2 (R.keep s1).e ek fun w H2 s2 h2=>?_
  rw[xV WM]at h2
  have s:=s1.trans s2
  refine⟨p,xs,k',j,rfl,h2.int,s _ _ hx,by rw[r.len];exact ej,?_⟩
  obtain⟨R2,st⟩:=(R.keep s).vh (ys:=xs.set j v) (es:=ds.set j x.2) ey hp (s _ _ hx) ((r.keep (.same s)).set ((h1.keep s2).cf hs) j)
  exact q O _ σ R2 ((aV.same s).trans st)
 ·cases e
noncomputable def kR(j i:Nat):Ev→Option Fl:=fun e=>(dW i e).bind fun y=>(y.2[y.2.length-1]?).bind fun d=>some (.nx ((e.set i (some (y.1,.lst y.2.dropLast))).set j (some (.fr,d))))
theorem RH{i j:Nat}:JS K (gf (u9 K "list" Gn (iy i)) (fK j)) (kR j i):=by
 intro H₀ I O H σ env Ds fl R e q
 obtain⟨⟨m,ds⟩,ey,e⟩:=ax e
 obtain⟨d,ed,e⟩:=ax e
 cases e
 obtain⟨p,xs,hp,hO,hx,r⟩:=R.lst ey
 refine⟨.ref p,hp,.inl ⟨rfl,xs,.inl (.inl hx)⟩,?_⟩
 obtain⟨v,hv,rv⟩:=r.get ed
 refine⟨p,xs,v,rfl,rfl,hx,by rw[r.len];exact hv,?_⟩
 obtain⟨R2,st⟩:=R.vh (ys:=xs.dropLast) (es:=ds.dropLast) ey hp hx r.dl
 have WN:Rp K (fun a=>¬O a∧H₀ a=none) (L2.upd H p (.lst xs.dropLast)) v d:=by
  have z:=aA.upd (o:=.lst xs.dropLast) hO hx (fun z=>z) (aA.cons rv .nil)
  cases z with|cons a _=>exact a
 exact q O _ _ (R2.set_plain (i:=j) (m:=.fr) rfl rfl WN) st
noncomputable def yo(i:Nat):Ev→Option Fl:=fun e=>(dW i e).bind fun y=>some (.nx (e.set i (some (y.1,.lst []))))
theorem MS{i:Nat}:JS K (qb (u9 K "list" EE (iy i))) (yo i):=by
 intro H₀ I O H σ env Ds fl R e q
 obtain⟨⟨m,ds⟩,ey,e⟩:=ax e
 cases e
 obtain⟨p,xs,hp,hO,hx,r⟩:=R.lst ey
 refine⟨.ref p,hp,.inl ⟨rfl,xs,.inl (.inl hx)⟩,p,xs,rfl,rfl,hx,?_⟩
 obtain⟨R2,st⟩:=R.vh (ys:=[]) (es:=[]) ey hp hx .nil
 exact q O _ σ R2 st
noncomputable def cw(i:Nat)(e:Ev):Ev:=match e[i]? with
 |some (some (.bo,d))=>e.set i (some (.fr,d))
 |_=>e
noncomputable def cN(i:Nat)(g:Ev→Option Fl):Ev→Option Fl:=fun e=>g (cw i e)
theorem Rel.cw{i:Nat}(R:Rel K H₀ I O H σ env):∃O',Rel K H₀ I O' H σ (J.cw i env)∧aV O H O' H:=by
 unfold J.cw
 split
 ·rename_i d e
  obtain⟨v,hv,n,p,rfl,hO,h0,c⟩:=R.e.at e
  have hi:i<env.length:=by
   rcases Nat.lt_or_ge i env.length with h|h
   ·exact h
   ·rw[List.getElem?_eq_none h]at e;cases e
  have W:∀{a:Addr},¬O a→¬(O a∧a≠p):=fun h z=>h z.1
  refine⟨fun a=>O a∧a≠p,⟨⟨?_,fun a h=>R.e.od a h.1,R.e.hd,fun a o h=>R.e.on a o h.1⟩,R.fr,fun a h=>R.ow a h.1,?_,?_,?_⟩,fun a o h n=>⟨h,W n⟩⟩
  ·have base:∀(j:Nat) (y:Option (M×D)) (x:Option V),(env.set i (some (.fr,d)))[j]?=some y→σ[j]?=some x→∀m d,y=some (m,d)→gQ m=true∧∃v,x=some v∧Val K H₀ (fun a=>O a∧a≠p) HE H m d v:=by
    intro j y x hy hx m1 d1 q
    subst q
    rcases get_set hy with⟨rfl,q⟩|⟨nj,q⟩
    ·cases q
     rw[hv]at hx;cases hx
     exact⟨rfl,_,rfl,(c.wk fun a h _=>(⟨W h.1,h.2⟩:¬(O a∧a≠p)∧H₀ a=none)).rp ⟨fun z=>z.2 rfl,h0⟩⟩
    ·obtain⟨v,jn,n1,hm⟩:=R.e.at q
     rw[hx]at jn;cases jn
     refine⟨n1,v,rfl,?_⟩
     have nq:∀{p':Addr},own m1=true→v=.ref p'→p'≠p:=fun {p'} Ar ev z=>by
      subst ev;subst z
      exact nj (R.dj j i _ _ p' q e Ar rfl hx hv)
     cases m1
     ·exact Rp.wk (fun a h _=>W h) hm
     ·exact Rp.wk (fun a h _=>⟨W h.1,h.2⟩) hm
     ·cases n1
     ·obtain⟨p',rfl,h1,h2,c'⟩:=hm
      exact⟨p',rfl,⟨h1,nq rfl rfl⟩,h2,c'.wk fun a h _=>⟨W h.1,h.2⟩⟩
     ·obtain⟨p',rfl,h1,c'⟩:=hm
      exact⟨p',rfl,⟨h1,nq rfl rfl⟩,c'.wk fun a h _=>⟨W h.1,h.2⟩⟩
     ·cases n1
     ·obtain⟨p',qs,aT,rfl,e2,h1,h2,h3,h4,h5,h6⟩:=hm
      obtain⟨z1,z2⟩:=R.nd.2 j i d1 (.bo,d) p' p _ q hx e rfl hv h3
      exact⟨p',qs,aT,rfl,e2,⟨h1,fun z=>z1 z.symm⟩,h2,h3,h4,fun x hx=>⟨⟨(h5 x hx).1,fun z=>z2 (bu.mpr ⟨x,hx,by rw[z]⟩)⟩,(h5 x hx).2⟩,kh (fun x ds _ ⟨xs,a,r⟩=>⟨xs,a,r.wk fun a h _=>⟨W h.1,h.2⟩⟩) h6⟩
   refine lz ?_ fun j e x h1 h2=>base j e x h1 h2
   rw[List.length_set];exact Paired.length R.e.sl
  ·intro i' d' p' h1 p1
   rcases get_set h1 with⟨rfl,z⟩|⟨_,z1⟩
   ·cases z
   ·exact R.ba i' d' p' z1 p1
  ·intro i' j x y q h1 h2 o1 o2 p1 p2
   rcases get_set h1 with⟨rfl,z⟩|⟨_,z1⟩
   ·cases z;cases o1
   ·rcases get_set h2 with⟨rfl,z⟩|⟨_,z2⟩
    ·cases z;cases o2
    ·exact R.dj i' j x y q z1 z2 o1 o2 p1 p2
  ·refine⟨fun i' j d1 d2 h1 h2=>?_,fun i' j d1 x p' q xs h1 p1 h2 o2 p2 e'=>?_⟩
   ·rcases get_set h1 with⟨rfl,z⟩|⟨_,z1⟩
    ·cases z
    ·rcases get_set h2 with⟨rfl,z⟩|⟨_,z2⟩
     ·cases z
     ·exact R.nd.1 i' j d1 d2 z1 z2
   ·rcases get_set h1 with⟨rfl,z⟩|⟨_,z1⟩
    ·cases z
    ·rcases get_set h2 with⟨rfl,z⟩|⟨_,z2⟩
     ·cases z;cases o2
     ·exact R.nd.2 i' j d1 x p' q xs z1 p1 z2 o2 p2 e'
 ·exact⟨O,R,aV.refl⟩
theorem RJ{i:Nat}{t:TS}{g:Ev→Option Fl}(h:JS K t g):JS K t (cN i g):=by
 intro H₀ I O H σ env Ds fl R e q
 obtain⟨O',R',st⟩:=R.cw (i:=i)
 exact h H₀ I O' H σ _ Ds fl R' e (q.pre st)
theorem Rp.WO{N:Addr→Prop}{v:V}{d:D}{O2:Addr→Prop}{H2:Hp}(on:∀a o,O a→H a=some o→¬hX o)(st:aV O H O2 H2)(w:∀a,N a→¬O a)(r:Rp K N H v d):Rp K (fun a=>N a∧¬O2 a) H2 v d:=by
 refine(Rp.wk (N':=fun a=>N a∧¬O2 a) (fun a n ⟨o,e⟩=>⟨n,(st a o e (w a n)).2⟩) r).keep fun a o e z=>?_
 refine(st a o e ?_).1
 rcases z with z|z
 ·exact w a z.1
 ·exact fun h=>on a o h e z
structure kU (K:PySem.W.Frag)(H₀:Hp)(O:Addr→Prop)(J:It)(H:Hp)(m:M)(ds:List D):Prop where
 go:∀O2 H2 i,aV O H O2 H2→i<ds.length→J.go i H2
 iF:∀O2 H2 i x H3,aV O H O2 H2→i<ds.length→J.iF i H2 x H3→aJ H2 H3∧∃d,ds[i]?=some d∧Val K H₀ O2 HE H3 m d x
 stop:∀O2 H2,aV O H O2 H2→J.stop ds.length H2
noncomputable def fu:M→Bool
 |.al=>true
 |.fr=>true
 |_=>false
def JI(K:PySem.W.Frag)(wi:TI)(it:Ev→Option (M×List D)):Prop :=
 ∀H₀ O H σ env R m ds,de K H₀ O H σ env→it env=some (m,ds)→(∀J H',aJ H H'→fu m=true→kU K H₀ O J H' m ds→R J H')→wi σ H R
noncomputable def b8:M→Option M
 |.al=>some .al
 |.fr=>some .fr
 |.un=>some .fr
 |_=>none
noncomputable def bQ(f:Ev→Option (M×D)):Ev→Option (M×List D):=fun e=>(f e).bind fun x=>match x.2 with
 |.lst ds=>(b8 x.1).map fun m=>(m,ds)
 |_=>none
theorem D6{m n:M}{ds:List D}{v:V}{Hb:Hp}(e:b8 m=some n)(h:Val K H₀ O Hb H m (.lst ds) v):fu n=true∧∃a xs,v=.ref a∧((Rd H a (.lst xs)∧¬O a)∨vR K a xs)∧aA K (NM H₀ O n) H xs ds:=by
 cases m<;>simp only[b8]at e<;>cases e
 ·cases h with
  |lst r n q=>exact⟨rfl,_,_,rfl,.inl ⟨r,n⟩,q⟩
  |lstK r q=>exact⟨rfl,_,_,rfl,.inr r,q⟩
 ·cases h with
  |lst r n q=>exact⟨rfl,_,_,rfl,.inl ⟨r,n.1⟩,q⟩
  |lstK r q=>exact⟨rfl,_,_,rfl,.inr r,q⟩
 ·obtain⟨p,rfl,_,_,h2,xs,q,r⟩:=h;exact⟨rfl,_,_,rfl,.inl ⟨.inl q,h2⟩,r.wk fun a h _=>h.1⟩
theorem NM.no{n:M}{a:Addr}(e:fu n=true)(h:NM H₀ O n a):¬O a:=by
 cases n<;>first|exact h|exact h.1|cases e
theorem xW{n:M}{d:D}{v:V}{O2:Addr→Prop}{H2:Hp}(e:fu n=true)(on:∀a o,O a→H a=some o→¬hX o)(st:aV O H O2 H2)(r:Rp K (NM H₀ O n) H v d):Val K H₀ O2 HE H2 n d v:=by
 have z:=Rp.WO on st (fun a h=>NM.no e h) r
 cases n
 ·exact z.wk fun a h _=>h.2
 ·exact z.wk fun a h _=>⟨h.2,h.1.2⟩
 ·cases e
 ·cases e
 ·cases e
 ·cases e
 ·cases e
theorem LR{a:Addr}{xs:List V}{ds:List D}{n:M}(e:fu n=true)(on:∀a o,O a→H a=some o→¬hX o)(hr:(Rd H a (.lst xs)∧¬O a)∨vR K a xs)(r:aA K (NM H₀ O n) H xs ds):kU K H₀ O (zY K a) H n ds:=by
 have st:∀{O2:Addr→Prop}{H2:Hp},aV O H O2 H2→bH K H2 a xs:=fun {O2 H2} s=>by
  rcases hr with⟨h|⟨o,h⟩,ha⟩|h
  ·exact .inl (.inl (s _ _ h ha).1)
  ·exact .inl (.inr ⟨o,(s _ _ h ha).1⟩)
  ·exact .inr h
 refine⟨fun O2 H2 i s hi=>?_,fun O2 H2 i x H3 s hi y=>?_,fun O2 H2 s=>⟨xs,st s,by rw[r.len];exact a6 _⟩⟩
 ·exact⟨xs,xs[i]'(by rw[r.len];exact hi),st s,by simp⟩
 ·obtain⟨rfl,y⟩:=y
  have y:=y xs (st s)
  obtain⟨v,hv,rv⟩:=r.get (i:=i) (d:=ds[i]) (by simp[hi])
  rw[y]at hv;cases hv
  exact⟨aJ.refl _,ds[i],by simp[hi],xW e on s rv⟩
theorem OI{t:TE}{f:Ev→Option (M×D)}(h:JT K t f):JI K (yL K t) (bQ f):=by
 intro H₀ O H σ env R m ds Re e q
 obtain⟨⟨m0,d0⟩,ex,e⟩:=ax e
 cases d0<;>simp only at e<;>try (cases e;done)
 cases em:b8 m0 with
 |none=>rw[em]at e;cases e
 |some n =>
  rw[em]at e;cases e
  refine h H₀ O H σ env _ _ _ Re ex fun v H1 s1 h1=>?_
  obtain⟨e1,a,xs,rfl,hr,r⟩:=D6 em h1
  exact⟨a,rfl,⟨xs,hr.elim (fun z=>.inl z.1) .inr⟩,q _ H1 s1 e1 (LR e1 (Re.keep s1).on hr r)⟩
theorem MT{a:Addr}{xs:List V}{ds:List D}{n:M}(e:fu n=true)(on:∀a o,O a→H a=some o→¬hX o)(hr:a8 K H a xs)(r:aA K (NM H₀ O n) H xs ds):kU K H₀ O (zZ K a) H n ds:=by
 have st:∀{O2:Addr→Prop}{H2:Hp},aV O H O2 H2→a8 K H2 a xs:=fun {O2 H2} s=>by
  rcases hr with h|h
  ·exact .inl (s _ _ h fun z=>on _ _ z h trivial).1
  ·exact .inr h
 refine⟨fun O2 H2 i s hi=>?_,fun O2 H2 i x H3 s hi y=>?_,fun O2 H2 s=>⟨xs,st s,by rw[r.len];exact a6 _⟩⟩
 ·exact⟨xs,xs[i]'(by rw[r.len];exact hi),st s,by simp⟩
 ·obtain⟨rfl,y⟩:=y
  have y:=y xs (st s)
  obtain⟨v,hv,rv⟩:=r.get (i:=i) (d:=ds[i]) (by simp[hi])
  rw[y]at hv;cases hv
  exact⟨aJ.refl _,ds[i],by simp[hi],xW e on s rv⟩
noncomputable def oC(f:Ev→Option (M×D)):Ev→Option (M×List D):=fun e=>(f e).bind fun x=>match x.2 with
 |.tup ds=>(b8 x.1).map fun m=>(m,ds)
 |_=>none
theorem RK{t:TE}{f:Ev→Option (M×D)}(h:JT K t f):JI K (zb K t) (oC f):=by
 intro H₀ O H σ env R m ds Re e q
 obtain⟨⟨m0,d0⟩,ex,e⟩:=ax e
 cases d0<;>simp only at e<;>try (cases e;done)
 cases em:b8 m0 with
 |none=>rw[em]at e;cases e
 |some n =>
  rw[em]at e;cases e
  refine h H₀ O H σ env _ _ _ Re ex fun v H1 s1 h1=>?_
  obtain⟨a,xs,rfl,hr,r⟩:=h1.tup
  have e1:aQ m0=m∧fu m=true:=by clear ex h1 r;cases m0<;>cases em<;>exact⟨rfl,rfl⟩
  rw[e1.1]at r
  exact⟨a,rfl,⟨xs,hr⟩,q _ H1 s1 e1.2 (MT e1.2 (Re.keep s1).on hr r)⟩
noncomputable def bY(lo:Int)(n:Nat):List D:=(List.range n).map fun(k:Nat)=>.int (lo+(k:Int))
theorem Dp{lo:Int}{n:Nat}:kU K H₀ O (qH lo n) H .fr (bY lo n):=by
 have l:(bY lo n).length=n:=by simp[bY]
 refine⟨fun O2 H2 i s hi=>by rw[l]at hi;exact hi,fun O2 H2 i x H3 s hi y=>?_,fun O2 H2 s=>by rw[l];exact a6 n⟩
 obtain⟨rfl,rfl⟩:=y
 rw[l]at hi
 exact⟨aJ.refl _,.int (lo+i),by simp[bY,hi],Rp.int _⟩
theorem As:(2:Int)^62=4611686018427387904:=by decide
noncomputable def bN(fs:Ev→Option (List (M×D))):Ev→Option (M×List D):=fun e=>(fs e).bind fun l=>match l with
 |[(_,.int j)]=>if -4611686018427387904≤j∧j<4611686018427387904 then some (.fr,bY 0 j.toNat)else none
 |_=>none
theorem OJ{t:TA}{fs:Ev→Option (List (M×D))}(h:iL K t fs):JI K (Fz t) (bN fs):=by
 intro H₀ O H σ env R m ds Re e q
 obtain⟨l,el,e⟩:=ax e
 split at e
 ·split at e
  ·rename_i hj
   cases e
   refine h H₀ O H σ env _ _ Re el fun vs H1 s1 h1=>?_
   obtain⟨v,rfl,hv⟩:=h1.one
   obtain rfl:=hv.int
   exact⟨_,rfl,by rw[As];exact hj.1,by rw[As];exact hj.2,q _ H1 s1 rfl Dp⟩
  ·cases e
 ·cases e
noncomputable def qt(fs:Ev→Option (List (M×D))):Ev→Option (M×List D):=fun e=>(fs e).bind fun l=>match l with
 |[(_,.int i),(_,.int j)]=>if -4611686018427387904≤i∧i<4611686018427387904∧-4611686018427387904≤j∧j<4611686018427387904 then some (.fr,bY i (j-i).toNat)else none
 |_=>none
theorem OL{t:TA}{fs:Ev→Option (List (M×D))}(h:iL K t fs):JI K (FC t) (qt fs):=by
 intro H₀ O H σ env R m ds Re e q
 obtain⟨l,el,e⟩:=ax e
 split at e
 ·split at e
  ·rename_i hj
   cases e
   refine h H₀ O H σ env _ _ Re el fun vs H1 s1 h1=>?_
   obtain⟨v,w,rfl,hv,hw⟩:=h1.two
   obtain rfl:=hv.int
   obtain rfl:=hw.int
   exact⟨_,_,rfl,by rw[As];exact hj,q _ H1 s1 rfl Dp⟩
  ·cases e
 ·cases e
end
section
variable {K:PySem.W.Frag}{H H' H₀:Hp}{I:Nat→Option Addr}{O O':Addr→Prop}{σ:St}{env:Ev}
def JG(K:PySem.W.Frag)(g:TG)(fg:M×D→Ev→Option Ev):Prop :=
 ∀H₀ I O H σ env x v gE Q,Rel K H₀ I O H σ env→fu (Prod.fst x)=true→Val K H₀ O HE H (Prod.fst x) x.2 v→fg x env=some gE→(∀σ',Rel K H₀ I O H σ' gE→Q σ' H)→g v σ H Q
def oD(K:PySem.W.Frag)(g:gK)(fg:M→List D→Ev→Option Ev):Prop :=
 ∀H₀ I O H σ env m ds vs gE Q,Rel K H₀ I O H σ env→fu m=true→aA K (NM H₀ O m) H vs ds→fg m ds env=some gE→(∀σ',Rel K H₀ I O H σ' gE→Q σ' H)→g vs σ H Q
noncomputable def gN(i:Nat):M×D→Ev→Option Ev:=fun x e=>some (e.set i (some x))
theorem OO{i:Nat}:JG K (fK i) (gN i):=by
 intro H₀ I O H σ env x v gE Q R hm hv e q
 cases e
 obtain⟨m,d⟩:=x
 exact q _ (R.set_plain (by cases m<;>first|rfl|cases hm) (by cases m<;>first|rfl|cases hm) hv)
noncomputable def fL:M→List D→Ev→Option Ev:=fun _ ds e=>match ds with
 |[]=>some e
 |_=>none
noncomputable def cq(f:M×D→Ev→Option Ev)(g:M→List D→Ev→Option Ev):M→List D→Ev→Option Ev:=fun m ds e=>match ds with
 |d::r=>(f (m,d) e).bind fun e'=>g m r e'
 |[]=>none
theorem OQ:oD K y9 fL:=by
 intro H₀ I O H σ env m ds vs gE Q R hm hv e q
 cases hv with
 |nil=>cases e;exact⟨rfl,q _ R⟩
 |cons=>cases e
theorem MV{g:TG}{gs:gK}{f:M×D→Ev→Option Ev}{fs:M→List D→Ev→Option Ev}(h:JG K g f)(hs:oD K gs fs):oD K (uH g gs) (cq f fs):=by
 intro H₀ I O H σ env m ds vs gE Q R hm hv e q
 cases hv with
 |nil=>cases e
 |@cons v d vs ds hv r =>
  obtain⟨e',e1,e⟩:=ax e
  refine⟨v,vs,rfl,?_⟩
  have jn:Val K H₀ O HE H m d v:=by cases m<;>first|exact hv|cases hm
  exact h H₀ I O H σ env (m,d) v e' _ R hm jn e1 fun σ' R'=>hs H₀ I O H σ' e' m ds vs gE Q R' hm r e q
noncomputable def gT(n:Nat)(f:M→List D→Ev→Option Ev):M×D→Ev→Option Ev:=fun x e=>match x.2 with
 |.tup ds=>if ds.length=n then f (aQ x.1) ds e else none
 |_=>none
theorem RL{n:Nat}{gs:gK}{fs:M→List D→Ev→Option Ev}(hs:oD K gs fs):JG K (za K n gs) (gT n fs):=by
 intro H₀ I O H σ env x v gE Q R hm hv e q
 obtain⟨m,d⟩:=x
 cases d<;>simp only[gT]at e<;>try (cases e;done)
 split at e
 ·rename_i hl
  obtain⟨a,xs,rfl,hV,r⟩:=hv.tup
  exact⟨a,xs,rfl,hV,by rw[r.len];exact hl,hs H₀ I O H σ env (aQ m) _ xs gE Q R (by cases m<;>first|rfl|cases hm) r e q⟩
 ·cases e
noncomputable def gL(n:Nat)(f:M→List D→Ev→Option Ev):M×D→Ev→Option Ev:=fun x e=>match x.2 with
 |.lst ds=>if ds.length=n then f (aQ x.1) ds e else none
 |_=>none
noncomputable def zC:M→M
 |.un=>.fr
 |m=>m
noncomputable def lX(fg:M×D→Ev→Option Ev)(f:Ev→Option (M×D)):Ev→Option Fl:=fun e=>(f e).bind fun x=>if fu (zC x.1)=true then (fg (zC x.1,x.2) e).bind fun e'=>some (.nx e')else none
theorem RM{t:TE}{g:TG}{f:Ev→Option (M×D)}{fg:M×D→Ev→Option Ev}(h:JT K t f)(hg:JG K g fg):JS K (gf t g) (lX fg f):=by
 intro H₀ I O H σ env Ds fl R e q
 obtain⟨⟨m,d⟩,ex,e⟩:=ax e
 split at e
 ·rename_i hm
  obtain⟨e',e1,e⟩:=ax e
  cases e
  refine h H₀ O H σ env _ m d R.e ex fun v H1 s1 h1=>?_
  refine hg H₀ I O H1 σ env _ v e' _ (R.keep s1) hm ?_ e1 fun σ' R'=>q O H1 σ' R' (aV.same s1)
  cases m
  ·exact h1
  ·exact h1
  ·exact h1.cf rfl
  ·cases hm
  ·cases hm
  ·cases hm
  ·cases hm
 ·cases e
noncomputable def forL(g:M×D→Ev→Option Ev)(b:Ev→Option Fl)(m:M):List D→Ev→Option Fl
 |[],e=>some (.nx e)
 |d::ds,e=>(g (m,d) e).bind fun e1=>(b e1).bind fun r=>match r with
  |.nx e2=>forL g b m ds e2
  |.ct e2=>forL g b m ds e2
  |.bk e2=>some (.nx e2)
  |.rt e2 m' d'=>some (.rt e2 m' d')
noncomputable def bf(it:Ev→Option (M×List D))(g:M×D→Ev→Option Ev)(b:Ev→Option Fl):Ev→Option Fl:=fun e=>(it e).bind fun x=>forL g b x.1 x.2 e
theorem RN{wi:TI}{g:TG}{tb:TS}{it:Ev→Option (M×List D)}{fg:M×D→Ev→Option Ev}{b:Ev→Option Fl}(hi:JI K wi it)(hg:JG K g fg)(hb:JS K tb b):JS K (zc wi g tb) (bf it fg b):=by
 intro H₀ I O H σ env Ds fl R e q
 obtain⟨⟨m,ds⟩,ei,e⟩:=ax e
 refine hi H₀ O H σ env _ m ds R.e ei fun J H1 s1 hm ok=>?_
 have q1:=q.pre (aV.same s1)
 refine⟨fun i n σ2 H2=>∃O2 fw,Rel K H₀ I O2 H2 σ2 fw∧aV O H1 O2 H2∧i≤ds.length∧n=ds.length-i∧forL fg b m (ds.drop i) fw=some fl,⟨_,O,env,R.keep s1,aV.refl,Nat.zero_le _,rfl,e⟩,?_⟩
 rintro i n σ2 H2 ⟨O2,fw,R2,st,hle,rfl,ef⟩
 by_cases aU:i<ds.length
 ·refine .inr ⟨ok.go O2 H2 i st aU,fun σ' H'=>∃O2 fw,Rel K H₀ I O2 H' σ' fw∧aV O H1 O2 H'∧forL fg b m (ds.drop (i+1)) fw=some fl,?_,?_⟩
  ·rintro σ' H' ⟨O3,VA,R3,bD,WQ⟩
   exact⟨ds.length-(i+1),by omega,O3,VA,R3,bD,aU,rfl,WQ⟩
  ·intro x H3 y
   obtain⟨s3,d,hd,hv⟩:=ok.iF O2 H2 i x H3 st aU y
   have mB:ds.drop i=d::ds.drop (i+1):=by
    rw[List.drop_eq_getElem_cons aU]
    rw[eU aU]at hd
    cases hd;rfl
   rw[mB]at ef
   simp only[forL]at ef
   obtain⟨e1,g1,ef⟩:=ax ef
   obtain⟨r,br,ef⟩:=ax ef
   refine hg H₀ I O2 H3 σ2 fw (m,d) x e1 _ (R2.keep s3) hm hv g1 fun σ4 R4=>?_
   have vU:=st.trans (aV.same (O:=O2) s3)
   refine hb H₀ I O2 H3 σ4 e1 _ r R4 br ?_
   cases r with
   |nx e2=>exact fun O5 H5 σ5 R5 fQ=>⟨O5,e2,R5,vU.trans fQ,ef⟩
   |ct e2=>exact fun O5 H5 σ5 R5 fQ=>⟨O5,e2,R5,vU.trans fQ,ef⟩
   |bk e2=>cases ef;exact(q1.pre vU)
   |rt e2 m' d'=>cases ef;exact(q1.pre vU)
 ·have hi:i=ds.length:=by omega
  subst hi
  rw[List.drop_length]at ef
  cases ef
  exact .inl ⟨ok.stop O2 H2 st,q1 O2 H2 σ2 R2 st⟩
noncomputable def cL(c:Ev→Option Bool)(b:Ev→Option Fl):Nat→Ev→Option Fl
 |0,_=>none
 |n+1,e=>(c e).bind fun k=>if k=true then (b e).bind fun r=>(match r with
  |.nx e2=>cL c b n e2
  |.ct e2=>cL c b n e2
  |.bk e2=>some (.nx e2)
  |.rt e2 m' d'=>some (.rt e2 m' d'))else some (.nx e)
theorem sZ{c:Ev→Option Bool}{b:Ev→Option Fl}{fl:Fl}:∀{n k:Nat}{e:Ev},n≤k→cL c b n e=some fl→cL c b k e=some fl
 |0,_,_,_,h=>by cases h
 |n+1,0,_,h,_=>by omega
 |n+1,k+1,e,hk,h=>by
  simp only[cL]at h ⊢
  obtain⟨x,ex,h⟩:=ax h
  rw[ex,Option.bind_some]
  cases x with
  |false=>exact h
  |true =>
   rw[if_pos rfl]at h ⊢
   obtain⟨r,er,h⟩:=ax h
   rw[er,Option.bind_some]
   cases r with
   |nx e2=>exact sZ (by omega) h
   |ct e2=>exact sZ (by omega) h
   |bk e2=>exact h
   |rt e2 m' d'=>exact h
open Classical in
noncomputable def gB(c:Ev→Option Bool)(b:Ev→Option Fl):Ev→Option Fl:=fun e=>if h:∃n fl,cL c b n e=some fl then some (Classical.choose (Classical.choose_spec h))else none
theorem xB{c:Ev→Option Bool}{b:Ev→Option Fl}{fl:Fl}{n:Nat}{e:Ev}(h:cL c b n e=some fl):gB c b e=some fl:=by
 have hx:∃n fl,cL c b n e=some fl:=⟨n,fl,h⟩
 unfold gB
 rw[dif_pos hx]
 have s:=Classical.choose_spec (Classical.choose_spec hx)
 have a:=sZ (Nat.le_max_left n (Classical.choose hx)) h
 have b':=sZ (Nat.le_max_right n (Classical.choose hx)) s
 rw[a]at b'
 exact b'.symm
theorem KZ{c:Ev→Option Bool}{b:Ev→Option Fl}{fl:Fl}{e:Ev}(h:gB c b e=some fl):∃n,cL c b n e=some fl:=by
 unfold gB at h
 split at h
 ·rename_i hx
  cases h
  exact⟨_,Classical.choose_spec (Classical.choose_spec hx)⟩
 ·cases h
theorem MX{c:TT}{tb:TS}{fc:Ev→Option Bool}{b:Ev→Option Fl}(hc:dR K c fc)(hb:JS K tb b):JS K (yj c tb) (gB fc b):=by
 intro H₀ I O H σ env Ds fl R e q
 obtain⟨n,e⟩:=KZ e
 refine⟨fun n σ2 H2=>∃O2 fw,Rel K H₀ I O2 H2 σ2 fw∧aV O H O2 H2∧cL fc b n fw=some fl,⟨n,O,env,R,aV.refl,e⟩,?_⟩
 rintro n σ2 H2 ⟨O2,fw,R2,st,ef⟩
 cases n with
 |zero=>cases ef
 |succ n =>
  simp only[cL]at ef
  obtain⟨k,ek,ef⟩:=ax ef
  refine hc H₀ O2 H2 σ2 fw _ k R2.e ek fun H3 s3=>?_
  have bD:=st.trans (aV.same (O:=O2) s3)
  cases k with
  |false =>
   rw[if_neg aZ]at ef ⊢
   cases ef
   exact q O2 H3 σ2 (R2.keep s3) bD
  |true =>
   rw[if_pos rfl]at ef ⊢
   obtain⟨r,er,ef⟩:=ax ef
   refine⟨fun σ' H'=>∃O2 fw,Rel K H₀ I O2 H' σ' fw∧aV O H O2 H'∧cL fc b n fw=some fl,fun σ' H' ⟨O3,e3,R3,s3,f3⟩=>⟨n,Nat.lt_succ_self n,O3,e3,R3,s3,f3⟩,?_⟩
   refine hb H₀ I O2 H3 σ2 fw _ r (R2.keep s3) er ?_
   cases r with
   |nx e2=>exact fun O5 H5 σ5 R5 fQ=>⟨O5,e2,R5,bD.trans fQ,ef⟩
   |ct e2=>exact fun O5 H5 σ5 R5 fQ=>⟨O5,e2,R5,bD.trans fQ,ef⟩
   |bk e2=>cases ef;exact(q.pre bD)
   |rt e2 m' d'=>cases ef;exact(q.pre bD)
noncomputable def FQ(K:PySem.W.Frag)(H H':Hp):M→D→V→Prop
 |.un,d,v=>∃p,v=.ref p∧H p=none∧Cell K (fun a=>H a=none∧a≠p) H' p d
 |.fr,d,v=>Rp K (fun a=>H a=none) H' v d
 |_,_,_=>False
noncomputable def mD(K:PySem.W.Frag)(n:Nat)(F:List D→Option (M×D)):Sp:=fun vs H Q _=>vs.length=n∧∃ds m d,aA K (fun _=>True) H vs ds∧F ds=some (m,d)∧∀v H',aJ H H'→FQ K H H' m d v→Q v H'
noncomputable def out:Fl→Option (M×D)
 |.nx _=>some (.fr,.non)
 |.rt _ .un d=>some (.un,d)
 |.rt _ .bo d=>some (.un,d)
 |.rt _ .fr d=>some (.fr,d)
 |.rt _ .rb d=>some (.fr,d)
 |.rt _ .nb d=>some (.fr,d)
 |.rt _ .al d=>if d.bU=true then some (.fr,d)else none
 |_=>none
noncomputable def fn(L:Nat)(g:Ev→Option Fl):List D→Option (M×D):=fun ds=>(g (ds.map (fun d=>some (.al,d))++List.replicate (L-ds.length) none)).bind out
theorem LV{vs:List V}{ds:List D}(r:aA K (fun _=>True) H vs ds)(k:Nat):Paired (fun(e:Option (M×D)) (x:Option V)=>∀m d,e=some (m,d)→gQ m=true∧∃v,x=some v∧Val K H (fun _=>False) HE H m d v) (ds.map (fun d=>some (.al,d))++List.replicate k none) (vs.map some++List.replicate k none):=by
 have rep:∀k,Paired (fun(e:Option (M×D)) (x:Option V)=>∀m d,e=some (m,d)→gQ m=true∧∃v,x=some v∧Val K H (fun _=>False) HE H m d v) (List.replicate k none) (List.replicate k none):=fun k=>by
  induction k with
  |zero=>exact .nil
  |succ k ih=>exact .cons (fun m d e=>nomatch e) ih
 have go:∀{vs:List V}{ds:List D},aA K (fun _=>True) H vs ds→Paired (fun(e:Option (M×D)) (x:Option V)=>∀m d,e=some (m,d)→gQ m=true∧∃v,x=some v∧Val K H (fun _=>False) HE H m d v) (ds.map (fun d=>some (.al,d))++List.replicate k none) (vs.map some++List.replicate k none):=by
  intro vs ds
  induction vs generalizing ds with
  |nil=>intro r;cases r;exact rep k
  |cons v vs ih=>intro r;cases r with|cons h r=>exact .cons (fun m d e=>by cases e;exact⟨rfl,v,rfl,h.wk fun _ _ _ z=>z⟩) (ih r)
 exact go r
theorem LW{ds:List D}{k i:Nat}{d:D}(h:(ds.map (fun d=>some (M.al,d))++List.replicate k none)[i]?=some (some (M.bi,d))):False:=by
 have hm:=fm h
 rcases cU.mp hm with z|z
 ·obtain⟨d,_,e⟩:=bu.mp z;cases e
 ·have:=List.eq_of_mem_replicate z;cases this
theorem Cj{ds:List D}{k i:Nat}{d:D}(h:(ds.map (fun d=>some (M.al,d))++List.replicate k none)[i]?=some (some (M.nb,d))):False:=by
 have hm:=fm h
 rcases cU.mp hm with z|z
 ·obtain⟨d,_,e⟩:=bu.mp z;cases e
 ·have:=List.eq_of_mem_replicate z;cases this
theorem D7{ts:TS}{g:Ev→Option Fl}{n:Nat}{N:List Str}{vs:List V}{Q:VK}{E:XK}(h:JS K ts g)(hs:mD K n (fn N.length g) vs H Q E):ts { nx:=fun _ H'=>Q .non H',rt:=Q } (L2.start N vs) H:=by
 obtain⟨hl,ds,m,d,r,e,q⟩:=hs
 obtain⟨fl,ef,eo⟩:=ax e
 have R:Rel K H (fun _=>none) (fun _=>False) H (L2.start N vs) (ds.map (fun d=>some (.al,d))++List.replicate (N.length-ds.length) none) :=
  ⟨⟨by unfold L2.start;rw[r.len];exact LV r _,fun _ z=>z.elim,fun a o e=>⟨o,e⟩,fun _ _ z=>z.elim⟩,fun a o _ e=>e,fun _ z=>z.elim,fun i d p h1=>(LW h1).elim,(fun i j x y p h1 h2 o1 o2=>by
   exfalso
   have k:∀{i:Nat}{x:M×D},(ds.map (fun d=>some (M.al,d))++List.replicate (N.length-ds.length) none)[i]?=some (some x)→x.1=.al:=fun {i x} h=>by
    have hm:=fm h
    rcases cU.mp hm with z|z
    ·obtain⟨d,_,e⟩:=bu.mp z;cases e;rfl
    ·have:=List.eq_of_mem_replicate z;cases this
   rw[k h1]at o1;cases o1),⟨fun i j d d' h1=>(Cj h1).elim,fun i j d x p q xs h1=>(Cj h1).elim⟩⟩
 refine h H (fun _=>none) (fun _=>False) H _ _ _ fl R ef ?_
 cases fl with
 |nx e'=>cases eo;exact fun O' H' σ' R' st=>q .non H' (fun a o e=>R'.fr a o (fun _ z=>nomatch z) e) Rp.non
 |bk e'=>cases eo
 |ct e'=>cases eo
 |rt e' m' d' =>
  intro O' H' σ' v R' st hv
  have sm:aJ H H':=fun a o e=>R'.fr a o (fun _ z=>nomatch z) e
  cases m'<;>simp only[out]at eo
  ·split at eo
   ·rename_i hi;cases eo;exact q v H' sm (show Rp K _ H' v d from hv.weak.im hi)
   ·cases eo
  ·cases eo;exact q v H' sm (show Rp K _ H' v d from Rp.wk (fun a h _=>h.2) hv)
  ·cases eo
   obtain⟨p,rfl,_,h0,_,c⟩:=hv
   exact q _ H' sm ⟨p,rfl,h0,c.wk fun a h _=>⟨h.1.2,h.2⟩⟩
  ·cases eo
   obtain⟨p,rfl,hO,h0,c⟩:=hv
   exact q _ H' sm ⟨p,rfl,h0,c.wk fun a h _=>⟨h.2,fun z=>h.1 (z▸hO)⟩⟩
  ·cases eo
  ·cases eo;exact q v H' sm (show Rp K _ H' v d from hv)
  ·cases eo;exact q v H' sm (show Rp K _ H' v d from iB.rp (fun _ z=>z) hv)
noncomputable def ay(F:List D→Option (M×D))(fs:Ev→Option (List (M×D))):Ev→Option (M×D):=fun e=>(fs e).bind fun aB=>F (aB.map (·.2))
theorem OS{m:M}{d:D}{v:V}(od:∀a,O a→∃o,H a=some o)(hd:∀a o,H₀ a=some o→∃o',H a=some o')(h:FQ K H H' m d v):Val K H₀ O H H' m d v:=by
 cases m<;>try exact h.elim
 ·exact Rp.wk (fun a h _=>⟨f7 od h,iT hd h⟩) h
 ·obtain⟨p,rfl,hp,c⟩:=h
  exact⟨p,rfl,hp,iT hd hp,f7 od hp,c.wk fun a h _=>⟨⟨f7 od h.1,iT hd h.1⟩,h.2⟩⟩
theorem OU{n:Nat}{F:List D→Option (M×D)}{ta:TA}{fs:Ev→Option (List (M×D))}{E:XK}(ha:iL K ta fs)(hl:∀e aB,fs e=some aB→aB.length=n):JT K (qc (mD K n F) [] E ta) (ay F fs):=by
 intro H₀ O H σ env Q m d R h q
 obtain⟨aB,e,h⟩:=ax h
 refine ha H₀ O H σ env _ aB R e fun vs H1 s1 h1=>?_
 have R1:=R.keep s1
 rw[List.append_nil]
 refine⟨by rw[←Paired.length h1];exact hl _ _ e,aB.map (·.2),m,d,h1.iK (fun md hm v hv=>hv.weak),h,fun v H2 s2 h2=>?_⟩
 exact q v H2 (s1.trans s2) ((OS R1.od R1.hd h2).hb fun a z=>s1.free z)
end
section
variable {K:PySem.W.Frag}{H H' H₀:Hp}{O O':Addr→Prop}{σ:St}{env:Ev}
noncomputable def dX:M×D→Option (M×D)
 | (_,.int i)=>some (.fr,.int (-i))
 |_=>none
theorem RP:JU K (rU fun i=>.int (-i)) dX:=by
 intro H₀ O H x a Q m d _ _ h1 h q
 obtain⟨ma,da⟩:=a
 cases da<;>cases h
 exact⟨_,h1.int,q _ H (aJ.refl H) iX⟩
def FU(i j:Int):Prop:=0<j∧j<1606938044258990275541962092341162602522202993782792835301376
noncomputable def bW:=gI (fun _ j=>0<j∧j<1606938044258990275541962092341162602522202993782792835301376) (· / ·)
theorem OV:JR K (rI FU fun i j=>.int (i/j)) bW:=vg fun _ _ h=>h
theorem log2_lt{n:Nat}(h:n<2^200):n.log2<9000:=by
 rcases Nat.eq_zero_or_pos n with rfl|h0
 ·decide
 ·exact Nat.lt_trans ((Nat.log2_lt (by omega)).mpr h) (by decide)
theorem MY{X:Cx}:bI X (binaryOp .FloorDiv) (rI FU fun i j=>.int (i/j)):=vE fun i j _ _ _ _ _ hc q=>by
 have e:i/j=i.fdiv j:=(Int.fdiv_eq_ediv_of_nonneg i (Int.le_of_lt hc.1)).symm
 rw[e]at q
 have h1:=hc.1
 have h2:=hc.2
 have hl:j.natAbs<2^200:=by
  have e2:(2:Nat)^200=1606938044258990275541962092341162602522202993782792835301376:=by decide
  rw[e2];omega
 exact PyProof.Rows.floordiv_int (Int.ne_of_gt hc.1) q (.inl (PyProof.noPylong_of_log2 (log2_lt hl)))
theorem OW{X:Cx}:bI X (binaryOp .Add) (uM X.K):=by
 intro pins s σ H x y v u Q I rx ry h
 obtain⟨l,b,xs,zs,rfl,rfl,hl,hb,hz,q⟩:=h
 cases (show v=Value.ref l from rx)
 cases (show u=Value.ref b from ry)
 obtain⟨its,r,pl,_⟩:=I.list hl
 obtain⟨kK,r2,pm,_⟩:=I.list hb
 obtain⟨⟨cls,dd,data,sl⟩,ho,hc,n,hd⟩:=pl.isList
 obtain⟨⟨Vo,vG,data2,ot⟩,hU,gn,n2,hd2⟩:=pm.isList
 simp only at hc hd gn hd2
 subst hc hd gn hd2
 have ea:its.toArray++kK.toArray=(its++kK).toArray:=by simp
 have e1:=r.length
 have e2:=r2.length
 refine concat_meets ⟨_,ho,rfl⟩ ⟨_,hU,rfl⟩ noFill_list_add seq_list_add PySem.F.slot_list_add PySem.F.entry_list_add (PySem.F.args_list_add_2 _ _) (PyProof.Rows.list_addW l b its.toArray kK.toArray n n2 dd vG sl ot (by rw[List.size_toArray,List.size_toArray];omega)) ⟨ho,hU,?_⟩
 rw[ea]
 exact⟨.ref _,_,I.Vr (t':=s.toks) (r.append r2) (by rw[dO];omega),rfl,q _ I.fresh⟩
theorem MZ{X:Cx}(h:X.K=K):bI X (binaryOp .Add) (uM K):=by subst h;exact OW
theorem M0{r r':R2}{g g':M×D→M×D→Option (M×D)}{ta tb tc:TE}{fa fb fc:Ev→Option (M×D)}(hr:JR K r g)(mE:JR K r' g')(ha:JT K ta fa)(hb:JT K tb fb)(hc:JT K tc fc):JT K (EB r r' ta tb tc) (nh g g' fa fb fc):=by
 intro H₀ O H σ env Q m d R h q
 obtain⟨a,ea,h⟩:=ax h
 obtain⟨b,eb,h⟩:=ax h
 obtain⟨z,ez,h⟩:=ax h
 obtain⟨k,ek,h⟩:=ax h
 refine ha H₀ O H σ env _ a.1 a.2 R ea fun x H1 s1 h1=>?_
 refine hb H₀ O H1 σ env _ b.1 b.2 (R.keep s1) eb fun y H2 s2 h2=>?_
 have R2:=(R.keep s1).keep s2
 refine hr H₀ O H2 x y a b _ z.1 z.2 R2.od R2.hd (h1.keep s2).h0 h2.h0 ez fun v H3 s3 h3=>?_
 rw[ng ek]at h3
 refine⟨k,h3.bl,?_⟩
 cases k with
 |false =>
  rw[if_neg aZ]at h ⊢
  cases h
  exact q _ H3 ((s1.trans s2).trans s3) eJ
 |true =>
  rw[if_pos rfl]at h ⊢
  obtain⟨c,ec,h⟩:=ax h
  refine hc H₀ O H3 σ env _ c.1 c.2 (R2.keep s3) ec fun w H4 s4 h4=>?_
  have R4:=(R2.keep s3).keep s4
  refine mE H₀ O H4 y w b c Q m d R4.od R4.hd ((h2.keep s3).keep s4).h0 h4.h0 h fun v H5 s5 h5=>?_
  have s:=((s1.trans s2).trans s3).trans s4
  exact q v H5 (s.trans s5) (h5.hb fun a z=>s.free z)
noncomputable def vi:List D→Option (List V)
 |[]=>some []
 |d::ds=>(dH d).bind fun v=>(vi ds).bind fun r=>some (v::r)
theorem D8{N:Addr→Prop}:∀{ds:List D}{vs ws:List V},aA K N H vs ds→vi ds=some ws→vs=ws∧ws.all iW=true
 |_,_,_,.nil,e=>by cases e;exact⟨rfl,rfl⟩
 |d::ds,v::vs,ws,.cons h r,e=>by
  obtain⟨w,ew,e⟩:=ax e
  obtain⟨r',er,e⟩:=ax e
  cases e
  obtain⟨rfl,f⟩:=D8 r er
  obtain rfl:=nK h ew
  refine⟨rfl,?_⟩
  rw[List.all_cons,f,Bool.and_true]
  cases h<;>simp only[dH]at ew<;>first|rfl|cases ew
noncomputable def vj:D→Option (List D)
 |.lst ds=>some ds
 |.tup ds=>some ds
 |_=>none
noncomputable def dY(neg:Bool):M×D→M×D→Option (M×D):=fun a b=>(dH a.2).bind fun x=>(vj b.2).bind fun ds=>(vi ds).bind fun vs=>some (.fr,.bl (if neg then !dQ x vs else dQ x vs))
theorem seq_val{m:M}{d:D}{ds:List D}{v:V}{Hb:Hp}(e:vj d=some ds)(h:Val K H₀ O Hb H m d v):∃p xs,v=.ref p∧(bH K H p xs∨a8 K H p xs)∧aA K (NM H₀ O (aQ m)) H xs ds:=by
 cases d<;>simp only[vj]at e<;>cases e
 ·obtain⟨p,xs,rfl,h,r⟩:=h.tup;exact⟨p,xs,rfl,.inr h,r⟩
 ·obtain⟨p,xs,rfl,h,r⟩:=h.lst;exact⟨p,xs,rfl,.inl h,r⟩
theorem M3{d:D}{x:V}(e:dH d=some x):iW x=true:=by
 cases d<;>simp only[dH]at e<;>cases e<;>rfl
theorem FV{neg:Bool}:JR K (qL K neg) (dY neg):=by
 intro H₀ O H x y a b Q m d _ _ h1 h2 h q
 obtain⟨x',ex,h⟩:=ax h
 obtain⟨ds,ed,h⟩:=ax h
 obtain⟨vs,ev,h⟩:=ax h
 cases h
 obtain⟨p,xs,rfl,hs,r⟩:=seq_val ed h2
 obtain⟨rfl,f⟩:=D8 r ev
 obtain rfl:=nK h1.weak ex
 exact⟨p,_,rfl,hs,M3 ex,f,q _ H (aJ.refl H) eJ⟩
theorem M4{m:M}(h:fu m=true):gQ m=true:=by cases m<;>first|rfl|cases h
noncomputable def kW:Ev→Option Bool:=fun _=>some true
theorem xX:dR K vd kW:=by
 intro H₀ O H σ env Q b R h q
 cases h
 exact q H (aJ.refl H)
noncomputable def dB(e:Ev)(ix:List Nat):Ev:=ix.map fun i=>(e[i]?).getD none
noncomputable def fh(fc:Ev→Option Bool)(fe:Ev→Option (M×D))(m:M)(fr:Ev):List D→Option (List (M×D))
 |[]=>some []
 |d::ds=>(fc (some (m,d)::fr)).bind fun b=>if b=true then (fe (some (m,d)::fr)).bind fun x=>(fh fc fe m fr ds).bind fun r=>some (x::r)else fh fc fe m fr ds
noncomputable def cC(it:Ev→Option (M×List D))(ix:List Nat)(fc:Ev→Option Bool)(fe:Ev→Option (M×D)):Ev→Option (M×D):=fun e=>(it e).bind fun x=>(fh fc fe x.1 (dB e ix) x.2).bind c9
theorem de.fr{ix:List Nat}(R:de K H₀ O H σ env):Paired (fun(e:Option (M×D)) (x:Option V)=>∀m d,e=some (m,d)→gQ m=true∧∃v,x=some v∧Val K H₀ O HE H m d v) (dB env ix) (dF σ ix):=by
 unfold dB dF
 induction ix with
 |nil=>exact .nil
 |cons i ix ih =>
  refine .cons (fun m d e=>?_) ih
  have e':env[i]?=some (some (m,d)):=by
   have e:(env[i]?).getD none=some (m,d):=e
   cases q:env[i]? with
   |none=>rw[q]at e;cases e
   |some z=>rw[q]at e;exact congrArg some e
  obtain⟨v,hv,n,h⟩:=R.at e'
  exact⟨n,v,by show(σ[i]?).getD none=_;rw[hv];rfl,h⟩
theorem de.more{C:Addr}(R:de K H₀ O H σ env)(hC:H C=none){H2:Hp}(s:aJ H H2)(ys:List V)(e:H2 C=some (.lst ys)):de K H₀ (fun a=>O a∨a=C) H2 σ env:=by
 have np:∀a,(∃o,H a=some o)→a≠C:=fun a ⟨o,e⟩=>dm e hC
 have w:∀{N:Addr→Prop}{d:D}{v:V},Rp K N H v d→Rp K (fun a=>N a∧a≠C) H2 v d:=fun r=>(r.wk fun a n e=>⟨n,np a e⟩).keep (.same s)
 have ws:∀{N:Addr→Prop}{d:D}{q:Addr},Cell K N H q d→Cell K (fun a=>N a∧a≠C) H2 q d:=fun {N d q} r=>by
  obtain⟨o,e,_⟩:=r.some
  exact(r.wk fun a n e=>⟨n,np a e⟩).keep (.same s) ((s _ _ e).trans e.symm)
 refine⟨ku (fun e x h m d q=>?_) R.sl,fun a h=>?_,fun a o h=>?_,fun a o h q=>?_⟩
 ·obtain⟨n,v,rfl,z⟩:=h m d q
  refine⟨n,v,rfl,?_⟩
  cases m
  ·exact(w z).wk fun a h _=>fun z=>z.elim h.1 h.2
  ·exact(w z).wk fun a h _=>⟨fun z=>z.elim h.1.1 h.2,h.1.2⟩
  ·cases n
  ·obtain⟨q,rfl,h1,h2,c'⟩:=z
   exact⟨q,rfl,.inl h1,h2,(ws c').wk fun a h _=>⟨fun z=>z.elim h.1.1 h.2,h.1.2⟩⟩
  ·obtain⟨q,rfl,h1,c'⟩:=z
   exact⟨q,rfl,.inl h1,(ws c').wk fun a h _=>⟨fun z=>z.elim h.1.1 h.2,h.1.2⟩⟩
  ·cases n
  ·obtain⟨q,qs,aT,e1,e2,h1,h2,h3,h4,h5,h6⟩:=z
   exact⟨q,qs,aT,e1,e2,.inl h1,h2,s _ _ h3,h4,fun x hx=>⟨.inl (h5 x hx).1,(h5 x hx).2⟩,kh (fun x ds _ ⟨xs,a,r⟩=>⟨xs,s _ _ a,((r.wk fun a n e=>(⟨n,np a e⟩:(¬O a∧H₀ a=none)∧a≠C)).keep (.same s)).wk fun a h _=>⟨fun z=>z.elim h.1.1 h.2,h.1.2⟩⟩) h6⟩
 ·rcases h with h|rfl
  ·obtain⟨o,q⟩:=R.od a h;exact⟨o,s _ _ q⟩
  ·exact⟨_,e⟩
 ·obtain⟨o',q⟩:=R.hd a o h;exact⟨o',s _ _ q⟩
 ·rcases h with h|rfl
  ·exact(R.keep s).on a o h q
  ·rw[e]at q;cases q;exact fun z=>z
theorem CN{J:It}{m:M}{ds:List D}{tc:TT}{te:TE}{fc:Ev→Option Bool}{fe:Ev→Option (M×D)}{H1:Hp}{ix:List Nat}{fV:List (M×D)}{bb:Bool}{Q:Addr→Hp→Prop}{C:Addr}
  (R:de K H₀ O H1 σ env) (hm:fu m=true) (ok:kU K H₀ O J H1 m ds) (hc:dR K tc fc) (he:JT K te fe) (hl:fV.length≤sizeLine) (et:fh fc fe m (dB env ix) ds=some fV)
  (hs:∀x∈fV,(if bb then cf x.1 x.2 else fC x.1 x.2)=true) (hC:H1 C=none)
  (q:∀ys H',aJ H1 H'→H' C=some (.lst ys)→aA K (fun a=>¬(O a∨a=C)∧(bb=true→H₀ a=none)) H' ys (fV.map (·.2))→Q C H'):qe J C H1 (dF σ ix) tc te Q:=by
 have hN:∀{N:Addr→Prop}{Ha Hb:Hp},(∀a,N a→a≠C)→(∀b o,b≠C→Ha b=some o→Hb b=some o)→(∀o,Ha C=some o→¬hX o)→Keeps N Ha Hb:=fun w s nt a o e z=>s a o (by
  rcases z with z|z
  ·exact w a z
  ·rintro rfl;exact nt o e z) e
 refine⟨fun i n H2=>n=ds.length-i∧i≤ds.length∧aJ H1 H2∧∃ys acc rest,H2 C=some (.lst ys)∧fh fc fe m (dB env ix) (ds.drop i)=some rest∧fV=acc++rest∧aA K (fun a=>¬(O a∨a=C)∧(bb=true→H₀ a=none)) H2 ys (acc.map (·.2)),⟨_,rfl,Nat.zero_le _,cn hC,[],[],fV,bF,et,rfl,.nil⟩,?_⟩
 rintro i n H2 ⟨rfl,hle,s2,ys,acc,rest,gO,er,gF,rr⟩
 have a7:aV O H1 O H2:=aV.same s2
 by_cases aU:i<ds.length
 ·refine .inr ⟨ok.go O H2 i a7 aU,fun x H3 y=>?_⟩
  have zD:aV O H1 (fun a=>O a∨a=C) H2:=fun a o e n=>⟨s2 a o e,fun z=>z.elim n (dm e hC)⟩
  obtain⟨s3,d,hd,hv⟩:=ok.iF (fun a=>O a∨a=C) H2 i x H3 zD aU y
  have R2:=R.more hC s2 ys gO
  have R3:=R2.keep s3
  have q8:de K H₀ (fun a=>O a∨a=C) H3 (some x::dF σ ix) (some (m,d)::dB env ix) :=
   ⟨.cons (fun m' d' e=>by cases e;exact⟨M4 hm,x,rfl,hv⟩) R3.fr,R3.od,R3.hd,R3.on⟩
  have mB:ds.drop i=d::ds.drop (i+1):=by
   rw[List.drop_eq_getElem_cons aU]
   rw[eU aU]at hd
   cases hd;rfl
  rw[mB]at er
  simp only[fh]at er
  obtain⟨b,eb,er⟩:=ax er
  refine hc H₀ _ H3 _ _ _ b q8 eb fun H4 s4=>?_
  cases b with
  |true =>
   rw[if_pos rfl]at er ⊢
   obtain⟨z,ez,er⟩:=ax er
   obtain⟨r',Au,er⟩:=ax er
   cases er
   refine he H₀ _ H4 _ _ _ z.1 z.2 (q8.keep s4) ez fun w H5 s5 h5=>?_
   have jZ:aJ H2 H5:=(s3.trans s4).trans s5
   have Av:ys.length=acc.length:=by rw[rr.len,List.length_map]
   have j0:acc.length<sizeLine:=by
    have e1:=congrArg List.length gF
    rw[dO,List.length_cons]at e1
    omega
   refine⟨ys,jZ _ _ gO,by rw[Av];exact j0,ds.length-(i+1),by omega,rfl,aU,?_,ys++[w],acc++[z],r',bF,Au,by rw[gF,List.append_assoc];rfl,?_⟩
   ·intro a o e
    rw[aP (dm e hC)]
    exact jZ _ _ (s2 _ _ e)
   ·rw[List.map_append]
    have hz:Rp K (fun a=>¬(O a∨a=C)∧(bb=true→H₀ a=none)) H5 w z.2:=by
     have h:=hs z (by rw[gF];exact fj _ bV)
     cases bb with
     |true=>exact(h5.cf h).wk fun a h _=>⟨h.1,fun _=>h.2⟩
     |false=>exact(h5.fC h).wk fun a h _=>⟨h,fun z=>nomatch z⟩
    have kp:Keeps (fun a=>¬(O a∨a=C)∧(bb=true→H₀ a=none)) H5 (upd H5 C (.lst (ys++[w]))):=hN (fun a h z=>h.1 (.inr z)) (fun b o ne e=>by rw[aP ne];exact e) (fun o e=>by rw[jZ _ _ gO]at e;cases e;exact fun z=>z)
    exact((rr.keep (.same jZ)).keep kp).app (.cons (hz.keep kp) .nil)
  |false =>
   rw[if_neg aZ]at er ⊢
   have mF:=s3.trans s4
   exact⟨ds.length-(i+1),by omega,rfl,aU,s2.trans mF,ys,acc,rest,mF _ _ gO,er,gF,rr.keep (.same mF)⟩
 ·have hi:i=ds.length:=by omega
  subst hi
  rw[List.drop_length]at er
  cases er
  rw[List.append_nil]at gF
  subst gF
  exact .inl ⟨ok.stop O H2 a7,q ys H2 s2 gO rr⟩
theorem uf{wi:TI}{ix:List Nat}{tc:TT}{te:TE}{it:Ev→Option (M×List D)}{fc:Ev→Option Bool}{fe:Ev→Option (M×D)}(hi:JI K wi it)(hc:dR K tc fc)(he:JT K te fe):JT K (nJ wi ix tc te) (cC it ix fc fe):=by
 intro H₀ O H σ env Q m d R e q
 obtain⟨⟨mi,ds⟩,ei,e⟩:=ax e
 obtain⟨fV,et,e⟩:=ax e
 refine hi H₀ O H σ env _ mi ds R ei fun J H1 s1 hm ok C hC=>?_
 have R1:=R.keep s1
 unfold c9 at e
 split at e
 ·rename_i hl
  split at e
  ·rename_i ha
   cases e
   rw[List.all_eq_true]at ha
   refine CN (bb:=true) R1 hm ok hc he hl et (fun x hx=>ha x hx) hC fun ys H' s' hy r=>?_
   refine q _ H' (s1.trans s') ⟨C,rfl,s1.free hC,iT R1.hd hC,f7 R1.od hC,ys,hy,r.wk fun a h _=>⟨⟨fun z=>h.1 (.inl z),h.2 rfl⟩,fun z=>h.1 (.inr z)⟩⟩
  ·split at e
   ·rename_i ha
    cases e
    rw[List.all_eq_true]at ha
    refine CN (bb:=false) R1 hm ok hc he hl et (fun x hx=>ha x hx) hC fun ys H' s' hy r=>?_
    exact q _ H' (s1.trans s') (Rp.lst (.inl hy) (f7 R1.od hC) (r.wk fun a h _=>fun z=>h.1 (.inl z)))
   ·cases e
 ·cases e
theorem OX:∀e aB,ah e=some aB→aB.length=0:=fun e aB h=>by cases h;rfl
theorem M5{n:Nat}{f:Ev→Option (M×D)}{g:Ev→Option (List (M×D))}(h:∀e aB,g e=some aB→aB.length=n):∀e aB,ae f g e=some aB→aB.length=n+1:=fun e aB q=>by
 obtain⟨x,ex,q⟩:=ax q
 obtain⟨r,er,q⟩:=ax q
 cases q
 rw[List.length_cons,h e r er]
end
section
variable {K:PySem.W.Frag}{H H' H₀:Hp}{O O':Addr→Prop}{σ:L2.St}{env:Ev}
theorem zE{X:Cx}{f:Value→Value→Sem Value}{r r':R2}(h:bI X f r)(h':bI X f r'):bI X f (fun x y H Q=>r x y H Q∨r' x y H Q) :=
 fun pins s σ H x y v u Q I rx ry q=>q.elim (h pins s σ H x y v u Q I rx ry) (h' pins s σ H x y v u Q I rx ry)
noncomputable def mG(g g':M×D→M×D→Option (M×D)):M×D→M×D→Option (M×D):=fun a b=>match g a b with
 |some z=>some z
 |none=>g' a b
theorem yS{r r':R2}{g g':M×D→M×D→Option (M×D)}(h:JR K r g)(h':JR K r' g'):JR K (fun x y H Q=>r x y H Q∨r' x y H Q) (mG g g'):=by
 intro H₀ O H x y a b Q m d od hd h1 h2 e q
 unfold mG at e
 split at e
 ·rename_i z ez;cases e;exact .inl (h H₀ O H x y a b Q m d od hd h1 h2 ez q)
 ·exact .inr (h' H₀ O H x y a b Q m d od hd h1 h2 e q)
noncomputable def nL:M×D→M×D→Option (M×D)
 | (_,.str x),(_,.str y)=>if x.length+y.length≤sizeLine then some (.fr,.str (x++y))else none
 |_,_=>none
theorem OY:JR K (fun x y H Q=>∃i j,x=.str i∧y=.str j∧i.length+j.length≤sizeLine∧Q (.str (i++j)) H) nL:=by
 intro H₀ O H x y a b Q m d _ _ h1 h2 h q
 obtain⟨ma,da⟩:=a;obtain⟨mb,db⟩:=b
 cases da<;>try (cases h;done)
 cases db<;>try (cases h;done)
 simp only[nL]at h
 split at h
 ·rename_i hl;cases h
  exact⟨_,_,h1.str,h2.str,hl,q _ H (aJ.refl H) yP⟩
 ·cases h
noncomputable def uN(K:PySem.W.Frag):R2:=fun x y H Q=>∃a b xs ys,x=.ref a∧y=.ref b∧a8 K H a xs∧a8 K H b ys∧xs.length+ys.length≤sizeLine∧∀p H',aJ H H'→a8 K H' p (xs++ys)→Q (.ref p) H'
theorem OZ{X:Cx}:bI X (binaryOp .Add) (uN X.K):=by
 intro pins s σ H x y v u Q I rx ry h
 obtain⟨a,b,xs,ys,rfl,rfl,ha,hb,hz,q⟩:=h
 by_cases e:xs=[]
 ·subst e
  cases rx;cases ry
  obtain⟨its,r1,p1,_⟩:=I.tuple ha;obtain⟨kK,r2,p2,_⟩:=I.tuple hb
  cases r1
  exact MH p1 p2 ⟨.ref b,H,I,rfl,q b H (aJ.refl H) hb⟩
 ·refine Oe pins s σ H (.ref a) (.ref b) v u Q I rx ry ⟨a,b,xs,ys,rfl,rfl,ha,hb,e,hz,fun e2=>?_,fun _ p hp=>q p _ (cn hp) (a8.of bF)⟩
  subst e2
  exact q a H (aJ.refl H) (by rw[List.append_nil];exact ha)
theorem M6{X:Cx}(h:X.K=K):bI X (binaryOp .Add) (uN K):=by subst h;exact OZ
noncomputable def uO:M×D→M×D→Option (M×D)
 | (m,.tup ds),(n,.tup es)=>if aQ m=.rb∨aQ n=.rb then none else if ds.length+es.length≤sizeLine then some (aQ (mJ m n),.tup (ds++es))else none
 |_,_=>none
theorem O4:JR K (uN K) uO:=by
 intro H₀ O H x y a b Q m d od hd h1 h2 h q
 obtain⟨ma,da⟩:=a;obtain⟨mb,db⟩:=b
 cases da<;>try (cases db<;>cases h;done)
 cases db<;>try (cases h;done)
 simp only[uO]at h
 split at h
 ·cases h
 ·rename_i hn
  split at h
  ·rename_i hl
   cases h
   obtain⟨p,xs,rfl,r,s⟩:=h1.tup
   obtain⟨p',Aq,rfl,r',s'⟩:=h2.tup
   have n1:aQ ma≠.rb:=fun z=>hn (.inl z)
   have n2:aQ mb≠.rb:=fun z=>hn (.inr z)
   refine⟨p,p',xs,Aq,rfl,rfl,r,r',by rw[s.len,s'.len];exact hl,fun l H' sm hq=>q _ _ sm (Val.el (Rp.tup hq ?_))⟩
   exact(aA.app (s.wk fun _ h _=>NM.HN n1 n2 h) (s'.wk fun _ h _=>NM.HQ n1 n2 h)).keep (.same sm)
  ·cases h
def zF(K:PySem.W.Frag):V→Option Int→Option Int→Hp→VK→Prop:=fun x lo hi H Q=>∃a xs,x=.ref a∧a8 K H a xs∧∀p H',aJ H H'→a8 K H' p (iA xs lo hi)→Q (.ref p) H'
theorem O6{X:Cx}:jS X (zF X.K):=by
 intro pins s σ H x v vl vu lo hi sl Q I rx hs pl pu h
 obtain⟨a,xs,rfl,hx,q⟩:=h
 by_cases e:HT.aW xs.length 0 lo=0∧HT.aW xs.length xs.length hi=xs.length
 ·cases rx
  obtain⟨its,r,ht,hz⟩:=I.tuple hx
  have hlen:its.toArray.size=xs.length:=by rw[List.size_toArray];exact r.length.symm
  refine⟨"tuple",_,PyProof.Rows.slot_tuple_getitem.lookup,ht.typeIs,J6 ht hs pl pu (by rw[hlen];exact e.1) (by rw[hlen];exact e.2) ⟨.ref a,H,I,rfl,q a H (aJ.refl H) ?_⟩⟩
  have ec:iA xs lo hi=xs:=by unfold iA;rw[e.1,e.2,List.drop_zero,Nat.sub_zero];exact List.take_of_length_le (a6 _)
  rw[ec];exact hx
 ·exact QV pins s σ H (.ref a) v vl vu lo hi sl Q I rx hs pl pu ⟨a,xs,rfl,hx,e,fun p hp=>q p _ (cn hp) (a8.of bF)⟩
noncomputable def Gz:M×D→Option Int→Option Int→Option (M×D)
 | (m,.tup ds),lo,hi=>some (aQ m,.tup (cut ds lo hi))
 |_,_,_=>none
theorem O7:k8 K (zF K) Gz:=by
 intro H₀ O H x lo hi a Q m d od hd h1 h q
 obtain⟨ma,da⟩:=a
 cases da<;>try (cases h;done)
 cases h
 obtain⟨p,xs,rfl,r,s⟩:=h1.tup
 exact⟨p,xs,rfl,r,fun l H' sm hq=>q _ _ sm (Val.el (Rp.tup hq (s.cut.keep (.same sm))))⟩
noncomputable def zG:M×D→Option Int→Option Int→Option (M×D)
 | (_,.str z),lo,hi=>if z.length≤sizeLine then some (.fr,.str (Txt.slice z lo hi))else none
 |_,_,_=>none
theorem O8:k8 K (fun x lo hi H Q=>∃z:Str,x=.str z∧z.length≤sizeLine∧Q (.str (Txt.slice z lo hi)) H) zG:=by
 intro H₀ O H x lo hi a Q m d od hd h1 h q
 obtain⟨ma,da⟩:=a
 cases da<;>try (cases h;done)
 simp only[zG]at h
 split at h
 ·rename_i hl;cases h;exact⟨_,h1.str,hl,q _ H (aJ.refl H) yP⟩
 ·cases h
noncomputable def qu(g g':M×D→Option Int→Option Int→Option (M×D)):M×D→Option Int→Option Int→Option (M×D):=fun a l h=>match g a l h with
 |some z=>some z
 |none=>g' a l h
theorem EX{r r':V→Option Int→Option Int→Hp→VK→Prop}{g g':M×D→Option Int→Option Int→Option (M×D)}(h:k8 K r g)(h':k8 K r' g'):k8 K (fun x l u H Q=>r x l u H Q∨r' x l u H Q) (qu g g'):=by
 intro H₀ O H x lo hi a Q m d od hd h1 e q
 unfold qu at e
 split at e
 ·rename_i z ez;cases e;exact .inl (h H₀ O H x lo hi a Q m d od hd h1 ez q)
 ·exact .inr (h' H₀ O H x lo hi a Q m d od hd h1 e q)
theorem EY{X:Cx}{r r':V→Option Int→Option Int→Hp→VK→Prop}(h:jS X r)(h':jS X r'):jS X (fun x l u H Q=>r x l u H Q∨r' x l u H Q) :=
 fun pins s σ H x v vl vu lo hi sl Q I rx hs pl pu q=>q.elim (h pins s σ H x v vl vu lo hi sl Q I rx hs pl pu) (h' pins s σ H x v vl vu lo hi sl Q I rx hs pl pu)
noncomputable abbrev zi(K:PySem.W.Frag):R2:=fun x y H Q=>fS (fun i j=>.int (i+j)) x y H Q∨(fun x y H Q=>(fun x y H Q=>∃i j,x=.str i∧y=.str j∧i.length+j.length≤sizeLine∧Q (.str (i++j)) H) x y H Q∨(fun x y H Q=>uM K x y H Q∨uN K x y H Q) x y H Q) x y H Q
noncomputable def bC:=mG Gy (mG nL (mG n6 uO))
theorem O9{X:Cx}(h:X.K=K):bI X (binaryOp .Add) (zi K):=zE QJ (zE KJ (zE (MZ h) (M6 h)))
theorem Pa:JR K (zi K) bC:=yS Rj (yS OY (yS Rz O4))
abbrev HS(K:PySem.W.Frag):V→Option Int→Option Int→Hp→VK→Prop:=fun x l u H Q=>zj K x l u H Q∨(fun x l u H Q=>zF K x l u H Q∨(fun x lo hi H Q=>∃z:Str,x=.str z∧z.length≤sizeLine∧Q (.str (Txt.slice z lo hi)) H) x l u H Q) x l u H Q
noncomputable def gq:=qu zA (qu Gz zG)
theorem VB{X:Cx}(h:X.K=K):jS X (HS K):=by subst h;exact EY Oh (EY O6 Rg)
theorem T5:k8 K (HS K) gq:=EX MQ (EX O7 O8)
noncomputable def ra:D→String
 |.non => "NoneType"
 |.bl _ => "bool"
 |.int _ => "int"
 |.str _ => "str"
 |.ty _ => "type"
 |.tup _ => "tuple"
 |.lst _ => "list"
 |.dk _ => "dict"
 |.dt _ => "dict"
noncomputable def lY:List (M×D)→Option (M×D)
 |[(_,d),(_,.ty T)]=>if ra d = "type" then none else if ["bool", "int", "str", "tuple", "list", "dict"].contains T=true then some (.fr,.bl (ra d==T||(ra d == "bool" && T == "int")))else none
 |_=>none
end
inductive TyJ (K:PySem.W.Frag)(H:Hp):V→String→Prop where
 |non:TyJ K H .non "NoneType"
 |bl (x:Bool):TyJ K H (.bl x) "bool"
 |int (i:Int):TyJ K H (.int i) "int"
 |str (x:Str):TyJ K H (.str x) "str"
 |lst {a:Addr}{xs:List V} (e:bH K H a xs):TyJ K H (.ref a) "list"
 |tup {a:Addr}{xs:List V} (e:a8 K H a xs):TyJ K H (.ref a) "tuple"
 |dK {a:Addr}{ai:List (Key×V)} (e:Rd H a (.dK ai)):TyJ K H (.ref a) "dict"
 |dT {a:Addr}{ai:List (List Key×V)} (e:Rd H a (.dT ai)):TyJ K H (.ref a) "dict"
noncomputable def rg(t T:String):Bool:=t==T||(t == "bool" && T == "int")
theorem RQ (K:PySem.W.Frag) {t T:String} (h1:["NoneType", "bool", "int", "str", "tuple", "list", "dict"].contains t=true) (h2:["bool", "int", "str", "tuple", "list", "dict"].contains T=true):PySem.W.kitOne K (.type t) (.type T)=some (rg t T):=by
 simp only[List.contains_cons,List.contains_nil,Bool.or_false,Bool.or_eq_true,beq_iff_eq]at h1 h2
 rcases h1 with rfl|rfl|rfl|rfl|rfl|rfl|rfl<;>rcases h2 with rfl|rfl|rfl|rfl|rfl|rfl<;>rfl
section
variable {K:PySem.W.Frag}{H H' H₀:Hp}{O O':Addr→Prop}{σ:L2.St}{env:Ev}
theorem RT{x:V}{t:String}(h:TyJ K H x t):["NoneType", "bool", "int", "str", "tuple", "list", "dict"].contains t=true:=by cases h<;>decide
theorem LX{X:Cx}(hK:X.K=K):ft X (.builtin "isinstance") (fun xs H Q=>∃x T t,xs=[x,.ty T]∧TyJ K H x t∧["bool", "int", "str", "tuple", "list", "dict"].contains T=true∧Q (.bl (rg t T)) H):=by
 subst hK
 intro pins s σ H xs us Q I r h
 obtain⟨x,T,t,rfl,ty,hT,q⟩:=h
 obtain⟨u,u',rfl,rx,ry⟩:=vals2 r
 cases (show u'=Value.type T from ry)
 have e:=RQ X.K (RT ty) hT
 have fin:∀tk,EP X pins σ Q (.bool (rg t T)) { s with toks:=tk }:=fun tk=>⟨.bl (rg t T),H,I.tok tk,rfl,q⟩
 cases ty with
 |non=>cases (show u=Value.none from rx);exact PySem.W.kia_one PySem.W.kitx_none I.fO True.intro e (fun z=>nomatch z) fin
 |bl y=>cases (show u=Value.bool y from rx);exact PySem.W.kia_one PySem.W.kitx_bool I.fO True.intro e (fun z=>nomatch z) fin
 |int i=>obtain⟨t,q⟩:=(show ∃t,u=Value.int i t from rx);cases q;exact PySem.W.kia_one PySem.W.kitx_int I.fO True.intro e (fun z=>nomatch z) fin
 |str y=>obtain⟨t,q⟩:=(show ∃t,u=Value.str y t from rx);cases q;exact PySem.W.kia_one PySem.W.kitx_str I.fO True.intro e (fun z=>nomatch z) fin
 |@lst a xs ea =>
  cases (show u=Value.ref a from rx)
  obtain⟨its,_,⟨o,n,h1,h2,_⟩,_⟩:=I.list ea
  exact PySem.W.kia_one PySem.W.kitx_list I.fO ⟨o,h1,h2⟩ e (fun z=>nomatch z) fin
 |@tup a xs ea =>
  cases (show u=Value.ref a from rx)
  obtain⟨its,_,p,_⟩:=I.tuple ea
  obtain⟨o,h1,h2,_⟩:=p
  exact PySem.W.kia_one PySem.W.kitx_tuple I.fO ⟨o,h1,h2⟩ e (fun z=>nomatch z) fin
 |@dK a ai ea =>
  cases (show u=Value.ref a from rx)
  obtain⟨_,_,vs,_,p⟩:=ea.ok I.aH
  obtain⟨o,es,ep,h1,h2,_⟩:=p
  exact PySem.W.kia_one PySem.W.kitx_dict I.fO ⟨o,h1,h2.1⟩ e (fun z=>nomatch z) fin
 |@dT a ai ea =>
  cases (show u=Value.ref a from rx)
  obtain⟨_,_,vs,_,o,es,ep,h1,h2,_⟩:=ea.ok I.aH
  exact PySem.W.kia_one PySem.W.kitx_dict I.fO ⟨o,h1,h2.1⟩ e (fun z=>nomatch z) fin
theorem RV {N:Addr→Prop}{v:V}{d:D} (h:Rp K N H v d) (n:ra d ≠ "type"):TyJ K H v (ra d):=by
 cases h with
 |non=>exact .non
 |bl b=>exact .bl b
 |int i=>exact .int i
 |str x=>exact .str x
 |ty x=>exact absurd rfl n
 |tup h _=>exact .tup h
 |lst h _ _=>exact .lst (.inl h)
 |lstK h _=>exact .lst (.inr h)
 |dk h _ _ _=>exact .dK h
 |dt h _ _ _=>exact .dT h
theorem Pb:iM K (fun xs H Q=>∃x T t,xs=[x,.ty T]∧TyJ K H x t∧["bool", "int", "str", "tuple", "list", "dict"].contains T=true∧Q (.bl (rg t T)) H) lY:=by
 intro H₀ O H vs aB Q m d _ _ hv h q
 unfold lY at h
 split at h
 ·split at h
  ·cases h
  ·rename_i hn
   split at h
   ·rename_i hT
    cases h
    obtain⟨v,w,rfl,hx,hw⟩:=hv.two
    obtain rfl:=hw.ty
    exact⟨v,_,_,rfl,RV hx.weak hn,hT,q _ H (aJ.refl H) eJ⟩
   ·cases h
 ·cases h
end
section
variable {K:PySem.W.Frag}{H:Hp}
theorem xY{N:Addr→Prop}:∀(ns:List Int),aA K N H (ns.map V.int) (ns.map D.int)
 |[]=>.nil
 |n::ns=>.cons (.int n) (xY ns)
theorem RW{F:List D→Option (M×D)}{a:Addr}{ns:List Int}{E:XK}(h:bH K H a (ns.map V.int))(e:∃m,F [.lst (ns.map .int)]=some (m,.bl true)):mD K 1 F [.ref a] H (fun v _=>v=.bl true) E:=by
 obtain⟨m,e⟩:=e
 refine⟨rfl,_,m,_,.cons ?_ .nil,e,fun v H' _ r=>?_⟩
 ·rcases h with h|h
  ·exact .lst h trivial (xY ns)
  ·exact .lstK h (xY ns)
 ·cases m<;>try exact r.elim
  ·exact Rp.EW r
  ·obtain⟨p,_,_,c⟩:=r;exact c.elim
end
section
variable {m n:M}{i j:Int}{x y:Str}{b c:Bool}{ds es:List D}{d:D}
theorem lK:aL (m,.int i) (n,.int j)=some (.fr,.bl (decide (i=j))):=by simp[aL,dH,jJ]
theorem cS:aL (m,.str x) (n,.str y)=some (.fr,.bl (decide (x=y))):=by simp[aL,dH,jJ]
theorem T6:aL (m,.str x) (n,.int j)=some (.fr,.bl false):=by simp[aL,dH,jJ]
theorem FW:dS (m,.int i) (n,.int j)=some (.fr,.bl (!decide (i=j))):=by simp[dS,dH,jJ]
theorem yT:dS (m,.str x) (n,.str y)=some (.fr,.bl (!decide (x=y))):=by simp[dS,dH,jJ]
theorem ny:bC (m,.int i) (n,.int j)=some (.fr,.int (i+j)):=rfl
theorem uv(h:x.length+y.length≤sizeLine):bC (m,.str x) (n,.str y)=some (.fr,.str (x++y)):=by
 show(match (none:Option (M×D)) with|some z=>some z|none=>mG nL (mG n6 uO) (m,.str x) (n,.str y))=_
 show(match nL (m,.str x) (n,.str y) with|some z=>some z|none=>_)=_
 simp only[nL,if_pos h]
theorem yp(hm:aQ m≠.rb)(hn:aQ n≠.rb)(h:ds.length+es.length≤sizeLine):bC (m,.lst ds) (n,.lst es)=gp (mJ m n) (ds++es):=by
 show(match n6 (m,.lst ds) (n,.lst es) with|some z=>some z|none=>none)=_
 simp only[n6,hm,hn,or_self,if_false,h,if_true]
 cases gp (mJ m n) (ds++es)<;>rfl
theorem yq:g6 (m,.int i) (n,.int j)=some (.fr,.int (i-j)):=rfl
theorem mul_r(h:-18446744073709551616<j∧j<18446744073709551616):eQ (m,.int i) (n,.int j)=some (.fr,.int (i*j)):=by show(if _ then _ else _)=_;rw[if_pos (.inr h)]
theorem FX(h:-18446744073709551616<i∧i<18446744073709551616):eQ (m,.int i) (n,.int j)=some (.fr,.int (i*j)):=by show(if _ then _ else _)=_;rw[if_pos (.inl h)]
theorem iV(h:0<j):aR (m,.int i) (n,.int j)=some (.fr,.int (i%j)):=by show(if _ then _ else _)=_;rw[if_pos h]
theorem div_ii(h:0<j∧j<1606938044258990275541962092341162602522202993782792835301376):bW (m,.int i) (n,.int j)=some (.fr,.int (i/j)):=by show(if _ then _ else _)=_;rw[if_pos h]
theorem yr(h:0≤j∧j≤1000000∧i.natAbs<2^64):gD (m,.int i) (n,.int j)=some (.fr,.int (i^j.toNat)):=by show(if _ then _ else _)=_;rw[if_pos h]
theorem T7:gD (m,.int 2) (n,.int 64)=some (.fr,.int 18446744073709551616):=by
 rw[yr (by decide)]
 have:(2:Int)^(64:Int).toNat=18446744073709551616:=by decide
 rw[this]
theorem T8:fD (m,.int i) (n,.int j)=some (.fr,.bl (decide (i<j))):=rfl
theorem T9:oB (m,.int i) (n,.int j)=some (.fr,.bl (decide (i≤j))):=rfl
theorem nM:gR (m,.int i) (n,.int j)=some (.fr,.bl (decide (j<i))):=rfl
theorem lL:dX (m,.int i)=some (.fr,.int (-i)):=rfl
theorem dq:ao (m,.lst ds) (n,.int i)=(bB ds i).map fun d=>(aQ m,d):=rfl
theorem Ua(h:x.length≤sizeLine):ao (m,.str x) (n,.int i)=(bB x.cps.toList i).map fun c=>(.fr,.str ⟨#[c]⟩):=by simp[ao,h]
theorem cT:bx [(m,.lst ds)]=some (.fr,.int ds.length):=rfl
theorem Ub:kQ [(m,.bl b)]=some (.fr,.int (if b then 1 else 0)):=rfl
theorem bh:k7 (m,.bl b)=some b:=rfl
theorem jD:lW (m,.int i)=some i:=rfl
theorem fI:nr (.fr,d)=some (.fr,d):=rfl
theorem Pg:nr (.al,d)=some (.al,d):=rfl
theorem gb:nr (.un,d)=some (.bo,d):=rfl
theorem uw{e:Ev}:out (.rt e .fr d)=some (.fr,d):=rfl
theorem ux{e:Ev}:out (.rt e .un d)=some (.un,d):=rfl
theorem yt{e:Ev}:out (.rt e .bo d)=some (.un,d):=rfl
theorem EZ{e:Ev}(h:d.bU=true):out (.rt e .al d)=some (.fr,d):=by simp[out,h]
theorem fJ:cf .fr d=true:=rfl
theorem uz:cf .al d=d.bU:=rfl
theorem vk:D.bU (.int i)=true:=by simp only[D.bU]
theorem GA:D.bU (.str x)=true:=by simp only[D.bU]
theorem dn:aQ .al=.al:=rfl
theorem kj:aQ .fr=.fr:=rfl
theorem RX:aQ .un=.fr:=rfl
theorem yu:aQ .bo=.fr:=rfl
theorem yv:gp .fr ds=some (.un,.lst ds):=by simp[gp,aQ]
theorem aw{f g:Ev→Option Fl}{e e':Ev}(h:f e=some (.nx e')):aq f g e=g e':=by simp[aq,h]
theorem dJ{f g:Ev→Option Fl}{e e':Ev}(h:f e=some (.rt e' m d)):aq f g e=some (.rt e' m d):=by simp[aq,h]
theorem bA{c:Ev→Option Bool}{f g:Ev→Option Fl}{e:Ev}(h:c e=some true):aO c f g e=f e:=by simp[aO,h]
theorem bL{c:Ev→Option Bool}{f g:Ev→Option Fl}{e:Ev}(h:c e=some false):aO c f g e=g e:=by simp[aO,h]
theorem xC:∀ns:List Int,D.bS (ns.map .int)=true
 |[]=>by simp only[List.map_nil,D.bS]
 |n::ns=>by simp only[List.map_cons,D.bS,D.bU,xC ns,Bool.and_self]
theorem lD{α:Type}{l:List α}{k:Nat}(h:k<l.length):L2.bB l (k:Int)=some l[k]:=by
 unfold L2.bB L2.dP
 rw[if_pos (Int.natCast_nonneg k),if_pos (by omega)]
 simp[h]
theorem gW{α:Type}{l:List α}{k:Int}(h0:0≤k)(h1:k<l.length):L2.bB l k=some (l[k.toNat]'(by omega)):=by
 unfold L2.bB L2.dP
 rw[if_pos h0,if_pos h1]
 have:k.toNat<l.length:=by omega
 simp[this]
theorem Dq{ns:List Int}{k:Int}(h0:0≤k)(h1:k<ns.length):∃c,L2.bB (ns.map D.int) k=some (.int c):=by
 rw[gW h0 (by simpa using h1)]
 exact⟨ns[k.toNat]'(by omega),by simp⟩
end
theorem dI{g:M×D→Ev→Option Ev}{b:Ev→Option Fl}{m:M}:∀{ds:List D}{e:Ev} (Iv:Nat→Ev→Prop),Iv 0 e →
  (∀(k:Nat) d e,ds[k]?=some d→Iv k e→∃e1 e2,g (m,d) e=some e1∧b e1=some (.nx e2)∧Iv (k+1) e2)→∃e',forL g b m ds e=some (.nx e')∧Iv ds.length e'
 |[],e,Iv,h0,_=>⟨e,rfl,h0⟩
 |d::ds,e,Iv,h0,hs=>by
  obtain⟨e1,e2,h1,h2,h3⟩:=hs 0 d e rfl h0
  obtain⟨e',h4,h5⟩:=dI (ds:=ds) (e:=e2) (fun k e=>Iv (k+1) e) h3 fun k d e hd hi=>hs (k+1) d e (by simpa using hd) hi
  refine⟨e',?_,h5⟩
  simp only[forL,h1,h2,Option.bind_some]
  exact h4
theorem jE{lo:Int}{n k:Nat}{d:D}(h:(bY lo n)[k]?=some d):k<n∧d=.int (lo+k):=by
 unfold bY at h
 rw[dG]at h
 have hk:k<n:=by
  rcases Nat.lt_or_ge k n with z|z
  ·exact z
  ·rw[List.getElem?_eq_none (by simpa using z)]at h;cases h
 rw[List.getElem?_range hk]at h
 cases h
 exact⟨hk,rfl⟩
theorem ik{lo:Int}{n:Nat}:(bY lo n).length=n:=by simp[bY]
theorem xD{c:Ev→Option Bool}{b:Ev→Option Fl}{e:Ev}(Iv:Ev→Prop)(μ:Ev→Nat)(h0:Iv e)
  (hs:∀e,Iv e→c e=some false∨(c e=some true∧∃e2,b e=some (.nx e2)∧Iv e2∧μ e2<μ e)):∃e',gB c b e=some (.nx e')∧Iv e'∧c e'=some false:=by
 have:∀(n:Nat) e,μ e≤n→Iv e→∃e',cL c b (n+1) e=some (.nx e')∧Iv e'∧c e'=some false:=by
  intro n
  induction n with
  |zero =>
   intro e hn hi
   rcases hs e hi with h|⟨_,e2,_,_,h⟩
   ·exact⟨e,by simp[cL,h],hi,h⟩
   ·omega
  |succ n ih =>
   intro e hn hi
   rcases hs e hi with h|⟨h,e2,h1,h2,h3⟩
   ·exact⟨e,by simp[cL,h],hi,h⟩
   ·obtain⟨e',q1,q2,q3⟩:=ih e2 (by omega) h2
    refine⟨e',?_,q2,q3⟩
    rw[cL,h,Option.bind_some,if_pos rfl,h1,Option.bind_some]
    exact q1
 obtain⟨e',h1,h2,h3⟩:=this (μ e) e (a6 _) h0
 exact⟨e',xB h1,h2,h3⟩
theorem vV{n:Nat}(h:n≤1000):(n≤sizeLine)=True:=eq_true (bP h (by decide))
end J
namespace J
open PySem PySem.Spec PyProof.Rows L2
section
variable {X:Cx}{pins:List (Addr×Obj)}{σ:L2.St}{H:Hp}{s:Shared}{h':Heap}
theorem K0{fp:List Addr}{t':Nat}(I:L2.Inv X pins σ H s)(k:∀b o,b∉fp→s.heap.get? b=some o→h'.get? b=some o)(hf:∀b∈fp,gC X pins H b):L2.Inv X pins σ H { s with heap:=h',toks:=t' }:=by
 have kZ:∀b u,H b=some u→b∉fp:=fun b u e z=>by rw[(hf b z).1]at e;cases e
 refine I.step (g':=s.gens) (d':=s.drawn) (ch:=fp) (fun b hb=>?_) (fun b o _ _ hc e _=>k b o hc e) (fun b o _ _ hc e _=>⟨o.slots,k b o hc e⟩) (fun _ _ _ _ n=>n)
  (fun b o hc e=>⟨o,k b o hc e⟩) (fun _ _ e=>e) (fun _ _ _ e=>e) (fun b ps e=>⟨#[],by rw[e];simp⟩) (fun m hm=>?_) (fun b u e=>?_) I.bare
 ·obtain⟨f0,f1,f2,f3,f4,f5⟩:=hf b hb
  exact⟨f3,f1,f4,f5⟩
 ·obtain⟨o,es,ep,ho,r⟩:=hm
  exact⟨o,es,ep,k _ o (fun z=>(hf _ z).2.1 rfl) ho,r⟩
 ·refine(I.aH b u e).lS (fun c v hc q=>k c v ?_ q) (fun _ q=>q) fun _ _ q=>q
  rcases hc with z|z
  ·rw[z];exact kZ b u e
  ·exact kZ c _ z
theorem Kw{fp:List Addr}{t':Nat}{o:HO}(I:L2.Inv X pins σ H s)(k:∀b o,b∉fp→s.heap.get? b=some o→h'.get? b=some o)(hf:∀b∈fp,gC X pins H b)(new:cM X.prog X.w (upd H s.heap.objs.size o) h' s.heap.objs.size o) :
  L2.Inv X pins σ (upd H s.heap.objs.size o) { s with heap:=h',toks:=t' }:=by
 have kZ:∀b u,H b=some u→b∉fp:=fun b u e z=>by rw[(hf b z).1]at e;cases e
 have hT:H s.heap.objs.size=none:=I.aH.fresh (a6 _)
 have neT:∀b u,H b=some u→b≠s.heap.objs.size:=fun b u e=>dm e hT
 have WR:∀b o,s.heap.get? b=some o→b≠s.heap.objs.size:=fun b o e=>Nat.ne_of_lt (bT e)
 refine I.step (g':=s.gens) (d':=s.drawn) (ch:=fp) (fun b hb=>?_) (fun b o _ _ hc e _=>k b o hc e) (fun b o _ _ hc e _=>⟨o.slots,k b o hc e⟩) (fun b o _ e n=>by rw[aP (WR b o e)];exact n)
  (fun b o hc e=>⟨o,k b o hc e⟩) (fun b xs e=>by rw[aP (neT b _ e)];exact e) (fun b _ _ e=>by rw[aP (neT b _ e)];exact e) (fun b ps e=>⟨#[],by rw[aP (neT b _ e),e];simp⟩) (fun m hm=>?_) (fun b u e=>?_) I.bare
 ·obtain⟨f0,f1,f2,f3,f4,f5⟩:=hf b hb
  exact⟨f3,f1,f4,f5⟩
 ·obtain⟨o,es,ep,ho,r⟩:=hm
  exact⟨o,es,ep,k _ o (fun z=>(hf _ z).2.1 rfl) ho,r⟩
 ·by_cases hb:b=s.heap.objs.size
  ·subst hb;rw[bF]at e;cases e;exact new
  ·rw[aP hb]at e
   refine(I.aH b u e).lS (fun c v hc q=>k c v ?_ q) (fun c q=>by rw[aP (neT c _ q)];exact q) fun c xs q=>by rw[aP (neT c _ q)];exact q
   rcases hc with z|z
   ·rw[z];exact kZ b u e
   ·exact kZ c _ z
end
noncomputable def Aw(K:PySem.W.Frag)(a:Addr):It :=
 ⟨fun i H=>∃xs x,bH K H a xs∧xs[i]?=some x,fun i H x H'=>∃t y,x=.ref t∧H t=none∧H'=upd H t (.tup [.int i,y])∧∀xs,bH K H a xs→xs[i]?=some y,fun i H=>∃xs,bH K H a xs∧xs.length≤i⟩
theorem LY{P:Program}{w:World}{K:PySem.W.Frag}{elts:List Expr}{x1}{pos:Pos}(a e it:Addr)(vN:e≠it):Turn P w K (.Tuple elts x1 pos) (Aw K a) [e,it] e (fun i h=>(∃old,IsEnum h e it i old)∧h.IsListIter it a i) where
 mem:=by simp
 obj:=fun i h st b hb=>by
  obtain⟨⟨old,he⟩,o,ho,c,d⟩:=st
  rcases cJ.mp hb with rfl|hb
  ·exact⟨_,he,fun v z=>nomatch z⟩
  ·have e:b=it:=by simpa using hb
   subst e
   exact⟨o,ho,fun v z=>by rw[d]at z;cases z⟩
 keep:=fun i h h' st k=>by
  obtain⟨⟨old,he⟩,hit⟩:=st
  exact⟨⟨old,k e (by simp) _ he⟩,hit.at fun o q=>k it (by simp) o q⟩
 item:=by
  intro X hP hw hK hc i pins s σ H E I hf st hg
  subst hP hw hK
  obtain⟨xs,x,hq,hx⟩:=hg
  obtain⟨its,rv,p,hz⟩:=I.list hq
  obtain⟨u,hu,ru⟩:=rv.get hx
  obtain⟨⟨old,he⟩,hit⟩:=st
  have Ax:e<s.heap.objs.size:=bT he
  have WT:it<s.heap.objs.size:=by obtain⟨_,q,_⟩:=hit;exact bT q
  have hT:H s.heap.objs.size=none:=I.aH.fresh (a6 _)
  refine wpAny_pyNext_enum_item he hit p.isList (x:=u) (by simpa using hu) vN fun h1 ho VC ht hsz hk=>⟨_,rfl,?_⟩
  refine wpAny_letOwnedTupleGo_enum ho fun h2 Ay sb=>?_
  have WU:h2.get? s.heap.objs.size=some { cls:=.type "tuple",data:=.seq #[.int i s.toks,u] }:=(sb.2 _ (Nat.ne_of_gt Ax)).trans ht
  have k2:∀b o,b∉[e,it]→s.heap.get? b=some o→h2.get? b=some o:=fun b o nb q=>by
   have n1:b≠e:=fun z=>nb (by simp[z])
   have n2:b≠it:=fun z=>nb (by simp[z])
   exact(sb.2 b n1).trans (hk b o n1 n2 q)
  refine⟨.ref s.heap.objs.size,upd H s.heap.objs.size (.tup [.int i,x]),?_,rfl,⟨s.heap.objs.size,x,rfl,hT,rfl,fun ys hy=>by rw[I.tO hy hq];exact hx⟩,⟨⟨_,by simpa using Ay⟩,VC.at fun o q=>(sb.2 it vN.symm).trans q⟩,fun b hb=>?_⟩
  ·refine Kw (t':=s.toks+1) I k2 hf ⟨by show 2≤sizeLine;decide,[.int i s.toks,u],.cons ⟨_,rfl⟩ (.cons ru .nil),⟨_,WU,rfl,rfl,_,rfl⟩⟩
  ·have vW:b<s.heap.objs.size:=by
    rcases cJ.mp hb with rfl|hb
    ·exact Ax
    ·have e:b=it:=by simpa using hb
     rw[e];exact WT
   rw[aP (Nat.ne_of_lt vW)]
   exact(hf b hb).1
 done:=by
  intro X hP hw hK hc i pins s σ H E I hf st hg
  subst hP hw hK
  obtain⟨xs,hq,hx⟩:=hg
  obtain⟨its,rv,p,hz⟩:=I.list hq
  obtain⟨⟨old,he⟩,hit⟩:=st
  have hl:=rv.length
  refine wpAny_pyNext_enum_end (I.ok.hd hc) he hit p.isList (by simp;omega) fun h1 eb=>⟨rfl,?_⟩
  exact K0 (fp:=[e,it]) (t':=s.toks) I (fun b o nb q=>eb b o (fun z=>nb (by simp[z])) q) hf
 self:=fun A i s Q E st h=>by
  obtain⟨⟨old,he⟩,_⟩:=st
  exact wpAny_pyIter_enum he h
section
variable {X:Cx}
noncomputable def yU(K:PySem.W.Frag)(ta:TA):TI:=fun σ H R=>ta σ H fun vs H1=>∃a xs,vs=[.ref a]∧bH K H1 a xs∧R (Aw K a) H1
theorem Ph {a:Expr}{ta:TA}{p pos pos':Pos}{elts:List Expr} {x1} (hg:Gl X "enumerate") (hm:X.mg "enumerate" = none) (ha:PA X [a] ta) (hs:starEach [a] X.env=[(false,eval a X.env)]:=by rfl):PI X (.Tuple elts x1 pos') (.Call (.Name "enumerate" p) [a] [] pos) (yU X.K ta):=by
 intro pins s σ H R I h
 refine Call_ (m6 I hg hm PyProof.Rows.Boot.«enumerate» (PyProof.Rows.callWith_type1 (aG (ha pos pins s σ H _ I h) fun us s1 ⟨vs,H1,I1,r1,q1⟩=>?_) hs rfl))
 obtain⟨l,xs,e,hq,q⟩:=q1
 subst e
 cases r1 with
 |cons r rr =>
  cases rr
  cases r
  obtain⟨its,rv,pl,hz⟩:=I1.list hq
  refine call_enumerate_list pl.isList fun h1 he hit hsz hk=>?_
  have I2:L2.Inv X pins σ H1 { s1 with heap:=h1 }:=I1.kept (t':=s1.toks) hk
  refine wpAny_pyIter_enum he ?_
  have n1:s1.heap.objs.size+1≠s1.heap.objs.size:=by omega
  refine⟨s1.heap.objs.size+1,[s1.heap.objs.size+1,s1.heap.objs.size],_,_,H1,rfl,I2,LY l _ _ n1,⟨⟨_,he⟩,hit⟩,fun b hb=>?_,q⟩
  have vW:s1.heap.objs.size≤b:=by
   rcases cJ.mp hb with rfl|hb
   ·omega
   ·have e:b=s1.heap.objs.size:=by simpa using hb
    exact Nat.le_of_eq e.symm
  have z:=I1.nV (H':=H1) vW (I1.aH.fresh vW)
  exact z
theorem M7 {K:PySem.W.Frag}{a:Expr}{ta:TA}{p pos pos':Pos}{elts:List Expr} {x1} (hK:X.K=K) (hg:Gl X "enumerate") (hm:X.mg "enumerate" = none) (ha:PA X [a] ta) (hs:starEach [a] X.env=[(false,eval a X.env)]:=by rfl):PI X (.Tuple elts x1 pos') (.Call (.Name "enumerate" p) [a] [] pos) (yU K ta):=by subst hK;exact Ph hg hm ha hs
end
noncomputable def cI(ds:List D):List D:=ds.mapIdx fun i d=>.tup [.int i,d]
noncomputable def jo(fs:Ev→Option (List (M×D))):Ev→Option (M×List D):=fun e=>(fs e).bind fun l=>match l with
 |[(m,.lst ds)]=>(b8 m).map fun n=>(n,cI ds)
 |_=>none
section
variable {K:PySem.W.Frag}{H H' H₀:Hp}{O O':Addr→Prop}{σ:L2.St}{env:Ev}
theorem LZ{a:Addr}{xs:List V}{ds:List D}{n:M}(e:fu n=true)(on:∀a o,O a→H a=some o→¬hX o)(hr:(Rd H a (.lst xs)∧¬O a)∨vR K a xs)(r:aA K (NM H₀ O n) H xs ds):kU K H₀ O (Aw K a) H n (cI ds):=by
 have st:∀{O2:Addr→Prop}{H2:Hp},aV O H O2 H2→bH K H2 a xs:=fun {O2 H2} s=>by
  rcases hr with⟨h|⟨o,h⟩,ha⟩|h
  ·exact .inl (.inl (s _ _ h ha).1)
  ·exact .inl (.inr ⟨o,(s _ _ h ha).1⟩)
  ·exact .inr h
 have l:(cI ds).length=ds.length:=by simp[cI]
 refine⟨fun O2 H2 i s hi=>?_,fun O2 H2 i x H3 s hi y=>?_,fun O2 H2 s=>⟨xs,st s,by rw[r.len,l];exact a6 _⟩⟩
 ·rw[l]at hi
  exact⟨xs,xs[i]'(by rw[r.len];exact hi),st s,by simp⟩
 ·rw[l]at hi
  obtain⟨t,z,rfl,ht,rfl,y⟩:=y
  have y:=y xs (st s)
  obtain⟨v,hv,rv⟩:=r.get (i:=i) (d:=ds[i]) (by simp[hi])
  rw[y]at hv;cases hv
  have sm:aJ H2 (upd H2 t (.tup [.int i,z])):=cn ht
  have hz:=(xW e on s rv).keep sm
  refine⟨sm,.tup [.int i,ds[i]],by simp[cI,hi],?_⟩
  cases n
  ·exact Rp.tup (a8.of bF) (.cons (.int _) (.cons hz .nil))
  ·exact Rp.tup (a8.of bF) (.cons (.int _) (.cons hz .nil))
  ·cases e
  ·cases e
  ·cases e
  ·cases e
  ·cases e
theorem Pj{t:TA}{fs:Ev→Option (List (M×D))}(h:iL K t fs):JI K (yU K t) (jo fs):=by
 intro H₀ O H σ env R m ds Re e q
 obtain⟨l,el,e⟩:=ax e
 split at e
 ·rename_i m0 d0
  cases em:b8 m0 with
  |none=>rw[em]at e;cases e
  |some n =>
   rw[em]at e;cases e
   refine h H₀ O H σ env _ _ Re el fun vs H1 s1 h1=>?_
   obtain⟨v,rfl,hv⟩:=h1.one
   obtain⟨e1,a,xs,rfl,hr,r⟩:=D6 em hv
   exact⟨a,xs,rfl,hr.elim (fun z=>.inl z.1) .inr,q _ H1 s1 e1 (LZ e1 (Re.keep s1).on hr r)⟩
 ·cases e
end
end J
namespace J
open PySem L2
noncomputable def gS:D→Bool
 |.lst ds=>D.bS ds
 |.dk ks=>D.bS (ks.map (·.2))
 |.dt ks=>D.bS (ks.map (·.2))
 |_=>false
def iN(io:List Nat)(vs:List V)(a:Addr):Prop:=∃i,i∈io∧vs[i]?=some (.ref a)
structure uA (K:PySem.W.Frag)(H:Hp)(io:List Nat)(vs:List V)(ds:List D):Prop where
 len:vs.length=ds.length
 rd:∀(i:Nat) v d,i∉io→vs[i]?=some v→ds[i]?=some d→Rp K (fun a=>¬iN io vs a) H v d
 cl:∀(i:Nat) d,i∈io→ds[i]?=some d→∃p,vs[i]?=some (.ref p)∧Cell K (fun _=>False) H p d
 dj:∀(i j:Nat) p,i∈io→j∈io→vs[i]?=some (.ref p)→vs[j]?=some (.ref p)→i=j
noncomputable def iU(io:List Nat)(ds:List D):Ev:=ds.mapIdx fun i d=>some (if i∈io then M.bi else M.al,d)
section
variable {K:PySem.W.Frag}{H H' H₀:Hp}{I:Nat→Option Addr}{O O':Addr→Prop}{σ:L2.St}{env:Ev}
theorem Cell.im{N N':Addr→Prop}{p:Addr}{d:D}(e:gS d=true)(h:Cell K N H p d):Cell K N' H p d:=by
 cases d<;>simp only[gS]at e<;>try (cases e;done)
 ·obtain⟨xs,q,r⟩:=h;exact⟨xs,q,r.im e⟩
 ·obtain⟨xs,q,z,r⟩:=h;exact⟨xs,q,z,r.im e⟩
 ·obtain⟨xs,q,z,r⟩:=h;exact⟨xs,q,z,r.im e⟩
theorem Kx{io:List Nat}{N:List Str}{vs:List V}{ds:List D}(A:uA K H io vs ds):∃I0:Nat→Option Addr,(∀{i p},I0 i=some p→i∈io∧vs[i]?=some (.ref p))∧Rel K H I0 (iN io vs) H (L2.start N vs) (iU io ds++List.replicate (N.length-ds.length) none):=by
 let I0:Nat→Option Addr:=fun i=>if i∈io then (match vs[i]? with|some (.ref p)=>some p|_=>none)else none
 have oE:∀{i p},I0 i=some p→i∈io∧vs[i]?=some (.ref p):=fun {i p} z=>by
  simp only[I0]at z
  split at z
  ·rename_i hi
   split at z
   ·rename_i w hw;cases z;exact⟨hi,hw⟩
   ·cases z
  ·cases z
 have HV:∀{i p},i∈io→vs[i]?=some (.ref p)→I0 i=some p:=fun {i p} hi hv=>by simp only[I0,if_pos hi,hv]
 have pU:∀{i:Nat}{y:M×D},(iU io ds++List.replicate (N.length-ds.length) none)[i]?=some (some y)→ds[i]?=some y.2∧y.1=(if i∈io then M.bi else M.al):=fun {i y} z=>by
  rw[List.getElem?_append]at z
  split at z
  ·rename_i hi
   simp only[iU,List.getElem?_mapIdx,List.length_mapIdx]at z hi
   rw[eU hi]at z ⊢
   simp only[Option.map_some,Option.some.injEq]at z
   subst z;exact⟨rfl,rfl⟩
  ·have:=fm z
   have:=List.eq_of_mem_replicate this
   cases this
 have vm:∀{i:Nat}{v:V},vs[i]?=some v→(L2.start N vs)[i]?=some (some v):=fun {i v} z=>by
  unfold L2.start
  have hi:i<vs.length:=(bO.mp z).1
  rw[List.getElem?_append_left (by simpa using hi),dG,z];rfl
 refine⟨I0,oE,?_⟩
 show Rel K H I0 (iN io vs) H (L2.start N vs) (iU io ds++List.replicate (N.length-ds.length) none)
 refine⟨⟨lz ?_ ?_,?_,fun a o e=>⟨o,e⟩,?_⟩,fun a o _ e=>e,?_,?_,?_,?_⟩
 ·unfold L2.start iU;simp[A.len]
 ·intro j y z hy hz m' d' ey
  subst ey
  obtain⟨hd,hm⟩:=pU hy
  have hj:j<vs.length:=by rw[A.len];exact(bO.mp hd).1
  have hv:vs[j]?=some vs[j]:=eU hj
  rw[vm hv]at hz;cases hz
  simp only at hm hd
  by_cases hi:j∈io
  ·rw[if_pos hi]at hm;subst hm
   obtain⟨p,hp,c⟩:=A.cl j d' hi hd
   rw[hv]at hp
   refine⟨rfl,_,rfl,p,Option.some.inj hp,⟨j,hi,by rw[hv,hp]⟩,c.wk fun _ z _=>z.elim⟩
  ·rw[if_neg hi]at hm;subst hm
   exact⟨rfl,_,rfl,A.rd j _ d' hi hv hd⟩
 ·rintro a ⟨i,hi,hv⟩
  have aU:i<ds.length:=by rw[←A.len];exact(bO.mp hv).1
  obtain⟨p,hp,c⟩:=A.cl i ds[i] hi (eU aU)
  rw[hv]at hp;cases hp
  obtain⟨o,eo,_⟩:=c.some
  exact⟨o,eo⟩
 ·rintro a o ⟨i,hi,hv⟩ eo
  have aU:i<ds.length:=by rw[←A.len];exact(bO.mp hv).1
  obtain⟨p,hp,c⟩:=A.cl i ds[i] hi (eU aU)
  rw[hv]at hp;cases hp
  obtain⟨o',HW,nt⟩:=c.some
  rw[eo]at HW;cases HW;exact nt
 ·rintro a ⟨i,hi,hv⟩;exact .inl ⟨i,HV hi hv⟩
 ·intro i d' p h1 p1
  obtain⟨hd,hm⟩:=pU h1
  by_cases hi:i∈io
  ·obtain⟨p',hp,_⟩:=A.cl i d' hi hd
   rw[vm hp]at p1;cases p1
   exact HV hi hp
  ·rw[if_neg hi]at hm;cases hm
 ·intro i j y z p h1 h2 o1 o2 p1 p2
  obtain⟨d1,m1⟩:=pU h1
  obtain⟨d2,m2⟩:=pU h2
  have hi:i∈io:=by
   by_cases hi:i∈io
   ·exact hi
   ·rw[if_neg hi]at m1;rw[m1]at o1;cases o1
  have hj:j∈io:=by
   by_cases hj:j∈io
   ·exact hj
   ·rw[if_neg hj]at m2;rw[m2]at o2;cases o2
  obtain⟨q1,vQ,_⟩:=A.cl i _ hi d1
  obtain⟨q2,rh,_⟩:=A.cl j _ hj d2
  rw[vm vQ]at p1;cases p1
  rw[vm rh]at p2;cases p2
  exact A.dj i j p hi hj vQ rh
 ·have no:∀{i:Nat}{d:D},(iU io ds++List.replicate (N.length-ds.length) none)[i]?=some (some (M.nb,d))→False:=fun {i d} z=>by
   obtain⟨_,hm⟩:=pU z
   simp only at hm
   split at hm<;>cases hm
  exact⟨fun i j d d' h1=>(no h1).elim,fun i j d x p q xs h1=>(no h1).elim⟩
end
section
variable {K:PySem.W.Frag}{H H' H₀:Hp}{I:Nat→Option Addr}{O O':Addr→Prop}{σ:L2.St}{env:Ev}
def k9(K:PySem.W.Frag)(ta:TA)(fs:Ev→Option (List (M×D)))(pos:List (Nat×Nat)):Prop :=
 ∀H₀ O H σ env Q aB,de K H₀ O H σ env→fs env=some aB→(∀vs H',aJ H H'→eO K H₀ O H H' aB vs→(∀ij∈pos,∃v x,vs[ij.1]?=some v∧σ[ij.2]?=some (some v)∧env[ij.2]?=some (some x)∧aB[ij.1]?=some x)→Q vs H')→ta σ H Q
theorem Pk:k9 K kH ah []:=by
 intro H₀ O H σ env Q aB R h q
 cases h
 exact q [] H (aJ.refl H) .nil (fun _ z=>nomatch z)
noncomputable def vX(pos:List (Nat×Nat)):List (Nat×Nat):=pos.map fun ij=>(ij.1+1,ij.2)
theorem M8{te:TE}{ta:TA}{f:Ev→Option (M×D)}{g:Ev→Option (List (M×D))}{pos:List (Nat×Nat)}(hf:JT K te f)(hg:k9 K ta g pos):k9 K (lJ te ta) (ae f g) (vX pos):=by
 intro H₀ O H σ env Q aB R h q
 obtain⟨x,ex,h⟩:=ax h
 obtain⟨r,er,h⟩:=ax h
 cases h
 refine hf H₀ O H σ env _ x.1 x.2 R ex fun v H1 s1 h1=>?_
 refine hg H₀ O H1 σ env _ r (R.keep s1) er fun vs H2 s2 h2 hp=>?_
 refine q (v::vs) H2 (s1.trans s2) (.cons (h1.keep s2) (ku (fun _ _ z=>z.hb fun a z=>s1.free z) h2)) (fun ij mH=>?_)
 obtain⟨Az,hm,rfl⟩:=bu.mp mH
 obtain⟨w,y,a,b,c,d⟩:=hp Az hm
 exact⟨w,y,by simpa using a,b,c,by simpa using d⟩
theorem Pl{i:Nat}{ta:TA}{g:Ev→Option (List (M×D))}{pos:List (Nat×Nat)}(hg:k9 K ta g pos):k9 K (lJ (iy i) ta) (ae (jV i) g) ((0,i)::vX pos):=by
 intro H₀ O H σ env Q aB R h q
 obtain⟨x,ex,h⟩:=ax h
 obtain⟨r,er,h⟩:=ax h
 cases h
 have ei:env[i]?=some (some x):=by
  unfold jV at ex
  cases e:env[i]? with
  |none=>rw[e]at ex;cases ex
  |some z=>rw[e]at ex;exact congrArg some ex
 obtain⟨v,hv,n,hm⟩:=R.at ei
 refine⟨v,hv,?_⟩
 refine hg H₀ O H σ env _ r R er fun vs H2 s2 h2 hp=>?_
 refine q (v::vs) H2 s2 (.cons ((hm.FL n).keep s2) h2) (fun ij mH=>?_)
 rcases cJ.mp mH with rfl|mH
 ·exact⟨v,x,rfl,hv,ei,rfl⟩
 ·obtain⟨Az,hm,rfl⟩:=bu.mp mH
  obtain⟨w,y,a,b,c,d⟩:=hp Az hm
  exact⟨w,y,by simpa using a,b,c,by simpa using d⟩
end
section
variable {K:PySem.W.Frag}{H H' H₀:Hp}{I:Nat→Option Addr}{O O':Addr→Prop}{σ:L2.St}{env:Ev}
theorem eO.at{Hb:Hp}:∀{aB:List (M×D)}{vs:List V}{i:Nat}{x:M×D},eO K H₀ O Hb H aB vs→aB[i]?=some x→∃v,vs[i]?=some v∧Val K H₀ O Hb H x.1 x.2 v
 |_,_,_,_,.nil,e=>by simp at e
 |_,_,0,_,.cons h _,e=>by simp at e;subst e;exact⟨_,rfl,h⟩
 |_,_,i+1,x,.cons _ r,e=>by
  obtain⟨v,h1,h2⟩:=eO.at (i:=i) (x:=x) r (by simpa using e)
  exact⟨v,by simpa using h1,h2⟩
theorem pJ{α:Type}:∀{l:List α}{i j:Nat}{a:α},l.Nodup→l[i]?=some a→l[j]?=some a→i=j
 |[],_,_,_,_,h,_=>by simp at h
 |x::l,0,0,_,_,_,_=>rfl
 |x::l,0,j+1,a,nd,h1,h2=>by
  simp at h1;subst h1
  exact absurd (fm (show l[j]?=some x by simpa using h2)) (List.nodup_cons.mp nd).1
 |x::l,i+1,0,a,nd,h1,h2=>by
  simp at h2;subst h2
  exact absurd (fm (show l[i]?=some x by simpa using h1)) (List.nodup_cons.mp nd).1
 |x::l,i+1,j+1,a,nd,h1,h2=>by
  rw[pJ (List.nodup_cons.mp nd).2 (show l[i]?=some a by simpa using h1) (by simpa using h2)]
structure GB (io sl:List Nat)(pos:List (Nat×Nat))(aB:List (M×D)):Prop where
 c1:∀(k i:Nat),io[k]?=some i→∃j,sl[k]?=some j∧(i,j)∈pos
 c2:sl.Nodup
 c3:∀(i:Nat) x,i∉io→aB[i]?=some x→fC x.1 x.2=true∨(own x.1=true∧∃j,(i,j)∈pos∧j∉sl)
 c4:∀(i:Nat) x,i∈io→aB[i]?=some x→own x.1=true∧gS x.2=true
 c5:sl.length=io.length
noncomputable def j3(io sl:List Nat)(pos:List (Nat×Nat))(aB:List (M×D)):Bool :=
 decide (sl.length=io.length)&&decide sl.Nodup&&(List.range io.length).all (fun k=>match io[k]?,sl[k]? with|some i,some j=>decide ((i,j)∈pos)|_,_=>false) &&
 (List.range aB.length).all (fun i=>match aB[i]? with
  |some x=>if i∈io then own x.1&&gS x.2 else fC x.1 x.2||(own x.1&&pos.any fun ij=>decide (ij.1=i)&&!decide (ij.2∈sl))
  |none=>true)
theorem RZ{io sl:List Nat}{pos:List (Nat×Nat)}{aB:List (M×D)}(h:j3 io sl pos aB=true):GB io sl pos aB:=by
 unfold j3 at h
 simp only[Bool.and_eq_true,decide_eq_true_eq,List.all_eq_true,List.mem_range]at h
 obtain⟨⟨⟨h1,h2⟩,h3⟩,h4⟩:=h
 refine⟨fun k i hk=>?_,h2,fun i x hi hx=>?_,fun i x hi hx=>?_,h1⟩
 ·have aU:k<io.length:=(bO.mp hk).1
  have q:=h3 k aU
  rw[hk]at q
  cases e:sl[k]? with
  |none=>rw[e]at q;cases q
  |some j=>rw[e]at q;exact⟨j,rfl,by simpa using q⟩
 ·have aU:i<aB.length:=(bO.mp hx).1
  have q:=h4 i aU
  rw[hx]at q
  simp only[if_neg hi,Bool.or_eq_true,Bool.and_eq_true,List.any_eq_true]at q
  rcases q with q|⟨q,ij,hm,z⟩
  ·exact .inl q
  ·refine .inr ⟨q,ij.2,?_,by simpa using z.2⟩
   have e:ij.1=i:=by simpa using z.1
   rw[←e];exact hm
 ·have aU:i<aB.length:=(bO.mp hx).1
  have q:=h4 i aU
  rw[hx]at q
  simpa only[if_pos hi,Bool.and_eq_true]using q
theorem Pm{io sl:List Nat}{pos:List (Nat×Nat)}{aB:List (M×D)}{vs:List V}{H1:Hp}(R:Rel K H₀ I O H σ env)(R1:Rel K H₀ I O H1 σ env)(ok:GB io sl pos aB)(hv:eO K H₀ O H H1 aB vs)
  (hp:∀ij∈pos,∃v x,vs[ij.1]?=some v∧σ[ij.2]?=some (some v)∧env[ij.2]?=some (some x)∧aB[ij.1]?=some x) :
  (∀{i j:Nat},(i,j)∈pos→∀{x:M×D},aB[i]?=some x→own x.1=true→∃p:Addr,vs[i]?=some (V.ref p)∧σ[j]?=some (some (V.ref p))∧env[j]?=some (some x)∧O p∧Cell K (fun a=>¬O a∧H₀ a=none) H1 p x.2) ∧
  (∀{i:Nat}{p:Addr},i∈io→vs[i]?=some (V.ref p)→∃(k j:Nat) (x:M×D),io[k]?=some i∧sl[k]?=some j∧aB[i]?=some x∧σ[j]?=some (some (V.ref p))∧env[j]?=some (some x)∧own x.1=true∧O p∧Cell K (fun a=>¬O a∧H₀ a=none) H1 p x.2∧gS x.2=true) ∧
  (∀a,iN io vs a→O a)∧uA K H1 io vs (aB.map (·.2)):=by
 have hlen:aB.length=vs.length:=Paired.length hv
 have at_:∀{i:Nat}{x:M×D},aB[i]?=some x→∃v,vs[i]?=some v∧Val K H₀ O H H1 x.1 x.2 v:=fun {i x} hx=>eO.at hv hx
 have qv:∀{i j:Nat},(i,j)∈pos→∀{x:M×D},aB[i]?=some x→own x.1=true→∃p:Addr,vs[i]?=some (V.ref p)∧σ[j]?=some (some (V.ref p))∧env[j]?=some (some x)∧O p∧Cell K (fun a=>¬O a∧H₀ a=none) H1 p x.2:=fun {i j} mH {x} hx ox=>by
  obtain⟨v,x',a,b,c,z⟩:=hp (i,j) mH
  simp only at a b c z
  rw[hx]at z;cases z
  obtain⟨w,hw,_,hm⟩:=R1.e.at (i:=j) (m:=x.1) (d:=x.2) c
  rw[b]at hw;cases hw
  obtain⟨mx,dx⟩:=x
  cases mx<;>simp only[own]at ox<;>try (cases ox;done)
  ·obtain⟨p,rfl,h1,h2,cc⟩:=hm;exact⟨p,a,b,c,h1,cc⟩
  ·obtain⟨p,rfl,h1,cc⟩:=hm;exact⟨p,a,b,c,h1,cc⟩
 have lZ:∀{i:Nat}{p:Addr},i∈io→vs[i]?=some (V.ref p)→∃(k j:Nat) (x:M×D),io[k]?=some i∧sl[k]?=some j∧aB[i]?=some x∧σ[j]?=some (some (V.ref p))∧env[j]?=some (some x)∧own x.1=true∧O p∧Cell K (fun a=>¬O a∧H₀ a=none) H1 p x.2∧gS x.2=true:=fun {i p} hi j4=>by
  obtain⟨k,hk⟩:=List.getElem?_of_mem hi
  obtain⟨j,hj,zH⟩:=ok.c1 k i hk
  have aU:i<aB.length:=by rw[hlen];exact(bO.mp j4).1
  have hx:aB[i]?=some aB[i]:=eU aU
  obtain⟨ox,cx⟩:=ok.c4 i _ hi hx
  obtain⟨p',a,b,c,h1,cc⟩:=qv zH hx ox
  rw[j4]at a;cases a
  exact⟨k,j,_,hk,hj,hx,b,c,ox,h1,cc,cx⟩
 have sub:∀a,iN io vs a→O a:=fun a ⟨i,hi,j4⟩=>by
  obtain⟨_,_,_,_,_,_,_,_,_,h1,_⟩:=lZ hi j4;exact h1
 have A:uA K H1 io vs (aB.map (·.2)):=by
  refine⟨by rw[List.length_map,hlen],fun i v d hi j4 hd=>?_,fun i d hi hd=>?_,fun i j p hi hj h1 h2=>?_⟩
  ·rw[dG]at hd
   cases hx:aB[i]? with
   |none=>rw[hx]at hd;cases hd
   |some x =>
    rw[hx]at hd;cases hd
    obtain⟨v',jn,VD⟩:=at_ hx
    rw[j4]at jn;cases jn
    rcases ok.c3 i x hi hx with z|⟨z,j,hj,nj⟩
    ·exact(VD.fC z).wk fun a h _=>fun w=>h (sub a w)
    ·obtain⟨p,a,b,c,h1,cc⟩:=qv hj hx z
     rw[j4]at a;cases a
     refine(cc.wk fun a h _=>(fun w=>h.1 (sub a w):¬iN io vs a)).rp (fun⟨i2,WV,AA⟩=>?_)
     obtain⟨k,j2,x2,_,WW,_,s2,e2,o2,_⟩:=lZ WV AA
     have:=R.dj j j2 x x2 p c e2 z o2 b s2
     exact nj (this▸fm WW)
  ·rw[dG]at hd
   cases hx:aB[i]? with
   |none=>rw[hx]at hd;cases hd
   |some x =>
    rw[hx]at hd;cases hd
    obtain⟨k,hk⟩:=List.getElem?_of_mem hi
    obtain⟨j,hj,zH⟩:=ok.c1 k i hk
    obtain⟨ox,cx⟩:=ok.c4 i _ hi hx
    obtain⟨p',a,b,c,h1,cc⟩:=qv zH hx ox
    exact⟨p',a,cc.im cx⟩
  ·obtain⟨k1,j1,x1,WX,WY,_,WZ,W0,o1,_⟩:=lZ hi h1
   obtain⟨k2,j2,x2,HX,W2,_,W3,W4,o2,_⟩:=lZ hj h2
   have ej:=R.dj j1 j2 x1 x2 p W0 W4 o1 o2 WZ W3
   subst ej
   have ek:k1=k2:=pJ ok.c2 WY W2
   subst ek
   rw[WX]at HX;exact Option.some.inj HX
 exact⟨qv,lZ,sub,A⟩
end
mutual
noncomputable def toPy:D→PyData
 |.non=>.none
 |.bl b=>.bool b
 |.int i=>.int i
 |.str x=>.str x
 |.tup ds=>.tuple (cu ds)
 |.lst ds=>.list (cu ds)
 |.ty _=>.none
 |.dk _=>.none
 |.dt _=>.none
noncomputable def cu:List D→List PyData
 |[]=>[]
 |d::ds=>toPy d::cu ds
end
mutual
noncomputable def plain:D→Bool
 |.tup ds=>dC ds
 |.lst ds=>dC ds
 |.ty _=>false
 |.dk _=>false
 |.dt _=>false
 |.non=>true
 |.bl _=>true
 |.int _=>true
 |.str _=>true
noncomputable def dC:List D→Bool
 |[]=>true
 |d::ds=>plain d&&dC ds
end
section
variable {K:PySem.W.Frag}{H H' H₀:Hp}{O O':Addr→Prop}{σ:L2.St}{env:Ev}
mutual
theorem lM{N:Addr→Prop}:∀{v:V}{d:D},plain d=true→Rp K N H v d→Dn K H v (toPy d)
 |_,_,_,.non=>by simp only[toPy];exact .non
 |_,_,_,.bl b=>by simp only[toPy];exact .bl b
 |_,_,_,.int i=>by simp only[toPy];exact .int i
 |_,_,_,.str x=>by simp only[toPy];exact .str x
 |_,.ty n,e,.ty _=>by simp[plain]at e
 |_,.tup ds,e,.tup h r=>by simp only[toPy];exact .tup h (m3 (by simpa only[plain]using e) r)
 |_,.lst ds,e,.lst h n r=>by simp only[toPy];exact .lst (.inl h) (m3 (by simpa only[plain]using e) r)
 |_,.lst ds,e,.lstK h r=>by simp only[toPy];exact .lst (.inr h) (m3 (by simpa only[plain]using e) r)
 |_,.dk ds,e,.dk h n _ r=>by simp[plain]at e
 |_,.dt ds,e,.dt h n _ r=>by simp[plain]at e
theorem m3{N:Addr→Prop}:∀{vs:List V}{ds:List D},dC ds=true→aA K N H vs ds→bG K H vs (cu ds)
 |_,_,_,.nil=>by simp only[cu];exact .nil
 |_,d::ds,e,.cons h r=>by
  have e':plain d=true∧dC ds=true:=by simpa[dC]using e
  simp only[cu]
  exact .cons (lM e'.1 h) (m3 e'.2 r)
end
noncomputable def lN:D→D→Bool
 |.lst _,.lst _=>true
 |.tup _,.tup _=>true
 |.non,.non=>true
 |_,_=>false
theorem D9{a b:D}(h:lN a b=true):lU (toPy a) (toPy b):=by
 cases a<;>cases b<;>simp only[lN]at h<;>try (cases h;done)
 ·simp only[toPy];exact .non
 ·simp only[toPy];exact .tup _ _
 ·simp only[toPy];exact .lst _ _
noncomputable def i3(a b:D):Bool:=plain a&&plain b&&lN a b&&decide (min (toPy a).depth (toPy b).depth≤60)
noncomputable def gG:M×D→M×D→Option (M×D):=fun a b=>if i3 a.2 b.2=true then some (.fr,.bl (PyData.eqv (toPy a.2) (toPy b.2)))else none
noncomputable def eR:M×D→M×D→Option (M×D):=fun a b=>if i3 a.2 b.2=true then some (.fr,.bl (!PyData.eqv (toPy a.2) (toPy b.2)))else none
theorem Dr{a b:D}(h:i3 a b=true):plain a=true∧plain b=true∧lN a b=true∧min (toPy a).depth (toPy b).depth≤60:=by
 unfold i3 at h
 simp only[Bool.and_eq_true,decide_eq_true_eq]at h
 exact⟨h.1.1.1,h.1.1.2,h.1.2,h.2⟩
theorem R0:JR K (zt K) gG:=by
 intro H₀ O H x y a b Q m d _ _ h1 h2 h q
 unfold gG at h
 split at h
 ·rename_i ok
  cases h
  obtain⟨p1,p2,l,dp⟩:=Dr ok
  exact⟨_,_,lM p1 h1.weak,lM p2 h2.weak,D9 l,dp,q _ H (aJ.refl H) eJ⟩
 ·cases h
theorem R6:JR K (zu K) eR:=by
 intro H₀ O H x y a b Q m d _ _ h1 h2 h q
 unfold eR at h
 split at h
 ·rename_i ok
  cases h
  obtain⟨p1,p2,l,dp⟩:=Dr ok
  exact⟨_,_,lM p1 h1.weak,lM p2 h2.weak,D9 l,dp,q _ H (aJ.refl H) eJ⟩
 ·cases h
theorem R7{X:Cx}(h:X.K=K)(hu:X.A.units+64<cLine):bI X (compareOp .Eq) (zt K):=by subst h;exact Rb hu
theorem R8{X:Cx}(h:X.K=K)(hu:X.A.units+64<cLine):bI X (compareOp .NotEq) (zu K):=by subst h;exact Rc hu
noncomputable def iC(neg:Bool):M×D→M×D→Option (M×D)
 | (_,d),(_,.lst ds)=>if plain d=true∧dC ds=true∧(toPy d).depth≤50 then some (.fr,.bl (if neg then !((cu ds).any fun e=>PyData.eqv e (toPy d))else (cu ds).any fun e=>PyData.eqv e (toPy d)))else none
 | (_,d),(_,.tup ds)=>if plain d=true∧dC ds=true∧(toPy d).depth≤50 then some (.fr,.bl (if neg then !((cu ds).any fun e=>PyData.eqv e (toPy d))else (cu ds).any fun e=>PyData.eqv e (toPy d)))else none
 |_,_=>none
theorem R9{neg:Bool}:JR K (zv K neg) (iC neg):=by
 intro H₀ O H x y a b Q m d _ _ h1 h2 h q
 obtain⟨ma,da⟩:=a;obtain⟨mb,db⟩:=b
 cases db<;>simp only[iC]at h<;>try (cases h;done)
 ·split at h
  ·rename_i ok
   cases h
   obtain⟨p,xs,rfl,hs,r⟩:=h2.tup
   exact⟨p,xs,_,_,rfl,.inr hs,m3 ok.2.1 r,lM ok.1 h1.weak,ok.2.2,q _ H (aJ.refl H) eJ⟩
  ·cases h
 ·split at h
  ·rename_i ok
   cases h
   obtain⟨p,xs,rfl,hs,r⟩:=h2.lst
   exact⟨p,xs,_,_,rfl,.inl hs,m3 ok.2.1 r,lM ok.1 h1.weak,ok.2.2,q _ H (aJ.refl H) eJ⟩
  ·cases h
theorem K1{X:Cx}(h:X.K=K)(hu:X.A.units+64<cLine):bI X (compareOp .NotIn) (zv K true):=by subst h;exact Ly hu
theorem Sb{n:Nat}{gs:gK}{fs:M→List D→Ev→Option Ev}(hs:oD K gs fs):JG K (Gq K n gs) (gL n fs):=by
 intro H₀ I O H σ env x v gE Q R hm hv e q
 obtain⟨m,d⟩:=x
 cases d<;>simp only[gL]at e<;>try (cases e;done)
 split at e
 ·rename_i hl
  obtain⟨a,xs,rfl,hV,r⟩:=hv.lst
  exact⟨a,xs,rfl,hV,by rw[r.len];exact hl,hs H₀ I O H σ env (aQ m) _ xs gE Q R (by cases m<;>first|rfl|cases hm) r e q⟩
 ·cases e
theorem Pn{X:Cx}{tg l:Expr}{tl:TE}(h:X.K=K)(hl:PE X l tl):PI X tg l (zb K tl):=by subst h;exact QH hl
theorem Ke{X:Cx}(h:X.K=K):ft X (.type "list") (fun xs H Q=>∃p ys,xs=[.ref p]∧(bH K H p ys∨a8 K H p ys)∧∀l,H l=none→Q (.ref l) (upd H l (.lst ys))):=by subst h;exact Kh
end
theorem CP{fc:Ev→Option Bool}{fe:Ev→Option (M×D)}{m:M}{fr:Ev}{P:D→Prop}:∀{ds:List D},(∀d∈ds,fc (some (m,d)::fr)=some true∧∃x,fe (some (m,d)::fr)=some (.fr,x)∧P x)→∃xs:List D,fh fc fe m fr ds=some (xs.map fun x=>(M.fr,x))∧xs.length=ds.length∧∀x∈xs,P x
 |[],_=>⟨[],rfl,rfl,fun _ h=>nomatch h⟩
 |d::ds,h=>by
  obtain⟨h1,x,h2,h3⟩:=h d bV
  obtain⟨xs,q1,q2,q3⟩:=CP (ds:=ds) fun e he=>h e (b9 _ he)
  refine⟨x::xs,?_,by rw[List.length_cons,List.length_cons,q2],fun y hy=>?_⟩
  ·rw[fh,h1,Option.bind_some,if_pos rfl,h2,Option.bind_some,q1,Option.bind_some];rfl
  ·rcases cJ.mp hy with rfl|hy
   ·exact h3
   ·exact q3 y hy
theorem lE{xs:List D}(h:xs.length≤1000):c9 (xs.map fun x=>(M.fr,x))=some (.un,.lst xs):=by
 unfold c9
 rw[if_pos (by rw[List.length_map];exact bP h (by decide)),if_pos (by rw[List.all_map];exact List.all_eq_true.mpr fun _ _=>rfl),List.map_map]
 congr 3
 exact List.map_id xs
def One(d:D):Prop:=∃c:Nat,d=.str ⟨#[c]⟩
theorem xZ{m n:M}{x:Str}{i:Int}(hs:x.length≤sizeLine)(h0:0≤i)(h1:i<x.cps.toList.length):∃d,ao (m,.str x) (n,.int i)=some (.fr,d)∧One d:=by
 rw[Ua hs,gW h0 h1]
 exact⟨_,rfl,_,rfl⟩
noncomputable abbrev Ko:=Sum Int Str
noncomputable def kD:Ko→D
 |.inl i=>.int i
 |.inr x=>.str x
theorem pV(k:Ko):(kD k).bU=true:=by cases k<;>simp only[kD,D.bU]
inductive Row where
 |rk (x s:Str) (a b:Ko)|cp (x:Str) (a:Ko)|sy (a:Ko)|go (t:Int)|pt (a:Ko) (t:Int)|en
noncomputable def Row.ds:Row→List D
 |.rk x s a b=>[.str "reckon",.str x,.str s,kD a,kD b]
 |.cp x a=>[.str "copy",.str x,kD a]
 |.sy a=>[.str "say",kD a]
 |.go t=>[.str "go",.int t]
 |.pt a t=>[.str "part",kD a,.int t]
 |.en=>[.str "end"]
noncomputable def Row.d(r:Row):D:=.tup r.ds
theorem Row.bU(r:Row):r.d.bU=true:=by cases r<;>simp only[Row.d,Row.ds,D.bU,D.bS,pV,Bool.and_self]
theorem lB:∀rs:List Row,D.bS (rs.map Row.d)=true
 |[]=>by simp only[List.map_nil,D.bS]
 |r::rs=>by simp only[List.map_cons,D.bS,Row.bU,lB rs,Bool.and_self]
noncomputable def Row.word:Row→Str
 |.rk _ _ _ _ => "reckon"
 |.cp _ _ => "copy"
 |.sy _ => "say"
 |.go _ => "go"
 |.pt _ _ => "part"
 |.en => "end"
theorem Row.W5(r:Row):L2.bB r.ds 0=some (.str r.word):=by cases r<;>rfl
theorem M9{ns:List Str}{k:Int}(h0:0≤k)(h1:k<ns.length):∃c,L2.bB (ns.map D.str) k=some (.str c):=by
 rw[gW h0 (by simpa using h1)]
 exact⟨ns[k.toNat]'(by omega),by simp⟩
theorem Nb{rs:List Row}{k:Int}(h0:0≤k)(h1:k<rs.length):L2.bB (rs.map Row.d) k=some (rs[k.toNat]'(by omega)).d:=by
 rw[gW h0 (by simpa using h1)]
 simp
section
variable {K:PySem.W.Frag}{H H' H₀:Hp}{O:Addr→Prop}{σ:L2.St}{env:Ev}
noncomputable def nz:Ev→Option (M×D):=fun _=>some (.un,.dk [])
theorem Nc:JT K EG nz:=by
 intro H₀ O H σ env Q m d R h q
 cases h
 intro p hp
 refine q _ _ (cn hp) ⟨p,rfl,hp,iT R.hd hp,f7 R.od hp,[],bF,rfl,.nil⟩
theorem Sd{a:Addr}{xs:List V}{ds:List D}(w:∀H:Hp,a8 K H a xs)(r:∀(N:Addr→Prop) (H:Hp),aA K N H xs ds):JT K (tC (.ref a)) (jC (.tup ds)):=by
 intro H₀ O H σ env Q m d' R h q
 cases h
 exact q _ H (aJ.refl H) (Rp.tup (w H) (r _ H))
theorem Ck{N:Addr→Prop}:∀(ys:List Str),aA K N H (ys.map V.str) (ys.map D.str)
 |[]=>.nil
 |y::ys=>.cons (.str y) (Ck ys)
end
theorem Pp{u:Value}{y:Str}(h:nU u=some (V.str y)):RelV (.str y) u:=by
 cases u<;>simp only[nU]at h<;>cases h
 exact⟨_,rfl⟩
theorem Dt:∀{us:List Value}{ys:List Str},us.map nU=ys.map (fun y=>some (V.str y))→Vals (ys.map V.str) us
 |[],[],_=>.nil
 |[],_::_,h=>by cases h
 |_::_,[],h=>by cases h
 |u::us,y::ys,h=>by
  rw[List.map_cons,List.map_cons]at h
  exact .cons (Pp (List.cons.inj h).1) (Dt (List.cons.inj h).2)
theorem Pq {K:PySem.W.Frag}{a:Addr}{its:Array Value}{n:Nat}{sl:Array (Option Value)}{ys:List Str} (l:K.lookup a=some ⟨.type "tuple",none,.seq its n,sl⟩) (v:its.toList.map nU=ys.map (fun y=>some (V.str y))) (hz:4≤ys.length∧ys.length≤1000) (H:Hp):a8 K H a (ys.map V.str):=by
 have r:=Dt v
 have e:=r.length
 simp only[List.length_map,Array.length_toList]at e
 exact .inr ⟨_,its,n,l,rfl,rfl,rfl,bP (by omega) (show 1000≤sizeLine by decide),by omega,r⟩
section
variable {K:PySem.W.Frag}{H H₀:Hp}{O:Addr→Prop}
noncomputable def rj(z:Str):List D:=z.cps.toList.map fun c=>.str ⟨#[c]⟩
theorem Nf{z:Str}:kU K H₀ O (vO z) H .fr (rj z):=by
 have l:(rj z).length=z.cps.size:=by simp[rj]
 refine⟨fun O2 H2 i s hi=>by rw[l]at hi;exact hi,fun O2 H2 i x H3 s hi y=>?_,fun O2 H2 s=>by rw[l];exact a6 z.cps.size⟩
 obtain⟨rfl,c,hc,rfl⟩:=y
 refine⟨aJ.refl _,.str ⟨#[c]⟩,?_,Rp.str _⟩
 unfold rj
 rw[dG,Array.getElem?_toList,hc]
 rfl
noncomputable def AF(f:Ev→Option (M×D)):Ev→Option (M×List D):=fun e=>(f e).bind fun x=>match x.2 with
 |.str z=>some (.fr,rj z)
 |_=>none
theorem Se{t:TE}{f:Ev→Option (M×D)}(h:JT K t f):JI K (Gu t) (AF f):=by
 intro H₀ O H σ env R m ds Re e q
 obtain⟨⟨m0,d0⟩,ex,e⟩:=ax e
 cases d0<;>simp only at e<;>try (cases e;done)
 cases e
 refine h H₀ O H σ env _ _ _ Re ex fun v H1 s1 h1=>?_
 exact⟨_,h1.str,q _ H1 s1 rfl Nf⟩
end
end J
namespace L2
open PySem
end L2
namespace J
open PySem L2
section
variable {m n:M}{z:Str}{i:Int}{b:Bool}{ds:List D}{ks:List (Key×D)}{kt:List (List Key×D)}
theorem Ky:lY [(m,.int i),(n,.ty "int")]=some (.fr,.bl true):=rfl
theorem Kk:lY [(m,.int i),(n,.ty "bool")]=some (.fr,.bl false):=rfl
end
section
variable {K:PySem.W.Frag}
end
structure fF (X:Cx)(st:Stmt)(t:TS):Prop where
 go:PS X st t
structure jM (X:Cx)(ss:List Stmt)(t:TS):Prop where
 go:fP X ss t
section
variable {X:Cx}{st:Stmt}{rest a b body:List Stmt}{t u tb:TS}{e c iter tg o i value:Expr}{te td ty tv:TE}{tc:TT}{g:TG}{wi:TI}{pos pos':Pos}{k:Nat}{x:Str}
theorem Pr:jM X [] yJ:=⟨N4⟩
theorem Ng(h1:fF X st t)(h2:jM X rest u):jM X (st::rest) (y6 t u):=⟨Ml h1.go h2.go⟩
theorem Pt(h1:fF X st t):jM X [st] t:=⟨N5 h1.go⟩
theorem Kz:fF X (.Continue pos) yK:=⟨Kr⟩
theorem x4(he:PE X e te)(hs:swapsWith e none pos.line X.env=pure false:=by rfl):fF X (.Expr e pos) (qb te):=⟨N6 he hs⟩
theorem E1(he:PE X e te):fF X (.Return (some e) pos) (uY te):=⟨QC he⟩
theorem Uc(hc:PT X c tc)(ha:jM X a t)(hb:jM X b u):fF X (.If c a b pos) (y7 tc t u):=⟨Ti hc ha.go hb.go⟩
theorem E2(he:PE X e te)(hg:PG X tg g)(hs:swapsWithSole [tg] e pos.line X.env=pure false:=by rfl)(hw:swappedStores [tg] e X.env=pure none:=by rfl)
 (h1:(assignEach [tg] X.env).map (·.2)=[assign tg X.env]:=by rfl):fF X (.Assign [tg] e pos) (gf te g):=⟨QF he hg hs hw h1⟩
theorem Sf{i:Nat}(hN:X.N.Nodup)(hi:X.N[i]?=some x)(hx:Loc X.env.scope x)(he:PE X e te)(hs:swapsWith e (some (.Name x pos')) pos.line X.env=pure false:=by rfl)(hf:X.fn x=true∨X.env.scope.names.lookup x=some .local:=by first|exact .inl rfl|exact .inr rfl|assumption) :
 fF X (.Assign [.Name x pos'] e pos) (gf te (fK i)):=⟨QG hN hi hx he hs hf⟩
theorem Nh(hp:PassesOwn (model X.prog X.w) X.A X.env X.xe)(hc:PT X c tc)(hb:jM X body tb):fF X (.While c body [] pos) (yj tc tb):=⟨Mm hp hc hb.go⟩
theorem Sg(hp:PassesOwn (model X.prog X.w) X.A X.env X.xe)(hc:X.calm=true)(hi:PI X tg iter wi)(hg:PG X tg g)(hb:jM X body tb)
 (hs:∀x,foldedSetIterable iter X.env x=pure x:=by intro _;rfl):fF X (.For tg iter body [] pos) (zc wi g tb):=⟨QI hp hc hi hg hb.go hs⟩
theorem Ea(hu:X.A.units+1<cLine)(ho:PE X o td)(hi:PE X i ty)(hv:PE X value tv)(hs:swapsWith value (some (.Subscript o i pos')) pos.line X.env=pure false) :
 fF X (.Assign [.Subscript o i pos'] value pos) (uK td ty tv):=⟨Oj hu ho hi hv hs⟩
theorem Cm{N':List Str}{au:Scope}{ix:List Nat}{elt:Expr}{ifs:List Expr}{px:Pos}{i:Nat}{y:Str}{py kM:Pos}(hN:X.N.Nodup)(qQ:X.N[i]?=some y)(hy:X.env.scope.names.lookup y=some .local)(ok:jA X.N N' X.env.scope au x ix)(hc:X.calm=true)(hi:PI X (.Name x px) iter wi)(eV:∀C s₂ H₂ fp pn,iJ (X.bw N' au C s₂ H₂ fp pn) ifs tc)
 (fB:∀C s₂ H₂ fp pn,PE (X.bw N' au C s₂ H₂ fp pn) elt te) (qR:swapsWith (.ListComp elt [⟨.Name x px,iter,ifs,0⟩] au pos) (some (.Name y py)) kM.line X.env=pure true:=by rfl)
 (hs:∀x,foldedSetIterable iter X.env x=pure x:=by intro _;rfl):fF X (.Assign [.Name y py] (.ListComp elt [⟨.Name x px,iter,ifs,0⟩] au pos) kM) (gf (nJ wi ix tc te) (fK i)):=⟨KR hN qQ hy ok hc hi eV fB qR hs⟩
end
noncomputable def keyOf:D→Option Key
 |.int i=>some (.inl i)
 |.str x=>some (.inr x)
 |.non=>some .non
 |_=>none
noncomputable def cO{κ:Type}[DecidableEq κ](ks:List (κ×D))(k:κ):Option D:=(ks.find? fun kv=>decide (kv.1=k)).map (·.2)
noncomputable def putD{κ:Type}[DecidableEq κ](ks:List (κ×D))(k:κ)(d:D):List (κ×D) :=
 if (ks.any fun kv=>decide (kv.1=k))=true then ks.map (fun kv=>if kv.1=k then (kv.1,d)else kv)else ks++[(k,d)]
section
variable {K:PySem.W.Frag}{H H' H₀:Hp}{I:Nat→Option Addr}{O:Addr→Prop}{σ:L2.St}{env:Ev}
theorem j9{N:Addr→Prop}{d:D}{k:Key}{v:V}(e:keyOf d=some k)(h:Rp K N H v d):v=kV k:=by
 cases d<;>simp only[keyOf]at e<;>cases e
 ·exact h.D4
 ·exact h.int_inv
 ·exact h.str_inv
def Ent{κ:Type}(K:PySem.W.Frag)(N:Addr→Prop)(H:Hp)(ai:List (κ×V))(ks:List (κ×D)):Prop:=ai.map (·.1)=ks.map (·.1)∧aA K N H (ai.map (·.2)) (ks.map (·.2))
theorem Ent.cons_inv{κ:Type}{N:Addr→Prop}{p:κ×V}{ai:List (κ×V)}{q:κ×D}{ks:List (κ×D)}(h:Ent K N H (p::ai) (q::ks)):p.1=q.1∧Rp K N H p.2 q.2∧Ent K N H ai ks:=by
 obtain⟨e,r⟩:=h
 rw[List.map_cons,List.map_cons]at e r
 obtain⟨e1,e2⟩:=List.cons.inj e
 cases r with|cons a b=>exact⟨e1,a,e2,b⟩
theorem Ent.len{κ:Type}{N:Addr→Prop}{ai:List (κ×V)}{ks:List (κ×D)}(h:Ent K N H ai ks):ai.length=ks.length:=by
 have:=congrArg List.length h.1
 simpa using this
theorem Ent.val{κ:Type}[DecidableEq κ]{N:Addr→Prop}:∀{ai:List (κ×V)}{ks:List (κ×D)} (k:κ),Ent K N H ai ks→(cO ks k=none∧dE ai k=none)∨∃d v,cO ks k=some d∧dE ai k=some v∧Rp K N H v d
 |[],[],k,_=>.inl ⟨rfl,rfl⟩
 |[],_::_,k,h=>absurd h.len (by simp)
 |_::_,[],k,h=>absurd h.len (by simp)
 |p::ai,q::ks,k,h=>by
  obtain⟨e,r,t⟩:=h.cons_inv
  by_cases z:q.1=k
  ·exact .inr ⟨q.2,p.2,by simp[cO,List.find?_cons,z],tR (e.trans z),r⟩
  ·have e1:cO (q::ks) k=cO ks k:=by simp[cO,List.find?_cons,z]
   rw[e1,tS (fun w=>z (e.symm.trans w))]
   exact Ent.val k t
theorem Ent.put{κ:Type}[DecidableEq κ]{N:Addr→Prop}{ai:List (κ×V)}{ks:List (κ×D)}{k:κ}{v:V}{d:D}(h:Ent K N H ai ks)(hv:Rp K N H v d):Ent K N H (putK ai k v) (putD ks k d):=by
 have ha:(ai.any fun kv=>decide (kv.1=k))=(ks.any fun kv=>decide (kv.1=k)):=by
  have:∀{α β:Type} (l:List (α×β)) (f:α→Bool),l.any (fun kv=>f kv.1)=(l.map (·.1)).any f:=fun l f=>by rw[List.any_map];rfl
  rw[this ai fun a=>decide (a=k),this ks fun a=>decide (a=k),h.1]
 unfold putK putD
 rw[ha]
 split
 ·have go:∀{ai:List (κ×V)}{ks:List (κ×D)},Ent K N H ai ks→Ent K N H (ai.map fun kv=>if kv.1=k then (kv.1,v)else kv) (ks.map fun kv=>if kv.1=k then (kv.1,d)else kv):=by
   intro ai
   induction ai with
   |nil=>intro ks h;cases ks with
    |nil=>exact⟨rfl,.nil⟩
    |cons _ _=>exact absurd h.len (by simp)
   |cons p ai ih =>
    intro ks h
    cases ks with
    |nil=>exact absurd h.len (by simp)
    |cons q ks =>
     obtain⟨e,r,t⟩:=h.cons_inv
     obtain⟨i1,i2⟩:=ih t
     rw[List.map_cons,List.map_cons]
     by_cases z:q.1=k
     ·rw[if_pos z,if_pos (e.trans z)]
      exact⟨by rw[List.map_cons,List.map_cons,i1,e],.cons hv i2⟩
     ·rw[if_neg z,if_neg (fun w=>z (e.symm.trans w))]
      exact⟨by rw[List.map_cons,List.map_cons,i1,e],.cons r i2⟩
  exact go h
 ·exact⟨by rw[List.map_append,List.map_append,h.1];rfl,by rw[List.map_append,List.map_append];exact h.2.app (.cons hv .nil)⟩
theorem Val.dk{m:M}{ks:List (Key×D)}{v:V}{Hb:Hp}(h:Val K H₀ O Hb H m (.dk ks) v):∃a ai,v=.ref a∧Rd H a (.dK ai)∧Ent K (NM H₀ O (aQ m)) H ai ks:=by
 cases m<;>simp only[Val,Cell]at h
 ·cases h with|dk r n e q=>exact⟨_,_,rfl,r,e,q⟩
 ·cases h with|dk r n e q=>exact⟨_,_,rfl,r,e,q⟩
 ·obtain⟨p,rfl,_,_,_,xs,q,e,r⟩:=h;exact⟨_,_,rfl,.inl q,e,r.wk fun a h _=>h.1⟩
 ·obtain⟨p,rfl,_,_,xs,q,e,r⟩:=h;exact⟨_,_,rfl,.inl q,e,r⟩
 ·obtain⟨p,rfl,_,xs,q,e,r⟩:=h;exact⟨_,_,rfl,.inl q,e,r⟩
 ·cases h with|dk r n e q=>exact⟨_,_,rfl,r,e,q⟩
 ·obtain⟨p,qs,aT,rfl,e2,_⟩:=h;cases e2
noncomputable def gH:D→Option (List (Key×D))
 |.dk ks=>some ks
 |_=>none
theorem ug{d:D}{ks:List (Key×D)}(h:gH d=some ks):d=.dk ks:=by cases d<;>simp only[gH]at h<;>cases h;rfl
noncomputable def du(neg:Bool)(fk fd:Ev→Option (M×D)):Ev→Option (M×D):=fun e=>(fk e).bind fun y=>(fd e).bind fun x=>(gH x.2).bind fun ks=>(keyOf y.2).bind fun k=>some (.fr,.bl (if neg then !(cO ks k).isSome else (cO ks k).isSome))
theorem Ent.isSome{κ:Type}[DecidableEq κ]{N:Addr→Prop}{ai:List (κ×V)}{ks:List (κ×D)}{k:κ}(h:Ent K N H ai ks):(dE ai k).isSome=(cO ks k).isSome:=by
 rcases h.val k with⟨a,b⟩|⟨d,v,a,b,_⟩<;>rw[a,b]<;>rfl
theorem Sh{td ty:TE}{fd fk:Ev→Option (M×D)}(hk:JT K ty fk)(hd:JT K td fd):JT K (zm ty td) (du false fk fd):=by
 intro H₀ O H σ env Q m d R h q
 obtain⟨y,ey,h⟩:=ax h
 obtain⟨x,ex,h⟩:=ax h
 obtain⟨ks,iO,h⟩:=ax h
 obtain⟨k,ek,h⟩:=ax h
 cases h
 refine hk H₀ O H σ env _ y.1 y.2 R ey fun w H1 s1 h1=>?_
 refine hd H₀ O H1 σ env _ x.1 x.2 (R.keep s1) ex fun v H2 s2 h2=>?_
 rw[ug iO]at h2
 obtain⟨a,ai,rfl,rd,en⟩:=h2.dk
 obtain rfl:=j9 ek h1.weak
 refine⟨a,dE ai k,rfl,.inl ⟨ai,k,rd,rfl,rfl⟩,?_⟩
 rw[en.isSome]
 exact q _ H2 (s1.trans s2) eJ
theorem L0{td ty:TE}{fd fk:Ev→Option (M×D)}(hk:JT K ty fk)(hd:JT K td fd):JT K (xT ty td) (du true fk fd):=by
 intro H₀ O H σ env Q m d R h q
 obtain⟨y,ey,h⟩:=ax h
 obtain⟨x,ex,h⟩:=ax h
 obtain⟨ks,iO,h⟩:=ax h
 obtain⟨k,ek,h⟩:=ax h
 cases h
 refine hk H₀ O H σ env _ y.1 y.2 R ey fun w H1 s1 h1=>?_
 refine hd H₀ O H1 σ env _ x.1 x.2 (R.keep s1) ex fun v H2 s2 h2=>?_
 rw[ug iO]at h2
 obtain⟨a,ai,rfl,rd,en⟩:=h2.dk
 obtain rfl:=j9 ek h1.weak
 refine⟨a,dE ai k,rfl,.inl ⟨ai,k,rd,rfl,rfl⟩,?_⟩
 rw[en.isSome]
 exact q _ H2 (s1.trans s2) eJ
noncomputable def i5(i:Nat)(e:Ev):Option (M×List (Key×D)):=match e[i]? with
 |some (some (m,.dk ds))=>if own m=true then some (m,ds)else none
 |_=>none
theorem Eb{i:Nat}{e:Ev}{m:M}{ds:List (Key×D)}(h:i5 i e=some (m,ds)):e[i]?=some (some (m,.dk ds))∧own m=true:=by
 unfold i5 at h
 split at h
 ·rename_i e
  split at h
  ·cases h;exact⟨e,by assumption⟩
  ·cases h
 ·cases h
theorem Rel.dct{i:Nat}{m:M}{ds:List (Key×D)}(R:Rel K H₀ I O H σ env)(h:i5 i env=some (m,ds)):∃p ai,σ[i]?=some (some (.ref p))∧O p∧H p=some (.dK ai)∧Ent K (fun a=>¬O a∧H₀ a=none) H ai ds:=by
 obtain⟨e,o⟩:=Eb h
 obtain⟨v,hv,n,hm⟩:=R.e.at e
 cases m<;>simp only[own]at o<;>try (cases o;done)
 ·obtain⟨p,rfl,h1,h2,xs,c,z,r⟩:=hm;exact⟨p,xs,hv,h1,c,z,r⟩
 ·obtain⟨p,rfl,h1,xs,c,z,r⟩:=hm;exact⟨p,xs,hv,h1,c,z,r⟩
theorem Rel.VF{i:Nat}{m:M}{ds:List (Key×D)}{p:Addr}{xs ys:List (Key×V)}{es:List (Key×D)}(R:Rel K H₀ I O H σ env)(h:i5 i env=some (m,ds))(hp:σ[i]?=some (some (.ref p)))(hx:H p=some (.dK xs))(r:Ent K (fun a=>¬O a∧H₀ a=none) H ys es) :
  Rel K H₀ I O (L2.upd H p (.dK ys)) σ (env.set i (some (m,.dk es)))∧aV O H O (L2.upd H p (.dK ys)):=by
 obtain⟨e,o⟩:=Eb h
 have hO:=(R.lH e o hp).1
 exact R.mut e o hp ⟨ys,bF,r.1,r.2.upd hO hx (fun z=>z)⟩
noncomputable def gZ(i:Nat)(fk fe:Ev→Option (M×D)):Ev→Option Fl:=fun e=>(fe e).bind fun x=>(fk e).bind fun y=>(keyOf y.2).bind fun k=>if cf x.1 x.2=true then (i5 i e).bind fun z=>if z.2.length<sizeLine then some (.nx (e.set i (some (z.1,.dk (putD z.2 k x.2)))))else none else none
theorem Pu{i:Nat}{t tk:TE}{f fk:Ev→Option (M×D)}(h:JT K t f)(hk:JT K tk fk):JS K (uK (iy i) tk t) (gZ i fk f):=by
 intro H₀ I O H σ env Ds fl R e q
 obtain⟨x,ex,e⟩:=ax e
 obtain⟨y,ey,e⟩:=ax e
 obtain⟨k,ek,e⟩:=ax e
 split at e
 ·rename_i hs
  obtain⟨⟨m,ds⟩,ez,e⟩:=ax e
  split at e
  ·rename_i hl
   cases e
   obtain⟨p,ai,hp,hO,hx,r⟩:=R.dct ez
   refine h H₀ O H σ env _ x.1 x.2 R.e ex fun v H1 s1 h1=>?_
   refine⟨.ref p,hp,?_⟩
   refine hk H₀ O H1 σ env _ y.1 y.2 (R.keep s1).e ey fun w H2 s2 h2=>?_
   obtain rfl:=j9 ek h2.weak
   have s:=s1.trans s2
   refine⟨p,_,rfl,.inl ⟨ai,k,s _ _ hx,rfl,by rw[r.len];exact hl,rfl⟩,?_⟩
   obtain⟨R2,st⟩:=(R.keep s).VF (ys:=putK ai k v) (es:=putD ds k x.2) ez hp (s _ _ hx) (Ent.put ⟨r.1,r.2.keep (.same s)⟩ ((h1.keep s2).cf hs))
   exact q O _ σ R2 ((aV.same s).trans st)
  ·cases e
 ·cases e
noncomputable def yV(fk fv:Ev→Option (M×D)):Ev→Option (M×D):=fun e=>(fk e).bind fun y=>(fv e).bind fun x=>(keyOf y.2).bind fun k=>if x.2.bU=true then some (.un,.dk [(k,x.2)])else none
theorem Pw{tk tv:TE}{fk fv:Ev→Option (M×D)}(hk:JT K tk fk)(hv:JT K tv fv):JT K (FJ [(tk,tv)]) (yV fk fv):=by
 intro H₀ O H σ env Q m d R h q
 obtain⟨y,ey,h⟩:=ax h
 obtain⟨x,ex,h⟩:=ax h
 obtain⟨k,ek,h⟩:=ax h
 split at h
 ·rename_i HY
  cases h
  intro p hp
  have s0:aJ H (upd H p (.dK [])):=cn hp
  refine hk H₀ O _ σ env _ y.1 y.2 (R.keep s0) ey fun w H1 s1 h1=>?_
  refine hv H₀ O H1 σ env _ x.1 x.2 ((R.keep s0).keep s1) ex fun v H2 s2 h2=>?_
  obtain rfl:=j9 ek h1.weak
  have rh:H2 p=some (.dK []):=s2 _ _ (s1 _ _ bF)
  refine⟨rh,[(k,v)],rfl,by show 1≤15;decide,?_⟩
  have sm:aJ H (upd H2 p (.dK (m9 [] [(k,v)]))):=fun a o e=>by
   rw[aP (dm e hp)]
   exact s2 _ _ (s1 _ _ (s0 _ _ e))
  refine q _ _ sm ⟨p,rfl,hp,iT R.hd hp,f7 R.od hp,[(k,v)],bF,rfl,.cons ?_ .nil⟩
  refine(Rp.im (N':=fun _=>False) HY h2.weak).keep (fun a o e z=>?_) |>.im HY
  have eD:a≠p:=by
   rintro rfl
   rcases z with z|z
   ·exact z
   ·rw[rh]at e;cases e;exact z
  rw[aP eD];exact e
 ·cases h
end
section
variable {K:PySem.W.Frag}{H H' H₀:Hp}{I:Nat→Option Addr}{O:Addr→Prop}{σ:L2.St}{env:Ev}
theorem Rel.Si{i:Nat}{C:Addr}{qs:List Addr}{aT:List (List D)}{H1:Hp}(R:Rel K H₀ I O H σ env)(s:aJ H H1)(nn:∀(j:Nat) d,j≠i→env[j]?≠some (some (.nb,d)))(hC:H C=none)(hq:∀q∈qs,H q=none∧q≠C)(nd:qs.Nodup)
  (e:H1 C=some (.lst (qs.map V.ref))) (hp:Paired (fun q ds=>∃xs,H1 q=some (.lst xs)∧aA K (fun a=>¬(O a∨a=C∨a∈qs)∧H₀ a=none) H1 xs ds) qs aT) :
  Rel K H₀ I (fun a=>O a∨a=C∨a∈qs) H1 (σ.set i (some (.ref C))) (env.set i (some (.nb,.lst (aT.map D.lst))))∧aV O H (fun a=>O a∨a=C∨a∈qs) H1:=by
 have np:∀a,(∃o,H a=some o)→¬(a=C∨a∈qs):=fun a ⟨o,ea⟩ z=>by
  rcases z with rfl|z
  ·rw[hC]at ea;cases ea
  ·rw[(hq a z).1]at ea;cases ea
 have n0:∀a,(a=C∨a∈qs)→H₀ a=none:=fun a z=>by
  cases h0:H₀ a with
  |none=>rfl
  |some o=>exact absurd z (np a (R.e.hd a o h0))
 have nO:∀a,(a=C∨a∈qs)→¬O a:=fun a z ho=>np a (R.e.od a ho) z
 have wk:∀{N:Addr→Prop}{d:D}{v:V},Rp K N H v d→Rp K (fun a=>N a∧¬(a=C∨a∈qs)) H1 v d:=fun r=>(r.wk fun a n e=>⟨n,np a e⟩).keep (.same s)
 have qY:∀{N:Addr→Prop}{d:D}{q:Addr},Cell K N H q d→Cell K (fun a=>N a∧¬(a=C∨a∈qs)) H1 q d:=fun {N d q} r=>by
  obtain⟨o,e,_⟩:=r.some
  exact(r.wk fun a n e=>⟨n,np a e⟩).keep (.same s) ((s _ _ e).trans e.symm)
 have AG:∀{j:Nat}{d:D},(env.set i (some (M.nb,D.lst (aT.map D.lst))))[j]?=some (some (.nb,d))→j=i:=fun {j d} h=>by
  rcases get_set h with⟨z,_⟩|⟨z,q⟩
  ·exact z
  ·exact absurd q (nn j d z)
 have HZ:∀a,(a=C∨a∈qs)→∃o,H1 a=some o∧¬hX o:=fun a z=>by
  rcases z with rfl|z
  ·exact⟨_,e,fun z=>z⟩
  ·obtain⟨ds,xs,hx,_⟩:=xH hp z
   exact⟨_,hx,fun z=>z⟩
 refine⟨⟨⟨lz ?_ ?_,?_,?_,?_⟩,?_,?_,?_,?_,?_⟩,?_⟩
 ·rw[List.length_set,List.length_set];exact Paired.length R.e.sl
 ·intro j y x hy hx m d ey
  subst ey
  rcases get_set hy with⟨rfl,z⟩|⟨nj,q⟩
  ·cases z
   rcases get_set hx with⟨_,z⟩|⟨z,_⟩
   ·subst z
    exact⟨rfl,_,rfl,C,qs,aT,rfl,rfl,.inr (.inl rfl),n0 C (.inl rfl),e,nd,fun q hm=>⟨.inr (.inr hm),n0 q (.inr hm),(hq q hm).2⟩,hp⟩
   ·exact absurd rfl z
  ·rw[eC (fun z=>nj z.symm)]at hx
   obtain⟨v,hv,n,z⟩:=R.e.at q
   rw[hx]at hv;cases hv
   refine⟨n,v,rfl,?_⟩
   cases m
   ·exact(wk z).wk fun a h _=>fun z=>z.elim h.1 h.2
   ·exact(wk z).wk fun a h _=>⟨fun z=>z.elim h.1.1 h.2,h.1.2⟩
   ·cases n
   ·obtain⟨q,rfl,h1,h2,c'⟩:=z
    exact⟨q,rfl,.inl h1,h2,(qY c').wk fun a h _=>⟨fun z=>z.elim h.1.1 h.2,h.1.2⟩⟩
   ·obtain⟨q,rfl,h1,c'⟩:=z
    exact⟨q,rfl,.inl h1,(qY c').wk fun a h _=>⟨fun z=>z.elim h.1.1 h.2,h.1.2⟩⟩
   ·cases n
   ·exact absurd q (nn j d nj)
 ·intro a ha
  rcases ha with ha|ha
  ·obtain⟨o,e⟩:=R.e.od a ha;exact⟨o,s _ _ e⟩
  ·obtain⟨o,eo,_⟩:=HZ a ha;exact⟨o,eo⟩
 ·exact fun a o h=>let ⟨o,e⟩:=R.e.hd a o h;⟨o,s _ _ e⟩
 ·intro a u ha eu
  rcases ha with ha|ha
  ·exact(R.e.keep s).on a u ha eu
  ·obtain⟨o,eo,nt⟩:=HZ a ha
   rw[eu]at eo;cases eo;exact nt
 ·exact fun a o n h=>s _ _ (R.fr a o n h)
 ·intro a ha
  rcases ha with ha|ha
  ·exact R.ow a ha
  ·exact .inr (n0 a ha)
 ·intro i' d' p' h1 p1
  rcases get_set h1 with⟨rfl,q⟩|⟨n1,q1⟩
  ·cases q
  ·rw[eC (fun z=>n1 z.symm)]at p1
   exact R.ba i' d' p' q1 p1
 ·intro i' j x y q h1 h2 o1 o2 p1 p2
  rcases get_set h1 with⟨rfl,q1⟩|⟨n1,q1⟩
  ·cases q1;cases o1
  ·rcases get_set h2 with⟨rfl,q2⟩|⟨n2,q2⟩
   ·cases q2;cases o2
   ·rw[eC (fun z=>n1 z.symm)]at p1
    rw[eC (fun z=>n2 z.symm)]at p2
    exact R.dj i' j x y q q1 q2 o1 o2 p1 p2
 ·refine⟨fun i' j d1 d2 h1 h2=>(AG h1).trans (AG h2).symm,fun i' j d1 x p' q xs h1 p1 h2 o2 p2 ex=>?_⟩
  have hi:=AG h1
  subst hi
  have rn:p'=C:=by
   rcases get_set p1 with⟨_,z⟩|⟨z,_⟩
   ·cases z;rfl
   ·exact absurd rfl z
  subst rn
  rw[e]at ex;cases ex
  rcases get_set h2 with⟨rfl,z⟩|⟨n2,q2⟩
  ·cases z;cases o2
  ·rw[eC (fun z=>n2 z.symm)]at p2
   have hO:=(R.lH q2 o2 p2).1
   refine⟨fun z=>nO q (.inl z) hO,fun z=>?_⟩
   obtain⟨a,ha,ea⟩:=bu.mp z
   exact nO q (.inr (by cases ea;exact ha)) hO
 ·intro a o h n
  exact⟨s a o h,fun z=>z.elim n (np a ⟨o,h⟩)⟩
noncomputable def vn(i:Nat)(e:Ev):Bool:=(List.range e.length).all fun j=>decide (j=i)||(match e[j]? with
 |some (some (.nb,_))=>false
 |_=>true)
theorem Px{i:Nat}{e:Ev}(h:vn i e=true)(j:Nat)(d:D)(hj:j≠i):e[j]?≠some (some (.nb,d)):=fun z=>by
 have hl:j<e.length:=(bO.mp z).1
 have:=List.all_eq_true.mp h j (List.mem_range.mpr hl)
 rw[z,df hj]at this
 cases this
noncomputable def nP(i:Nat)(it:Ev→Option (M×List D)):Ev→Option Fl:=fun e=>(it e).bind fun y=>if vn i e=true∧y.2.length<sizeLine then some (.nx (e.set i (some (.nb,.lst ((y.2.map fun _=>([]:List D)).map D.lst)))))else none
theorem Py{i:Nat}{wi:TI}{ix:List Nat}{it:Ev→Option (M×List D)}(hi:JI K wi it):JS K (gf (nJ wi ix vd (u5 kH)) (fK i)) (nP i it):=by
 intro H₀ I O H σ env Ds fl R e q
 obtain⟨⟨mi,ds⟩,ei,e⟩:=ax e
 split at e
 ·rename_i hc
  obtain⟨hn,hl⟩:=hc
  cases e
  refine hi H₀ O H σ env _ mi ds R.e ei fun J H1 s1 hm ok C hC=>?_
  refine⟨fun k n H2=>n=ds.length-k∧k≤ds.length∧aJ H1 H2∧∃qs:List Addr,H2 C=some (.lst (qs.map V.ref))∧qs.length=k∧qs.Nodup∧∀q∈qs,H1 q=none∧q≠C∧H2 q=some (.lst []),⟨_,rfl,Nat.zero_le _,cn hC,[],bF,rfl,List.nodup_nil,fun _ h=>nomatch h⟩,?_⟩
  rintro k n H2 ⟨rfl,hle,s2,qs,H0,AH,dg,rq⟩
  have a7:aV O H1 O H2:=aV.same s2
  by_cases aU:k<ds.length
  ·refine .inr ⟨ok.go O H2 k a7 aU,fun x H3 y=>?_⟩
   obtain⟨s3,_⟩:=ok.iF O H2 k x H3 a7 aU y
   refine My.Vy (σ:=some x::dF σ ix) (H:=H3) (A:=fun H3=>u5 kH (some x::dF σ ix) H3 _) (B:=fun H3=>_) ?_
   refine⟨Nat.zero_le _,fun p hp=>?_⟩
   have c3:H3 C=some (.lst (qs.map V.ref)):=s3 _ _ H0
   have rn:C≠p:=dm c3 hp
   have W6:p∉qs:=fun z=>by rw[s3 _ _ (rq p z).2.2]at hp;cases hp
   refine⟨qs.map V.ref,by rw[aP rn];exact c3,by rw[List.length_map,AH];exact Nat.lt_trans aU hl,ds.length-(k+1),by omega,rfl,aU,fun a o ha=>?_,qs++[p],?_,by rw[dO,AH];rfl,?_,fun a ha=>?_⟩
   ·rw[aP (dm ha hC)]
    have h3:=s3 _ _ (s2 _ _ ha)
    rw[aP (dm h3 hp)];exact h3
   ·rw[bF,List.map_append];rfl
   ·rw[List.nodup_append]
    refine⟨dg,by simp,fun a ha b hb=>?_⟩
    have:b=p:=by simpa using hb
    subst this
    exact fun z=>W6 (z▸ha)
   ·rcases cU.mp ha with ha|ha
    ·obtain⟨z1,z2,z3⟩:=rq a ha
     refine⟨z1,z2,?_⟩
     have h3:=s3 _ _ z3
     rw[aP z2,aP (dm h3 hp)];exact h3
    ·have:a=p:=by simpa using ha
     subst this
     have AI:H1 a=none:=by
      cases h1:H1 a with
      |none=>rfl
      |some o=>rw[s3 _ _ (s2 _ _ h1)]at hp;cases hp
     exact⟨AI,fun z=>rn z.symm,by rw[aP (fun z=>rn z.symm),bF]⟩
  ·have hk:k=ds.length:=by omega
   subst hk
   refine .inl ⟨ok.stop O H2 a7,?_⟩
   have pr:∀(qs:List Addr) (ds:List D) (N:Addr→Prop),qs.length=ds.length→(∀q∈qs,H2 q=some (.lst []))→Paired (fun q (es:List D)=>∃xs,H2 q=some (.lst xs)∧aA K N H2 xs es) qs (ds.map fun _=>([]:List D)):=by
    intro qs
    induction qs with
    |nil=>intro ds N h _;cases ds with
     |nil=>exact .nil
     |cons _ _=>cases h
    |cons a qs ih=>intro ds N h hh;cases ds with
     |nil=>cases h
     |cons d ds=>exact .cons ⟨[],hh a bV,.nil⟩ (ih ds N (by simpa using h) fun q hq=>hh q (b9 _ hq))
   obtain⟨R',st⟩:=(R.keep s1).Si (i:=i) (C:=C) (qs:=qs) (aT:=ds.map fun _=>[]) s2 (fun j d hj=>Px hn j d hj) hC (fun a ha=>⟨(rq a ha).1,(rq a ha).2.1⟩) dg H0 (pr qs ds _ AH fun a ha=>(rq a ha).2.2)
   exact q _ H2 _ R' ((aV.same s1).trans st)
 ·cases e
noncomputable def n8:List D→Option (List (List D))
 |[]=>some []
 |.lst d::r=>(n8 r).bind fun x=>some (d::x)
 |_=>none
theorem Ec:∀{ds:List D}{aT:List (List D)},n8 ds=some aT→ds=aT.map D.lst
 |[],_,h=>by cases h;rfl
 |d::r,aT,h=>by
  cases d<;>simp only[n8]at h<;>try (cases h;done)
  obtain⟨x,ex,h⟩:=ax h
  cases h
  rw[Ec ex,List.map_cons]
theorem xI:∀aT:List (List D),n8 (aT.map D.lst)=some aT
 |[]=>rfl
 |d::r=>by rw[List.map_cons,n8,xI r];rfl
noncomputable def rA(i:Nat)(e:Ev):Option (List (List D)):=match e[i]? with
 |some (some (.nb,.lst ds))=>n8 ds
 |_=>none
theorem Sj{i:Nat}{e:Ev}{aT:List (List D)}(h:rA i e=some aT):e[i]?=some (some (.nb,.lst (aT.map D.lst))):=by
 unfold rA at h
 split at h
 ·rename_i e
  rw[e,Ec h]
 ·cases h
theorem BZ:∀{a b:List (List D)},a.map D.lst=b.map D.lst→a=b
 |[],[],_=>rfl
 |[],_::_,h=>by cases h
 |_::_,[],h=>by cases h
 |x::a,y::b,h=>by
  rw[List.map_cons,List.map_cons]at h
  obtain⟨h1,h2⟩:=List.cons.inj h
  rw[D.lst.inj h1,BZ h2]
theorem CQ{F:Addr→List D→Prop}:∀{qs:List Addr}{aT:List (List D)}{j:Nat}{ds:List D},Paired F qs aT→aT[j]?=some ds→∃q,qs[j]?=some q∧F q ds
 |_,_,_,_,.nil,h=>by simp at h
 |_,_,0,_,.cons a t,h=>by simp at h;subst h;exact⟨_,rfl,a⟩
 |_,_,j+1,ds,.cons a t,h=>by
  obtain⟨q,h1,h2⟩:=CQ (j:=j) (ds:=ds) t (by simpa using h)
  exact⟨q,by simpa using h1,h2⟩
theorem CT{F G:Addr→List D→Prop}{es:List D}:∀{qs:List Addr}{aT:List (List D)}{j:Nat}{q:Addr},qs.Nodup→Paired F qs aT→qs[j]?=some q→G q es→(∀a ds,a∈qs→a≠q→F a ds→G a ds)→Paired G qs (aT.set j es)
 |_,_,_,_,_,.nil,h,_,_=>by simp at h
 |a::qs,ds::aT,0,q,hn,.cons x t,h,g,w=>by
  simp at h;subst h
  rw[List.nodup_cons]at hn
  exact .cons g (kh (fun b es hb hf=>w b es (b9 _ hb) (fun z=>hn.1 (z▸hb)) hf) t)
 |a::qs,ds::aT,j+1,q,hn,.cons x t,h,g,w=>by
  rw[List.nodup_cons]at hn
  have h':qs[j]?=some q:=by simpa using h
  have hq:q∈qs:=fm h'
  exact .cons (w a ds bV (fun z=>hn.1 (z▸hq)) x) (CT hn.2 t h' g fun b es hb=>w b es (b9 _ hb))
theorem Rel.VG{i:Nat}{aT:List (List D)}{p q:Addr}{qs:List Addr}{j:Nat}{xs ys:List V}{es:List D}(R:Rel K H₀ I O H σ env)(hx:env[i]?=some (some (.nb,.lst (aT.map D.lst))))(hp:σ[i]?=some (some (.ref p)))
  (h1:O p) (h2:H₀ p=none) (h3:H p=some (.lst (qs.map V.ref))) (h4:qs.Nodup) (h5:∀q∈qs,O q∧H₀ q=none∧q≠p) (h6:Paired (fun q ds=>∃xs,H q=some (.lst xs)∧aA K (fun a=>¬O a∧H₀ a=none) H xs ds) qs aT)
  (hq:qs[j]?=some q) (eq:H q=some (.lst xs)) (r:aA K (fun a=>¬O a∧H₀ a=none) H ys es) :
  Rel K H₀ I O (upd H q (.lst ys)) σ (env.set i (some (.nb,.lst ((aT.set j es).map D.lst))))∧aV O H O (upd H q (.lst ys)):=by
 have Ia:q∈qs:=fm hq
 obtain⟨qO,q0,qp⟩:=h5 q Ia
 have kp:∀{N:Addr→Prop},(∀a,N a→¬O a)→Keeps N H (upd H q (.lst ys)):=fun w a u h z=>by
  have eD:a≠q:=by
   rintro rfl
   rcases z with z|z
   ·exact w _ z qO
   ·rw[eq]at h;cases h;exact z
  rw[aP eD];exact h
 have hi:i<env.length:=(bO.mp hx).1
 have GC:∀{k:Nat}{x:M×D}{p':Addr},env[k]?=some (some x)→own x.1=true→σ[k]?=some (some (.ref p'))→p'≠q:=fun {k x p'} a b c z=>by
  obtain⟨_,z2⟩:=R.nd.2 i k _ x p p' _ hx hp a b c h3
  exact z2 (bu.mpr ⟨q,Ia,by rw[z]⟩)
 have AJ:∀{k:Nat}{d1:D},(env.set i (some (M.nb,D.lst ((aT.set j es).map D.lst))))[k]?=some (some (.nb,d1))→k=i:=fun {k d1} h=>by
  rcases get_set h with⟨z,_⟩|⟨_,z⟩
  ·exact z
  ·exact R.nd.1 k i d1 _ z hx
 refine⟨⟨⟨lz ?_ ?_,?_,?_,?_⟩,?_,R.ow,?_,?_,?_⟩,?_⟩
 ·rw[List.length_set];exact Paired.length R.e.sl
 ·intro k y x hy rB m d ey
  subst ey
  rcases get_set hy with⟨rfl,z⟩|⟨nk,z⟩
  ·cases z
   rw[hp]at rB;cases rB
   refine⟨rfl,_,rfl,p,qs,aT.set j es,rfl,rfl,h1,h2,by rw[aP (fun z=>qp z.symm)];exact h3,h4,h5,CT h4 h6 hq ⟨ys,bF,r.keep (kp fun a h=>h.1)⟩ fun a ds ha eD ⟨zs,e1,e2⟩=>⟨zs,by rw[aP eD];exact e1,e2.keep (kp fun a h=>h.1)⟩⟩
  ·obtain⟨v,hv,n,hm⟩:=R.e.at z
   rw[rB]at hv;cases hv
   refine⟨n,v,rfl,?_⟩
   cases m
   ·exact Rp.keep (kp fun a h=>h) hm
   ·exact Rp.keep (kp fun a h=>h.1) hm
   ·cases n
   ·obtain⟨p',rfl,h1,h2,c'⟩:=hm
    exact⟨p',rfl,h1,h2,c'.keep (kp fun a h=>h.1) (aP (GC z rfl rB))⟩
   ·obtain⟨p',rfl,h1,c'⟩:=hm
    exact⟨p',rfl,h1,c'.keep (kp fun a h=>h.1) (aP (GC z rfl rB))⟩
   ·cases n
   ·exact absurd (R.nd.1 k i d _ z hx) nk
 ·intro a ha
  by_cases z:a=q
  ·subst z;exact⟨_,bF⟩
  ·rw[aP z];exact R.e.od a ha
 ·intro a u h
  by_cases z:a=q
  ·subst z;exact⟨_,bF⟩
  ·rw[aP z];exact R.e.hd a u h
 ·intro a u ha e
  by_cases z:a=q
  ·subst z;rw[bF]at e;cases e;exact fun z=>z
  ·rw[aP z]at e;exact R.e.on a u ha e
 ·intro a u n h
  have z:a≠q:=by rintro rfl;rw[q0]at h;cases h
  rw[aP z];exact R.fr a u n h
 ·intro i' e' p' g1 p1
  rcases get_set g1 with⟨rfl,z⟩|⟨n1,q1⟩
  ·cases z
  ·exact R.ba i' e' p' q1 p1
 ·intro i' k x y a g1 g2 o1 o2 p1 p2
  rcases get_set g1 with⟨rfl,z⟩|⟨_,q1⟩
  ·cases z;cases o1
  ·rcases get_set g2 with⟨rfl,z⟩|⟨_,q2⟩
   ·cases z;cases o2
   ·exact R.dj i' k x y a q1 q2 o1 o2 p1 p2
 ·refine⟨fun i' k d1 d2 g1 g2=>(AJ g1).trans (AJ g2).symm,fun i' k d1 x p' a zs g1 p1 g2 o2 p2 e=>?_⟩
  have z:=AJ g1
  subst z
  rw[hp]at p1;cases p1
  rw[aP (fun z=>qp z.symm)]at e
  rcases get_set g2 with⟨rfl,z⟩|⟨_,q2⟩
  ·cases z;cases o2
  ·exact R.nd.2 i' k _ x p a zs hx hp q2 o2 p2 e
 ·intro a u h n
  have z:a≠q:=by rintro rfl;exact n qO
  exact⟨by rw[aP z];exact h,n⟩
noncomputable def kx(i:Nat)(fk f:Ev→Option (M×D)):Ev→Option Fl:=fun e=>(fk e).bind fun y=>(lW y).bind fun k=>(f e).bind fun x=>if cf x.1 x.2=true then (rA i e).bind fun aT=>(dP aT.length k).bind fun j=>(aT[j]?).bind fun ds=>if ds.length<sizeLine then some (.nx (e.set i (some (.nb,.lst ((aT.set j (ds++[x.2])).map D.lst)))))else none else none
theorem Pz{i:Nat}{t tk:TE}{f fk:Ev→Option (M×D)}(hk:JT K tk fk)(h:JT K t f):JS K (qb (vI K "list" ua (oj (vH K) (iy i) tk) (lJ t kH))) (kx i fk f):=by
 intro H₀ I O H σ env Ds fl R e q
 obtain⟨y,ey,e⟩:=ax e
 obtain⟨k,ek,e⟩:=ax e
 obtain⟨x,ex,e⟩:=ax e
 split at e
 ·rename_i hs
  obtain⟨aT,ed,e⟩:=ax e
  obtain⟨j,ej,e⟩:=ax e
  obtain⟨ds,W7,e⟩:=ax e
  split at e
  ·rename_i hl
   cases e
   have hx:=Sj ed
   obtain⟨v,hv,_,p,qs,YK,rfl,e2,h1,h2,h3,h4,h5,h6⟩:=R.e.at hx
   cases BZ (D.lst.inj e2)
   obtain⟨a,ha,xs,AK,rr⟩:=CQ h6 W7
   refine⟨.ref p,hv,?_⟩
   refine hk H₀ O H σ env _ y.1 y.2 R.e ey fun w H1 s1 hw=>?_
   rw[xV ek]at hw
   have hlen:qs.length=aT.length:=Paired.length h6
   refine .inl ⟨p,_,k,.ref a,rfl,hw.int,.inl (.inl (s1 _ _ h3)),?_,?_⟩
   ·unfold L2.bB
    rw[List.length_map,hlen,ej]
    show(qs.map V.ref)[j]?=_
    rw[dG,ha];rfl
   refine⟨.inl ⟨rfl,xs,.inl (.inl (s1 _ _ AK))⟩,?_⟩
   refine h H₀ O H1 σ env _ x.1 x.2 (R.e.keep s1) ex fun u H2 s2 hu=>?_
   have s:=s1.trans s2
   refine⟨a,xs,u,rfl,rfl,s _ _ AK,by rw[rr.len];exact hl,?_⟩
   have R2:=R.keep s
   obtain⟨R3,st⟩:=R2.VG (ys:=xs++[u]) (es:=ds++[x.2]) hx hv h1 h2 (s _ _ h3) h4 h5 (kh (fun q ds _ ⟨zs,e1,e2⟩=>⟨zs,s _ _ e1,e2.keep (.same s)⟩) h6) ha (s _ _ AK) ((rr.keep (.same s)).app (.cons (hu.cf hs) .nil))
   exact q O _ σ R3 ((aV.same s).trans st)
  ·cases e
 ·cases e
end
section
variable {K:PySem.W.Frag}
end
section
variable {K:PySem.W.Frag}{H H' H₀:Hp}{O:Addr→Prop}{σ:L2.St}{env:Ev}
theorem Val.E3{m:M}{ks:List (Key×D)}{v:V}{Hb:Hp}(h:Val K H₀ O Hb H m (.dk ks) v):∃a,v=.ref a∧vK H a:=by
 obtain⟨a,ai,rfl,rd,_⟩:=h.dk
 exact⟨a,rfl,.inl ⟨ai,rd⟩⟩
noncomputable def kl(fd fk:Ev→Option (M×D)):Ev→Option (M×D):=fun e=>(fd e).bind fun x=>(fk e).bind fun y=>(gH x.2).bind fun ks=>(keyOf y.2).bind fun k=>match cO ks k with
 |some d=>some (aQ x.1,d)
 |none=>some (.fr,.non)
theorem Ni{td ty:TE}{fd fk:Ev→Option (M×D)}(hd:JT K td fd)(hk:JT K ty fk):JT K (EJ td ty) (kl fd fk):=by
 intro H₀ O H σ env Q m d R h q
 obtain⟨x,ex,h⟩:=ax h
 obtain⟨y,ey,h⟩:=ax h
 obtain⟨ks,iO,h⟩:=ax h
 obtain⟨k,ek,h⟩:=ax h
 refine hd H₀ O H σ env _ x.1 x.2 R ex fun v H1 s1 h1=>?_
 rw[ug iO]at h1
 obtain⟨a,rfl,AO⟩:=h1.E3
 refine⟨a,rfl,AO,hk H₀ O H1 σ env _ y.1 y.2 (R.keep s1) ey fun w H2 s2 h2=>?_⟩
 obtain⟨a',ai,e',rd,en⟩:=(h1.keep s2).dk
 cases e'
 obtain rfl:=j9 ek h2.weak
 refine⟨dE ai k,.inl ⟨ai,k,rd,rfl,rfl⟩,?_⟩
 rcases en.val k with⟨z1,z2⟩|⟨d2,v2,z1,z2,r⟩
 ·rw[z1]at h;cases h
  rw[z2]
  exact q _ H2 (s1.trans s2) TH
 ·rw[z1]at h;cases h
  rw[z2]
  exact q v2 H2 (s1.trans s2) (Val.el r)
noncomputable def pW(fd fk fx:Ev→Option (M×D)):Ev→Option (M×D):=fun e=>(fd e).bind fun x=>(fk e).bind fun y=>(fx e).bind fun z=>(gH x.2).bind fun ks=>(keyOf y.2).bind fun k=>match cO ks k with
 |some d=>some (aQ x.1,d)
 |none=>if z.2.bU=true then some (.fr,z.2)else none
theorem Nj{td ty tx:TE}{fd fk fx:Ev→Option (M×D)}(hd:JT K td fd)(hk:JT K ty fk)(hx:JT K tx fx):JT K (EK td ty tx) (pW fd fk fx):=by
 intro H₀ O H σ env Q m d R h q
 obtain⟨x,ex,h⟩:=ax h
 obtain⟨y,ey,h⟩:=ax h
 obtain⟨z,ez,h⟩:=ax h
 obtain⟨ks,iO,h⟩:=ax h
 obtain⟨k,ek,h⟩:=ax h
 refine hd H₀ O H σ env _ x.1 x.2 R ex fun v H1 s1 h1=>?_
 rw[ug iO]at h1
 obtain⟨a,rfl,AO⟩:=h1.E3
 refine⟨a,rfl,AO,hk H₀ O H1 σ env _ y.1 y.2 (R.keep s1) ey fun w H2 s2 h2=>?_⟩
 refine hx H₀ O H2 σ env _ z.1 z.2 ((R.keep s1).keep s2) ez fun u H3 s3 h3=>?_
 obtain⟨a',ai,e',rd,en⟩:=((h1.keep s2).keep s3).dk
 cases e'
 obtain rfl:=j9 ek h2.weak
 have s:=(s1.trans s2).trans s3
 refine⟨dE ai k,.inl ⟨ai,k,rd,rfl,rfl⟩,?_⟩
 rcases en.val k with⟨z1,z2⟩|⟨d2,v2,z1,z2,r⟩
 ·rw[z1]at h
  simp only at h
  split at h
  ·rename_i hi
   cases h
   rw[z2]
   exact q u H3 s (show Rp K _ H3 u z.2 from h3.weak.im hi)
  ·cases h
 ·rw[z1]at h;cases h
  rw[z2]
  exact q v2 H3 s (Val.el r)
end
end J
namespace J
open PySem PySem.Spec PyProof.Rows L2
section
variable {X:Cx}{pins:List (Addr×Obj)}{σ:L2.St}{H:Hp}{s:Shared}{a d it:Addr}
end
noncomputable def zI:Key→D
 |.inl i=>.int i
 |.inr x=>.str x
 |.non=>.non
section
variable {K:PySem.W.Frag}{N:Addr→Prop}{H H' H₀ H₁:Hp}{I:Nat→Option Addr}{O:Addr→Prop}{σ:L2.St}{env:Ev}
theorem Ent.at{ai:List (Key×V)}{ks:List (Key×D)}{i:Nat}{kv:Key×V}(h:Ent K N H ai ks)(e:ai[i]?=some kv):∃d,ks[i]?=some (kv.1,d)∧Rp K N H kv.2 d:=by
 induction ai generalizing ks i with
 |nil=>simp at e
 |cons p ai ih =>
  cases ks with
  |nil=>exact absurd h.len (by simp)
  |cons q ks =>
   obtain⟨e1,r,t⟩:=h.cons_inv
   cases i with
   |zero=>simp only[List.getElem?_cons_zero,Option.some.injEq]at e;subst e;exact⟨q.2,by rw[List.getElem?_cons_zero,e1],r⟩
   |succ i=>obtain⟨d,h1,h2⟩:=ih t (by simpa using e);exact⟨d,by simpa using h1,h2⟩
end
end J
namespace J
open PySem
end J
namespace J
open PySem PySem.Spec PyProof.Rows L2
theorem pE:∀(ds:List D),cu ds=ds.map toPy
 |[]=>by simp[cu]
 |d::ds=>by simp[cu,pE ds]
section
variable {X:Cx}{pins:List (Addr×Obj)}{σ:L2.St}{H:Hp}{s:Shared}{N N':Addr→Prop}{A:Around}{a b:Addr}{ai Y2:List (Key×V)}{ks ls:List (Key×D)}
end
section
variable {X:Cx}{K:PySem.W.Frag}
end
theorem ints_of:∀{ns:List Int}{us:List Value},Vals (ns.map V.int) us→IntsAre us ns
 |[],_,.nil=>.nil
 |n::ns,_,.cons ⟨t,e⟩ r=>by subst e;exact .cons n t (ints_of r)
noncomputable def nQ:List D→Option (List Int)
 |[]=>some []
 |.int x::r=>(nQ r).bind fun xs=>some (x::xs)
 |_=>none
section
variable {K:PySem.W.Frag}{H:Hp}
theorem Du{N:Addr→Prop}:∀{ds:List D}{vs:List V}{ys:List Int},aA K N H vs ds→nQ ds=some ys→vs=ys.map V.int
 |_,_,_,.nil,e=>by cases e;rfl
 |d::ds,v::vs,ys,.cons h r,e=>by
  cases d<;>simp only[nQ]at e<;>try (cases e;done)
  obtain⟨xs,ex,e⟩:=ax e
  cases e
  rw[Du r ex,h.int_inv];rfl
end
structure zJ (K:PySem.W.Frag)(x:Str)(st:Stmt)(f:Addr)(fd:FuncData):Prop where
 ex:∃(oc:Value) (od:Option Addr) (dV kV doc pm:Value) (an:Option Addr) (bM ct:Value) (iH:Array (Option Value)),
  fd=PySem.W.fnOf x x (f9 st) (eY st) (b6 st) dV kV doc pm an bM ct∧K.lookup f=some ⟨oc,od,.func fd,iH⟩∧PySem.W.codeIn K bM x=true
 kp:PySem.W.keepIn K (.ref f)=true
theorem zJ.ok{P:Program}{w:World}{K:PySem.W.Frag}{mg:Str→Option Value}{base:Heap}{x:Str}{st:Stmt}{f:Addr}{fd:FuncData}{N ps:List Str}{k:Nat}{sp:Sp}(F:zJ K x st f fd)(S:pO N ps (b6 st))(len:∀vs H Q E,sp vs H Q E→vs.length=ps.length)
  (qd:∀(bM:Value) (A:Around) (outer:List Env) (s:Shared) (H:Hp) (vs:List V) (Q:VK) (E:XK),dD k (A.deeper (envOfC x (b6 st) s.heap.objs.size f bM))→sp vs H Q E →
   ∃t,fP (kJ jX P w K mg base N x (b6 st) f bM A outer s H E).mv (eY st) t∧t { nx:=fun _ H'=>Q .non H',rt:=Q } (L2.start N vs) H):jK P w K mg base jX (k+1) f fd ps sp:=by
 obtain⟨oc,od,dV,kV,doc,pm,an,bM,ct,iH,rfl,lk,gJ⟩:=F.ex
 refine FD lk gJ S len fun A outer s H vs Q E hr i9=>?_
 obtain⟨t,h,q⟩:=qd bM A outer s H vs Q E hr i9
 exact⟨t,h.mv,q⟩
structure Y3 (K:PySem.W.Frag)(mg:Str→Option Value)(x:Str)(st:Stmt)(ps:List Str)(dv:Value)(f:Addr)(fd:FuncData):Prop where
 mg:mg x=some (.ref f)
 fn:zJ K x st f fd
 bd:Binds K fd ps []
 Y4:Binds K fd ps [dv]
end J
namespace J
open PySem PySem.Spec PyProof.Rows L2
open Builtin Builtin.Str
section
variable {K:PySem.W.Frag}{H:Hp}
end
end J
namespace J
open PySem PySem.Spec PyProof.Rows L2
section
variable {prog:Program}{w:World}{A:Around}{E:Value→Shared→Prop}{s:Shared}{d:Addr}
end
section
variable {prog:Program}{w:World}{A:Around}{E:Value→Shared→Prop}{s:Shared}
inductive uP {κ:Type}[DecidableEq κ](A:Around)(s:Shared)(kb:List (κ×Addr×Value)):List (κ×Addr×Value)→Bool→Prop
 |nil:uP A s kb [] true
 |miss {k:κ}{p:Addr×Value}{r:List (κ×Addr×Value)}:atKey kb k=none→uP A s kb ((k,p)::r) false
 |hit {k:κ}{p q:Addr×Value}{r:List (κ×Addr×Value)}{e b:Bool}:atKey kb k=some q→SeqAt.EqAt A s p.2 q.2 e→uP A s kb r b→uP A s kb ((k,p)::r) (e&&b)
end
def Raw(h:Heap)(d:Addr)(es:Array DictEntry)(ep:Nat):Prop:=∃o,h.get? d=some o∧o.ExactDict∧o.data=.dict es ep
theorem Raw.ty{s:Shared}{d:Addr}{es:Array DictEntry}{ep:Nat}(h:Raw s.heap d es ep):s.TypeIs (.ref d) "dict" := let ⟨o,a,b,_⟩:=h;⟨o,a,b.1⟩
section
variable {prog:Program}{w:World}{A:Around}{E:Value→Shared→Prop}{s:Shared}{d it:Addr}{es:Array DictEntry}{ep i n:Nat}
end
noncomputable def VH:HO→Bool
 |.dK _=>true
 |.dT _=>true
 |_=>false
noncomputable def VJ:HO→List V
 |.dK ai=>ai.map (·.2)
 |.dT ai=>ai.map (·.2)
 |_=>[]
section
variable {X:Cx}{pins:List (Addr×Obj)}{σ:L2.St}{H:Hp}{s:Shared}{a it:Addr}
end
end J
namespace J
open PySem L2
section
variable {K:PySem.W.Frag}{N:Addr→Prop}{H H' H₀ H₁:Hp}{I:Nat→Option Addr}{O:Addr→Prop}{σ:L2.St}{env:Ev}
noncomputable def W8:D→Option (List D)
 |.dk ks=>some (ks.map (·.2))
 |.dt ks=>some (ks.map (·.2))
 |_=>none
noncomputable def DR(K:PySem.W.Frag)(N:Addr→Prop)(H:Hp):HO→D→Prop
 |.dK ai,.dk ks=>Ent K N H ai ks
 |.dT ai,.dt ks=>Ent K N H ai ks
 |_,_=>False
theorem DR.dc{u:HO}{d:D}(h:DR K N H u d):VH u=true:=by cases u<;>cases d<;>first|rfl|exact h.elim
theorem DR.vs{u:HO}{d:D}{ds:List D}(h:DR K N H u d)(e:W8 d=some ds):aA K N H (VJ u) ds:=by
 cases u<;>cases d<;>first|exact h.elim|skip
 ·cases e;exact h.2
 ·cases e;exact h.2
theorem DR.mono{N':Addr→Prop}{u:HO}{d:D}(h:DR K N H u d)(w:∀{vs:List V}{ds:List D},aA K N H vs ds→aA K N' H' vs ds):DR K N' H' u d:=by
 cases u<;>cases d<;>first|exact h.elim|exact⟨h.1,w h.2⟩
end
end J
namespace J
open PySem PySem.Spec PyProof.Rows L2
noncomputable def keysOf:List D→Option (List Key)
 |[]=>some []
 |d::ds=>(keyOf d).bind fun k=>(keysOf ds).map fun ks=>k::ks
noncomputable def n9:D→Option (List Key)
 |.tup ds=>if ds.length<4 then keysOf ds else none
 |_=>none
noncomputable def vo:D→Option (List (List Key×D))
 |.dt ks=>some ks
 |_=>none
theorem Ed{d:D}{ks:List (List Key×D)}(h:vo d=some ks):d=.dt ks:=by cases d<;>simp only[vo]at h<;>cases h;rfl
section
variable {K:PySem.W.Frag}{N:Addr→Prop}{H H' H₀:Hp}{I:Nat→Option Addr}{O:Addr→Prop}{σ:L2.St}{env:Ev}
theorem Cp:∀{ds:List D}{ks:List Key}{vs:List V},keysOf ds=some ks→aA K N H vs ds→vs=ks.map kV
 |[],_,_,e,.nil=>by cases e;rfl
 |d::ds,_,_,e,.cons h r=>by
  obtain⟨k,e1,e⟩:=ax e
  cases e2:keysOf ds with
  |none=>rw[e2]at e;cases e
  |some l=>rw[e2]at e;cases e;rw[Cp e2 r,j9 e1 h];rfl
theorem xJ{d:D}{ks:List Key}{v:V}(e:n9 d=some ks)(h:Rp K N H v d):∃b,v=.ref b∧H b=some (.tup (ks.map kV)):=by
 cases d<;>try (cases e;done)
 rename_i ds
 simp only[n9]at e
 split at e
 ·rename_i hl
  cases h with
  |tup q r =>
   have:=r.len
   have z:=q.own (by omega)
   rw[Cp e r]at z
   exact⟨_,rfl,z⟩
 ·cases e
theorem Val.dt{m:M}{ks:List (List Key×D)}{v:V}{Hb:Hp}(h:Val K H₀ O Hb H m (.dt ks) v):∃a ai,v=.ref a∧Rd H a (.dT ai)∧Ent K (NM H₀ O (aQ m)) H ai ks:=by
 cases m<;>simp only[Val,Cell]at h
 ·cases h with|dt r n e q=>exact⟨_,_,rfl,r,e,q⟩
 ·cases h with|dt r n e q=>exact⟨_,_,rfl,r,e,q⟩
 ·obtain⟨p,rfl,_,_,_,xs,q,e,r⟩:=h;exact⟨_,_,rfl,.inl q,e,r.wk fun a h _=>h.1⟩
 ·obtain⟨p,rfl,_,_,xs,q,e,r⟩:=h;exact⟨_,_,rfl,.inl q,e,r⟩
 ·obtain⟨p,rfl,_,xs,q,e,r⟩:=h;exact⟨_,_,rfl,.inl q,e,r⟩
 ·cases h with|dt r n e q=>exact⟨_,_,rfl,r,e,q⟩
 ·obtain⟨p,qs,aT,rfl,e2,_⟩:=h;cases e2
noncomputable def uQ:Ev→Option (M×D):=fun _=>some (.un,.dt [])
theorem PB:JT K EH uQ:=by
 intro H₀ O H σ env Q m d R h q
 cases h
 intro p hp
 exact q _ _ (cn hp) ⟨p,rfl,hp,iT R.hd hp,f7 R.od hp,[],bF,rfl,.nil⟩
noncomputable def mh(i:Nat)(e:Ev):Option (M×List (List Key×D)):=match e[i]? with
 |some (some (m,.dt ds))=>if own m=true then some (m,ds)else none
 |_=>none
theorem Ee{i:Nat}{e:Ev}{m:M}{ds:List (List Key×D)}(h:mh i e=some (m,ds)):e[i]?=some (some (m,.dt ds))∧own m=true:=by
 unfold mh at h
 split at h
 ·rename_i e
  split at h
  ·cases h;exact⟨e,by assumption⟩
  ·cases h
 ·cases h
theorem Rel.VL{i:Nat}{m:M}{ds:List (List Key×D)}(R:Rel K H₀ I O H σ env)(h:mh i env=some (m,ds)):∃p ai,σ[i]?=some (some (.ref p))∧O p∧H p=some (.dT ai)∧Ent K (fun a=>¬O a∧H₀ a=none) H ai ds:=by
 obtain⟨e,o⟩:=Ee h
 obtain⟨v,hv,n,hm⟩:=R.e.at e
 cases m<;>simp only[own]at o<;>try (cases o;done)
 ·obtain⟨p,rfl,h1,h2,xs,c,z,r⟩:=hm;exact⟨p,xs,hv,h1,c,z,r⟩
 ·obtain⟨p,rfl,h1,xs,c,z,r⟩:=hm;exact⟨p,xs,hv,h1,c,z,r⟩
theorem Rel.VM{i:Nat}{m:M}{ds:List (List Key×D)}{p:Addr}{xs ys:List (List Key×V)}{es:List (List Key×D)}(R:Rel K H₀ I O H σ env)(h:mh i env=some (m,ds))(hp:σ[i]?=some (some (.ref p)))(hx:H p=some (.dT xs))(r:Ent K (fun a=>¬O a∧H₀ a=none) H ys es) :
  Rel K H₀ I O (L2.upd H p (.dT ys)) σ (env.set i (some (m,.dt es)))∧aV O H O (L2.upd H p (.dT ys)):=by
 obtain⟨e,o⟩:=Ee h
 have hO:=(R.lH e o hp).1
 exact R.mut e o hp ⟨ys,bF,r.1,r.2.upd hO hx (fun z=>z)⟩
noncomputable def nR(i:Nat)(fk fe:Ev→Option (M×D)):Ev→Option Fl:=fun e=>(fe e).bind fun x=>(fk e).bind fun y=>(n9 y.2).bind fun k=>if cf x.1 x.2=true then (mh i e).bind fun z=>if z.2.length<sizeLine then some (.nx (e.set i (some (z.1,.dt (putD z.2 k x.2)))))else none else none
theorem PD{i:Nat}{t tk:TE}{f fk:Ev→Option (M×D)}(h:JT K t f)(hk:JT K tk fk):JS K (uK (iy i) tk t) (nR i fk f):=by
 intro H₀ I O H σ env Ds fl R e q
 obtain⟨x,ex,e⟩:=ax e
 obtain⟨y,ey,e⟩:=ax e
 obtain⟨k,ek,e⟩:=ax e
 split at e
 ·rename_i hs
  obtain⟨⟨m,ds⟩,ez,e⟩:=ax e
  split at e
  ·rename_i hl
   cases e
   obtain⟨p,ai,hp,hO,hx,r⟩:=R.VL ez
   refine h H₀ O H σ env _ x.1 x.2 R.e ex fun v H1 s1 h1=>?_
   refine⟨.ref p,hp,?_⟩
   refine hk H₀ O H1 σ env _ y.1 y.2 (R.keep s1).e ey fun w H2 s2 h2=>?_
   obtain⟨b,rfl,hb⟩:=xJ ek h2.weak
   have s:=s1.trans s2
   refine⟨p,_,rfl,.inr ⟨ai,k,b,s _ _ hx,rfl,hb,by rw[r.len];exact hl,rfl⟩,?_⟩
   obtain⟨R2,st⟩:=(R.keep s).VM (ys:=putK ai k v) (es:=putD ds k x.2) ez hp (s _ _ hx) (Ent.put ⟨r.1,r.2.keep (.same s)⟩ ((h1.keep s2).cf hs))
   exact q O _ σ R2 ((aV.same s).trans st)
  ·cases e
 ·cases e
end
section
variable {K:PySem.W.Frag}{N:Addr→Prop}{H H' H₀:Hp}{I:Nat→Option Addr}{O:Addr→Prop}{σ:L2.St}{env:Ev}
noncomputable def zK(k:List Key):D:=.tup (k.map zI)
theorem Sl{N:Addr→Prop}(k:Key):Rp K N H (kV k) (zI k):=by
 cases k with
 |inl i=>exact .int i
 |inr x=>exact .str x
 |non=>exact .non
theorem Dv{N:Addr→Prop}:∀ks:List Key,aA K N H (ks.map kV) (ks.map zI)
 |[]=>.nil
 |k::ks=>.cons (Sl k) (Dv ks)
noncomputable def pX:List (M×D)→Option (M×D)
 |[(m,.dt ks)]=>if own m=true∨m=.un then some (.un,.lst (ks.map fun kv=>zK kv.1))else none
 |_=>none
theorem K2{X:Cx}(h:X.K=K)(hc:X.calm=true):ft X (.type "list") (fun xs H Q=>∃d ai,xs=[.ref d]∧H d=some (.dT ai)∧∀l bs,H l=none→pT H (ai.map (·.1)) bs→Q (.ref l) (upd H l (.lst (bs.map V.ref)))):=Kj hc
theorem Cq{N:Addr→Prop}{p:Addr}{o:HO}(hp:H p=none):∀{ks:List (List Key)}{bs:List Addr},pT H ks bs→aA K N (upd H p o) (bs.map V.ref) (ks.map zK)
 |_,_,.nil=>.nil
 |_,_,.cons h t=>.cons (.tup (.inl (by rw[aP (dm h hp)];exact h)) (Dv _)) (Cq hp t)
theorem L1:iM K (fun xs H Q=>∃d ai,xs=[.ref d]∧H d=some (.dT ai)∧∀l bs,H l=none→pT H (ai.map (·.1)) bs→Q (.ref l) (upd H l (.lst (bs.map V.ref)))) pX:=by
 intro H₀ O H vs aB Q m d od hd hv h q
 unfold pX at h
 split at h
 ·rename_i m0 ks
  split at h
  ·rename_i hm
   cases h
   obtain⟨v,rfl,hw⟩:=hv.one
   have:∃p ai,v=.ref p∧H p=some (.dT ai)∧ai.map (·.1)=ks.map (·.1):=by
    cases m0<;>simp only[own,Bool.false_eq_true,false_or,reduceCtorEq,or_false,or_self]at hm<;>simp only[Val,Cell]at hw
    ·obtain⟨p,rfl,_,_,_,xs,c,z,_⟩:=hw;exact⟨p,xs,rfl,c,z⟩
    ·obtain⟨p,rfl,_,_,xs,c,z,_⟩:=hw;exact⟨p,xs,rfl,c,z⟩
    ·obtain⟨p,rfl,_,xs,c,z,_⟩:=hw;exact⟨p,xs,rfl,c,z⟩
   obtain⟨p,ai,rfl,e,ek⟩:=this
   refine⟨p,ai,rfl,e,fun l bs hl ka=>q _ _ (cn hl) ⟨l,rfl,hl,iT hd hl,f7 od hl,_,bF,?_⟩⟩
   rw[ek]at ka
   have:=Cq (K:=K) (N:=fun a=>(¬O a∧H₀ a=none)∧a≠l) (o:=.lst (bs.map V.ref)) hl ka
   rw[List.map_map]at this
   exact this
  ·cases h
 ·cases h
theorem L3{X:Cx}(h:X.K=K)(hc:X.calm=true):ft X (.builtin "sum") (fun xs H Q=>∃(p:Addr) (ns:List Int),xs=[.ref p]∧bH K H p (ns.map V.int)∧Q (.int ns.sum) H):=by
 subst h
 intro pins s σ H xs us Q I r h
 obtain⟨p,ns,rfl,hq,q⟩:=h
 obtain⟨u,rfl,ru⟩:=vals1 r
 cases ru
 obtain⟨its,rv,pl,hz⟩:=I.list hq
 have hi:=ints_of rv
 obtain⟨ys,ey⟩:=hi.allInts.items
 refine sum_intListG (I.ok.hd hc) (by rw[←ey];exact pl.isList) fun h' tk t' hk=>⟨.int ns.sum,H,I.kept (t':=tk) hk,⟨t',?_⟩,q⟩
 rw[preSum_eq,List.take_of_length_le (by simp),←nums_intItems,←ey]
 rw[show its.toArray.toList=its from rfl,hi.numsOf]
noncomputable def qw:List (M×D)→Option (M×D)
 |[(_,.lst ds)]=>(nQ ds).bind fun ns=>some (.fr,.int ns.sum)
 |_=>none
theorem PF:iM K (fun xs H Q=>∃(p:Addr) (ns:List Int),xs=[.ref p]∧bH K H p (ns.map V.int)∧Q (.int ns.sum) H) qw:=by
 intro H₀ O H vs aB Q m d _ _ hv h q
 unfold qw at h
 split at h
 ·obtain⟨ns,en,h⟩:=ax h
  cases h
  obtain⟨v,rfl,hw⟩:=hv.one
  obtain⟨p,xs,rfl,hs,r⟩:=hw.lst
  rw[Du r en]at hs
  exact⟨p,ns,rfl,hs,q _ H (aJ.refl H) iX⟩
 ·cases h
end
section
variable {K:PySem.W.Frag}{N:Addr→Prop}{H H' H₀:Hp}{I:Nat→Option Addr}{O:Addr→Prop}{σ:L2.St}{env:Ev}
theorem tK:∀{n:Nat}{acc:List Value}{c:Int},acc.length=n→(∀(j:Nat) v,acc[j]?=some v→∃t,v=.int (c+(j:Int)) t)→Vals ((List.range n).map fun(k:Nat)=>V.int (c+(k:Int))) acc
 |_,[],_,e,_=>by subst e;exact .nil
 |_,v::acc,c,e,h=>by
  subst e
  rw[List.length_cons,List.range_succ_eq_map,List.map_cons,List.map_map]
  refine .cons (h 0 v rfl) ?_
  have:=tK (c:=c+1) (acc:=acc) rfl fun j w hw=>by
   obtain⟨t,e⟩:=h (j+1) w (by simpa using hw)
   exact⟨t,by rw[e];congr 1;omega⟩
  have e2:((fun(k:Nat)=>V.int (c+(k:Int)))∘Nat.succ)=fun(k:Nat)=>V.int (c+1+(k:Int)):=funext fun k=>by
   show V.int (c+((k+1:Nat):Int))=_
   congr 1;omega
  rw[e2]
  exact this
end
end J
namespace J
open PySem L2
noncomputable def vp(K:PySem.W.Frag)(n:Nat)(F:List D→Option D):Sp:=fun vs H Q _=>vs.length=n∧∃ds d,uA K H [0] vs ds∧F ds=some d ∧
 ∀p H',(iN [0] vs p∨H p=none)→(∀a o,¬iN [0] vs a→H a=some o→H' a=some o)→(∀a o,H a=some o→∃o',H' a=some o')→Cell K (fun _=>False) H' p d→Q (.ref p) H'
noncomputable def ky:Fl→Option D
 |.rt _ m d=>if own m=true∧gS d=true then some d else none
 |_=>none
noncomputable def i6(L:Nat)(g:Ev→Option Fl):List D→Option D:=fun ds=>(g (iU [0] ds++List.replicate (L-ds.length) none)).bind ky
section
variable {K:PySem.W.Frag}{H H' H₀:Hp}{I:Nat→Option Addr}{O O':Addr→Prop}{σ:L2.St}{env:Ev}
theorem L4{ts:TS}{g:Ev→Option Fl}{n:Nat}{N:List Str}{vs:List V}{Q:VK}{E:XK}(h:JS K ts g)(hs:vp K n (i6 N.length g) vs H Q E):ts { nx:=fun _ H'=>Q .non H',rt:=Q } (L2.start N vs) H:=by
 obtain⟨hl,ds,d,A,e,q⟩:=hs
 obtain⟨fl,ef,eo⟩:=ax e
 obtain⟨I0,oE,R⟩:=Kx (N:=N) A
 refine h H I0 (iN [0] vs) H _ _ _ fl R ef ?_
 cases fl with
 |nx e'=>cases eo
 |bk e'=>cases eo
 |ct e'=>cases eo
 |rt e' m' d' =>
  intro O' H' σ' v R' st hv
  unfold ky at eo
  simp only at eo
  split at eo
  ·rename_i hm
   cases eo
   have hc:∃p,v=.ref p∧O' p∧Cell K (fun _=>False) H' p d:=by
    cases m'<;>try (cases hm.1;done)
    ·obtain⟨p,rfl,o,_,c⟩:=hv;exact⟨p,rfl,o,c.im hm.2⟩
    ·obtain⟨p,rfl,o,c⟩:=hv;exact⟨p,rfl,o,c.im hm.2⟩
   obtain⟨p,rfl,o,c⟩:=hc
   refine q p H' ?_ (fun a o n e=>R'.fr a o (fun i z=>n ⟨i,(oE z).1,(oE z).2⟩) e) R'.e.hd c
   rcases R'.ow p o with⟨i,z⟩|z
   ·exact .inl ⟨i,(oE z).1,(oE z).2⟩
   ·exact .inr z
  ·cases eo
noncomputable def jF(sl:List Nat)(pos:List (Nat×Nat))(F:List D→Option D)(fs:Ev→Option (List (M×D))):Ev→Option Fl:=fun e=>(fs e).bind fun aB=>if j3 [0] sl pos aB=true then (F (aB.map (·.2))).bind fun d=>match aB with
 | (m,_)::_=>some (.rt (e.map fun _=>none) m d)
 |[]=>none else none
theorem pM{i:Nat}{x:M×D}(h:(env.map fun _=>(none:Option (M×D)))[i]?=some (some x)):False:=by
 rw[dG]at h
 cases q:env[i]? with
 |none=>rw[q]at h;cases h
 |some y=>rw[q]at h;cases h
theorem Nk{n:Nat}{sl:List Nat}{pos:List (Nat×Nat)}{F:List D→Option D}{fs:Ev→Option (List (M×D))}{ta:TA}{E:XK}(ha:k9 K ta fs pos)(hl:∀e aB,fs e=some aB→aB.length=n):JS K (uY (qc (vp K n F) [] E ta)) (jF sl pos F fs):=by
 intro H₀ I O H σ env Ds fl R e q
 obtain⟨aB,em,e⟩:=ax e
 split at e
 ·rename_i hb
  have ok:=RZ hb
  obtain⟨d,eF,e⟩:=ax e
  cases aB with
  |nil=>cases e
  |cons x0 rest =>
   obtain⟨m0,d0⟩:=x0
   cases e
   refine ha H₀ O H σ env _ _ R.e em fun vs H1 s1 hv hp=>?_
   have R1:=R.keep s1
   obtain⟨qv,lZ,sub,A⟩:=Pm R R1 ok hv hp
   rw[List.append_nil]
   refine⟨by rw[←Paired.length hv];exact hl _ _ em,_,d,A,eF,fun p H2 AQ kp W9 c=>?_⟩
   obtain⟨om,cm⟩:=ok.c4 0 _ (List.mem_singleton.mpr rfl) rfl
   have Xa:¬O p→H1 p=none:=fun z=>AQ.elim (fun w=>absurd (sub p w) z) id
   have Xb:O p∨H₀ p=none:=by
    rcases AQ with w|w
    ·exact .inl (sub p w)
    ·right
     cases z:H₀ p with
     |none=>rfl
     |some o=>obtain⟨o',z⟩:=R1.e.hd p o z;rw[w]at z;cases z
   have Xc:m0=.bo→H₀ p=none:=fun hm=>by
    rcases AQ with⟨i,hi,j4⟩|w
    ·obtain⟨k,j,x,hk,hj,hx,hs,he,_⟩:=lZ hi j4
     have Xd:i=0:=List.mem_singleton.mp hi
     subst Xd
     simp at hx
     subst hx
     obtain⟨v,jn,_,hz⟩:=R1.e.at he
     rw[hs]at jn;cases jn
     rw[hm]at hz
     obtain⟨p',e',_,z,_⟩:=hz
     cases e';exact z
    ·cases z:H₀ p with
     |none=>rfl
     |some o=>obtain⟨o',z⟩:=R1.e.hd p o z;rw[w]at z;cases z
   have R2:Rel K H₀ I (fun a=>a=p∨(O a∧¬iN [0] vs a)) H2 σ (env.map fun _=>none):=by
    refine⟨⟨lz (by rw[List.length_map];exact Paired.length R.e.sl) (fun j a b h1 _ m d ea=>by subst ea;exact(pM h1).elim),?_,?_,?_⟩,?_,?_,fun i d p h1=>(pM h1).elim,fun i j x y p h1=>(pM h1).elim,⟨fun i j d d' h1=>(pM h1).elim,fun i j d x p q xs h1=>(pM h1).elim⟩⟩
    ·rintro a (rfl|⟨ho,ni⟩)
     ·obtain⟨o,eo,_⟩:=c.some;exact⟨o,eo⟩
     ·obtain⟨o,eo⟩:=R1.e.od a ho;exact⟨o,kp a o ni eo⟩
    ·intro a o h0
     obtain⟨o',h1⟩:=R1.e.hd a o h0
     exact W9 a o' h1
    ·rintro a o (rfl|⟨ho,ni⟩) ea
     ·obtain⟨o',eo,nt⟩:=c.some;rw[eo]at ea;cases ea;exact nt
     ·obtain⟨o',eo⟩:=R1.e.od a ho
      have:=kp a o' ni eo
      rw[this]at ea;cases ea
      exact R1.e.on a _ ho eo
    ·intro a o ni h0
     refine kp a o (fun w=>?_) (R1.fr a o ni h0)
     rcases R1.ow a (sub a w) with⟨i,z⟩|z
     ·exact ni i z
     ·rw[z]at h0;cases h0
    ·rintro a (rfl|⟨ho,_⟩)
     ·rcases Xb with z|z
      ·exact R1.ow a z
      ·exact .inr z
     ·exact R1.ow a ho
   refine q (fun a=>a=p∨(O a∧¬iN [0] vs a)) H2 σ (.ref p) R2 (fun a o ha no=>⟨kp a o (fun w=>no (sub a w)) (s1 _ _ ha),?_⟩) ?_
   ·rintro(rfl|⟨ho,_⟩)
    ·have:=Xa no
     rw[s1 _ _ ha]at this;cases this
    ·exact no ho
   ·cases m0<;>try (cases om;done)
    ·exact⟨p,rfl,.inl rfl,Xc rfl,c.wk fun _ z _=>z.elim⟩
    ·exact⟨p,rfl,.inl rfl,c.wk fun _ z _=>z.elim⟩
 ·cases e
end
noncomputable def uR:D→Option (D×D)
 |.tup [a,b]=>some (a,b)
 |_=>none
theorem Nm{d a b:D}(h:uR d=some (a,b)):d=.tup [a,b]:=by
 unfold uR at h
 split at h
 ·cases h;rfl
 ·cases h
noncomputable def jG(fc:Ev→Option Bool)(fe:Ev→Option (M×D))(m:M)(fr:Ev):List D→Option (List (M×D))
 |[]=>some []
 |d::ds=>(uR d).bind fun p=>(fc (some (aQ m,p.1)::some (aQ m,p.2)::fr)).bind fun b=>if b=true then (fe (some (aQ m,p.1)::some (aQ m,p.2)::fr)).bind fun x=>(jG fc fe m fr ds).bind fun r=>some (x::r)else jG fc fe m fr ds
noncomputable def uB(it:Ev→Option (M×List D))(ix:List Nat)(fc:Ev→Option Bool)(fe:Ev→Option (M×D)):Ev→Option (M×D):=fun e=>(it e).bind fun x=>(jG fc fe x.1 (dB e ix) x.2).bind c9
noncomputable def vY(K:PySem.W.Frag):TG:=za K 2 (uH (fK 0) (uH (fK 1) y9))
section
variable {K:PySem.W.Frag}{H H' H₀:Hp}{O:Addr→Prop}{σ:L2.St}{env:Ev}
theorem Cr{J:It}{m:M}{ds:List D}{tc:TT}{te:TE}{fc:Ev→Option Bool}{fe:Ev→Option (M×D)}{H1:Hp}{ix:List Nat}{fV:List (M×D)}{bb:Bool}{Q:Addr→Hp→Prop}{C:Addr}
  (R:de K H₀ O H1 σ env) (hm:fu m=true) (ok:kU K H₀ O J H1 m ds) (hc:dR K tc fc) (he:JT K te fe) (hl:fV.length≤sizeLine) (et:jG fc fe m (dB env ix) ds=some fV)
  (hs:∀x∈fV,(if bb then cf x.1 x.2 else fC x.1 x.2)=true) (hC:H1 C=none)
  (q:∀ys H',aJ H1 H'→H' C=some (.lst ys)→aA K (fun a=>¬(O a∨a=C)∧(bb=true→H₀ a=none)) H' ys (fV.map (·.2))→Q C H'):uk (vY K) 2 J C H1 (dF σ ix) tc te Q:=by
 have hN:∀{N:Addr→Prop}{Ha Hb:Hp},(∀a,N a→a≠C)→(∀b o,b≠C→Ha b=some o→Hb b=some o)→(∀o,Ha C=some o→¬hX o)→Keeps N Ha Hb:=fun w s nt a o e z=>s a o (by
  rcases z with z|z
  ·exact w a z
  ·rintro rfl;exact nt o e z) e
 refine⟨fun i n H2=>n=ds.length-i∧i≤ds.length∧aJ H1 H2∧∃ys acc rest,H2 C=some (.lst ys)∧jG fc fe m (dB env ix) (ds.drop i)=some rest∧fV=acc++rest∧aA K (fun a=>¬(O a∨a=C)∧(bb=true→H₀ a=none)) H2 ys (acc.map (·.2)),⟨_,rfl,Nat.zero_le _,cn hC,[],[],fV,bF,et,rfl,.nil⟩,?_⟩
 rintro i n H2 ⟨rfl,hle,s2,ys,acc,rest,gO,er,gF,rr⟩
 have a7:aV O H1 O H2:=aV.same s2
 by_cases aU:i<ds.length
 ·refine .inr ⟨ok.go O H2 i a7 aU,fun x H3 y=>?_⟩
  have zD:aV O H1 (fun a=>O a∨a=C) H2:=fun a o e n=>⟨s2 a o e,fun z=>z.elim n (dm e hC)⟩
  obtain⟨s3,d,hd,hv⟩:=ok.iF (fun a=>O a∨a=C) H2 i x H3 zD aU y
  have R2:=R.more hC s2 ys gO
  have R3:=R2.keep s3
  have mB:ds.drop i=d::ds.drop (i+1):=by
   rw[List.drop_eq_getElem_cons aU]
   rw[eU aU]at hd
   cases hd;rfl
  rw[mB]at er
  simp only[jG]at er
  obtain⟨⟨d1,d2⟩,ep,Ib⟩:=ax er
  clear er
  have ed:=Nm ep
  subst ed
  obtain⟨p,xs,rfl,Xe,rp⟩:=hv.tup
  cases rp with|@cons v1 _ xs _ r1 rp=>cases rp with|@cons v2 _ xs _ r2 rp=>cases rp with|nil =>
  have Ic:Val K H₀ (fun a=>O a∨a=C) HE H3 (aQ m) d1 v1:=by cases m<;>first|exact r1|cases hm
  have AA:Val K H₀ (fun a=>O a∨a=C) HE H3 (aQ m) d2 v2:=by cases m<;>first|exact r2|cases hm
  have AU:gQ (aQ m)=true:=by cases m<;>first|rfl|cases hm
  have q8:de K H₀ (fun a=>O a∨a=C) H3 (some v1::some v2::dF σ ix) (some (aQ m,d1)::some (aQ m,d2)::dB env ix) :=
   ⟨.cons (fun m' d' e=>by cases e;exact⟨AU,v1,rfl,Ic⟩) (.cons (fun m' d' e=>by cases e;exact⟨AU,v2,rfl,AA⟩) R3.fr),R3.od,R3.hd,R3.on⟩
  obtain⟨b,eb,er⟩:=ax Ib
  clear Ib
  refine⟨p,[v1,v2],rfl,Xe,rfl,v1,[v2],rfl,v2,[],rfl,rfl,rfl,⟨[some v1,some v2],rfl,rfl⟩,?_⟩
  show tc (some v1::some v2::dF σ ix) H3 _
  refine hc H₀ _ H3 _ _ _ b q8 eb fun H4 s4=>?_
  cases b with
  |true =>
   rw[if_pos rfl]at er ⊢
   obtain⟨z,ez,er⟩:=ax er
   obtain⟨r',Au,er⟩:=ax er
   cases er
   refine he H₀ _ H4 _ _ _ z.1 z.2 (q8.keep s4) ez fun w H5 s5 h5=>?_
   have jZ:aJ H2 H5:=(s3.trans s4).trans s5
   have Av:ys.length=acc.length:=by rw[rr.len,List.length_map]
   have j0:acc.length<sizeLine:=by
    have e1:=congrArg List.length gF
    rw[dO,List.length_cons]at e1
    omega
   refine⟨ys,jZ _ _ gO,by rw[Av];exact j0,ds.length-(i+1),by omega,rfl,aU,?_,ys++[w],acc++[z],r',bF,Au,by rw[gF,List.append_assoc];rfl,?_⟩
   ·intro a o e
    rw[aP (dm e hC)]
    exact jZ _ _ (s2 _ _ e)
   ·rw[List.map_append]
    have hz:Rp K (fun a=>¬(O a∨a=C)∧(bb=true→H₀ a=none)) H5 w z.2:=by
     have h:=hs z (by rw[gF];exact fj _ bV)
     cases bb with
     |true=>exact(h5.cf h).wk fun a h _=>⟨h.1,fun _=>h.2⟩
     |false=>exact(h5.fC h).wk fun a h _=>⟨h,fun z=>nomatch z⟩
    have kp:Keeps (fun a=>¬(O a∨a=C)∧(bb=true→H₀ a=none)) H5 (upd H5 C (.lst (ys++[w]))):=hN (fun a h z=>h.1 (.inr z)) (fun b o ne e=>by rw[aP ne];exact e) (fun o e=>by rw[jZ _ _ gO]at e;cases e;exact fun z=>z)
    exact((rr.keep (.same jZ)).keep kp).app (.cons (hz.keep kp) .nil)
  |false =>
   rw[if_neg aZ]at er ⊢
   have mF:=s3.trans s4
   exact⟨ds.length-(i+1),by omega,rfl,aU,s2.trans mF,ys,acc,rest,mF _ _ gO,er,gF,rr.keep (.same mF)⟩
 ·have hi:i=ds.length:=by omega
  subst hi
  rw[List.drop_length]at er
  cases er
  rw[List.append_nil]at gF
  subst gF
  exact .inl ⟨ok.stop O H2 a7,q ys H2 s2 gO rr⟩
theorem Dw{wi:TI}{ix:List Nat}{tc:TT}{te:TE}{it:Ev→Option (M×List D)}{fc:Ev→Option Bool}{fe:Ev→Option (M×D)}(hi:JI K wi it)(hc:dR K tc fc)(he:JT K te fe):JT K (uq (vY K) 2 wi ix tc te) (uB it ix fc fe):=by
 intro H₀ O H σ env Q m d R e q
 obtain⟨⟨mi,ds⟩,ei,e⟩:=ax e
 obtain⟨fV,et,e⟩:=ax e
 refine hi H₀ O H σ env _ mi ds R ei fun J H1 s1 hm ok C hC=>?_
 have R1:=R.keep s1
 unfold c9 at e
 split at e
 ·rename_i hl
  split at e
  ·rename_i ha
   cases e
   rw[List.all_eq_true]at ha
   refine Cr (bb:=true) R1 hm ok hc he hl et (fun x hx=>ha x hx) hC fun ys H' s' hy r=>?_
   refine q _ H' (s1.trans s') ⟨C,rfl,s1.free hC,iT R1.hd hC,f7 R1.od hC,ys,hy,r.wk fun a h _=>⟨⟨fun z=>h.1 (.inl z),h.2 rfl⟩,fun z=>h.1 (.inr z)⟩⟩
  ·split at e
   ·rename_i ha
    cases e
    rw[List.all_eq_true]at ha
    refine Cr (bb:=false) R1 hm ok hc he hl et (fun x hx=>ha x hx) hC fun ys H' s' hy r=>?_
    exact q _ H' (s1.trans s') (Rp.lst (.inl hy) (f7 R1.od hC) (r.wk fun a h _=>fun z=>h.1 (.inl z)))
   ·cases e
 ·cases e
end
noncomputable def pY:List (M×D)→Option (M×D)
 |[(m,.lst ds)]=>if fu (aQ m)=true then some (aQ m,.tup ds)else none
 |_=>none
noncomputable def uS:D→Option (Key×D)
 |.tup [a,b]=>(keyOf a).bind fun k=>if b.bU=true then some (k,b)else none
 |_=>none
noncomputable def nA:List D→Option (List (Key×D))
 |[]=>some []
 |d::ds=>(uS d).bind fun p=>(nA ds).bind fun r=>some (p::r)
noncomputable def putAll(ps:List (Key×D)):List (Key×D):=ps.foldl (fun m kv=>putD m kv.1 kv.2) []
noncomputable def nB:List (M×D)→Option (M×D)
 |[(_,.tup ds)]=>(nA ds).bind fun ps=>some (.un,.dk (putAll ps))
 |_=>none
noncomputable def kY(neg:Bool)(fk fd:Ev→Option (M×D)):Ev→Option (M×D):=fun e=>(fk e).bind fun y=>(fd e).bind fun x=>(vo x.2).bind fun ks=>(n9 y.2).bind fun k=>some (.fr,.bl (if neg then !(cO ks k).isSome else (cO ks k).isSome))
section
variable {K:PySem.W.Frag}{H H' H₀:Hp}{O:Addr→Prop}{σ:L2.St}{env:Ev}
theorem Sn{td ty:TE}{fd fk:Ev→Option (M×D)}(hk:JT K ty fk)(hd:JT K td fd):JT K (zm ty td) (kY false fk fd):=by
 intro H₀ O H σ env Q m d R h q
 obtain⟨y,ey,h⟩:=ax h
 obtain⟨x,ex,h⟩:=ax h
 obtain⟨ks,iO,h⟩:=ax h
 obtain⟨k,ek,h⟩:=ax h
 cases h
 refine hk H₀ O H σ env _ y.1 y.2 R ey fun w H1 s1 h1=>?_
 refine hd H₀ O H1 σ env _ x.1 x.2 (R.keep s1) ex fun v H2 s2 h2=>?_
 rw[Ed iO]at h2
 obtain⟨a,ai,rfl,rd,en⟩:=h2.dt
 obtain⟨b,rfl,hb⟩:=xJ ek (h1.keep s2).weak
 refine⟨a,dE ai k,rfl,.inr ⟨ai,k,b,rd,rfl,hb,rfl⟩,?_⟩
 rw[en.isSome]
 exact q _ H2 (s1.trans s2) eJ
theorem L5{td ty:TE}{fd fk:Ev→Option (M×D)}(hk:JT K ty fk)(hd:JT K td fd):JT K (xT ty td) (kY true fk fd):=by
 intro H₀ O H σ env Q m d R h q
 obtain⟨y,ey,h⟩:=ax h
 obtain⟨x,ex,h⟩:=ax h
 obtain⟨ks,iO,h⟩:=ax h
 obtain⟨k,ek,h⟩:=ax h
 cases h
 refine hk H₀ O H σ env _ y.1 y.2 R ey fun w H1 s1 h1=>?_
 refine hd H₀ O H1 σ env _ x.1 x.2 (R.keep s1) ex fun v H2 s2 h2=>?_
 rw[Ed iO]at h2
 obtain⟨a,ai,rfl,rd,en⟩:=h2.dt
 obtain⟨b,rfl,hb⟩:=xJ ek (h1.keep s2).weak
 refine⟨a,dE ai k,rfl,.inr ⟨ai,k,b,rd,rfl,hb,rfl⟩,?_⟩
 rw[en.isSome]
 exact q _ H2 (s1.trans s2) eJ
theorem L6:iM K (fun xs H Q=>∃p ys,xs=[.ref p]∧((bH K H p ys∧∀l,H l=none→Q (.ref l) (upd H l (.tup ys)))∨(a8 K H p ys∧Q (.ref p) H))) pY:=by
 intro H₀ O H vs aB Q m d od hd hv h q
 unfold pY at h
 split at h
 ·rename_i m' ds
  split at h
  ·rename_i hm
   cases h
   obtain⟨v,rfl,hw⟩:=hv.one
   obtain⟨a,xs,rfl,r,s⟩:=hw.lst
   refine⟨_,_,rfl,.inl ⟨r,fun l hl=>q _ _ (cn hl) ?_⟩⟩
   have s':=s.keep (H':=upd H l (.tup xs)) (.same (cn hl))
   cases m'<;>first|exact Rp.tup (.inl bF) s'|cases hm
  ·cases h
 ·cases h
theorem Dx{N:Addr→Prop}:∀{ds:List D}{ys:List V}{ps:List (Key×D)},nA ds=some ps→aA K N H ys ds→∃qs:List (Key×V),ig H ys qs∧Ent K N H qs ps∧D.bS (ps.map (·.2))=true
 |[],_,ps,e,.nil=>by cases e;exact⟨[],.nil,⟨rfl,.nil⟩,rfl⟩
 |d::ds,_,ps,e,.cons h r=>by
  obtain⟨p,e1,e⟩:=ax e
  obtain⟨rs,e2,e⟩:=ax e
  cases e
  obtain⟨qs,h1,h2,h3⟩:=Dx e2 r
  unfold uS at e1
  split at e1
  ·obtain⟨k,ek,e1⟩:=ax e1
   split at e1
   ·rename_i hb
    cases e1
    cases h with
    |@tup a xs _ q r2 =>
     cases r2 with|@cons v1 _ xs _ r1 r2=>cases r2 with|@cons v2 _ xs _ r3 r2=>cases r2 with|nil =>
     have hk:=j9 ek r1
     have ha:=q.own (by simp)
     rw[hk]at ha
     refine⟨(k,v2)::qs,.cons ⟨a,rfl,ha⟩ h1,⟨?_,?_⟩,?_⟩
     ·simp[h2.1]
     ·exact .cons r3 h2.2
     ·simp only[List.map_cons,D.bS,Bool.and_eq_true];exact⟨hb,h3⟩
   ·cases e1
  ·cases e1
theorem Ct{N:Addr→Prop}:∀{qs:List (Key×V)}{ps:List (Key×D)}{a:List (Key×V)}{b:List (Key×D)},Ent K N H qs ps→Ent K N H a b→Ent K N H (qs.foldl (fun m kv=>putK m kv.1 kv.2) a) (ps.foldl (fun m kv=>putD m kv.1 kv.2) b)
 |[],[],_,_,_,h=>h
 |[],_::_,_,_,h,_=>by cases h.1
 |_::_,[],_,_,h,_=>by cases h.1
 |q::qs,p::ps,a,b,h,h'=>by
  obtain⟨e,r,t⟩:=h.cons_inv
  rw[List.foldl_cons,List.foldl_cons,e]
  exact Ct t (h'.put r)
theorem L7{ks:List (Key×D)}{k:Key}{d:D}(h:D.bS (ks.map (·.2))=true)(hd:d.bU=true):D.bS ((putD ks k d).map (·.2))=true:=by
 have nX:∀{l:List D},D.bS l=true→∀x∈l,x.bU=true:=by
  intro l
  induction l with
  |nil=>intro _ x hx;cases hx
  |cons y l ih =>
   intro h x hx
   simp only[D.bS,Bool.and_eq_true]at h
   rcases cJ.mp hx with rfl|hx
   ·exact h.1
   ·exact ih h.2 x hx
 have Xf:∀{l:List D},(∀x∈l,x.bU=true)→D.bS l=true:=by
  intro l
  induction l with
  |nil=>intro _;rfl
  |cons y l ih =>
   intro h
   simp only[D.bS,Bool.and_eq_true]
   exact⟨h y bV,ih fun x hx=>h x (b9 _ hx)⟩
 refine Xf fun x hx=>?_
 obtain⟨kv,cH,rfl⟩:=bu.mp hx
 unfold putD at cH
 split at cH
 ·obtain⟨y,hy,rfl⟩:=bu.mp cH
  split
  ·exact hd
  ·exact nX h _ (bu.mpr ⟨y,hy,rfl⟩)
 ·rcases cU.mp cH with z|z
  ·exact nX h _ (bu.mpr ⟨kv,z,rfl⟩)
  ·have:kv=(k,d):=by simpa using z
   rw[this];exact hd
theorem B1:∀{ps b:List (Key×D)},D.bS (ps.map (·.2))=true→D.bS (b.map (·.2))=true→D.bS ((ps.foldl (fun m kv=>putD m kv.1 kv.2) b).map (·.2))=true
 |[],_,_,h=>h
 |p::ps,b,h,h'=>by
  simp only[List.map_cons,D.bS,Bool.and_eq_true]at h
  rw[List.foldl_cons]
  exact B1 h.2 (L7 h' h.1)
theorem L8:iM K (fun xs H Q=>∃p ys ps,xs=[.ref p]∧a8 K H p ys∧ig H ys ps∧∀l,H l=none→Q (.ref l) (upd H l (.dK (ps.foldl (fun m kv=>putK m kv.1 kv.2) [])))) nB:=by
 intro H₀ O H vs aB Q m d od hd hv h q
 unfold nB at h
 split at h
 ·obtain⟨ps,ep,h⟩:=ax h
  cases h
  obtain⟨v,rfl,hw⟩:=hv.one
  obtain⟨a,xs,rfl,r,s⟩:=hw.tup
  obtain⟨qs,h1,h2,h3⟩:=Dx ep s
  have en:=Ct h2 (⟨rfl,.nil⟩:Ent K _ H [] [])
  have hi:D.bS ((putAll ps).map (·.2))=true:=B1 h3 rfl
  refine⟨a,xs,qs,rfl,r,h1,fun p hp=>q _ _ (cn hp) ⟨p,rfl,hp,iT hd hp,f7 od hp,_,bF,en.1,?_⟩⟩
  exact((aA.im (N':=fun _=>False) hi en.2).keep (.same (cn hp))).im hi
 ·cases h
theorem Kl{X:Cx}(h:X.K=K)(hc:X.calm=true):ft X (.type "dict") (fun xs H Q=>∃p ys ps,xs=[.ref p]∧a8 K H p ys∧ig H ys ps∧∀l,H l=none→Q (.ref l) (upd H l (.dK (ps.foldl (fun m kv=>putK m kv.1 kv.2) [])))):=by
 subst h;exact J8 hc
theorem Km{X:Cx}(h:X.K=K):ft X (.type "tuple") (fun xs H Q=>∃p ys,xs=[.ref p]∧((bH K H p ys∧∀l,H l=none→Q (.ref l) (upd H l (.tup ys)))∨(a8 K H p ys∧Q (.ref p) H))):=by
 subst h;exact Kc
end
end J
set_option genInjectivity false
set_option genSizeOf false
namespace C
open PySem PySem.Spec L2 J
inductive Bo where|add|sub|mul|div|mod|pow
inductive Co where|lt|le|gt|eq|ne|rC|lg|vZ|oF|j5|rD
inductive Uo where|neg
inductive Fb where|int|list|len|v3|max|uT|sum|tuple|qi
noncomputable def Bo.op:Bo→Operator
 |.add=>.Add
 |.sub=>.Sub
 |.mul=>.Mult
 |.div=>.FloorDiv
 |.mod=>.Mod
 |.pow=>.Pow
noncomputable def Bo.g:Bo→M×D→M×D→Option (M×D)
 |.add=>bC
 |.sub=>g6
 |.mul=>eQ
 |.div=>bW
 |.mod=>aR
 |.pow=>gD
theorem Bo.ok{K:PySem.W.Frag}:∀o:Bo,∃r,(∀Z:Cx,Z.K=K→bI Z (binaryOp o.op) r)∧JR K r o.g
 |.add=>⟨_,fun _ h=>O9 h,Pa⟩
 |.sub=>⟨_,fun _ _=>QK,Rk⟩
 |.mul=>⟨_,fun _ _=>QL,Rl⟩
 |.div=>⟨_,fun _ _=>MY,OV⟩
 |.mod=>⟨_,fun _ _=>QM,Rm⟩
 |.pow=>⟨_,fun _ _=>QN,Rn⟩
noncomputable def Co.op:Co→CmpOp
 |.lt=>.Lt
 |.le=>.LtE
 |.gt=>.Gt
 |.eq=>.Eq
 |.ne=>.NotEq
 |.rC=>.IsNot
 |.lg=>.In
 |.vZ=>.NotIn
 |.oF=>.Eq
 |.j5=>.NotEq
 |.rD=>.NotIn
noncomputable def Co.g:Co→M×D→M×D→Option (M×D)
 |.lt=>fD
 |.le=>oB
 |.gt=>gR
 |.eq=>aL
 |.ne=>dS
 |.rC=>qf
 |.lg=>dY false
 |.vZ=>dY true
 |.oF=>gG
 |.j5=>eR
 |.rD=>iC true
theorem Co.ok{K:PySem.W.Frag}:∀o:Co,∃r,(∀Z:Cx,Z.K=K→Z.A.units+64<cLine→bI Z (compareOp o.op) r)∧JR K r o.g
 |.lt=>⟨_,fun _ _ _=>Tr,TJ⟩
 |.le=>⟨_,fun _ _ _=>Ts,TK⟩
 |.gt=>⟨_,fun _ _ _=>Tt,TL⟩
 |.eq=>⟨_,fun _ _ _=>Tp,TN⟩
 |.ne=>⟨_,fun _ _ _=>Tq,TQ⟩
 |.rC=>⟨_,fun _ _ _=>N8,Oq⟩
 |.lg=>⟨_,fun _ h _=>KY h,FV⟩
 |.vZ=>⟨_,fun _ h _=>Kd h,FV⟩
 |.oF=>⟨_,fun _ h u=>R7 h u,R0⟩
 |.j5=>⟨_,fun _ h u=>R8 h u,R6⟩
 |.rD=>⟨_,fun _ h u=>K1 h u,R9⟩
noncomputable def Uo.op:Uo→UnaryOp
 |.neg=>.USub
noncomputable def Uo.g:Uo→M×D→Option (M×D)
 |.neg=>dX
theorem Uo.ok{K:PySem.W.Frag}:∀o:Uo,∃r,(∀Z:Cx,vD Z (unaryOp o.op) r)∧JU K r o.g
 |.neg=>⟨_,fun _=>QO,RP⟩
noncomputable def Fb.nm:Fb→String
 |.int => "int"
 |.list => "list"
 |.len => "len"
 |.v3 => "isinstance"
 |.max => "max"
 |.uT => "list"
 |.sum => "sum"
 |.tuple => "tuple"
 |.qi => "dict"
noncomputable def Fb.g:Fb→List (M×D)→Option (M×D)
 |.int=>kQ
 |.list=>qh
 |.len=>bx
 |.v3=>lY
 |.max=>lV
 |.uT=>pX
 |.sum=>qw
 |.tuple=>pY
 |.qi=>nB
inductive Gv where|s (x:Str)|t (l:List Str)
noncomputable def Gv.d:Gv→D
 |.s x=>.str x
 |.t l=>.tup (l.map .str)
mutual
inductive X where|v (i:Nat)|ki (i:Int)|ks (s:Str)|kb (b:Bool)|kn|ty (n:String)|bo (o:Bo) (a b:X)|co (o:Co) (a b:X)|uo (o:Uo) (a:X)|an (a b:X)|or (a b:X)|nt (a:X)|ie (t:T) (a b:X)|tu (l:A)|li (l:A)|dK|d1 (a b:X)|ix (a b:X)|g1 (d k:X)|g2 (d k x:X)|sl (a:X) (lo hi:P)|dT|fb (f:Fb) (l:A)|ca (f:Nat) (l:A)|cp (i:I) (ix:List Nat) (t:T) (e:X)
inductive A where|n|c (a:X) (l:A)
inductive T where|b (x:X)|c (o:Co) (a b:X)|d (n:Bool) (a b:X)|t (n:Bool) (a b:X)|h (o p:Co) (a b c:X)|an (a b:T)|or (a b:T)|nt (a:T)|y
inductive P where|n|s (x:X)
inductive I where|r1 (l:A)|r2 (l:A)|en (l:A)|s (x:X)|t (x:X)|l (x:X)
end
mutual
inductive G where|n (i:Nat)|t (k:Nat) (l:Gs)|l (k:Nat) (l:Gs)
inductive Gs where|n|c (g:G) (l:Gs)
end
inductive L where|rt (x:X)|ct|st (i:Nat) (x:X)|sc (j:Nat) (i:I) (ix:List Nat) (q:T) (e:X)|s2 (j:Nat) (i:I) (ix:List Nat) (q:T) (e:X)|as (g:G) (x:X)|si (k:Nat) (i x:X)|dp (k:Nat) (i x:X)|ap (k:Nat) (x:X)|na (k:Nat) (i x:X)|po (i k:Nat)|cl (k:Nat)|ne (i:Nat) (it:I)|tp (k:Nat) (i x:X)|rO (f:Nat) (sl:List Nat) (l:A)
mutual
inductive S where|l (x:L)|ie (t:T) (a b:B)|fo (i:I) (g:G) (b:B)|wh (t:T) (b:B)|fz (k:Nat) (s:S)
inductive B where|n|o (s:S)|c (s:S) (b:B)
end
inductive FT where
 |p (F:List D→Option (M×D))|oo (F:List D→Option D)
noncomputable def FT.f:Option FT→List D→Option (M×D)
 |some (.p F)=>F
 |_=>fun _=>none
noncomputable def FT.q:Option FT→List D→Option D
 |some (.oo F)=>F
 |_=>fun _=>none
mutual
noncomputable def eX(t:List FT):X→Ev→Option (M×D)
 |.v i=>jV i
 |.ki i=>jC (.int i)
 |.ks s=>jC (.str s)
 |.kb b=>jC (.bl b)
 |.kn=>jC .non
 |.ty n=>jC (.ty n)
 |.bo o a b=>ag o.g (eX t a) (eX t b)
 |.co o a b=>ag o.g (eX t a) (eX t b)
 |.uo o a=>cB o.g (eX t a)
 |.an a b=>kO (eX t a) (eX t b)
 |.or a b=>qW (eX t a) (eX t b)
 |.nt a=>zy (eX t a)
 |.ie c a b=>zz (eT t c) (eX t a) (eX t b)
 |.tu l=>aM (eA t l)
 |.li l=>bp (eA t l)
 |.dK=>nz
 |.d1 a b=>yV (eX t a) (eX t b)
 |.ix a b=>ag ao (eX t a) (eX t b)
 |.g1 d k=>kl (eX t d) (eX t k)
 |.g2 d k x=>pW (eX t d) (eX t k) (eX t x)
 |.sl a lo hi=>fE gq (eX t a) (eP t lo) (eP t hi)
 |.dT=>uQ
 |.fb f l=>aI f.g (eA t l)
 |.ca f l=>ay (FT.f t[f]?) (eA t l)
 |.cp i ix c e=>cC (eI t i) ix (eT t c) (eX t e)
noncomputable def eA(t:List FT):A→Ev→Option (List (M×D))
 |.n=>ah
 |.c a l=>ae (eX t a) (eA t l)
noncomputable def eT(t:List FT):T→Ev→Option Bool
 |.b x=>jB (eX t x)
 |.c o a b=>jB (ag o.g (eX t a) (eX t b))
 |.d n a b=>jB (du n (eX t a) (eX t b))
 |.t n a b=>jB (kY n (eX t a) (eX t b))
 |.h o p a b c=>jB (nh o.g p.g (eX t a) (eX t b) (eX t c))
 |.an a b=>bX (eT t a) (eT t b)
 |.or a b=>cW (eT t a) (eT t b)
 |.nt a=>g7 (eT t a)
 |.y=>kW
noncomputable def eP(t:List FT):P→Ev→Option (Option Int)
 |.n=>gi
 |.s x=>eZ (eX t x)
noncomputable def eI(t:List FT):I→Ev→Option (M×List D)
 |.r1 l=>bN (eA t l)
 |.r2 l=>qt (eA t l)
 |.en l=>jo (eA t l)
 |.s x=>AF (eX t x)
 |.t x=>oC (eX t x)
 |.l x=>bQ (eX t x)
end
mutual
noncomputable def eG:G→M×D→Ev→Option Ev
 |.n i=>gN i
 |.t k l=>gT k (v5 l)
 |.l k l=>gL k (v5 l)
noncomputable def v5:Gs→M→List D→Ev→Option Ev
 |.n=>fL
 |.c g l=>cq (eG g) (v5 l)
end
noncomputable def qx:A→List (Nat×Nat)
 |.n=>[]
 |.c (.v i) l=>(0,i)::vX (qx l)
 |.c _ l=>vX (qx l)
noncomputable def eL(t:List FT):L→Ev→Option Fl
 |.rt x=>aK (eX t x)
 |.ct=>yR
 |.st i x=>av i (eX t x)
 |.sc j i ix q e=>av j (eX t (.cp i ix q e))
 |.s2 j i ix q e=>av j (uB (eI t i) ix (eT t q) (eX t e))
 |.as g x=>lX (eG g) (eX t x)
 |.si k i x=>fq k (eX t i) (eX t x)
 |.dp k i x=>gZ k (eX t i) (eX t x)
 |.ap k x=>cF k (eX t x)
 |.na k i x=>kx k (eX t i) (eX t x)
 |.po i k=>kR i k
 |.cl k=>yo k
 |.ne i it=>nP i (eI t it)
 |.tp k i x=>nR k (eX t i) (eX t x)
 |.rO f sl l=>jF sl (qx l) (FT.q t[f]?) (eA t l)
mutual
noncomputable def eS(t:List FT):S→Ev→Option Fl
 |.l x=>eL t x
 |.ie c a b=>aO (eT t c) (eB t a) (eB t b)
 |.fo i g b=>bf (eI t i) (eG g) (eB t b)
 |.wh c b=>gB (eT t c) (eB t b)
 |.fz k s=>cN k (eS t s)
noncomputable def eB(t:List FT):B→Ev→Option Fl
 |.n=>aY
 |.o s=>eS t s
 |.c s b=>aq (eS t s) (eB t b)
end
end C
set_option genInjectivity true
set_option genSizeOf true
namespace C
open PySem PySem.Spec L2 J
noncomputable def dM:Expr→Bool
 |.Starred ..=>false
 |_=>true
noncomputable def rE:Expr→Bool
 |.Slice ..=>false
 |_=>true
noncomputable def rF:Expr→Bool
 |.Name ..=>true
 |.Call ..=>true
 |.Subscript ..=>true
 |_=>false
noncomputable def rG:Expr→Bool
 |.Name ..=>true
 |.Constant ..=>true
 |.Subscript ..=>true
 |.Call _ (_::_) _ _=>true
 |_=>false
noncomputable def g8:Expr→Bool
 |.Set ..=>false
 |_=>true
noncomputable def lO:Expr→Bool
 |.ListComp ..=>false
 |.SetComp ..=>false
 |.DictComp ..=>false
 |_=>true
noncomputable def yW:Expr→Bool
 |.Tuple ..=>true
 |_=>false
theorem cz{e:Expr}(h:dM e=true){es:List Expr}{env:Env}:starEach (e::es) env=(false,eval e env)::starEach es env:=by
 cases e<;>first|rfl|cases h
theorem FY{i:Expr}(h:rE i=true):DZ i:=by
 intro o v;cases i<;>first|rfl|cases h
theorem Sq{i o:Expr}{pos:Pos}{env:Env}(h:rE i=true)(v:Value):assign (Expr.Subscript o i pos) env v=(do
  let ov ←holding [v] (eval o env)
  let iv ←holding [v,ov] (eval i env)
  standAt pos
  holding [v,ov,iv] (setItem ov iv v)
  PySem.release [v,ov,iv] []):=by
 cases i<;>first|rfl|cases h
theorem Sr{a:Expr}{env:Env}(h:rF a=true)(whole:Sem Value):PySem.isTrue a env whole=(do
  let v ←whole
  standAt (Expr.pos a)
  holding [v] (truthy v)):=by
 cases a<;>first|rfl|cases h
theorem uC{o:Expr}{m:Str}{env:Env}{w:Sem Value}(h:rG o=true):attributeBase o m env w=w:=by
 cases o<;>first|rfl | (cases h;done)|skip
 rename_i f l kw p
 cases l with
 |nil=>cases h
 |cons a l=>cases f<;>rfl
theorem m5{op:CmpOp}{e:Expr}(h:g8 e=true):behindInMarks op e=false:=by
 cases e<;>first|rfl|cases h
theorem jz{e:Expr}{env:Env}(h:g8 e=true)(x:Value):foldedSetIterable e env x=pure x:=by
 cases e<;>first|rfl|cases h
noncomputable def AV(sc:Scope)(x:Str):Bool:=match sc.names.lookup x with
 |some .local=>true
 |some .cell=>true
 |some .free=>true
 |_=>false
theorem E4{sc:Scope}{x:Str}(h:AV sc x=true):vy sc x:=by
 unfold AV at h;unfold vy
 split at h<;>first|exact absurd h aZ|simp_all
noncomputable def gl(sc:Scope)(x:Str):Bool:=match sc.names.lookup x with
 |some .globalImplicit=>true
 |_=>false
theorem Ud{sc:Scope}{x:Str}(h:gl sc x=true):sc.names.lookup x=some .globalImplicit:=by
 unfold gl at h
 split at h<;>first|exact absurd h aZ|assumption
noncomputable def rl(sc au:Scope):Scope :=
  { kind:=au.kind,names:=au.names.map (fun(n,k)=>if (k==NameKind.free&&sc.kind==ScopeKind.function&&sc.names.lookup n==some NameKind.cell)=true then (n,NameKind.cell)else (n,k)),
    isGenerator:=au.isGenerator,isCoroutine:=au.isCoroutine,more:=au.more }
noncomputable def AW(N N':List Str)(sc au:Scope)(x:Str)(ix:List Nat):Bool :=
 decide (au.kind=.function∧(∀y∈au.names,y.2≠.cell)∧(∀y∈au.names,y.2=.local→au.names.lookup y.1=some .local)∧au.names.lookup x=some .local ∧
  (∀y∈au.names,y.2=.free→sc.names.lookup y.1=some .cell)∧N'.Nodup∧N'[0]?=some x∧N'.length=ix.length+1 ∧
  (∀p∈ix.zip N'.tail,N[p.1]?=some p.2∧sc.names.lookup p.2=some .cell∧au.names.lookup p.2=some .free))
theorem yw{N N':List Str}{sc au:Scope}{x:Str}{ix:List Nat}(h:AW N N' sc au x ix=true):jA N N' sc au x ix:=by
 obtain⟨h1,h2,h3,h4,h5,h6,h7,h8,h9⟩:=bt h
 exact⟨h1,h2,h3,h4,h5,h6,h7,h8,h9⟩
noncomputable def GD(N N':List Str)(sc au:Scope)(x y:Str)(ix:List Nat):Bool :=
 decide (au.kind=.function∧(∀y∈au.names,y.2≠.cell)∧(∀y∈au.names,y.2=.local→au.names.lookup y.1=some .local)∧(au.names.lookup x=some .local∧au.names.lookup y=some .local) ∧
  (∀y∈au.names,y.2=.free→sc.names.lookup y.1=some .cell)∧N'.Nodup∧(N'[0]?=some x∧N'[1]?=some y)∧N'.length=ix.length+2 ∧
  (∀p∈ix.zip (N'.drop 2),N[p.1]?=some p.2∧sc.names.lookup p.2=some .cell∧au.names.lookup p.2=some .free))
theorem PH{N N':List Str}{sc au:Scope}{x y:Str}{ix:List Nat}(h:GD N N' sc au x y ix=true):mZ 2 N N' sc au ix∧N'.Nodup∧(N'[0]?=some x∧N'[1]?=some y)∧au.names.lookup x=some .local∧au.names.lookup y=some .local:=by
 obtain⟨h1,h2,h3,h4,h5,h6,h7,h8,h9⟩:=bt h
 exact⟨⟨h1,h2,h3,h5,h8,h9⟩,h6,h7,h4⟩
structure Fi where
 nm:Str
 ar:Nat
 lv:Nat
 io:Option (List Nat):=none
noncomputable def Gv.is:Gv→Gv→Bool
 |.s x,.s y=>decide (x=y)
 |.t x,.t y=>decide (x=y)
 |_,_=>false
structure Cf where
 bs:List String
 gs:List (Str×Gv)
 fs:List Fi
noncomputable def ns(N:List Str)(x:Str)(ix:List Nat):List Str:=x::ix.map fun i=>(N[i]?).getD ""
noncomputable def iP(N:List Str)(x y:Str)(ix:List Nat):List Str:=x::y::ix.map fun i=>(N[i]?).getD ""
noncomputable def tys:List String:=["bool", "int", "str", "tuple", "list", "dict"]
noncomputable def nin(n:Bool):CmpOp:=if n then .NotIn else .In
noncomputable def on{α:Type}(o:Option α)(f:α→Bool):Bool:=match o with
 |some a=>f a
 |none=>false
theorem aE{α:Type}{o:Option α}{f:α→Bool}(h:on o f=true):∃a,o=some a∧f a=true:=by
 cases o with
 |none=>cases h
 |some a=>exact⟨a,rfl,h⟩
noncomputable def oG:Expr→Option Str
 |.Name x _=>some x
 |_=>none
noncomputable def eK:Expr→Option Const
 |.Constant c _ _=>some c
 |_=>none
noncomputable def Ie:Const→Option Int
 |.int i=>some i
 |_=>none
noncomputable def Ig:Const→Option Str
 |.str i=>some i
 |_=>none
noncomputable def Ih:Const→Option Bool
 |.bool i=>some i
 |_=>none
noncomputable def Ii:Const→Bool
 |.none=>true
 |_=>false
noncomputable def Ij:Expr→Option (Expr×Operator×Expr)
 |.BinOp l op r _=>some (l,op,r)
 |_=>none
noncomputable def v7:Expr→Option (UnaryOp×Expr)
 |.UnaryOp op e _=>some (op,e)
 |_=>none
noncomputable def AX:Expr→Option (Expr×List CmpOp×List Expr)
 |.Compare l ops rs _=>some (l,ops,rs)
 |_=>none
noncomputable def l1{α:Type}:List α→Option α
 |[a]=>some a
 |_=>none
noncomputable def l2{α:Type}:List α→Option (α×α)
 |[a,b]=>some (a,b)
 |_=>none
noncomputable def lh{α:Type}:List α→Option (α×List α)
 |a::l=>some (a,l)
 |_=>none
noncomputable def rH(e:Expr):Option (Expr×CmpOp×Expr):=(AX e).bind fun q=>(l1 q.2.1).bind fun op=>(l1 q.2.2).map fun r=>(q.1,op,r)
noncomputable def Ik(e:Expr):Option (Expr×CmpOp×CmpOp×Expr×Expr):=(AX e).bind fun q=>(l2 q.2.1).bind fun op=>(l2 q.2.2).map fun r=>(q.1,op.1,op.2,r.1,r.2)
noncomputable def Il:Expr→Option (BoolOp×List Expr×Pos)
 |.BoolOp op vs pos=>some (op,vs,pos)
 |_=>none
noncomputable def qy(o:BoolOp)(e:Expr):Option (Expr×Expr):=(Il e).bind fun q=>if q.1=o then (lh q.2.1).bind fun a=>(lh a.2).map fun b=>(a.1,match b.2 with
 |[]=>b.1
 |_=>.BoolOp o (b.1::b.2) q.2.2)else none
noncomputable def Im:Expr→Option (Expr×Expr×Expr)
 |.IfExp e l r _=>some (e,l,r)
 |_=>none
noncomputable def v8:Expr→Option (List Expr)
 |.Tuple es _ _=>some es
 |_=>none
noncomputable def Io:Expr→Option (List Expr)
 |.List es _=>some es
 |_=>none
noncomputable def v9:Expr→Option (List (Option Expr)×List Expr)
 |.Dict ks vs _=>some (ks,vs)
 |_=>none
noncomputable def mI:Expr→Option (Expr×Expr)
 |.Subscript l r _=>some (l,r)
 |_=>none
noncomputable def Ip:Expr→Option (Option Expr×Option Expr)
 |.Slice lo hi none _=>some (lo,hi)
 |_=>none
noncomputable def AY:Expr→Option (Expr×List Expr×List Keyword×Pos)
 |.Call f as kw cp=>some (f,as,kw,cp)
 |_=>none
noncomputable def Iq:Expr→Option (Expr×Str×Pos)
 |.Attribute o m ap=>some (o,m,ap)
 |_=>none
noncomputable def eM(nm:String)(e:Expr):Option (Expr×List Expr):=(AY e).bind fun q=>(Iq q.1).bind fun a=>if a.2.1=Str.ofString nm∧q.2.2.1.isEmpty=true∧rG a.1=true∧(a.2.2.endLine==q.2.2.2.line)=true∧q.2.1.all dM=true then some (a.1,q.2.1)else none
noncomputable def eN(e:Expr):Option (Str×List Expr):=(AY e).bind fun q=>(oG q.1).bind fun x=>if q.2.2.1.isEmpty=true∧q.2.1.all dM=true then some (x,q.2.1)else none
noncomputable def vq:Expr→Option (Expr×Str×Pos×Expr×List Expr×Scope×Pos)
 |.ListComp el [⟨.Name z pz,it,ifs,0⟩] au ep=>some (el,z,pz,it,ifs,au,ep)
 |_=>none
noncomputable def zL:List Expr→Option ((Str×Pos)×Str×Pos)
 |[.Name x px,.Name y py]=>some ((x,px),y,py)
 |_=>none
noncomputable def yX:Expr→Option (Expr×(List Expr×Nat×Pos)×Expr×List Expr×Scope×Pos)
 |.ListComp el [⟨.Tuple es k pt,it,ifs,0⟩] au ep=>some (el,(es,k,pt),it,ifs,au,ep)
 |_=>none
theorem il{α β:Type}{o:Option α}{f:α→Option β}{b:β}(h:o.bind f=some b):∃a,o=some a∧f a=some b:=by
 cases o with
 |none=>cases h
 |some a=>exact⟨a,rfl,h⟩
theorem uD{α β:Type}{o:Option α}{f:α→β}{b:β}(h:o.map f=some b):∃a,o=some a∧f a=b:=by
 cases o with
 |none=>cases h
 |some a=>exact⟨a,rfl,by simpa using h⟩
theorem nC{e:Expr}{x:Str}(h:oG e=some x):∃p,e=.Name x p:=by
 cases e<;>cases h;exact⟨_,rfl⟩
theorem uU{e:Expr}{k:Const}(h:eK e=some k):∃j p,e=.Constant k j p:=by
 cases e<;>cases h;exact⟨_,_,rfl⟩
theorem Ue{k:Const}{i:Int}(h:Ie k=some i):k=.int i:=by
 cases k<;>cases h;rfl
theorem Ug{k:Const}{i:Str}(h:Ig k=some i):k=.str i:=by
 cases k<;>cases h;rfl
theorem Uh{k:Const}{i:Bool}(h:Ih k=some i):k=.bool i:=by
 cases k<;>cases h;rfl
theorem Ui{k:Const}(h:Ii k=true):k=.none:=by
 cases k<;>first|rfl|exact absurd h aZ
theorem Ss{e l r:Expr}{op:Operator}(h:Ij e=some (l,op,r)):∃p,e=.BinOp l op r p:=by
 cases e<;>cases h;exact⟨_,rfl⟩
theorem yx{e a:Expr}{op:UnaryOp}(h:v7 e=some (op,a)):∃p,e=.UnaryOp op a p:=by
 cases e<;>cases h;exact⟨_,rfl⟩
theorem iu{α:Type}{l:List α}{a:α}(h:l1 l=some a):l=[a]:=by
 cases l with
 |nil=>cases h
 |cons b l=>cases l<;>cases h;rfl
theorem yZ{α:Type}{l:List α}{a:α×α}(h:l2 l=some a):l=[a.1,a.2]:=by
 cases l with
 |nil=>cases h
 |cons b l =>
  cases l with
  |nil=>cases h
  |cons d l=>cases l<;>cases h;rfl
theorem lI{α:Type}{l:List α}{a:α×List α}(h:lh l=some a):l=a.1::a.2:=by
 cases l<;>cases h;rfl
theorem E5{e:Expr}{q:Expr×List CmpOp×List Expr}(h:AX e=some q):∃p,e=.Compare q.1 q.2.1 q.2.2 p:=by
 cases e<;>cases h;exact⟨_,rfl⟩
theorem uE{e l r:Expr}{op:CmpOp}(h:rH e=some (l,op,r)):∃p,e=.Compare l [op] [r] p:=by
 obtain⟨q,h1,h⟩:=il h
 obtain⟨a,h2,h⟩:=il h
 obtain⟨b,h3,h⟩:=uD h
 cases h
 obtain⟨p,rfl⟩:=E5 h1
 exact⟨p,by rw[iu h2,iu h3]⟩
theorem Sv{e l m r:Expr}{op op':CmpOp}(h:Ik e=some (l,op,op',m,r)):∃p,e=.Compare l [op,op'] [m,r] p:=by
 obtain⟨q,h1,h⟩:=il h
 obtain⟨a,h2,h⟩:=il h
 obtain⟨b,h3,h⟩:=uD h
 cases h
 obtain⟨p,rfl⟩:=E5 h1
 exact⟨p,by rw[yZ h2,yZ h3]⟩
theorem Sw{e:Expr}{q:BoolOp×List Expr×Pos}(h:Il e=some q):e=.BoolOp q.1 q.2.1 q.2.2:=by
 cases e<;>cases h;rfl
theorem uh{o:BoolOp}{e a b:Expr}(h:qy o e=some (a,b)):∃m rest pos,e=.BoolOp o (a::m::rest) pos∧((rest=[]∧b=m)∨b=.BoolOp o (m::rest) pos):=by
 obtain⟨q,h1,g⟩:=il h
 have e0:=Sw h1
 by_cases e:q.1=o
 ·rw[if_pos e]at g
  obtain⟨x,h2,g⟩:=il g
  obtain⟨y,h3,g⟩:=uD g
  have e2:q.2.1=x.1::y.1::y.2:=by rw[lI h2,lI h3]
  have ea:x.1=a:=congrArg Prod.fst g
  have eb:=congrArg Prod.snd g
  refine⟨y.1,y.2,q.2.2,by rw[e0,e2,e,ea],?_⟩
  cases hy:y.2 with
  |nil=>rw[hy]at eb;exact .inl ⟨rfl,eb.symm⟩
  |cons z zs=>rw[hy]at eb;exact .inr eb.symm
 ·rw[if_neg e]at g;cases g
theorem Sx{e a b d:Expr}(h:Im e=some (a,b,d)):∃p,e=.IfExp a b d p:=by
 cases e<;>cases h;exact⟨_,rfl⟩
theorem yy{e:Expr}{es:List Expr}(h:v8 e=some es):∃k p,e=.Tuple es k p:=by
 cases e<;>cases h;exact⟨_,_,rfl⟩
theorem Sy{e:Expr}{es:List Expr}(h:Io e=some es):∃p,e=.List es p:=by
 cases e<;>cases h;exact⟨_,rfl⟩
theorem yz{e:Expr}{q:List (Option Expr)×List Expr}(h:v9 e=some q):∃p,e=.Dict q.1 q.2 p:=by
 cases e<;>cases h;exact⟨_,rfl⟩
theorem nD{e l r:Expr}(h:mI e=some (l,r)):∃p,e=.Subscript l r p:=by
 cases e<;>cases h;exact⟨_,rfl⟩
theorem Sz{e:Expr}{lo hi:Option Expr}(h:Ip e=some (lo,hi)):∃p,e=.Slice lo hi none p:=by
 cases e with
 |Slice a b st p=>cases st<;>cases h;exact⟨_,rfl⟩
 |_=>cases h
theorem E6{e:Expr}{q:Expr×List Expr×List Keyword×Pos}(h:AY e=some q):e=.Call q.1 q.2.1 q.2.2.1 q.2.2.2:=by
 cases e<;>cases h;rfl
theorem SD{e:Expr}{q:Expr×Str×Pos}(h:Iq e=some q):e=.Attribute q.1 q.2.1 q.2.2:=by
 cases e<;>cases h;rfl
theorem nS{nm:String}{e o:Expr}{as:List Expr}(h:eM nm e=some (o,as)):∃ap cp,e=.Call (.Attribute o (Str.ofString nm) ap) as [] cp∧rG o=true∧(ap.endLine==cp.line)=true∧as.all dM=true:=by
 obtain⟨q,h1,h⟩:=il h
 obtain⟨a,h2,h⟩:=il h
 split at h
 ·rename_i g
  cases h
  refine⟨a.2.2,q.2.2.2,?_,g.2.2.1,g.2.2.2.1,g.2.2.2.2⟩
  rw[E6 h1,SD h2,g.1,List.isEmpty_iff.mp g.2.1]
 ·cases h
theorem nT{e:Expr}{x:Str}{as:List Expr}(h:eN e=some (x,as)):∃p cp,e=.Call (.Name x p) as [] cp∧as.all dM=true:=by
 obtain⟨q,h1,h⟩:=il h
 obtain⟨y,h2,h⟩:=il h
 split at h
 ·rename_i g
  cases h
  obtain⟨p,e2⟩:=nC h2
  exact⟨p,q.2.2.2,by rw[E6 h1,e2,List.isEmpty_iff.mp g.1],g.2⟩
 ·cases h
theorem PJ{es:List Expr}{x y:Str}{px py:Pos}(h:zL es=some ((x,px),y,py)):es=[.Name x px,.Name y py]:=by
 unfold zL at h
 split at h
 ·cases h;rfl
 ·cases h
theorem Nn{e el it:Expr}{es:List Expr}{k:Nat}{pt ep:Pos}{ifs:List Expr}{au:Scope}(h:yX e=some (el,(es,k,pt),it,ifs,au,ep)):e=.ListComp el [⟨.Tuple es k pt,it,ifs,0⟩] au ep:=by
 unfold yX at h
 split at h
 ·cases h;rfl
 ·cases h
theorem x5{e el it:Expr}{z:Str}{pz ep:Pos}{ifs:List Expr}{au:Scope}(h:vq e=some (el,z,pz,it,ifs,au,ep)):e=.ListComp el [⟨.Name z pz,it,ifs,0⟩] au ep:=by
 unfold vq at h
 split at h
 ·cases h;rfl
 ·cases h
noncomputable def rJ:T→Bool
 |.y=>true
 |_=>false
mutual
noncomputable def kX(c:Cf)(lv:Nat):X→Scope→List Str→Expr→Bool
 |.v i,sc,N,e=>on (oG e) fun x=>decide (N[i]?=some x)&&AV sc x&&!(x == "__debug__")&&!(x == "__classdict__")
 |.ki i,_,_,e=>on (eK e) fun k=>on (Ie k) fun j=>decide (i=j)
 |.ks i,_,_,e=>on (eK e) fun k=>on (Ig k) fun j=>decide (i=j)
 |.kb i,_,_,e=>on (eK e) fun k=>on (Ih k) fun j=>decide (i=j)
 |.kn,_,_,e=>on (eK e) Ii
 |.ty n,sc,_,e=>on (oG e) fun x=>decide (x=Str.ofString n)&&gl sc x&&c.bs.contains n&&tys.contains n
 |.bo o a b,sc,N,e=>on (Ij e) fun q=>decide (q.2.1=o.op)&&kX c lv a sc N q.1&&kX c lv b sc N q.2.2
 |.co o a b,sc,N,e=>on (rH e) fun q=>decide (q.2.1=o.op)&&g8 q.2.2&&kX c lv a sc N q.1&&kX c lv b sc N q.2.2
 |.uo o a,sc,N,e=>on (v7 e) fun q=>decide (q.1=o.op)&&kX c lv a sc N q.2
 |.an a b,sc,N,e=>on (qy .And e) fun q=>kX c lv a sc N q.1&&kX c lv b sc N q.2
 |.or a b,sc,N,e=>on (qy .Or e) fun q=>kX c lv a sc N q.1&&kX c lv b sc N q.2
 |.nt a,sc,N,e=>on (v7 e) fun q=>decide (q.1=.Not)&&kX c lv a sc N q.2
 |.ie t a b,sc,N,e=>on (Im e) fun q=>kT c lv t sc N q.1&&kX c lv a sc N q.2.1&&kX c lv b sc N q.2.2
 |.tu l,sc,N,e=>on (v8 e) fun es=>kA c lv l sc N es
 |.li l,sc,N,e=>on (Io e) fun es=>kA c lv l sc N es
 |.dK,_,_,e=>on (v9 e) fun q=>q.1.isEmpty&&q.2.isEmpty
 |.d1 a b,sc,N,e=>on (v9 e) fun q=>on (l1 q.1) fun k=>on k fun k=>on (l1 q.2) fun v=>kX c lv a sc N k&&kX c lv b sc N v
 |.ix a b,sc,N,e=>on (mI e) fun q=>rE q.2&&kX c lv a sc N q.1&&kX c lv b sc N q.2
 |.g1 d k,sc,N,e=>on (eM "get" e) fun q=>on (l1 q.2) fun a=>kX c lv d sc N q.1&&kX c lv k sc N a
 |.g2 d k x,sc,N,e=>on (eM "get" e) fun q=>on (l2 q.2) fun a=>kX c lv d sc N q.1&&kX c lv k sc N a.1&&kX c lv x sc N a.2
 |.sl a lo hi,sc,N,e=>on (mI e) fun q=>on (Ip q.2) fun s=>kX c lv a sc N q.1&&kP c lv lo sc N s.1&&kP c lv hi sc N s.2
 |.dT,_,_,e=>on (v9 e) fun q=>q.1.isEmpty&&q.2.isEmpty
 |.fb f l,sc,N,e=>on (eN e) fun q=>decide (q.1=Str.ofString f.nm)&&gl sc q.1&&c.bs.contains f.nm&&!q.2.isEmpty&&kA c lv l sc N q.2
 |.ca f l,sc,N,e=>on (eN e) fun q=>on c.fs[f]? fun i=>decide (q.1=i.nm)&&gl sc q.1&&!(q.1 == "__debug__")&&decide (i.lv≤lv)&&decide (q.2.length=i.ar)&&decide (i.io=none)&&!q.2.isEmpty&&kA c lv l sc N q.2
 |.cp i ix t e,sc,N,x=>on (vq x) fun q=>AW N (ns N q.2.1 ix) sc q.2.2.2.2.2.1 q.2.1 ix&&g8 q.2.2.2.1&&kI c lv i false sc N q.2.2.2.1&&((q.2.2.2.2.1.isEmpty&&rJ t)||on (l1 q.2.2.2.2.1) fun y=>kT c lv t (rl sc q.2.2.2.2.2.1) (ns N q.2.1 ix) y)&&kX c lv e (rl sc q.2.2.2.2.2.1) (ns N q.2.1 ix) q.1
noncomputable def kA(c:Cf)(lv:Nat):A→Scope→List Str→List Expr→Bool
 |.n,_,_,es=>es.isEmpty
 |.c a l,sc,N,es=>on (lh es) fun q=>dM q.1&&kX c lv a sc N q.1&&kA c lv l sc N q.2
noncomputable def kT(c:Cf)(lv:Nat):T→Scope→List Str→Expr→Bool
 |.b x,sc,N,e=>rF e&&kX c lv x sc N e
 |.c o a b,sc,N,e=>on (rH e) fun q=>decide (q.2.1=o.op)&&g8 q.2.2&&kX c lv a sc N q.1&&kX c lv b sc N q.2.2
 |.d n a b,sc,N,e=>on (rH e) fun q=>decide (q.2.1=nin n)&&g8 q.2.2&&kX c lv a sc N q.1&&kX c lv b sc N q.2.2
 |.t n a b,sc,N,e=>on (rH e) fun q=>decide (q.2.1=nin n)&&g8 q.2.2&&kX c lv a sc N q.1&&kX c lv b sc N q.2.2
 |.h o p a b d,sc,N,e=>on (Ik e) fun q=>decide (q.2.1=o.op)&&decide (q.2.2.1=p.op)&&!lastMarks [q.2.1,q.2.2.1] [q.2.2.2.1,q.2.2.2.2]&&kX c lv a sc N q.1&&kX c lv b sc N q.2.2.2.1&&kX c lv d sc N q.2.2.2.2
 |.an a b,sc,N,e=>on (qy .And e) fun q=>kT c lv a sc N q.1&&kT c lv b sc N q.2
 |.or a b,sc,N,e=>on (qy .Or e) fun q=>kT c lv a sc N q.1&&kT c lv b sc N q.2
 |.nt a,sc,N,e=>on (v7 e) fun q=>decide (q.1=.Not)&&kT c lv a sc N q.2
 |.y,_,_,_=>false
noncomputable def kP(c:Cf)(lv:Nat):P→Scope→List Str→Option Expr→Bool
 |.n,_,_,o=>o.isNone
 |.s x,sc,N,o=>on o fun e=>kX c lv x sc N e
noncomputable def kI(c:Cf)(lv:Nat):I→Bool→Scope→List Str→Expr→Bool
 |.r1 l,_,sc,N,e=>on (eN e) fun q=>decide (q.1 = "range")&&gl sc q.1&&c.bs.contains "range" && decide (q.2.length=1)&&kA c lv l sc N q.2
 |.r2 l,_,sc,N,e=>on (eN e) fun q=>decide (q.1 = "range")&&gl sc q.1&&c.bs.contains "range" && decide (q.2.length=2)&&kA c lv l sc N q.2
 |.en l,tg,sc,N,e=>on (eN e) fun q=>tg&&decide (q.1 = "enumerate")&&gl sc q.1&&c.bs.contains "enumerate" && decide (q.2.length=1)&&kA c lv l sc N q.2
 |.s x,_,sc,N,e=>kX c lv x sc N e
 |.t x,_,sc,N,e=>kX c lv x sc N e
 |.l x,_,sc,N,e=>kX c lv x sc N e
end
def Ir(P:Program)(w:World)(K:PySem.W.Frag)(mg:Str→Option Value)(base:Heap)(i:Fi)(sp:Sp):Prop :=
 ∃f fd ps,jK P w K mg base jX i.lv f fd ps sp∧mg i.nm=some (.ref f)∧PySem.W.keepIn K (.ref f)=true∧Binds K fd ps []
noncomputable def mK(P:Program)(w:World)(K:PySem.W.Frag)(mg:Str→Option Value)(base:Heap)(i:Fi):FT→Prop
 |.p F=>i.io=none∧Ir P w K mg base i (mD K i.ar F)
 |.oo F=>i.io=some []∧Ir P w K mg base i (vp K i.ar F)
def GV(K:PySem.W.Frag)(mg:Str→Option Value)(va:List V)(gs:List (Str×Gv)):Prop:=∀(i:Nat) g,gs[i]?=some g→∃x u,va[i]?=some x∧mg g.1=some u∧RelV x u∧JT K (tC x) (jC g.2.d)
structure CE (c:Cf)(lv:Nat)(K:PySem.W.Frag)(t:List FT)(va:List V)(sc:Scope)(N:List Str)(Z:Cx):Prop where
 k:Z.K=K
 sc:Z.env.scope=sc
 n:Z.N=N
 calm:Z.calm=true
 rm:dD lv Z.A
 bl:∀b,b∈c.bs→Z.mg (Str.ofString b)=none
 gv:GV K Z.mg va c.gs
 fs:∀(i:Nat) fi,c.fs[i]?=some fi→∃F,t[i]?=some F∧mK Z.prog Z.w Z.K Z.mg Z.base fi F
section
variable {c:Cf}{lv:Nat}{K:PySem.W.Frag}{t:List FT}{va:List V}{sc:Scope}{N:List Str}{Z:Cx}
theorem CE.bw(E:CE c lv K t va sc N Z){N':List Str}{au:Scope}{C:Addr}{s₂:Shared}{H₂:Hp}{fp:List Addr}{pn:List (Addr×Obj)}:CE c lv K t va (rl sc au) N' (Z.bw N' au C s₂ H₂ fp pn) :=
 ⟨E.k,by rw[←E.sc];rfl,rfl,E.calm,E.rm,E.bl,E.gv,E.fs⟩
theorem CE.gl(E:CE c lv K t va sc N Z){x:Str}(h:gl sc x=true):Gl Z x:=by
 have:=Ud h
 rw[←E.sc]at this
 exact this
theorem CE.mg(E:CE c lv K t va sc N Z){b:String}(h:c.bs.contains b=true):Z.mg (Str.ofString b)=none:=E.bl b (by simpa using h)
theorem gU:∀{es:List Expr}{env:Env},es.all dM=true→∀pos:Pos,((backTo pos (starEach es env)).any fun x=>x.1)=false
 |[],_,_,_=>rfl
 |e::es,env,h,pos=>by
  rw[List.all_cons,Bool.and_eq_true]at h
  rw[cz h.1]
  show(false||(backTo pos (starEach es env)).any fun x=>x.1)=false
  rw[gU h.2,Bool.or_false]
theorem SF{n:String}(h:tys.contains n=true):bootBuiltins (Str.ofString n)=some (.type n)∧Str.ofString n ≠ "__name__" ∧ (Str.ofString n==("__debug__" : Str))=false:=by
 have h:n∈tys:=by simpa using h
 simp only[tys,List.mem_cons,List.not_mem_nil,or_false]at h
 rcases h with rfl|rfl|rfl|rfl|rfl|rfl
 ·exact⟨PyProof.Rows.Boot.«bool»,by decide,by decide⟩
 ·exact⟨PyProof.Rows.Boot.«int»,by decide,by decide⟩
 ·exact⟨PyProof.Rows.Boot.«str»,by decide,by decide⟩
 ·exact⟨PyProof.Rows.Boot.«tuple»,by decide,by decide⟩
 ·exact⟨PyProof.Rows.Boot.«list»,by decide,by decide⟩
 ·exact⟨PyProof.Rows.Boot.«dict»,by decide,by decide⟩
theorem Fb.ok:∀f:Fb,∃r,(∀{sc:Scope}{N:List Str} (Z:Cx),CE c lv K t va sc N Z→∀{p pos:Pos}{e:Expr}{es:List Expr}{ta:TA},C.gl sc (Str.ofString f.nm)=true→c.bs.contains f.nm=true→dM e=true→es.all dM=true→PA Z (e::es) ta→PE Z (.Call (.Name (Str.ofString f.nm) p) (e::es) [] pos) (vF r ta))∧iM K r f.g
 |.int=>⟨_,fun _ E _ _ _ _ _ hg hb h1 h2 ha=>@pC _ _ _ _ _ _ _ _ _ Lk (E.gl hg) (E.mg hb) PyProof.Rows.Boot.«int» ha (by decide) (by decide) (cz h1) (gU h2 _),Ox⟩
 |.list=>⟨_,fun _ E _ _ _ _ _ hg hb h1 h2 ha=>@pC _ _ _ _ _ _ _ _ _ (Ke E.k) (E.gl hg) (E.mg hb) PyProof.Rows.Boot.«list» ha (by decide) (by decide) (cz h1) (gU h2 _),ML⟩
 |.len=>⟨_,fun _ E _ _ _ _ _ hg hb h1 h2 ha=>@tQ _ _ _ _ _ _ _ _ _ (Lz E.k) (E.gl hg) (E.mg hb) PyProof.Rows.Boot.«len» ha (by decide) (by decide) (cz h1) (gU h2 _),Ow⟩
 |.v3=>⟨_,fun _ E _ _ _ _ _ hg hb h1 h2 ha=>@tQ _ _ _ _ _ _ _ _ _ (LX E.k) (E.gl hg) (E.mg hb) PyProof.Rows.Boot.«isinstance» ha (by decide) (by decide) (cz h1) (gU h2 _),Pb⟩
 |.max=>⟨_,fun _ E _ _ _ _ _ hg hb h1 h2 ha=>@tQ _ _ _ _ _ _ _ _ _ (Lj E.calm) (E.gl hg) (E.mg hb) PyProof.Rows.Boot.«max» ha (by decide) (by decide) (cz h1) (gU h2 _),Oy⟩
 |.uT=>⟨_,fun _ E _ _ _ _ _ hg hb h1 h2 ha=>@pC _ _ _ _ _ _ _ _ _ (K2 E.k E.calm) (E.gl hg) (E.mg hb) PyProof.Rows.Boot.«list» ha (by decide) (by decide) (cz h1) (gU h2 _),L1⟩
 |.sum=>⟨_,fun _ E _ _ _ _ _ hg hb h1 h2 ha=>@tQ _ _ _ _ _ _ _ _ _ (L3 E.k E.calm) (E.gl hg) (E.mg hb) PyProof.Rows.Boot.«sum» ha (by decide) (by decide) (cz h1) (gU h2 _),PF⟩
 |.tuple=>⟨_,fun _ E _ _ _ _ _ hg hb h1 h2 ha=>@pC _ _ _ _ _ _ _ _ _ (Km E.k) (E.gl hg) (E.mg hb) PyProof.Rows.Boot.«tuple» ha (by decide) (by decide) (cz h1) (gU h2 _),L6⟩
 |.qi=>⟨_,fun _ E _ _ _ _ _ hg hb h1 h2 ha=>@pC _ _ _ _ _ _ _ _ _ (Kl E.k E.calm) (E.gl hg) (E.mg hb) PyProof.Rows.Boot.«dict» ha (by decide) (by decide) (cz h1) (gU h2 _),L8⟩
theorem E7{a:Expr}{env:Env}{cE:Pos}(h:dM a=true):(((List.all (backTo cE (starEach [a] env)) fun x=>!x.1)&&List.all (backToKw cE (keywordEach [] env)) fun x=>Option.isSome x.1)&&decide ((List.length [a]+List.length ([]:List Keyword)+if List.isEmpty ([]:List Keyword)=true then 0 else 1)<30))=true:=by
 rw[cz h];rfl
theorem SG{env:Env}{cp:Pos}:((backTo cp (starEach [] env)).any fun x=>x.1)=false:=rfl
theorem zM:∀{l:A}{sc:Scope}{N:List Str}{es:List Expr},kA c lv l sc N es=true→∀(e:Ev) (aB:List (M×D)),eA t l e=some aB→aB.length=es.length
 |.n,_,_,es,h=>by cases List.isEmpty_iff.mp h;exact OX
 |.c a l,sc,N,es,h=>by
  have hh:=aE h;clear h;obtain⟨⟨e,r⟩,q,h⟩:=hh
  cases lI q
  have h:(dM e&&kX c lv a sc N e&&kA c lv l sc N r)=true:=h
  rw[Bool.and_eq_true]at h
  exact M5 (zM h.2)
end
section
variable {c:Cf}{lv:Nat}{K:PySem.W.Frag}{t:List FT}{va:List V}
theorem cP{a b:Bool}(h:(a&&b)=true):a=true∧b=true:=by simpa using h
theorem hZ{a b d:Bool}(h:(a&&b&&d)=true):a=true∧b=true∧d=true:=by simpa[and_assoc]using h
theorem fW{a b d e:Bool}(h:(a&&b&&d&&e)=true):a=true∧b=true∧d=true∧e=true:=by simpa[and_assoc]using h
theorem oH{a b d e f:Bool}(h:(a&&b&&d&&e&&f)=true):a=true∧b=true∧d=true∧e=true∧f=true:=by simpa[and_assoc]using h
theorem wa{a b d e f g:Bool}(h:(a&&b&&d&&e&&f&&g)=true):a=true∧b=true∧d=true∧e=true∧f=true∧g=true:=by simpa[and_assoc]using h
theorem Iu{a b d e f g i j:Bool}(h:(a&&b&&d&&e&&f&&g&&i&&j)=true):a=true∧b=true∧d=true∧e=true∧f=true∧g=true∧i=true∧j=true:=by simpa[and_assoc]using h
theorem nb{a:Bool}(h:(!a)=true):a=false:=by simpa using h
theorem FZ{Z:Cx}{op:BoolOp}{vs:List Expr}{pos:Pos}{tt:TT}(h:PT Z (.BoolOp op vs pos) tt):PW Z (.BoolOp op vs pos) tt:=fun _=>h
theorem all1{a:Expr}{l:List Expr}(h:(a::l).all dM=true):dM a=true∧l.all dM=true:=by
 rw[List.all_cons,Bool.and_eq_true]at h;exact h
theorem x6{α:Type}{l:List α}(h:(!l.isEmpty)=true):∃a r,l=a::r:=by
 cases l with
 |nil=>cases h
 |cons a r=>exact⟨a,r,rfl⟩
theorem GF{α:Type}{l:List α}(h:l.length=1):∃a,l=[a]:=List.length_eq_one_iff.mp h
theorem VN{α:Type}{l:List α}(h:l.length=2):∃a b,l=[a,b]:=by
 match l,h with
 |[a,b],_=>exact⟨a,b,rfl⟩
mutual
theorem sX:∀(x:X) {sc:Scope}{N:List Str}{e:Expr},kX c lv x sc N e=true→∃te,(∀Z,CE c lv K t va sc N Z→PE Z e te)∧JT K te (eX t x)
 |.v i,sc,N,e,h=>by
  have hh:=aE h;clear h;obtain⟨x,q,h⟩:=hh
  obtain⟨p,rfl⟩:=nC q
  obtain⟨h1,h2,h3,h4⟩:=fW h
  have h1:=bt h1
  have h2:=E4 h2
  exact⟨_,fun Z E=>@Ex _ _ _ _ (E.n▸h1) (E.sc▸h2) (nb h3) (nb h4),Ri⟩
 |.ki i,sc,N,e,h=>by
  have hh:=aE h;clear h;obtain⟨k,q,h⟩:=hh
  obtain⟨j,p,rfl⟩:=uU q
  have hh:=aE h;clear h;obtain⟨y,q,h⟩:=hh
  cases Ue q
  cases bt h
  exact⟨_,fun Z E=>Qs,n5 rfl⟩
 |.ks i,sc,N,e,h=>by
  have hh:=aE h;clear h;obtain⟨k,q,h⟩:=hh
  obtain⟨j,p,rfl⟩:=uU q
  have hh:=aE h;clear h;obtain⟨y,q,h⟩:=hh
  cases Ug q
  cases bt h
  exact⟨_,fun Z E=>Qu,n5 rfl⟩
 |.kb i,sc,N,e,h=>by
  have hh:=aE h;clear h;obtain⟨k,q,h⟩:=hh
  obtain⟨j,p,rfl⟩:=uU q
  have hh:=aE h;clear h;obtain⟨y,q,h⟩:=hh
  cases Uh q
  cases bt h
  exact⟨_,fun Z E=>Td,n5 rfl⟩
 |.kn,sc,N,e,h=>by
  have hh:=aE h;clear h;obtain⟨k,q,h⟩:=hh
  obtain⟨j,p,rfl⟩:=uU q
  cases Ui h
  exact⟨_,fun Z E=>Qt,n5 rfl⟩
 |.ty n,sc,N,e,h=>by
  have hh:=aE h;clear h;obtain⟨x,q,h⟩:=hh
  obtain⟨p,rfl⟩:=nC q
  obtain⟨h1,h2,h3,h4⟩:=fW h
  cases bt h1
  obtain⟨q1,q2,q3⟩:=SF h4
  exact⟨_,fun Z E=>@N2 _ _ (.ty n) _ _ (E.gl h2) (E.mg h3) q1 rfl q2 q3,n5 rfl⟩
 |.bo o a b,sc,N,e,h=>by
  have hh:=aE h;clear h;obtain⟨⟨l,op,r⟩,q,h⟩:=hh
  obtain⟨p,rfl⟩:=Ss q
  obtain⟨h1,h2,h3⟩:=hZ h
  cases bt h1
  obtain⟨ta,pa,ja⟩:=sX a h2
  obtain⟨tb,pb,jb⟩:=sX b h3
  obtain⟨r,o1,o2⟩:=o.ok (K:=K)
  exact⟨_,fun Z E=>Tj (o1 Z E.k) (pa Z E) (pb Z E),uL o2 ja jb⟩
 |.co o a b,sc,N,e,h=>by
  have hh:=aE h;clear h;obtain⟨⟨l,op,r⟩,q,h⟩:=hh
  obtain⟨p,rfl⟩:=uE q
  obtain⟨h1,h0,h2,h3⟩:=fW h
  cases bt h1
  obtain⟨ta,pa,ja⟩:=sX a h2
  obtain⟨tb,pb,jb⟩:=sX b h3
  obtain⟨r,o1,o2⟩:=o.ok (K:=K)
  exact⟨_,fun Z E=>N9 (o1 Z E.k E.rm.units) (pa Z E) (pb Z E) (m5 h0),uL o2 ja jb⟩
 |.uo o a,sc,N,e,h=>by
  have hh:=aE h;clear h;obtain⟨⟨op,r⟩,q,h⟩:=hh
  obtain⟨p,rfl⟩:=yx q
  obtain⟨h1,h2⟩:=cP h
  cases bt h1
  obtain⟨ta,pa,ja⟩:=sX a h2
  obtain⟨r,o1,o2⟩:=o.ok (K:=K)
  exact⟨_,fun Z E=>Tn (o1 Z) (pa Z E),TF o2 ja⟩
 |.an a b,sc,N,e,h=>by
  have hh:=aE h;clear h;obtain⟨⟨x,y⟩,q,h⟩:=hh
  obtain⟨m,rest,pos,rfl,w⟩:=uh q
  obtain⟨h1,h2⟩:=cP h
  obtain⟨ta,pa,ja⟩:=sX a h1
  obtain⟨tb,pb,jb⟩:=sX b h2
  refine⟨_,fun Z E=>@Qy _ _ _ _ tb _ _ (pa Z E) ?_,Rq ja jb⟩
  rcases w with⟨rfl,rfl⟩|rfl
  ·exact @Ey _ _ _ _ _ (pb Z E)
  ·exact pb Z E
 |.or a b,sc,N,e,h=>by
  have hh:=aE h;clear h;obtain⟨⟨x,y⟩,q,h⟩:=hh
  obtain⟨m,rest,pos,rfl,w⟩:=uh q
  obtain⟨h1,h2⟩:=cP h
  obtain⟨ta,pa,ja⟩:=sX a h1
  obtain⟨tb,pb,jb⟩:=sX b h2
  refine⟨_,fun Z E=>@Tf _ _ _ _ tb _ _ (pa Z E) ?_,TV ja jb⟩
  rcases w with⟨rfl,rfl⟩|rfl
  ·exact @Ey _ _ _ _ _ (pb Z E)
  ·exact pb Z E
 |.nt a,sc,N,e,h=>by
  have hh:=aE h;clear h;obtain⟨⟨op,r⟩,q,h⟩:=hh
  obtain⟨p,rfl⟩:=yx q
  obtain⟨h1,h2⟩:=cP h
  cases bt h1
  obtain⟨ta,pa,ja⟩:=sX a h2
  exact⟨_,fun Z E=>Qz (pa Z E),Rr ja⟩
 |.ie t' a b,sc,N,e,h=>by
  have hh:=aE h;clear h;obtain⟨⟨x,l,r⟩,q,h⟩:=hh
  obtain⟨p,rfl⟩:=Sx q
  obtain⟨h1,h2,h3⟩:=hZ h
  obtain⟨tq,pq,jq⟩:=sT t' h1
  obtain⟨ta,pa,ja⟩:=sX a h2
  obtain⟨tb,pb,jb⟩:=sX b h3
  exact⟨_,fun Z E=>Mj (pq Z E) (pa Z E) (pb Z E),Rv jq ja jb⟩
 |.tu l,sc,N,e,h=>by
  have hh:=aE h;clear h;obtain⟨es,q,h⟩:=hh
  obtain⟨k,p,rfl⟩:=yy q
  obtain⟨ta,pa,ja⟩:=sA l h
  exact⟨_,fun Z E=>QQ (pa Z E),Ry ja⟩
 |.li l,sc,N,e,h=>by
  have hh:=aE h;clear h;obtain⟨es,q,h⟩:=hh
  obtain⟨p,rfl⟩:=Sy q
  obtain⟨ta,pa,ja⟩:=sA l h
  exact⟨_,fun Z E=>yk (pa Z E),Rx ja⟩
 |.dK,sc,N,e,h=>by
  have hh:=aE h;clear h;obtain⟨⟨ks,vs⟩,q,h⟩:=hh
  obtain⟨p,rfl⟩:=yz q
  obtain⟨h1,h2⟩:=cP h
  cases List.isEmpty_iff.mp h1
  cases List.isEmpty_iff.mp h2
  exact⟨_,fun _ _=>Mw,Nc⟩
 |.d1 a b,sc,N,e,h=>by
  have hh:=aE h;clear h;obtain⟨⟨ks,vs⟩,q,h⟩:=hh
  obtain⟨p,rfl⟩:=yz q
  have hh:=aE h;clear h;obtain⟨k,q1,h⟩:=hh
  cases iu q1
  have hh:=aE h;clear h;obtain⟨k',rfl,h⟩:=hh
  have hh:=aE h;clear h;obtain⟨v,q2,h⟩:=hh
  cases iu q2
  obtain⟨h1,h2⟩:=cP h
  obtain⟨ta,pa,ja⟩:=sX a h1
  obtain⟨tb,pb,jb⟩:=sX b h2
  exact⟨_,fun Z E=>Om (Mz (pa Z E) (pb Z E) Ol) rfl rfl (List.cons_ne_nil _ _) (by show 1≤15;decide),Pw ja jb⟩
 |.ix a b,sc,N,e,h=>by
  have hh:=aE h;clear h;obtain⟨⟨l,r⟩,q,h⟩:=hh
  obtain⟨p,rfl⟩:=nD q
  obtain⟨h1,h2,h3⟩:=hZ h
  obtain⟨ta,pa,ja⟩:=sX a h2
  obtain⟨tb,pb,jb⟩:=sX b h3
  exact⟨_,fun Z E=>FG (D3 E.k) (pa Z E) (pb Z E) (FY h1),uL TR ja jb⟩
 |.g1 d k,sc,N,e,h=>by
  have hh:=aE h;clear h;obtain⟨⟨o,as⟩,q,h⟩:=hh
  obtain⟨ap,cp,rfl,h2,h3,h4⟩:=nS q
  have hh:=aE h;clear h;obtain⟨a,q1,h⟩:=hh
  cases iu q1
  have h4:=(all1 h4).1
  obtain⟨h5,h6⟩:=cP h
  obtain⟨td,pd,jd⟩:=sX d h5
  obtain⟨tk,pk,jk⟩:=sX k h6
  exact⟨_,fun Z E=>MA (kr E.rm) (pd Z E) (pk Z E) ⟨uC h2,E7 h4,h3,by rw[cz h4];rfl⟩,Ni jd jk⟩
 |.g2 d k x,sc,N,e,h=>by
  have hh:=aE h;clear h;obtain⟨⟨o,as⟩,q,h⟩:=hh
  obtain⟨ap,cp,rfl,h2,h3,h4⟩:=nS q
  have hh:=aE h;clear h;obtain⟨a,q1,h⟩:=hh
  cases yZ q1
  obtain⟨h4,j6⟩:=all1 h4
  have j6:=(all1 j6).1
  obtain⟨h5,h6,h7⟩:=hZ h
  obtain⟨td,pd,jd⟩:=sX d h5
  obtain⟨tk,pk,jk⟩:=sX k h6
  obtain⟨tx,px,jx⟩:=sX x h7
  exact⟨_,fun Z E=>MB (kr E.rm) (pd Z E) (pk Z E) (px Z E) ⟨uC h2,by rw[cz h4,cz j6];rfl,h3,by rw[cz h4,cz j6];rfl⟩,Nj jd jk jx⟩
 |.sl a lo hi,sc,N,e,h=>by
  have hh:=aE h;clear h;obtain⟨⟨l,r⟩,q,h⟩:=hh
  obtain⟨p,rfl⟩:=nD q
  have hh:=aE h;clear h;obtain⟨⟨Y5,Xg⟩,q,h⟩:=hh
  obtain⟨p',rfl⟩:=Sz q
  obtain⟨h1,h2,h3⟩:=hZ h
  obtain⟨ta,pa,ja⟩:=sX a h1
  obtain⟨tl,pl,jl⟩:=sP lo h2
  obtain⟨tu,pu,ju⟩:=sP hi h3
  exact⟨_,fun Z E=>Mt (VB E.k) (pa Z E) (pl Z E) (pu Z E),TY T5 ja jl ju⟩
 |.dT,sc,N,e,h=>by
  have hh:=aE h;clear h;obtain⟨⟨ks,vs⟩,q,h⟩:=hh
  obtain⟨p,rfl⟩:=yz q
  obtain⟨h1,h2⟩:=cP h
  cases List.isEmpty_iff.mp h1
  cases List.isEmpty_iff.mp h2
  exact⟨_,fun _ _=>Mx,PB⟩
 |.fb f l,sc,N,e,h=>by
  have hh:=aE h;clear h;obtain⟨⟨x,as⟩,q,h⟩:=hh
  obtain⟨p,cp,rfl,h4⟩:=nT q
  obtain⟨h1,h2,h3,h0,h6⟩:=oH h
  cases bt h1
  obtain⟨a,r,rfl⟩:=x6 h0
  obtain⟨h4,h5⟩:=all1 h4
  obtain⟨ta,pa,ja⟩:=sA l h6
  obtain⟨r,q1,q2⟩:=Fb.ok (c:=c) (lv:=lv) (t:=t) (va:=va) (K:=K) f
  exact⟨_,fun Z E=>q1 Z E h2 h3 h4 h5 (pa Z E),TX q2 ja⟩
 |.ca f l,sc,N,e,h=>by
  have hh:=aE h;clear h;obtain⟨⟨x,as⟩,q,h⟩:=hh
  obtain⟨p,cp,rfl,AZ⟩:=nT q
  have hh:=aE h;clear h;obtain⟨i,hf,h⟩:=hh
  obtain⟨h1,h2,h3,h4,h5,A6,h0,h8⟩:=Iu h
  obtain⟨a,r,rfl⟩:=x6 h0
  obtain⟨h6,h7⟩:=all1 AZ
  have h1:=bt h1
  obtain⟨ta,pa,ja⟩:=sA l h8
  have hl:=zM (t:=t) h8
  rw[show(a::r).length=i.ar from bt h5]at hl
  refine⟨qc (mD K i.ar (FT.f t[f]?)) [] E0 ta,fun Z E=>?_,OU ja hl⟩
  obtain⟨F,hF,q⟩:=E.fs f i hf
  cases F with
  |oo F=>rw[mK,bt A6]at q;cases q.1
  |p F =>
   obtain⟨_,a,fd,ps,k1,k2,k3,k4⟩:=q
   rw[←h1]at k2
   rw[hF,←E.k]
   exact @DV _ _ _ _ _ _ _ _ _ _ _ _ _ _ _ _ k1 (E.rm.mono (bt h4)) (E.gl h2) k2 k3 k4 .nil FK (pa Z E) (nb h3) (cz h6) (gU h7 _)
 |.cp i ix t' d,sc,N,e,h=>by
  have hh:=aE h;clear h;obtain⟨⟨el,x,px,it,ifs,au,ep⟩,q,h⟩:=hh
  cases x5 q
  obtain⟨h1,h2,h3,h4,h5⟩:=oH h
  have h1:=yw h1
  obtain⟨ti,pi,ji⟩:=sI i h3
  obtain⟨te,pe,je⟩:=sX d h5
  have h4:(ifs.isEmpty=true∧rJ t'=true)∨(on (l1 ifs) fun y=>kT c lv t' (rl sc au) (ns N x ix) y)=true:=by simpa using h4
  rcases h4 with⟨w1,w2⟩|h4
  ·cases List.isEmpty_iff.mp w1
   cases t'<;>first|exact absurd w2 aZ|skip
   exact⟨_,fun Z E=>@uc _ (ns N x ix) _ _ ix _ _ _ _ _ _ _ _ (by rw[E.n,E.sc];exact h1) E.calm (pi Z (.Name x px) E (fun z=>absurd z aZ)) (fun C s₂ H₂ fp pn=>pQ) (fun C s₂ H₂ fp pn=>pe _ E.bw) (jz h2),uf ji xX je⟩
  ·have hh:=aE h4;clear h4;obtain⟨y,q,h4⟩:=hh
   cases iu q
   obtain⟨tq,pq,jq⟩:=sT t' h4
   exact⟨_,fun Z E=>@uc _ (ns N x ix) _ _ ix _ _ _ _ _ _ _ _ (by rw[E.n,E.sc];exact h1) E.calm (pi Z (.Name x px) E (fun z=>absurd z aZ)) (fun C s₂ H₂ fp pn=>xU (pq _ E.bw)) (fun C s₂ H₂ fp pn=>pe _ E.bw) (jz h2),uf ji jq je⟩
theorem sA:∀(l:A) {sc:Scope}{N:List Str}{es:List Expr},kA c lv l sc N es=true→∃ta,(∀Z,CE c lv K t va sc N Z→PA Z es ta)∧iL K ta (eA t l)
 |.n,_,_,es,h=>by
  cases List.isEmpty_iff.mp h
  exact⟨_,fun _ _=>pS,Ov⟩
 |.c a l,sc,N,es,h=>by
  have hh:=aE h;clear h;obtain⟨⟨e,r⟩,q,h⟩:=hh
  cases lI q
  obtain⟨h0,h1,h2⟩:=hZ h
  obtain⟨ta,pa,ja⟩:=sX a h1
  obtain⟨tl,pl,jl⟩:=sA l h2
  exact⟨_,fun Z E=>@tZ _ _ _ _ _ (pa Z E) (pl Z E) (cz h0),MK ja jl⟩
theorem sT:∀(q:T) {sc:Scope}{N:List Str}{e:Expr},kT c lv q sc N e=true→∃tt,(∀Z,CE c lv K t va sc N Z→PT Z e tt)∧dR K tt (eT t q)
 |.b x,sc,N,e,h=>by
  obtain⟨h1,h2⟩:=cP h
  obtain⟨ta,pa,ja⟩:=sX x h2
  exact⟨_,fun Z E=>@LC _ K _ _ E.k (pa Z E) (Sr h1),LQ ja⟩
 |.c o a b,sc,N,e,h=>by
  have hh:=aE h;clear h;obtain⟨⟨l,op,r⟩,q,h⟩:=hh
  obtain⟨p,rfl⟩:=uE q
  obtain⟨h1,h0,h2,h3⟩:=fW h
  cases bt h1
  obtain⟨ta,pa,ja⟩:=sX a h2
  obtain⟨tb,pb,jb⟩:=sX b h3
  obtain⟨r,o1,o2⟩:=o.ok (K:=K)
  exact⟨_,fun Z E=>Oa (o1 Z E.k E.rm.units) (pa Z E) (pb Z E) (m5 h0),Dm (uL o2 ja jb)⟩
 |.d n a b,sc,N,e,h=>by
  have hh:=aE h;clear h;obtain⟨⟨l,op,r⟩,q,h⟩:=hh
  obtain⟨p,rfl⟩:=uE q
  obtain⟨h1,h0,h2,h3⟩:=fW h
  cases bt h1
  obtain⟨ta,pa,ja⟩:=sX a h2
  obtain⟨tb,pb,jb⟩:=sX b h3
  cases n with
  |false=>exact⟨_,fun Z E=>@uj _ _ _ _ _ _ (EF (kr E.rm) (pa Z E) (pb Z E)) (m5 h0),qg (Sh ja jb)⟩
  |true=>exact⟨_,fun Z E=>@uj _ _ _ _ _ _ (CL (kr E.rm) (pa Z E) (pb Z E)) (m5 h0),qg (L0 ja jb)⟩
 |.t n a b,sc,N,e,h=>by
  have hh:=aE h;clear h;obtain⟨⟨l,op,r⟩,q,h⟩:=hh
  obtain⟨p,rfl⟩:=uE q
  obtain⟨h1,h0,h2,h3⟩:=fW h
  cases bt h1
  obtain⟨ta,pa,ja⟩:=sX a h2
  obtain⟨tb,pb,jb⟩:=sX b h3
  cases n with
  |false=>exact⟨_,fun Z E=>@uj _ _ _ _ _ _ (EF (kr E.rm) (pa Z E) (pb Z E)) (m5 h0),qg (Sn ja jb)⟩
  |true=>exact⟨_,fun Z E=>@uj _ _ _ _ _ _ (CL (kr E.rm) (pa Z E) (pb Z E)) (m5 h0),qg (L5 ja jb)⟩
 |.h o p a b d,sc,N,e,h=>by
  have hh:=aE h;clear h;obtain⟨⟨l,op,op',m,r⟩,q,h⟩:=hh
  obtain⟨p',rfl⟩:=Sv q
  obtain⟨h1,h2,h3,h4,h5,h6⟩:=wa h
  cases bt h1
  cases bt h2
  obtain⟨ta,pa,ja⟩:=sX a h4
  obtain⟨tb,pb,jb⟩:=sX b h5
  obtain⟨td,pd,jd⟩:=sX d h6
  obtain⟨r,o1,o2⟩:=o.ok (K:=K)
  obtain⟨r',Xh,Xi⟩:=p.ok (K:=K)
  exact⟨_,fun Z E=>@Mp _ _ _ _ _ _ _ _ _ _ _ _ (o1 Z E.k E.rm.units) (Xh Z E.k E.rm.units) (pa Z E) (pb Z E) (pd Z E) (nb h3),Dm (M0 o2 Xi ja jb jd)⟩
 |.an a b,sc,N,e,h=>by
  have hh:=aE h;clear h;obtain⟨⟨x,y⟩,q,h⟩:=hh
  obtain⟨m,rest,pos,rfl,w⟩:=uh q
  obtain⟨h1,h2⟩:=cP h
  obtain⟨ta,pa,ja⟩:=sT a h1
  obtain⟨tb,pb,jb⟩:=sT b h2
  refine⟨_,fun Z E=>@PW.pt _ _ _ (@Qw _ _ _ _ _ tb _ (pa Z E) ?_),Ot ja jb⟩
  rcases w with⟨rfl,rfl⟩|rfl
  ·exact @N3 _ _ _ _ (pb Z E)
  ·exact FZ (pb Z E)
 |.or a b,sc,N,e,h=>by
  have hh:=aE h;clear h;obtain⟨⟨x,y⟩,q,h⟩:=hh
  obtain⟨m,rest,pos,rfl,w⟩:=uh q
  obtain⟨h1,h2⟩:=cP h
  obtain⟨ta,pa,ja⟩:=sT a h1
  obtain⟨tb,pb,jb⟩:=sT b h2
  refine⟨_,fun Z E=>@PW.pt _ _ _ (@Te _ _ _ _ _ tb _ (pa Z E) ?_),Ru ja jb⟩
  rcases w with⟨rfl,rfl⟩|rfl
  ·exact @Qv _ _ _ _ (pb Z E)
  ·exact FZ (pb Z E)
 |.nt a,sc,N,e,h=>by
  have hh:=aE h;clear h;obtain⟨⟨op,r⟩,q,h⟩:=hh
  obtain⟨p,rfl⟩:=yx q
  obtain⟨h1,h2⟩:=cP h
  cases bt h1
  obtain⟨ta,pa,ja⟩:=sT a h2
  exact⟨_,fun Z E=>Qx (pa Z E),Ou ja⟩
 |.y,sc,N,e,h=>absurd h aZ
theorem sP:∀(l:P) {sc:Scope}{N:List Str}{e:Option Expr},kP c lv l sc N e=true→∃ta,(∀Z,CE c lv K t va sc N Z→PO Z e ta)∧qX K ta (eP t l)
 |.n,_,_,o,h=>by
  cases o with
  |some _=>cases h
  |none=>exact⟨_,fun _ _=>Oc,MN⟩
 |.s x,sc,N,o,h=>by
  have hh:=aE h;clear h;obtain⟨e,rfl,h⟩:=hh
  obtain⟨ta,pa,ja⟩:=sX x h
  exact⟨_,fun Z E=>Od (pa Z E),MP ja⟩
theorem sI:∀(i:I) {tg:Bool}{sc:Scope}{N:List Str}{e:Expr},kI c lv i tg sc N e=true→∃ti,(∀Z g,CE c lv K t va sc N Z→(tg=true→yW g=true)→PI Z g e ti)∧JI K ti (eI t i)
 |.r1 l,tg,sc,N,e,h=>by
  have hh:=aE h;clear h;obtain⟨⟨x,as⟩,q,h⟩:=hh
  obtain⟨p,cp,rfl,h4⟩:=nT q
  obtain⟨h1,h2,h3,h0,h5⟩:=oH h
  cases bt h1
  obtain⟨a,rfl⟩:=GF (bt h0)
  obtain⟨ta,pa,ja⟩:=sA l h5
  exact⟨_,fun Z g E _=>@Lg _ _ _ _ _ _ (E.gl h2) (E.mg h3) (pa Z E) (cz (all1 h4).1),OJ ja⟩
 |.r2 l,tg,sc,N,e,h=>by
  have hh:=aE h;clear h;obtain⟨⟨x,as⟩,q,h⟩:=hh
  obtain⟨p,cp,rfl,h4⟩:=nT q
  obtain⟨h1,h2,h3,h0,h5⟩:=oH h
  cases bt h1
  obtain⟨a,b,rfl⟩:=VN (bt h0)
  obtain⟨h4,j6⟩:=all1 h4
  have j6:=(all1 j6).1
  obtain⟨ta,pa,ja⟩:=sA l h5
  exact⟨_,fun Z g E _=>@Lh _ _ _ _ _ _ _ (E.gl h2) (E.mg h3) (pa Z E) (by rw[cz h4,cz j6];rfl) (cz j6),OL ja⟩
 |.en l,tg,sc,N,e,h=>by
  have hh:=aE h;clear h;obtain⟨⟨x,as⟩,q,h⟩:=hh
  obtain⟨p,cp,rfl,h4⟩:=nT q
  obtain⟨h0,h1,h2,h3,h6,h5⟩:=wa h
  cases bt h1
  obtain⟨a,rfl⟩:=GF (bt h6)
  obtain⟨ta,pa,ja⟩:=sA l h5
  refine⟨_,fun Z g E hg=>?_,Pj ja⟩
  have hg:=hg h0
  cases g<;>first|exact absurd hg aZ|skip
  exact @M7 _ K _ _ _ _ _ _ _ E.k (E.gl h2) (E.mg h3) (pa Z E) (cz (all1 h4).1)
 |.s x,tg,sc,N,e,h=>by
  obtain⟨ta,pa,ja⟩:=sX x (e:=e) h
  exact⟨_,fun Z g E _=>Rf (pa Z E),Se ja⟩
 |.t x,tg,sc,N,e,h=>by
  obtain⟨ta,pa,ja⟩:=sX x (e:=e) h
  exact⟨_,fun Z g E _=>Pn E.k (pa Z E),RK ja⟩
 |.l x,tg,sc,N,e,h=>by
  obtain⟨ta,pa,ja⟩:=sX x (e:=e) h
  exact⟨_,fun Z g E _=>MF E.k (pa Z E),OI ja⟩
end
end
noncomputable def loc(sc:Scope)(x:Str):Bool:=match sc.names.lookup x with
 |some .local=>true
 |some .cell=>true
 |_=>false
theorem E8{sc:Scope}{x:Str}(h:loc sc x=true):L2.Loc sc x:=by
 unfold loc at h;unfold L2.Loc
 split at h<;>first|exact absurd h aZ|simp_all
mutual
noncomputable def kG:G→Scope→List Str→Expr→Bool
 |.n i,sc,N,e=>on (oG e) fun x=>decide (N[i]?=some x)&&loc sc x
 |.t k l,sc,N,e=>on (v8 e) fun es=>decide (es.length=k)&&es.all dM&&wc l sc N es
 |.l k l,sc,N,e=>on (v8 e) fun es=>decide (es.length=k)&&es.all dM&&wc l sc N es
noncomputable def wc:Gs→Scope→List Str→List Expr→Bool
 |.n,_,_,es=>es.isEmpty
 |.c g l,sc,N,es=>on (lh es) fun q=>dM q.1&&kG g sc N q.1&&wc l sc N q.2
end
noncomputable def zN:Expr→Bool
 |.List [] _=>true
 |_=>false
theorem PK{e:Expr}(h:zN e=true):∃p,e=.List [] p:=by
 unfold zN at h
 split at h
 ·exact⟨_,rfl⟩
 ·cases h
noncomputable def mM:Stmt→Option (Expr×Expr×Pos)
 |.Assign [tg] e pos=>some (tg,e,pos)
 |_=>none
noncomputable def oI(st:Stmt):Option (Str×Expr):=(mM st).bind fun q=>(oG q.1).map fun x=>(x,q.2.1)
noncomputable def wd:Stmt→Option Expr
 |.Expr e _=>some e
 |_=>none
noncomputable def A7:Stmt→Option (Option Expr)
 |.Return e _=>some e
 |_=>none
noncomputable def Iw:Stmt→Option (Expr×List Stmt×List Stmt)
 |.If e a b _=>some (e,a,b)
 |_=>none
noncomputable def A8:Stmt→Option (Expr×Expr×List Stmt)
 |.For tg it b [] _=>some (tg,it,b)
 |_=>none
noncomputable def A9:Stmt→Option (Expr×List Stmt)
 |.While e b [] _=>some (e,b)
 |_=>none
noncomputable def rK:Stmt→Nat
 |.Raise ..=>1
 |.Pass _=>2
 |.Break _=>3
 |.Continue _=>4
 |_=>0
theorem pZ{st:Stmt}{q:Expr×Expr×Pos}(h:mM st=some q):st=.Assign [q.1] q.2.1 q.2.2:=by
 unfold mM at h
 split at h
 ·cases h;rfl
 ·cases h
theorem p9{st:Stmt}{y:Str}{e:Expr}(h:oI st=some (y,e)):∃p pos,st=.Assign [.Name y p] e pos:=by
 obtain⟨q,h1,h⟩:=il h
 obtain⟨x,h2,h⟩:=uD h
 cases h
 obtain⟨p,e⟩:=nC h2
 exact⟨p,q.2.2,by rw[pZ h1,e]⟩
theorem yA{st:Stmt}{e:Expr}(h:wd st=some e):∃p,st=.Expr e p:=by
 cases st<;>cases h;exact⟨_,rfl⟩
theorem E9{st:Stmt}{e:Option Expr}(h:A7 st=some e):∃p,st=.Return e p:=by
 cases st<;>cases h;exact⟨_,rfl⟩
theorem SJ{st:Stmt}{e:Expr}{a b:List Stmt}(h:Iw st=some (e,a,b)):∃p,st=.If e a b p:=by
 cases st<;>cases h;exact⟨_,rfl⟩
theorem SK{st:Stmt}{a b:Expr}{l:List Stmt}(h:A8 st=some (a,b,l)):∃p,st=.For a b l [] p:=by
 unfold A8 at h
 split at h
 ·cases h;exact⟨_,rfl⟩
 ·cases h
theorem SM{st:Stmt}{e:Expr}{l:List Stmt}(h:A9 st=some (e,l)):∃p,st=.While e l [] p:=by
 unfold A9 at h
 split at h
 ·cases h;exact⟨_,rfl⟩
 ·cases h
theorem SN{st:Stmt}:(rK st=2→∃p,st=.Pass p)∧(rK st=3→∃p,st=.Break p)∧(rK st=4→∃p,st=.Continue p):=by
 unfold rK
 split
 ·exact⟨nofun,nofun,nofun⟩
 ·exact⟨fun _=>⟨_,rfl⟩,nofun,nofun⟩
 ·exact⟨nofun,fun _=>⟨_,rfl⟩,nofun⟩
 ·exact⟨nofun,nofun,fun _=>⟨_,rfl⟩⟩
 ·exact⟨nofun,nofun,nofun⟩
noncomputable def Iy(c:Cf)(lv:Nat)(f:Nat)(l:A)(sc:Scope)(N:List Str)(e:Expr):Bool :=
 on (eN e) fun q=>on c.fs[f]? fun i=>decide (q.1=i.nm)&&gl sc q.1&&!(q.1 == "__debug__")&&decide (i.lv≤lv)&&decide (q.2.length=i.ar)&&decide (i.io=some [])&&!q.2.isEmpty&&kA c lv l sc N q.2
noncomputable def kL(c:Cf)(lv:Nat):L→Scope→List Str→Stmt→Bool
 |.rt x,sc,N,st=>on (A7 st) fun o=>on o fun e=>kX c lv x sc N e
 |.ct,_,_,st=>decide (rK st=4)
 |.st i x,sc,N,st=>on (oI st) fun s=>decide (N[i]?=some s.1)&&loc sc s.1&&lO s.2&&kX c lv x sc N s.2
 |.sc j i ix q e,sc,N,st=>on (oI st) fun s=>decide (N[j]?=some s.1)&&loc sc s.1&&kX c lv (.cp i ix q e) sc N s.2
 |.s2 j i ix q e,sc,N,st=>on (oI st) fun s=>on (yX s.2) fun r=>on (zL r.2.1.1) fun u=>decide (N[j]?=some s.1)&&loc sc s.1&&GD N (iP N u.1.1 u.2.1 ix) sc r.2.2.2.2.1 u.1.1 u.2.1 ix&&(g8 r.2.2.1&&kI c lv i true sc N r.2.2.1)&&((r.2.2.2.1.isEmpty&&rJ q)||on (l1 r.2.2.2.1) fun y=>kT c lv q (rl sc r.2.2.2.2.1) (iP N u.1.1 u.2.1 ix) y)&&kX c lv e (rl sc r.2.2.2.2.1) (iP N u.1.1 u.2.1 ix) r.1
 |.as g x,sc,N,st=>on (mM st) fun s=>yW s.1&&rF s.2.1&&kG g sc N s.1&&kX c lv x sc N s.2.1
 |.si k i x,sc,N,st=>on (mM st) fun s=>on (mI s.1) fun u=>rE u.2&&lO s.2.1&&kX c lv (.v k) sc N u.1&&kX c lv i sc N u.2&&kX c lv x sc N s.2.1
 |.dp k i x,sc,N,st=>on (mM st) fun s=>on (mI s.1) fun u=>lO s.2.1&&kX c lv (.v k) sc N u.1&&kX c lv i sc N u.2&&kX c lv x sc N s.2.1
 |.ap k x,sc,N,st=>on (wd st) fun e=>on (eM "append" e) fun q=>on (l1 q.2) fun a=>kX c lv (.v k) sc N q.1&&kX c lv x sc N a
 |.na k i x,sc,N,st=>on (wd st) fun e=>on (eM "append" e) fun q=>on (l1 q.2) fun a=>on (mI q.1) fun u=>rE u.2&&kX c lv (.v k) sc N u.1&&kX c lv i sc N u.2&&kX c lv x sc N a
 |.po i k,sc,N,st=>on (oI st) fun s=>on (eM "pop" s.2) fun q=>decide (N[i]?=some s.1)&&loc sc s.1&&q.2.isEmpty&&kX c lv (.v k) sc N q.1
 |.cl k,sc,N,st=>on (wd st) fun e=>on (eM "clear" e) fun q=>q.2.isEmpty&&kX c lv (.v k) sc N q.1
 |.ne i it,sc,N,st=>on (oI st) fun s=>on (vq s.2) fun q=>decide (N[i]?=some s.1)&&loc sc s.1&&q.2.2.2.2.1.isEmpty&&zN q.1&&AW N (ns N q.2.1 []) sc q.2.2.2.2.2.1 q.2.1 []&&(g8 q.2.2.2.1&&kI c lv it false sc N q.2.2.2.1)
 |.tp k i x,sc,N,st=>on (mM st) fun s=>on (mI s.1) fun u=>lO s.2.1&&kX c lv (.v k) sc N u.1&&kX c lv i sc N u.2&&kX c lv x sc N s.2.1
 |.rO f _ l,sc,N,st=>on (A7 st) fun o=>on o fun e=>Iy c lv f l sc N e
mutual
noncomputable def kS(c:Cf)(lv:Nat):S→Scope→List Str→Stmt→Bool
 |.l x,sc,N,st=>kL c lv x sc N st
 |.ie t a b,sc,N,st=>on (Iw st) fun q=>kT c lv t sc N q.1&&kB c lv a sc N q.2.1&&kB c lv b sc N q.2.2
 |.fo i g b,sc,N,st=>on (A8 st) fun q=>kI c lv i (yW q.1) sc N q.2.1&&g8 q.2.1&&kG g sc N q.1&&kB c lv b sc N q.2.2
 |.wh t b,sc,N,st=>on (A9 st) fun q=>kT c lv t sc N q.1&&kB c lv b sc N q.2
 |.fz _ s,sc,N,st=>kS c lv s sc N st
noncomputable def kB(c:Cf)(lv:Nat):B→Scope→List Str→List Stmt→Bool
 |.n,_,_,ss=>ss.isEmpty
 |.o s,sc,N,ss=>on (l1 ss) fun st=>kS c lv s sc N st
 |.c s b,sc,N,ss=>on (lh ss) fun q=>kS c lv s sc N q.1&&kB c lv b sc N q.2
end
structure CS (c:Cf)(lv:Nat)(K:PySem.W.Frag)(t:List FT)(va:List V)(sc:Scope)(N:List Str)(Z:Cx):Prop where
 e:CE c lv K t va sc N Z
 nd:N.Nodup
 fn:∀x,Z.fn x=true
 po:PassesOwn (model Z.prog Z.w) Z.A Z.env Z.xe
 kd:sc.kind=.function
section
variable {c:Cf}{lv:Nat}{K:PySem.W.Frag}{t:List FT}{va:List V}
theorem sV{k:Nat}{sc:Scope}{N:List Str}{e:Expr}(h:kX c lv (.v k) sc N e=true)(Z:Cx)(E:CE c lv K t va sc N Z):PE Z e (iy k):=by
 have hh:=aE h;clear h;obtain⟨x,q,h⟩:=hh
 obtain⟨p,rfl⟩:=nC q
 obtain⟨h1,h2,h3,h4⟩:=fW h
 have h1:=bt h1
 have h2:=E4 h2
 exact @Ex _ _ _ _ (E.n▸h1) (E.sc▸h2) (nb h3) (nb h4)
theorem CV{e:Expr}(h:dM e=true){es:List Expr}{env:Env}:assignEach (e::es) env=(false,assign e env)::assignEach es env:=by
 cases e<;>first|rfl|cases h
theorem pv{env:Env}:∀{es:List Expr},es.all dM=true→(assignEach es env).length=es.length∧(assignEach es env).findIdx? (fun x=>x.1)=none
 |[],_=>⟨rfl,rfl⟩
 |e::es,h=>by
  rw[List.all_cons,Bool.and_eq_true]at h
  obtain⟨h1,h2⟩:=pv (env:=env) h.2
  rw[CV h.1]
  refine⟨by simp[h1],?_⟩
  rw[List.findIdx?_cons,h2]
  rfl
mutual
theorem sG:∀(g:G) {sc:Scope}{N:List Str}{e:Expr},kG g sc N e=true→∃tg,(∀Z,CS c lv K t va sc N Z→PG Z e tg)∧JG K tg (eG g)
 |.n i,sc,N,e,h=>by
  have hh:=aE h;clear h;obtain⟨x,q,h⟩:=hh
  obtain⟨p,rfl⟩:=nC q
  obtain⟨h1,h2⟩:=cP h
  have h1:=bt h1
  exact⟨_,fun Z E=>@tY _ _ i _ (E.e.n▸E.nd) (E.e.n▸h1) (E.e.sc▸E8 h2) (.inl (E.fn _)),OO⟩
 |.t k l,sc,N,e,h=>by
  have hh:=aE h;clear h;obtain⟨es,q,h⟩:=hh
  obtain⟨k',p,rfl⟩:=yy q
  obtain⟨h1,h2,h3⟩:=hZ h
  cases bt h1
  obtain⟨tg,pg,jg⟩:=Ba l h3
  exact⟨_,fun Z E=>E.e.k▸@Ez _ _ _ _ _ _ E.e.calm (pg Z E) (pv h2).1 (pv h2).2,RL jg⟩
 |.l k l,sc,N,e,h=>by
  have hh:=aE h;clear h;obtain⟨es,q,h⟩:=hh
  obtain⟨k',p,rfl⟩:=yy q
  obtain⟨h1,h2,h3⟩:=hZ h
  cases bt h1
  obtain⟨tg,pg,jg⟩:=Ba l h3
  exact⟨_,fun Z E=>E.e.k▸@Ra _ _ _ _ _ _ E.e.calm (pg Z E) (pv h2).1 (pv h2).2,Sb jg⟩
theorem Ba:∀(l:Gs) {sc:Scope}{N:List Str}{es:List Expr},wc l sc N es=true→∃tg,(∀Z,CS c lv K t va sc N Z→oh Z es tg)∧oD K tg (v5 l)
 |.n,_,_,es,h=>by
  cases List.isEmpty_iff.mp h
  exact⟨_,fun _ _=>DQ,OQ⟩
 |.c g l,sc,N,es,h=>by
  have hh:=aE h;clear h;obtain⟨⟨e,r⟩,q,h⟩:=hh
  cases lI q
  obtain⟨h0,h1,h2⟩:=hZ h
  obtain⟨ta,pa,ja⟩:=sG g h1
  obtain⟨tl,pl,jl⟩:=Ba l h2
  exact⟨_,fun Z E=>@xF _ _ _ _ _ (pa Z E) (pl Z E) (by rw[CV h0];rfl),MV ja jl⟩
end
theorem Iz:∀(l:A) {sc:Scope}{N:List Str}{es:List Expr},kA c lv l sc N es=true→∃ta,(∀Z,CE c lv K t va sc N Z→PA Z es ta)∧k9 K ta (eA t l) (qx l)
 |.n,_,_,es,h=>by
  cases List.isEmpty_iff.mp h
  exact⟨_,fun _ _=>pS,Pk⟩
 |.c a l,sc,N,es,h=>by
  have hh:=aE h;clear h;obtain⟨⟨e,r⟩,q,h⟩:=hh
  cases lI q
  obtain⟨h0,h1,h2⟩:=hZ h
  obtain⟨tl,pl,jl⟩:=Iz l h2
  cases a with
  |v i=>exact⟨_,fun Z E=>@tZ _ _ _ _ _ (sV h1 Z E) (pl Z E) (cz h0),Pl jl⟩
  |_ =>
   obtain⟨ta,pa,ja⟩:=sX _ h1
   exact⟨_,fun Z E=>@tZ _ _ _ _ _ (pa Z E) (pl Z E) (cz h0),M8 ja jl⟩
theorem qj{e:Expr}{o:Option Expr}{n:Nat}{env:Env}(h:lO e=true):swapsWith e o n env=pure false:=by
 cases e<;>first|rfl|cases h
end
end C
set_option maxHeartbeats 4000000
namespace C
open PySem PySem.Spec L2 J
section
variable {c:Cf}{lv:Nat}{K:PySem.W.Frag}{t:List FT}{va:List V}
theorem x8{el:Expr}{gs:List Comprehension}{au:Scope}{ep py:Pos}{y:Str}{n:Nat}{env:Env} :
  swapsWith (.ListComp el gs au ep) (some (.Name y py)) n env=pure true∧env.scope.names.lookup y=some .local∨swapsWith (.ListComp el gs au ep) (some (.Name y py)) n env=pure false:=by
 have e:swapsWith (.ListComp el gs au ep) (some (.Name y py)) n env=pure (env.blockKind==.function&&env.kindOf y==some .local&&py.line==ep.line&&!(au.names.any fun x=>match x with | (n,k)=>n==y&&(k==NameKind.local||k==NameKind.cell))):=rfl
 rw[e]
 generalize hb:(env.blockKind==.function&&env.kindOf y==some .local&&py.line==ep.line&&!(au.names.any fun x=>match x with | (n,k)=>n==y&&(k==NameKind.local||k==NameKind.cell)))=b
 cases b with
 |false=>exact .inr rfl
 |true =>
  obtain⟨_,h,_,_⟩:=fW hb
  exact .inl ⟨rfl,by simpa[Env.kindOf]using h⟩
theorem Xj{i:I}{ix:List Nat}{t':T}{d:X}{sc:Scope}{N:List Str}{e:Expr}(h:kX c lv (.cp i ix t' d) sc N e=true) :
  ∃el x px it ifs au ep wi tc te,e=.ListComp el [⟨.Name x px,it,ifs,0⟩] au ep∧(∀Z,CE c lv K t va sc N Z→jA Z.N (ns N x ix) Z.env.scope au x ix∧PI Z (.Name x px) it wi∧(∀C s₂ H₂ fp pn,iJ (Z.bw (ns N x ix) au C s₂ H₂ fp pn) ifs tc)∧(∀C s₂ H₂ fp pn,PE (Z.bw (ns N x ix) au C s₂ H₂ fp pn) el te))∧g8 it=true∧JT K (nJ wi ix tc te) (eX t (.cp i ix t' d)):=by
 have hh:=aE h;clear h;obtain⟨⟨el,x,px,it,ifs,au,ep⟩,q,h⟩:=hh
 cases x5 q
 obtain⟨h1,h2,h3,h4,h5⟩:=oH h
 have h1:=yw h1
 obtain⟨ti,pi,ji⟩:=sI i h3
 obtain⟨te,pe,je⟩:=sX d h5
 have h4:(ifs.isEmpty=true∧rJ t'=true)∨(on (l1 ifs) fun y=>kT c lv t' (rl sc au) (ns N x ix) y)=true:=by simpa using h4
 rcases h4 with⟨w1,w2⟩|h4
 ·cases List.isEmpty_iff.mp w1
  cases t'<;>first|exact absurd w2 aZ|skip
  exact⟨el,x,px,it,[],au,ep,_,_,_,rfl,fun Z E=>⟨by rw[E.n,E.sc];exact h1,pi Z (.Name x px) E (fun z=>absurd z aZ),(fun C s₂ H₂ fp pn=>pQ),(fun C s₂ H₂ fp pn=>pe _ E.bw)⟩,h2,uf ji xX je⟩
 ·have hh:=aE h4;clear h4;obtain⟨y,q,h4⟩:=hh
  cases iu q
  obtain⟨tq,pq,jq⟩:=sT t' h4
  exact⟨el,x,px,it,[y],au,ep,_,_,_,rfl,fun Z E=>⟨by rw[E.n,E.sc];exact h1,pi Z (.Name x px) E (fun z=>absurd z aZ),(fun C s₂ H₂ fp pn=>xU (pq _ E.bw)),(fun C s₂ H₂ fp pn=>pe _ E.bw)⟩,h2,uf ji jq je⟩
theorem Xk{f:Nat}{l:A}{sc:Scope}{N:List Str}{e:Expr}(h:Iy c lv f l sc N e=true):∃n ta,(∀Z,CE c lv K t va sc N Z→PE Z e (qc (vp K n (FT.q t[f]?)) [] E0 ta))∧k9 K ta (eA t l) (qx l)∧lO e=true∧∀(e:Ev) (aB:List (M×D)),eA t l e=some aB→aB.length=n:=by
 have hh:=aE h;clear h;obtain⟨⟨x,as⟩,q,h⟩:=hh
 obtain⟨p,cp,rfl,AZ⟩:=nT q
 have hh:=aE h;clear h;obtain⟨i,hf,h⟩:=hh
 obtain⟨h1,h2,h3,h4,h5,A6,h0,h8⟩:=Iu h
 obtain⟨a,r,rfl⟩:=x6 h0
 obtain⟨h6,h7⟩:=all1 AZ
 have h1:=bt h1
 obtain⟨ta,pa,ja⟩:=Iz l h8
 have hl:=zM (t:=t) h8
 rw[show(a::r).length=i.ar from bt h5]at hl
 refine⟨i.ar,ta,fun Z E=>?_,ja,rfl,hl⟩
 obtain⟨F,hF,q⟩:=E.fs f i hf
 cases F with
 |p F=>rw[mK,bt A6]at q;cases q.1
 |oo F =>
  obtain⟨_,a,fd,ps,k1,k2,k3,k4⟩:=q
  rw[←h1]at k2
  rw[hF,←E.k]
  exact @DV _ _ _ _ _ _ _ _ _ _ _ _ _ _ _ _ k1 (E.rm.mono (bt h4)) (E.gl h2) k2 k3 k4 .nil FK (pa Z E) (nb h3) (cz h6) (gU h7 _)
theorem SQ{e:Expr}(h:rF e=true):lO e=true:=by
 cases e<;>first|rfl|cases h
theorem SR{e:Expr}{es:List Expr}{k:Nat}{p:Pos}{env:Env}(h:rF e=true):swappedStores [.Tuple es k p] e env=pure none:=by
 cases e<;>first|rfl|cases h
theorem IA {o:Expr}{nm:Str}{ap cp:Pos}{to:TE}{id:String}{r:V→List V→Hp→VK→Prop}{Z:Cx} (k:Z.K=K) (h1:Slot "list" nm id) (h2:typeOf (.builtin id)=pure (.type "method_descriptor")) (h3:z8 Z id r) (ho:PE Z o to) (h4:rG o=true) (h5:(ap.endLine==cp.line)=true):PE Z (.Call (.Attribute o nm ap) [] [] cp) (u9 K "list" r to) :=
 k▸@Q5 _ _ _ _ _ _ _ _ _ PySem.F.plainAttrs_list h1 h2 h3 ho (uC h4) h5
theorem vP{o a:Expr}{ap cp:Pos}{to ta:TE}{Z:Cx}(k:Z.K=K)(ho:PE Z o to)(ha:PE Z a ta)(h4:rG o=true)(h5:(ap.endLine==cp.line)=true)(h6:dM a=true):PE Z (.Call (.Attribute o "append" ap) [a] [] cp) (vI K "list" ua to (lJ ta kH)) :=
 k▸@Tx _ _ _ _ _ _ _ _ _ _ _ _ PySem.F.plainAttrs_list PySem.F.slot_list_append PySem.F.type_list_append CJ ho (@tZ _ _ _ _ _ ha pS (cz h6)) (uC h4) (E7 h6) h5 (cz h6) SG
theorem qz{Z:Cx}{sc:Scope}{N:List Str}{e:Expr}{te:TE}{pos py:Pos}{y:Str}{i:Nat}(E:CS c lv K t va sc N Z)(h1:N[i]?=some y)(h2:loc sc y=true)(h:PE Z e te)(hs:swapsWith e (some (Expr.Name y py)) pos.line Z.env=pure false):fF Z (.Assign [.Name y py] e pos) (gf te (fK i)) :=
 @Sf _ _ _ _ _ _ i (E.e.n▸E.nd) (E.e.n▸h1) (E.e.sc▸E8 h2) h hs (.inl (E.fn _))
theorem sL:∀(s:L) {sc:Scope}{N:List Str}{st:Stmt},kL c lv s sc N st=true→∃ts,(∀Z,CS c lv K t va sc N Z→fF Z st ts)∧JS K ts (eL t s)
 |.rt x,sc,N,st,h=>by
  have hh:=aE h;clear h;obtain⟨o,q,h⟩:=hh
  obtain⟨p,rfl⟩:=E9 q
  have hh:=aE h;clear h;obtain⟨e,rfl,h⟩:=hh
  obtain⟨te,pe,je⟩:=sX x h
  exact⟨_,fun Z E=>E1 (pe Z E.e),RB je⟩
 |.ct,sc,N,st,h=>by
  obtain⟨p,rfl⟩:=SN.2.2 (bt h)
  exact⟨_,fun Z E=>Kz,OG⟩
 |.st i x,sc,N,st,h=>by
  have hh:=aE h;clear h;obtain⟨⟨y,e⟩,q,h⟩:=hh
  obtain⟨py,pos,rfl⟩:=p9 q
  obtain⟨h1,h2,h3,h4⟩:=fW h
  obtain⟨te,pe,je⟩:=sX x h4
  exact⟨_,fun Z E=>qz E (bt h1) h2 (pe Z E.e) (qj h3),ur je⟩
 |.sc j i ix t' d,sc,N,st,h=>by
  have hh:=aE h;clear h;obtain⟨⟨y,e⟩,q,h⟩:=hh
  obtain⟨py,pos,rfl⟩:=p9 q
  obtain⟨h1,h2,h3⟩:=hZ h
  have h1:=bt h1
  obtain⟨el,z,pz,it,ifs,au,ep,wi,tc,te,e,pe,ns,je⟩:=Xj h3
  have e:_=Expr.ListComp el [⟨.Name z pz,it,ifs,0⟩] au ep:=e
  subst e
  refine⟨_,fun Z E=>?_,ur je⟩
  obtain⟨p1,p2,p3,p4⟩:=pe Z E.e
  rcases x8 (el:=el) (gs:=[⟨.Name z pz,it,ifs,0⟩]) (au:=au) (ep:=ep) (py:=py) (y:=y) (n:=pos.line) (env:=Z.env) with⟨w,l⟩|w
  ·exact @Cm _ _ _ _ _ _ _ _ _ _ _ _ _ j _ _ _ (E.e.n▸E.nd) (E.e.n▸h1) l p1 E.e.calm p2 p3 p4 w (jz ns)
  ·exact qz E h1 h2 (@uc _ _ _ _ _ _ _ _ _ _ _ _ _ p1 E.e.calm p2 p3 p4 (jz ns)) w
 |.s2 j i ix t' d,sc,N,st,h=>by
  have hh:=aE h;clear h;obtain⟨⟨y,e⟩,q,h⟩:=hh
  obtain⟨py,pos,rfl⟩:=p9 q
  have hh:=aE h;clear h;obtain⟨⟨el,⟨es,k,pt⟩,it,ifs,au,ep⟩,q,h⟩:=hh
  cases Nn q
  have hh:=aE h;clear h;obtain⟨⟨⟨x1,wg⟩,x2,wj⟩,q,h⟩:=hh
  cases PJ q
  obtain⟨h1,h2,h3,h4,h5,h6⟩:=wa h
  have h1:=bt h1
  obtain⟨ok,nd,⟨g1,g2⟩,lh,Xl⟩:=PH h3
  obtain⟨hn,h4⟩:g8 it=true∧kI c lv i true sc N it=true:=by simpa using h4
  obtain⟨ti,pi,ji⟩:=sI i h4
  obtain⟨te,pe,je⟩:=sX d h6
  have h5:(ifs.isEmpty=true∧rJ t'=true)∨(on (l1 ifs) fun y=>kT c lv t' (rl sc au) (iP N x1 x2 ix) y)=true:=by simpa using h5
  have pg:∀Z,CE c lv K t va sc N Z→∀C s₂ H₂ fp pn,PG (Z.bw (iP N x1 x2 ix) au C s₂ H₂ fp pn) (.Tuple [.Name x1 wg,.Name x2 wj] k pt) (vY K):=fun Z E C s₂ H₂ fp pn=>by
   have e1:(Z.bw (iP N x1 x2 ix) au C s₂ H₂ fp pn).env.scope.names.lookup x1=some .local:=lookup_relabel_local lh
   have e2:(Z.bw (iP N x1 x2 ix) au C s₂ H₂ fp pn).env.scope.names.lookup x2=some .local:=lookup_relabel_local Xl
   have:=Ez (X:=Z.bw (iP N x1 x2 ix) au C s₂ H₂ fp pn) (pos:=pt) (k:=k) (n:=2) E.calm (xF (tY (pos:=wg) (i:=0) nd g1 (.inl e1) (.inr e1)) (xF (tY (pos:=wj) (i:=1) nd g2 (.inl e2) (.inr e2)) DQ))
   rw[show(Z.bw (iP N x1 x2 ix) au C s₂ H₂ fp pn).K=K from E.k]at this
   exact this
  have fin:∀{tc:TT}{ifs:List Expr},(∀Z,CE c lv K t va sc N Z→∀C s₂ H₂ fp pn,iJ (Z.bw (iP N x1 x2 ix) au C s₂ H₂ fp pn) ifs tc)→∀Z,CS c lv K t va sc N Z→fF Z (.Assign [.Name y py] (.ListComp el [⟨.Tuple [.Name x1 wg,.Name x2 wj] k pt,it,ifs,0⟩] au ep) pos) (gf (uq (vY K) 2 ti ix tc te) (fK j)):=fun {tc ifs} ht Z E=>by
   have p1:mZ 2 Z.N (iP N x1 x2 ix) Z.env.scope au ix:=by rw[E.e.n,E.e.sc];exact ok
   rcases x8 (el:=el) (gs:=[⟨.Tuple [.Name x1 wg,.Name x2 wj] k pt,it,ifs,0⟩]) (au:=au) (ep:=ep) (py:=py) (y:=y) (n:=pos.line) (env:=Z.env) with⟨w,l⟩|w
   ·exact⟨Ku (E.e.n▸E.nd) (E.e.n▸h1) l p1 (pg Z E.e) E.e.calm (pi Z _ E.e (fun _=>rfl)) (ht Z E.e) (fun C s₂ H₂ fp pn=>pe _ E.e.bw) w (jz hn)⟩
   ·exact qz E h1 h2 (MD p1 (pg Z E.e) E.e.calm (pi Z _ E.e (fun _=>rfl)) (ht Z E.e) (fun C s₂ H₂ fp pn=>pe _ E.e.bw) (jz hn)) w
  rcases h5 with⟨w1,w2⟩|h5
  ·cases List.isEmpty_iff.mp w1
   cases t'<;>first|exact absurd w2 aZ|skip
   exact⟨_,fin fun Z E C s₂ H₂ fp pn=>pQ,ur (Dw ji xX je)⟩
  ·have hh:=aE h5;clear h5;obtain⟨y',q,h5⟩:=hh
   cases iu q
   obtain⟨tq,pq,jq⟩:=sT t' h5
   exact⟨_,fin fun Z E C s₂ H₂ fp pn=>xU (pq _ E.bw),ur (Dw ji jq je)⟩
 |.as g x,sc,N,st,h=>by
  have hh:=aE h;clear h;obtain⟨⟨tg,e,pos⟩,q,h⟩:=hh
  cases pZ q
  obtain⟨h1,h2,h3,h4⟩:=fW h
  obtain⟨te,pe,je⟩:=sX x h4
  obtain⟨Xm,pg,jg⟩:=sG g h3
  refine⟨_,fun Z E=>@E2 _ _ _ _ _ _ (pe Z E.e) (pg Z E) ?_ ?_ ?_,RM je jg⟩
  ·exact(show swapsWith e (some tg) pos.line Z.env=pure false from qj (SQ h2))
  ·cases tg<;>first|exact absurd h1 aZ|skip
   exact SR h2
  ·cases tg<;>first|rfl|exact absurd h1 aZ
 |.si k i x,sc,N,st,h=>by
  have hh:=aE h;clear h;obtain⟨⟨tg,e,pos⟩,q,h⟩:=hh
  cases pZ q
  have hh:=aE h;clear h;obtain⟨⟨o,ie⟩,q,h⟩:=hh
  obtain⟨p,r⟩:=nD q
  have r:tg=_:=r
  subst r
  obtain⟨h1,h2,h3,h4,h5⟩:=oH h
  obtain⟨ti,pi,ji⟩:=sX i h4
  obtain⟨te,pe,je⟩:=sX x h5
  refine⟨_,fun Z E=>@E2 _ _ _ _ _ _ (pe Z E.e) (@QD _ _ _ _ _ _ _ (sV h3 Z E.e) (pi Z E.e) set_list (Sq h1)) ?_ ?_ rfl,MR je ji⟩
  ·exact(show swapsWith e (some (Expr.Subscript o ie p)) pos.line Z.env=pure false from qj h2)
  ·cases e<;>rfl
 |.dp k i x,sc,N,st,h=>by
  have hh:=aE h;clear h;obtain⟨⟨tg,e,pos⟩,q,h⟩:=hh
  cases pZ q
  have hh:=aE h;clear h;obtain⟨⟨o,ie⟩,q,h⟩:=hh
  obtain⟨p,r⟩:=nD q
  have r:tg=_:=r
  subst r
  obtain⟨h2,h3,h4,h5⟩:=fW h
  obtain⟨ti,pi,ji⟩:=sX i h4
  obtain⟨te,pe,je⟩:=sX x h5
  exact⟨_,fun Z E=>Ea (kr E.e.rm) (sV h3 Z E.e) (pi Z E.e) (pe Z E.e) (qj h2),Pu je ji⟩
 |.ap k x,sc,N,st,h=>by
  have hh:=aE h;clear h;obtain⟨e,q,h⟩:=hh
  obtain⟨pos,rfl⟩:=yA q
  have hh:=aE h;clear h;obtain⟨⟨o,as⟩,q,h⟩:=hh
  obtain⟨ap,cp,rfl,h2,h3,h4⟩:=nS q
  have hh:=aE h;clear h;obtain⟨a,q1,h⟩:=hh
  cases iu q1
  obtain⟨h5,h6⟩:=cP h
  obtain⟨te,pe,je⟩:=sX x h6
  exact⟨_,fun Z E=>@x4 _ _ _ _ (vP E.e.k (sV h5 Z E.e) (pe Z E.e) h2 h3 (all1 h4).1) rfl,RD je⟩
 |.na k i x,sc,N,st,h=>by
  have hh:=aE h;clear h;obtain⟨e,q,h⟩:=hh
  obtain⟨pos,rfl⟩:=yA q
  have hh:=aE h;clear h;obtain⟨⟨o,as⟩,q,h⟩:=hh
  obtain⟨ap,cp,rfl,h2,h3,h4⟩:=nS q
  have hh:=aE h;clear h;obtain⟨a,q1,h⟩:=hh
  cases iu q1
  have hh:=aE h;clear h;obtain⟨⟨o',ie⟩,q,h⟩:=hh
  obtain⟨p,r⟩:=nD q
  have r:o=_:=r
  subst r
  obtain⟨h0,h5,h6,h7⟩:=fW h
  obtain⟨ti,pi,ji⟩:=sX i h6
  obtain⟨te,pe,je⟩:=sX x h7
  exact⟨_,fun Z E=>@x4 _ _ _ _ (vP E.e.k (@FG _ _ _ _ _ _ _ (D3 E.e.k) (sV h5 Z E.e) (pi Z E.e) (FY h0)) (pe Z E.e) h2 h3 (all1 h4).1) rfl,Pz ji je⟩
 |.po i k,sc,N,st,h=>by
  have hh:=aE h;clear h;obtain⟨⟨y,e⟩,q,h⟩:=hh
  obtain⟨py,pos,rfl⟩:=p9 q
  have hh:=aE h;clear h;obtain⟨⟨o,as⟩,q,h⟩:=hh
  obtain⟨ap,cp,r,h2,h3,h4⟩:=nS q
  have r:e=_:=r
  subst r
  obtain⟨h1,h5,h0,h6⟩:=fW h
  cases List.isEmpty_iff.mp h0
  exact⟨_,fun Z E=>qz E (bt h1) h5 (IA E.e.k PySem.F.slot_list_pop PySem.F.type_list_pop Q7 (sV h6 Z E.e) h2 h3) rfl,RH⟩
 |.cl k,sc,N,st,h=>by
  have hh:=aE h;clear h;obtain⟨e,q,h⟩:=hh
  obtain⟨pos,rfl⟩:=yA q
  have hh:=aE h;clear h;obtain⟨⟨o,as⟩,q,h⟩:=hh
  obtain⟨ap,cp,rfl,h2,h3,h4⟩:=nS q
  obtain⟨h0,h6⟩:=cP h
  cases List.isEmpty_iff.mp h0
  exact⟨_,fun Z E=>@x4 _ _ _ _ (IA E.e.k PySem.F.slot_list_clear PySem.F.type_list_clear Mu (sV h6 Z E.e) h2 h3) rfl,MS⟩
 |.ne i it,sc,N,st,h=>by
  have hh:=aE h;clear h;obtain⟨⟨y,e⟩,q,h⟩:=hh
  obtain⟨py,pos,rfl⟩:=p9 q
  have hh:=aE h;clear h;obtain⟨⟨el,z,pz,ie,ifs,au,ep⟩,q,h⟩:=hh
  have r:e=_:=x5 q
  subst r
  obtain⟨h1,h2,q1,q2,h6,h7⟩:=wa h
  obtain⟨h4,h5⟩:=cP h7
  have h1:=bt h1
  obtain⟨lp,r⟩:=PK q2
  have r:el=_:=r
  subst r
  cases List.isEmpty_iff.mp q1
  have h6:=yw h6
  obtain⟨ti,pi,ji⟩:=sI it h5
  refine⟨_,fun Z E=>?_,Py (ix:=[]) ji⟩
  have p1:jA Z.N (ns N z []) Z.env.scope au z []:=by rw[E.e.n,E.e.sc];exact h6
  have p2:=pi Z (.Name z pz) E.e (fun z=>absurd z aZ)
  rcases x8 (el:=.List [] lp) (gs:=[⟨.Name z pz,ie,[],0⟩]) (au:=au) (ep:=ep) (py:=py) (y:=y) (n:=pos.line) (env:=Z.env) with⟨w,l⟩|w
  ·exact @Cm _ _ _ _ _ _ _ _ _ _ _ _ _ i _ _ _ (E.e.n▸E.nd) (E.e.n▸h1) l p1 E.e.calm p2 (fun C s₂ H₂ fp pn=>pQ) (fun C s₂ H₂ fp pn=>yk pS) w (jz h4)
  ·exact qz E h1 h2 (@uc _ _ _ _ _ _ _ _ _ _ _ _ _ p1 E.e.calm p2 (fun C s₂ H₂ fp pn=>pQ) (fun C s₂ H₂ fp pn=>yk pS) (jz h4)) w
 |.tp k i x,sc,N,st,h=>by
  have hh:=aE h;clear h;obtain⟨⟨tg,e,pos⟩,q,h⟩:=hh
  cases pZ q
  have hh:=aE h;clear h;obtain⟨⟨o,ie⟩,q,h⟩:=hh
  obtain⟨p,r⟩:=nD q
  have r:tg=_:=r
  subst r
  obtain⟨h2,h3,h4,h5⟩:=fW h
  obtain⟨ti,pi,ji⟩:=sX i h4
  obtain⟨te,pe,je⟩:=sX x h5
  exact⟨_,fun Z E=>Ea (kr E.e.rm) (sV h3 Z E.e) (pi Z E.e) (pe Z E.e) (qj h2),PD je ji⟩
 |.rO f sl l,sc,N,st,h=>by
  have hh:=aE h;clear h;obtain⟨o,q,h⟩:=hh
  obtain⟨pos,rfl⟩:=E9 q
  have hh:=aE h;clear h;obtain⟨e,rfl,h⟩:=hh
  obtain⟨n,ta,p1,p2,nc,p3⟩:=Xk h
  exact⟨_,fun Z E=>E1 (p1 Z E.e),Nk p2 p3⟩
mutual
theorem sS:∀(s:S) {sc:Scope}{N:List Str}{st:Stmt},kS c lv s sc N st=true→∃ts,(∀Z,CS c lv K t va sc N Z→fF Z st ts)∧JS K ts (eS t s)
 |.l x,sc,N,st,h=>sL x (st:=st) h
 |.ie t' a b,sc,N,st,h=>by
  have hh:=aE h;clear h;obtain⟨⟨e,as,bs⟩,q,h⟩:=hh
  obtain⟨p,rfl⟩:=SJ q
  obtain⟨h1,h2,h3⟩:=hZ h
  obtain⟨tq,pq,jq⟩:=sT t' h1
  obtain⟨ta,pa,ja⟩:=sB a h2
  obtain⟨tb,pb,jb⟩:=sB b h3
  exact⟨_,fun Z E=>Uc (pq Z E.e) (pa Z E) (pb Z E),T4 jq ja jb⟩
 |.fo i g b,sc,N,st,h=>by
  have hh:=aE h;clear h;obtain⟨⟨tg,it,body⟩,q,h⟩:=hh
  obtain⟨p,rfl⟩:=SK q
  obtain⟨h1,h2,h3,h4⟩:=fW h
  obtain⟨ti,pi,ji⟩:=sI i h1
  obtain⟨Xm,pg,jg⟩:=sG g h3
  obtain⟨tb,pb,jb⟩:=sB b h4
  exact⟨_,fun Z E=>@Sg _ _ _ _ _ _ _ _ E.po E.e.calm (pi Z tg E.e id) (pg Z E) (pb Z E) (jz h2),RN ji jg jb⟩
 |.wh t' b,sc,N,st,h=>by
  have hh:=aE h;clear h;obtain⟨⟨e,body⟩,q,h⟩:=hh
  obtain⟨p,rfl⟩:=SM q
  obtain⟨h1,h2⟩:=cP h
  obtain⟨tq,pq,jq⟩:=sT t' h1
  obtain⟨tb,pb,jb⟩:=sB b h2
  exact⟨_,fun Z E=>Nh E.po (pq Z E.e) (pb Z E),MX jq jb⟩
 |.fz k s,sc,N,st,h=>by
  obtain⟨ts,ps,js⟩:=sS s (st:=st) h
  exact⟨_,ps,RJ js⟩
theorem sB:∀(b:B) {sc:Scope}{N:List Str}{ss:List Stmt},kB c lv b sc N ss=true→∃ts,(∀Z,CS c lv K t va sc N Z→jM Z ss ts)∧JS K ts (eB t b)
 |.n,_,_,ss,h=>by
  cases List.isEmpty_iff.mp h
  exact⟨_,fun _ _=>Pr,OD⟩
 |.o s,_,_,ss,h=>by
  have hh:=aE h;clear h;obtain⟨st,q,h⟩:=hh
  cases iu q
  obtain⟨ts,ps,js⟩:=sS s h
  exact⟨_,fun Z E=>Pt (ps Z E),js⟩
 |.c s b,_,_,ss,h=>by
  have hh:=aE h;clear h;obtain⟨⟨st,r⟩,q,h⟩:=hh
  cases lI q
  obtain⟨h1,h2⟩:=cP h
  obtain⟨ts,ps,js⟩:=sS s h1
  obtain⟨tb,pb,jb⟩:=sB b h2
  exact⟨_,fun Z E=>Ng (ps Z E) (pb Z E),RA js jb⟩
end
end
end C
namespace C
open PySem PySem.Spec L2 J My
def g4(P:Program)(w:World)(K:PySem.W.Frag)(mg:Str→Option Value)(base:Heap)(fs:List Fi)(t:List FT):Prop :=
 ∀(i:Nat) fi,fs[i]?=some fi→∃F,t[i]?=some F∧mK P w K mg base fi F
noncomputable def kF(c:Cf)(lv:Nat)(N ps:List Str)(st:Stmt)(b:B):Bool :=
 decide ((b6 st).kind=.function∧(b6 st).isCoroutine=false∧(b6 st).isGenerator=false∧N.Nodup∧N.take ps.length=ps ∧
  (∀x∈ps,(b6 st).names.lookup x=some .local∨(b6 st).names.lookup x=some .cell)∧(∀y∈(b6 st).names,y.2≠.free))&&kB c lv b (b6 st) N (eY st)
section
variable {P:Program}{w:World}{K:PySem.W.Frag}{mg:Str→Option Value}{base:Heap}{t:List FT}{va:List V}
theorem g4.nil:g4 P w K mg base [] t:=fun i fi h=>by simp at h
theorem g4.cons{fs:List Fi}{f:Fi}{F:FT}(h:g4 P w K mg base fs t)(q:mK P w K mg base f F):g4 P w K mg base (f::fs) (F::t)
 |0,fi,e=>by cases e;exact⟨F,rfl,q⟩
 |i+1,fi,e=>h i fi e
theorem ctx{bs:List String}{gs:List (Str×Gv)}{fs:List Fi}{lv:Nat}{N ps:List Str}{st:Stmt}{b:B}{qual:Str}{f:Addr}{cd:Value}{A:Around}{outer:List Env}{s:Shared}{H:Hp}{E:XK}(h:g4 P w K mg base fs t)(hb:∀x∈bs,mg (Str.ofString x)=none)(hg:GV K mg va gs)(k:kF ⟨bs,gs,fs⟩ lv N ps st b=true)
  (hr:dD lv (A.deeper (PyProof.Rows.envOfC qual (b6 st) s.heap.objs.size f cd))):CS ⟨bs,gs,fs⟩ lv K t va (b6 st) N ((kJ jX P w K mg base N qual (b6 st) f cd A outer s H E).mv):=by
 obtain⟨k1,k2⟩:=cP k
 obtain⟨h1,h2,h3,h4,h5,h6,h7⟩:=bt k1
 exact⟨⟨rfl,rfl,rfl,rfl,hr,hb,hg,h⟩,h4,fun _=>rfl,PassesOwn.never,h1⟩
theorem zO{c:Cf}{lv:Nat}{N ps:List Str}{st:Stmt}{b:B}(k:kF c lv N ps st b=true):pO N ps (b6 st):=by
 obtain⟨h1,h2,h3,h4,h5,h6,h7⟩:=bt (cP k).1
 exact⟨h1,h2,h3,h4,h5,h6,h7⟩
theorem Uj{bs:List String}{gs:List (Str×Gv)}{fs:List Fi}{lv:Nat}{N ps:List Str}{x:Str}{st:Stmt}{b:B}{f:Addr}{fd:FuncData}(h:g4 P w K mg base fs t)(hb:∀x∈bs,mg (Str.ofString x)=none)(hg:GV K mg va gs)(Df:Df K mg x st ps f fd)(k:kF ⟨bs,gs,fs⟩ lv N ps st b=true) :
  mK P w K mg base ⟨x,ps.length,lv+1,none⟩ (.p (fn N.length (eB t b))):=by
 refine⟨rfl,f,fd,ps,?_,Df.mg,Df.fn.kp,Df.bd⟩
 refine Df.fn.ok (zO k) (fun vs H Q E h=>h.1) (fun bM A outer s H vs Q E hr q=>?_)
 obtain⟨ts,p1,p2⟩:=sB (t:=t) (va:=va) (K:=K) b (cP k).2
 exact⟨ts,(p1 _ (ctx h hb hg k hr)).go,D7 p2 q⟩
theorem Uk{bs:List String}{gs:List (Str×Gv)}{fs:List Fi}{lv:Nat}{N ps:List Str}{x:Str}{st:Stmt}{b:B}{f:Addr}{fd:FuncData}(h:g4 P w K mg base fs t)(hb:∀x∈bs,mg (Str.ofString x)=none)(hg:GV K mg va gs)(Df:Df K mg x st ps f fd)(k:kF ⟨bs,gs,fs⟩ lv N ps st b=true) :
  mK P w K mg base ⟨x,ps.length,lv+1,some []⟩ (.oo (i6 N.length (eB t b))):=by
 refine⟨rfl,f,fd,ps,?_,Df.mg,Df.fn.kp,Df.bd⟩
 refine Df.fn.ok (zO k) (fun vs H Q E h=>h.1) (fun bM A outer s H vs Q E hr q=>?_)
 obtain⟨ts,p1,p2⟩:=sB (t:=t) (va:=va) (K:=K) b (cP k).2
 exact⟨ts,(p1 _ (ctx h hb hg k hr)).go,L4 p2 q⟩
end
structure Dd where
 nm:Str
 st:Stmt
 ps:List Str
 N:List Str
 lv:Nat
 io:Option (List Nat)
 b:B
noncomputable def qA(t:List FT)(d:Dd):FT:=match d.io with
 |none=>.p (fn d.N.length (eB t d.b))
 |some _=>.oo (i6 d.N.length (eB t d.b))
noncomputable def zP(d:Dd):Fi:=⟨d.nm,d.ps.length,d.lv+1,d.io.map fun _=>[]⟩
noncomputable def tab:List Dd→List FT
 |[]=>[]
 |d::ds=>qA (tab ds) d::tab ds
noncomputable def uV(bs:List String)(gs:List (Str×Gv)):List Dd→Bool
 |[]=>true
 |d::ds=>kF ⟨bs,gs,ds.map zP⟩ d.lv d.N d.ps d.st d.b&&uV bs gs ds
def BA(d:Str)(s:Stmt)(ps:List Str):Prop:=∀(kV doc pm:Value) (an:Option Addr) (bM ct:Value) (us:List Value),us.length=ps.length→bindArgs (PySem.W.fnOf d d (f9 s) (eY s) (b6 s) .none kV doc pm an bM ct) ⟨us,[]⟩=pure (ps.zip us)
theorem fX{d:Str}{s:Stmt}{p0:Str}(h:∀k o p n c t u0,bindArgs (PySem.W.fnOf d d (f9 s) (eY s) (b6 s) .none k o p n c t) ⟨[u0],[]⟩=pure (List.zip [p0] [u0])):BA d s [p0]:=by
 intro _ _ _ _ _ _ us hl
 obtain _|⟨_,us⟩:=us
 ·cases hl
 obtain _|_:=us
 ·exact h _ _ _ _ _ _ _
 ·simp at hl
theorem dU{d:Str}{s:Stmt}{p0 p1:Str}(h:∀k o p n c t u0 u1,bindArgs (PySem.W.fnOf d d (f9 s) (eY s) (b6 s) .none k o p n c t) ⟨[u0,u1],[]⟩=pure (List.zip [p0,p1] [u0,u1])):BA d s [p0,p1]:=by
 intro _ _ _ _ _ _ us hl
 obtain _|⟨_,us⟩:=us
 ·cases hl
 obtain _|⟨_,us⟩:=us
 ·cases hl
 obtain _|_:=us
 ·exact h _ _ _ _ _ _ _ _
 ·simp at hl
theorem rL{d:Str}{s:Stmt}{p0 p1 p2:Str}(h:∀k o p n c t u0 u1 u2,bindArgs (PySem.W.fnOf d d (f9 s) (eY s) (b6 s) .none k o p n c t) ⟨[u0,u1,u2],[]⟩=pure (List.zip [p0,p1,p2] [u0,u1,u2])):BA d s [p0,p1,p2]:=by
 intro _ _ _ _ _ _ us hl
 obtain _|⟨_,us⟩:=us
 ·cases hl
 obtain _|⟨_,us⟩:=us
 ·cases hl
 obtain _|⟨_,us⟩:=us
 ·cases hl
 obtain _|_:=us
 ·exact h _ _ _ _ _ _ _ _ _
 ·simp at hl
theorem IC{d:Str}{s:Stmt}{p0 p1 p2 p3:Str}(h:∀k o p n c t u0 u1 u2 u3,bindArgs (PySem.W.fnOf d d (f9 s) (eY s) (b6 s) .none k o p n c t) ⟨[u0,u1,u2,u3],[]⟩=pure (List.zip [p0,p1,p2,p3] [u0,u1,u2,u3])):BA d s [p0,p1,p2,p3]:=by
 intro _ _ _ _ _ _ us hl
 obtain _|⟨_,us⟩:=us
 ·cases hl
 obtain _|⟨_,us⟩:=us
 ·cases hl
 obtain _|⟨_,us⟩:=us
 ·cases hl
 obtain _|⟨_,us⟩:=us
 ·cases hl
 obtain _|_:=us
 ·exact h _ _ _ _ _ _ _ _ _ _
 ·simp at hl
theorem Xn{d:Str}{s:Stmt}{p0 p1 p2 p3 p4:Str}(h:∀k o p n c t u0 u1 u2 u3 u4,bindArgs (PySem.W.fnOf d d (f9 s) (eY s) (b6 s) .none k o p n c t) ⟨[u0,u1,u2,u3,u4],[]⟩=pure (List.zip [p0,p1,p2,p3,p4] [u0,u1,u2,u3,u4])):BA d s [p0,p1,p2,p3,p4]:=by
 intro _ _ _ _ _ _ us hl
 obtain _|⟨_,us⟩:=us
 ·cases hl
 obtain _|⟨_,us⟩:=us
 ·cases hl
 obtain _|⟨_,us⟩:=us
 ·cases hl
 obtain _|⟨_,us⟩:=us
 ·cases hl
 obtain _|⟨_,us⟩:=us
 ·cases hl
 obtain _|_:=us
 ·exact h _ _ _ _ _ _ _ _ _ _ _
 ·simp at hl
noncomputable def wm:List Dd→Prop
 |[]=>True
 |d::ds=>BA d.nm d.st d.ps∧wm ds
def DE(K:PySem.W.Frag)(d:Str)(s:Stmt):Prop:=∃(f:Addr) (oc:Value) (od:Option Addr) (kV dc pm:Value) (an:Option Addr) (cd ct:Value) (sl:Array (Option Value)),
 PySem.W.nsIn K mainGlobals d=some (some (.ref f))∧K.lookup f=some ⟨oc,od,.func (PySem.W.fnOf d d (f9 s) (eY s) (b6 s) .none kV dc pm an cd ct),sl⟩∧PySem.W.codeIn K cd d=true∧PySem.W.keepIn K (.ref f)=true
theorem VP{K:PySem.W.Frag}{d:Str}{s:Stmt}{f:Addr}{oc:Value}{od:Option Addr}{kV dc pm:Value}{an:Option Addr}{cd ct:Value}{sl:Array (Option Value)}(a:PySem.W.nsIn K mainGlobals d=some (some (.ref f)))(l:K.lookup f=some ⟨oc,od,.func (PySem.W.fnOf d d (f9 s) (eY s) (b6 s) .none kV dc pm an cd ct),sl⟩)(c:PySem.W.codeIn K cd d=true)(k:PySem.W.keepIn K (.ref f)=true):DE K d s :=
 ⟨f,oc,od,kV,dc,pm,an,cd,ct,sl,a,l,c,k⟩
noncomputable def wo(K:PySem.W.Frag):List Dd→Prop
 |[]=>True
 |d::ds=>DE K d.nm d.st∧wo K ds
noncomputable def wq(K:PySem.W.Frag):List String→Prop
 |[]=>True
 |b::bs=>PySem.W.nsIn K mainGlobals (Str.ofString b)=some none∧wq K bs
noncomputable def GE(K:PySem.W.Frag)(x:Str):Gv→Prop
 |.s y=>∃tk,PySem.W.nsIn K mainGlobals x=some (some (.str y tk))
 |.t l=>∃(a:Addr) (it:Array Value) (n:Nat) (sl:Array (Option Value)),PySem.W.nsIn K mainGlobals x=some (some (.ref a))∧K.lookup a=some ⟨.type "tuple",none,.seq it n,sl⟩∧it.toList.map nU=l.map (fun y=>some (V.str y))∧4≤l.length∧l.length≤1000
noncomputable def wt(K:PySem.W.Frag):List (Str×Gv)→Prop
 |[]=>True
 |g::gs=>GE K g.1 g.2∧wt K gs
section
variable {P:Program}{w:World}{K:PySem.W.Frag}{mg:Str→Option Value}{base:Heap}
theorem Fc{h:Heap}(X:K.In h)(G:h.Ns mainGlobals mg):∀{bs:List String},wq K bs→∀x∈bs,mg (Str.ofString x)=none
 |[],_,_,m=>nomatch m
 |b::bs,q,x,m=>by
  rcases cJ.mp m with rfl|m
  ·exact PySem.W.mg_none_of X G q.1
  ·exact Fc X G q.2 x m
theorem F0{h:Heap}(X:K.In h)(G:h.Ns mainGlobals mg):∀{gs:List (Str×Gv)},wt K gs→∃va,GV K mg va gs
  |[],_=>⟨[],fun i g e=>by simp at e⟩
  | (x,g)::gs,q=>by
    obtain⟨va,r⟩:=F0 X G q.2
    have one:∃v u,mg x=some u∧RelV v u∧JT K (tC v) (jC g.d):=by
      cases g with
      |s y =>
        obtain⟨tk,e⟩:=q.1
        exact⟨.str y,_,PySem.W.mg_of X G e,⟨_,rfl⟩,n5 rfl⟩
      |t l =>
        obtain⟨a,it,n,sl,e,lk,m,hl⟩:=q.1
        exact⟨.ref a,_,PySem.W.mg_of X G e,rfl,Sd (Pq lk m hl) fun _ _=>Ck l⟩
    obtain⟨v,u,h1,h2,h3⟩:=one
    refine⟨v::va,fun i g' e=>?_⟩
    cases i with
    |zero=>cases e;exact⟨v,u,rfl,h1,h2,h3⟩
    |succ i=>exact r i g' e
theorem Ul{h:Heap}{d:Str}{s:Stmt}{ps:List Str}(X:K.In h)(G:h.Ns mainGlobals mg)(e:DE K d s)(b:BA d s ps):∃f fd,Df K mg d s ps f fd:=by
 obtain⟨f,oc,od,kV,dc,pm,an,cd,ct,sl,q1,q2,q3,q4⟩:=e
 exact⟨f,_,PySem.W.mg_of X G q1,yn q2 q3 q4,(yn q2 q3 q4).binds b⟩
theorem F1{h:Heap}{bs:List String}{gs:List (Str×Gv)}{va:List V}(X:K.In h)(G:h.Ns mainGlobals mg)(hb:∀x∈bs,mg (Str.ofString x)=none)(hg:GV K mg va gs):∀{ds:List Dd},wo K ds→wm ds→uV bs gs ds=true→g4 P w K mg base (ds.map zP) (tab ds)
 |[],_,_,_=>g4.nil
 |d::ds,q,b,k=>by
  obtain⟨k1,k2⟩:=cP k
  have r:=F1 X G hb hg q.2 b.2 k2
  obtain⟨f,fd,D⟩:=Ul X G q.1 b.1
  refine g4.cons r ?_
  obtain⟨nm,st,ps,N,lv,io,bd⟩:=d
  cases io with
  |none=>exact Uj r hb hg D k1
  |some io=>exact Uk r hb hg D k1
theorem bK{d:Dd}{ds:List Dd}{t:List FT}{g:Ev→Option Fl}{F:List D→Option (M×D)}(e:tab ds=t)(h:d.io=none)(q:eB t d.b=g)(r:fn d.N.length g=F):tab (d::ds)=.p F::t:=by
 subst e q r
 show qA (tab ds) d::tab ds=_
 unfold qA
 rw[h]
theorem yB{d:Dd}{ds:List Dd}{t:List FT}{g:Ev→Option Fl}{F:List D→Option D}(e:tab ds=t)(h:d.io=some [])(q:eB t d.b=g)(r:i6 d.N.length g=F):tab (d::ds)=.oo F::t:=by
 subst e q r
 show qA (tab ds) d::tab ds=_
 unfold qA
 rw[h]
theorem Um {h:Heap}{bs:List String}{gs:List (Str×Gv)}{ds:List Dd}{st:Stmt}{N:List Str}{lv:Nat}{b:B}{t:List FT}{F:List D→Option (M×D)}{x:Str}{fa:Addr} (X:K.In h) (G:h.Ns mainGlobals mg) (Bb:mg "law" = some (.ref fa)) (hb:wq K bs) (hg:wt K gs) (q:wo K (⟨"law",st,[x],N,lv,none,b⟩::ds)) (ba:wm (⟨"law",st,[x],N,lv,none,b⟩::ds)) (k:uV bs gs (⟨"law",st,[x],N,lv,none,b⟩::ds)=true)
  (e:tab (⟨"law",st,[x],N,lv,none,b⟩::ds)=.p F::t) (hs:∀(kV doc pm:Value) (an:Option Addr) (bM ct:Value) (s:Shared) (v:Value),BindsTo s (PySem.W.fnOf "law" "law" (f9 st) (eY st) (b6 st) .none kV doc pm an bM ct) ⟨[v],[]⟩ [(x,v)]) :
  ∃fd:FuncData,(∀(s:Shared) (v:Value),BindsTo s fd ⟨[v],[]⟩ [(x,v)])∧∀base:Heap,K.In base→base.Ns mainGlobals mg→jK P w K mg base jX (lv+1) fa fd [x] (mD K 1 F):=by
 obtain⟨k1,k2⟩:=cP k
 have hb:=Fc X G hb
 obtain⟨va,hg⟩:=F0 X G hg
 obtain⟨⟨f,oc,od,kV,dc,pm,an,cd,ct,sl,q1,q2,q3,q4⟩,qs⟩:=q
 have ef:=Bb.symm.trans (PySem.W.mg_of X G q1)
 cases ef
 refine⟨_,fun s v=>hs kV dc pm an cd ct s v,fun base _ _=>?_⟩
 have r:g4 P w K mg base (ds.map zP) (tab ds):=F1 X G hb hg qs ba.2 k2
 have ht:fn N.length (eB (tab ds) b)=F:=by
  have e:FT.p (fn N.length (eB (tab ds) b))::tab ds=.p F::t:=e
  cases e;rfl
 have fk:=yn (x := "law") (qual := "law") (st:=st) q2 q3 q4
 refine fk.ok (zO k1) (fun vs H Q E h=>h.1) (fun bM A outer s H vs Q E hr q=>?_)
 obtain⟨ts,p1,p2⟩:=sB (t:=tab ds) (va:=va) (K:=K) b (cP k1).2
 rw[←ht]at q
 exact⟨ts,(p1 _ (ctx r hb hg k1 hr)).go,D7 p2 q⟩
end
end C
namespace aN
open PySem PySem.Spec L2 My J
noncomputable def top(i:Nat):PySem.Stmt:=PySem.Challenge.pw_lazyhoist_k42_live.main.body.getD i (.Pass ⟨0,0,0,0⟩)
noncomputable def bs:List String:=["dict", "enumerate", "int", "isinstance", "len", "list", "max", "range", "sum", "tuple"]
noncomputable def gs:List (Str×C.Gv):=[]
noncomputable def t0:List C.FT:=[]
noncomputable def IE:List C.Dd:=[]
theorem e0:C.tab IE=t0:=rfl
noncomputable def BE:Ev→Option Fl :=
 (aq (aO (jB (ag aL (ag ao (jV 0) (jC (.int 0))) (jC (.str "reckon"))))
  (aK (aM (ae (ag ao (jV 0) (jC (.int 2))) (ae (ag ao (jV 0) (jC (.int 3))) (ae (ag ao (jV 0) (jC (.int 4))) ah)))))
  aY)
 (aK (jC .non)))
noncomputable def sj:List D→Option (M×D):=fn 1 BE
noncomputable def d1:C.Dd:=⟨"reckoning_of",top 1,["row"],["row"],0,none,(.c (.ie (.c .eq (.ix (.v 0) (.ki 0)) (.ks "reckon")) (.o (.l (.rt (.tu (.c (.ix (.v 0) (.ki 2)) (.c (.ix (.v 0) (.ki 3)) (.c (.ix (.v 0) (.ki 4)) .n))))))) .n) (.o (.l (.rt .kn))))⟩
noncomputable def IG:List C.Dd:=d1::IE
noncomputable def t1:List C.FT:=.p sj::t0
theorem e1:C.tab IG=t1:=C.bK e0 rfl rfl rfl
noncomputable def SV:Ev→Option Fl :=
 (aq (aO (cW (jB (ag aL (ag ao (jV 0) (jC (.int 0))) (jC (.str "reckon")))) (jB (ag aL (ag ao (jV 0) (jC (.int 0))) (jC (.str "copy")))))
  (aK (ag ao (jV 0) (jC (.int 1))))
  aY)
 (aK (jC .non)))
noncomputable def yC:List D→Option (M×D):=fn 1 SV
noncomputable def d2:C.Dd:=⟨"sets",top 2,["row"],["row"],0,none,(.c (.ie (.or (.c .eq (.ix (.v 0) (.ki 0)) (.ks "reckon")) (.c .eq (.ix (.v 0) (.ki 0)) (.ks "copy"))) (.o (.l (.rt (.ix (.v 0) (.ki 1))))) .n) (.o (.l (.rt .kn))))⟩
noncomputable def II:List C.Dd:=d2::IG
noncomputable def t2:List C.FT:=.p yC::t1
theorem e2:C.tab II=t2:=C.bK e1 rfl rfl rfl
noncomputable def CW:Ev→Option Fl :=
 (aq (av 2 (ay yC (ae (jV 0) ah)))
 (aK (kO (ag qf (jV 2) (jC .non)) (qW (ag aL (jV 2) (ag ao (jV 1) (jC (.int 1)))) (ag aL (jV 2) (ag ao (jV 1) (jC (.int 2))))))))
noncomputable def lA:List D→Option (M×D):=fn 3 CW
noncomputable def d3:C.Dd:=⟨"changes",top 3,["row", "reckoning"],["row", "reckoning", "name"],1,none,(.c (.l (.st 2 (.ca 0 (.c (.v 0) .n)))) (.o (.l (.rt (.an (.co .rC (.v 2) .kn) (.or (.co .eq (.v 2) (.ix (.v 1) (.ki 1))) (.co .eq (.v 2) (.ix (.v 1) (.ki 2)))))))))⟩
noncomputable def IJ:List C.Dd:=d3::II
noncomputable def t3:List C.FT:=.p lA::t2
theorem e3:C.tab IJ=t3:=C.bK e2 rfl rfl rfl
noncomputable def B2:Ev→Option Fl :=
 (aq (av 2 (ag ao (jV 0) (jV 1)))
 (aq (aO (jB (ag aL (ag ao (jV 2) (jC (.int 0))) (jC (.str "end"))))
  (aK (bp ah))
  aY)
 (aq (aO (jB (ag aL (ag ao (jV 2) (jC (.int 0))) (jC (.str "go"))))
  (aK (bp (ae (ag ao (jV 2) (jC (.int 1))) ah)))
  aY)
 (aq (aO (jB (ag aL (ag ao (jV 2) (jC (.int 0))) (jC (.str "part"))))
  (aK (bp (ae (ag bC (jV 1) (jC (.int 1))) (ae (ag ao (jV 2) (jC (.int 2))) ah))))
  aY)
 (aK (bp (ae (ag bC (jV 1) (jC (.int 1))) ah)))))))
noncomputable def ph:List D→Option (M×D):=fn 3 B2
noncomputable def d4:C.Dd:=⟨"followers",top 5,["program", "n"],["program", "n", "row"],0,none,(.c (.l (.st 2 (.ix (.v 0) (.v 1)))) (.c (.ie (.c .eq (.ix (.v 2) (.ki 0)) (.ks "end")) (.o (.l (.rt (.li .n)))) .n) (.c (.ie (.c .eq (.ix (.v 2) (.ki 0)) (.ks "go")) (.o (.l (.rt (.li (.c (.ix (.v 2) (.ki 1)) .n))))) .n) (.c (.ie (.c .eq (.ix (.v 2) (.ki 0)) (.ks "part")) (.o (.l (.rt (.li (.c (.bo .add (.v 1) (.ki 1)) (.c (.ix (.v 2) (.ki 2)) .n)))))) .n) (.o (.l (.rt (.li (.c (.bo .add (.v 1) (.ki 1)) .n)))))))))⟩
noncomputable def IK:List C.Dd:=d4::IJ
noncomputable def t4:List C.FT:=.p ph::t3
theorem e4:C.tab IK=t4:=C.bK e3 rfl rfl rfl
noncomputable def Bz:Ev→Option Fl :=
 (aK (cC (bN (ae (aI bx (ae (jV 0) ah)) ah)) [0] kW (ay ph (ae (jV 1) (ae (jV 0) ah)))))
noncomputable def r9:List D→Option (M×D):=fn 1 Bz
noncomputable def d5:C.Dd:=⟨"all_followers",top 6,["program"],["program"],1,none,(.o (.l (.rt (.cp (.r1 (.c (.fb .len (.c (.v 0) .n)) .n)) [0] .y (.ca 0 (.c (.v 1) (.c (.v 0) .n)))))))⟩
noncomputable def IL:List C.Dd:=d5::IK
noncomputable def t5:List C.FT:=.p r9::t4
theorem e5:C.tab IL=t5:=C.bK e4 rfl rfl rfl
noncomputable def pw:Ev→Option Fl :=
 (cF 1 (aM (ae (jV 2) (ae (jV 4) ah))))
noncomputable def xu:Ev→Option Fl :=
 (cN 3 (bf (bQ (jV 3)) (gN 4)
  pw))
noncomputable def Dy:Ev→Option Fl :=
 (aq (av 1 (bp (ae (aM (ae (cB dX (jC (.int 1))) (ae (jC (.int 0)) ah))) ah)))
 (aq (bf (jo (ae (ay r9 (ae (jV 0) ah)) ah)) (gT 2 (cq (gN 2) (cq (gN 3) fL)))
  xu)
 (aK (jV 1))))
noncomputable def pN:List D→Option (M×D):=fn 5 Dy
noncomputable def d6:C.Dd:=⟨"places",top 7,["program"],["program", "told", "n", "targets", "m"],2,none,(.c (.l (.st 1 (.li (.c (.tu (.c (.uo .neg (.ki 1)) (.c (.ki 0) .n))) .n)))) (.c (.fo (.en (.c (.ca 0 (.c (.v 0) .n)) .n)) (.t 2 (.c (.n 2) (.c (.n 3) .n))) (.o (.fz 3 (.fo (.l (.v 3)) (.n 4) (.o (.l (.ap 1 (.tu (.c (.v 2) (.c (.v 4) .n)))))))))) (.o (.l (.rt (.v 1))))))⟩
noncomputable def IQ:List C.Dd:=d6::IL
noncomputable def t6:List C.FT:=.p pN::t5
theorem e6:C.tab IQ=t6:=C.bK e5 rfl rfl rfl
noncomputable def sk:Ev→Option Fl :=
 (aq (av 3 (ay sj (ae (jV 2) ah)))
 (aO (jB (ag qf (jV 3) (jC .non)))
  (nR 1 (jV 3) (jC (.bl true)))
  aY))
noncomputable def BP:Ev→Option Fl :=
 (aq (av 1 uQ)
 (aq (cN 0 (bf (bQ (jV 0)) (gN 2)
  sk))
 (aK (aI pX (ae (jV 1) ah)))))
noncomputable def sU:List D→Option (M×D):=fn 4 BP
noncomputable def d7:C.Dd:=⟨"reckonings",top 8,["program"],["program", "told", "row", "reckoning"],1,none,(.c (.l (.st 1 .dT)) (.c (.fz 0 (.fo (.l (.v 0)) (.n 2) (.c (.l (.st 3 (.ca 5 (.c (.v 2) .n)))) (.o (.ie (.c .rC (.v 3) .kn) (.o (.l (.tp 1 (.v 3) (.kb true)))) .n))))) (.o (.l (.rt (.fb .uT (.c (.v 1) .n)))))))⟩
noncomputable def IU:List C.Dd:=d7::IQ
noncomputable def t7:List C.FT:=.p sU::t6
theorem e7:C.tab IU=t7:=C.bK e6 rfl rfl rfl
noncomputable def sx:Ev→Option Fl :=
 (gZ 1 (jV 2) (jC (.bl true)))
noncomputable def B3:Ev→Option Fl :=
 (aq (av 1 nz)
 (aq (cN 0 (bf (bQ (jV 0)) (gN 2)
  sx))
 (aK (jV 1))))
noncomputable def tf:List D→Option (M×D):=fn 3 B3
noncomputable def d8:C.Dd:=⟨"truths_of",top 10,["things"],["things", "told", "thing"],0,none,(.c (.l (.st 1 .dK)) (.c (.fz 0 (.fo (.l (.v 0)) (.n 2) (.o (.l (.dp 1 (.v 2) (.kb true)))))) (.o (.l (.rt (.v 1))))))⟩
noncomputable def IV:List C.Dd:=d8::IU
noncomputable def t8:List C.FT:=.p tf::t7
theorem e8:C.tab IV=t8:=C.bK e7 rfl rfl rfl
noncomputable def mU:Ev→Option Fl :=
 (aO (jB (du true (jV 5) (jV 2)))
  (aq (gZ 2 (jV 5) (jC (.bl true)))
 (cF 3 (jV 5)))
  aY)
noncomputable def xr:Ev→Option Fl :=
 (aq (kR 4 3)
 (bf (bQ (ag ao (jV 0) (jV 4))) (gN 5)
  mU))
noncomputable def pj:Ev→Option Bool :=
 (jB (ag gR (aI bx (ae (jV 3) ah)) (jC (.int 0))))
noncomputable def CY:Ev→Option Fl :=
 (aq (av 2 (ay tf (ae (jV 1) ah)))
 (aq (av 3 (aI qh (ae (jV 1) ah)))
 (aq (gB pj
  xr)
 (aK (jV 2)))))
noncomputable def tM:List D→Option (M×D):=fn 6 CY
noncomputable def d9:C.Dd:=⟨"reached",top 9,["steps", "starts"],["steps", "starts", "seen", "waiting", "n", "m"],1,none,(.c (.l (.st 2 (.ca 0 (.c (.v 1) .n)))) (.c (.l (.st 3 (.fb .list (.c (.v 1) .n)))) (.c (.wh (.c .gt (.fb .len (.c (.v 3) .n)) (.ki 0)) (.c (.l (.po 4 3)) (.o (.fo (.l (.ix (.v 0) (.v 4))) (.n 5) (.o (.ie (.d true (.v 5) (.v 2)) (.c (.l (.dp 2 (.v 5) (.kb true))) (.o (.l (.ap 3 (.v 5))))) .n)))))) (.o (.l (.rt (.v 2)))))))⟩
noncomputable def IW:List C.Dd:=d9::IV
noncomputable def t9:List C.FT:=.p tM::t8
theorem e9:C.tab IW=t9:=C.bK e8 rfl rfl rfl
noncomputable def pA:Ev→Option Fl :=
 (kx 1 (jV 4) (jV 2))
noncomputable def xv:Ev→Option Fl :=
 (cN 3 (bf (bQ (jV 3)) (gN 4)
  pA))
noncomputable def Dz:Ev→Option Fl :=
 (aq (nP 1 (bN (ae (aI bx (ae (jV 0) ah)) ah)))
 (aq (cN 0 (bf (jo (ae (jV 0) ah)) (gT 2 (cq (gN 2) (cq (gN 3) fL)))
  xv))
 (aK (jV 1))))
noncomputable def tU:List D→Option (M×D):=fn 5 Dz
noncomputable def wu:C.Dd:=⟨"turned",top 11,["steps"],["steps", "back", "n", "targets", "m"],0,none,(.c (.l (.ne 1 (.r1 (.c (.fb .len (.c (.v 0) .n)) .n)))) (.c (.fz 0 (.fo (.en (.c (.v 0) .n)) (.t 2 (.c (.n 2) (.c (.n 3) .n))) (.o (.fz 3 (.fo (.l (.v 3)) (.n 4) (.o (.l (.na 1 (.v 4) (.v 2))))))))) (.o (.l (.rt (.v 1))))))⟩
noncomputable def GH:List C.Dd:=wu::IW
noncomputable def IX:List C.FT:=.p tU::t9
theorem Xo:C.tab GH=IX:=C.bK e9 rfl rfl rfl
noncomputable def sd:Ev→Option Fl :=
 (nR 1 (jV 2) (jC (.bl true)))
noncomputable def BH:Ev→Option Fl :=
 (aq (av 1 uQ)
 (aq (cN 0 (bf (oC (jV 0)) (gN 2)
  sd))
 (aK (jV 1))))
noncomputable def sC:List D→Option (M×D):=fn 3 BH
noncomputable def wx:C.Dd:=⟨"truths_of",top 10,["things"],["things", "told", "thing"],0,none,(.c (.l (.st 1 .dT)) (.c (.fz 0 (.fo (.t (.v 0)) (.n 2) (.o (.l (.tp 1 (.v 2) (.kb true)))))) (.o (.l (.rt (.v 1))))))⟩
noncomputable def GJ:List C.Dd:=wx::GH
noncomputable def IY:List C.FT:=.p sC::IX
theorem Xp:C.tab GJ=IY:=C.bK Xo rfl rfl rfl
noncomputable def se:Ev→Option Fl :=
 (aq (av 8 (ag ao (jV 7) (jC (.int 0))))
 (aO (bX (jB (ag dS (jV 8) (cB dX (jC (.int 1))))) (bX (jB (kY true (jV 7) (jV 4))) (bX (jB (ag dS (kl (jV 5) (jV 8)) (jC (.str "keep")))) (g7 (jB (ay lA (ae (ag ao (jV 0) (jV 8)) (ae (jV 3) ah))))))))
  (kx 6 (jV 8) (ag ao (jV 7) (jC (.int 1))))
  aY))
noncomputable def BI:Ev→Option Fl :=
 (aq (av 3 (ag ao (ay sU (ae (jV 0) ah)) (jV 1)))
 (aq (av 4 (ay sC (ae (ag ao (jV 2) (jC (.int 0))) ah)))
 (aq (av 5 (aI nB (ae (ag ao (jV 2) (jC (.int 1))) ah)))
 (aq (cN 0 (nP 6 (bQ (jV 0))))
 (aq (bf (bQ (ay pN (ae (jV 0) ah))) (gN 7)
  se)
 (aK (jV 6)))))))
noncomputable def sD:List D→Option (M×D):=fn 9 BI
noncomputable def wy:C.Dd:=⟨"steps_unput",top 15,["program", "k", "paper"],["program", "k", "paper", "reckoning", "kept", "hows", "told", "place", "n"],3,none,(.c (.l (.st 3 (.ix (.ca 4 (.c (.v 0) .n)) (.v 1)))) (.c (.l (.st 4 (.ca 0 (.c (.ix (.v 2) (.ki 0)) .n)))) (.c (.l (.st 5 (.fb .qi (.c (.ix (.v 2) (.ki 1)) .n)))) (.c (.fz 0 (.l (.ne 6 (.l (.v 0))))) (.c (.fo (.l (.ca 5 (.c (.v 0) .n))) (.n 7) (.c (.l (.st 8 (.ix (.v 7) (.ki 0)))) (.o (.ie (.an (.c .ne (.v 8) (.uo .neg (.ki 1))) (.an (.t true (.v 7) (.v 4)) (.an (.c .ne (.g1 (.v 5) (.v 8)) (.ks "keep")) (.nt (.b (.ca 8 (.c (.ix (.v 0) (.v 8)) (.c (.v 3) .n)))))))) (.o (.l (.na 6 (.v 8) (.ix (.v 7) (.ki 1))))) .n)))) (.o (.l (.rt (.v 6)))))))))⟩
noncomputable def GK:List C.Dd:=wy::GJ
noncomputable def IZ:List C.FT:=.p sD::IY
theorem Xq:C.tab GK=IZ:=C.bK Xp rfl rfl rfl
noncomputable def B4:Ev→Option Fl :=
 (aq (av 3 (uB (oC (ag ao (jV 2) (jC (.int 1)))) [] (jB (ag aL (jV 1) (jC (.str "read")))) (jV 0)))
 (aK (ay tM (ae (ay tU (ae (ay sD (ae (jV 0) (ae (jV 1) (ae (jV 2) ah)))) ah)) (ae (jV 3) ah)))))
noncomputable def tm:List D→Option (M×D):=fn 4 B4
noncomputable def wz:C.Dd:=⟨"live_rows",top 14,["program", "k", "paper"],["program", "k", "paper", "reading"],4,none,(.c (.l (.s2 3 (.t (.ix (.v 2) (.ki 1))) [] (.c .eq (.v 1) (.ks "read")) (.v 0))) (.o (.l (.rt (.ca 3 (.c (.ca 2 (.c (.ca 0 (.c (.v 0) (.c (.v 1) (.c (.v 2) .n)))) .n)) (.c (.v 3) .n)))))))⟩
noncomputable def GL:List C.Dd:=wz::GK
noncomputable def Ja:List C.FT:=.p tm::IZ
theorem Xr:C.tab GL=Ja:=C.bK Xq rfl rfl rfl
noncomputable def Fd:Ev→Option Fl :=
 (aq (av 3 (ay tm (ae (jV 0) (ae (jV 1) (ae (jV 2) ah)))))
 (aK (cC (bQ (ay pN (ae (jV 0) ah))) [3] (jB (du false (ag ao (jV 0) (jC (.int 1))) (jV 1))) (jV 0))))
noncomputable def nE:List D→Option (M×D):=fn 4 Fd
noncomputable def wA:C.Dd:=⟨"live",top 13,["program", "k", "paper"],["program", "k", "paper", "ahead_of"],5,none,(.c (.l (.st 3 (.ca 0 (.c (.v 0) (.c (.v 1) (.c (.v 2) .n)))))) (.o (.l (.rt (.cp (.l (.ca 7 (.c (.v 0) .n))) [3] (.d false (.ix (.v 0) (.ki 1)) (.v 1)) (.v 0))))))⟩
noncomputable def GN:List C.Dd:=wA::GL
noncomputable def Jb:List C.FT:=.p nE::Ja
theorem Xs:C.tab GN=Jb:=C.bK Xr rfl rfl rfl
noncomputable def Cu:Ev→Option Fl :=
 (aq (aO (jB (ag fD (jV 1) (aI bx (ae (jV 0) ah))))
  (aK (ag ao (jV 0) (jV 1)))
  aY)
 (aK (ag bC (ag eQ (jV 1) (jC (.int 7919))) (jC (.int 11)))))
noncomputable def ic:List D→Option (M×D):=fn 2 Cu
noncomputable def wB:C.Dd:=⟨"_law_cell",top 17,["_law_script", "_law_k"],["_law_script", "_law_k"],0,none,(.c (.ie (.c .lt (.v 1) (.fb .len (.c (.v 0) .n))) (.o (.l (.rt (.ix (.v 0) (.v 1))))) .n) (.o (.l (.rt (.bo .add (.bo .mul (.v 1) (.ki 7919)) (.ki 11))))))⟩
noncomputable def GO:List C.Dd:=wB::GN
noncomputable def Jc:List C.FT:=.p ic::Jb
theorem Xt:C.tab GO=Jc:=C.bK Xs rfl rfl rfl
noncomputable def B5:Ev→Option Fl :=
 (aK (ag aR (ag eQ (ag bC (ag bC (jV 0) (ag eQ (jC (.int 7)) (jV 1))) (jC (.int 11))) (jC (.int 2862933555777941757))) (jC (.int 999999999999999989))))
noncomputable def ib:List D→Option (M×D):=fn 2 B5
noncomputable def wC:C.Dd:=⟨"_law_mixed",top 18,["_law_cell_here", "_law_k"],["_law_cell_here", "_law_k"],0,none,(.o (.l (.rt (.bo .mod (.bo .mul (.bo .add (.bo .add (.v 0) (.bo .mul (.ki 7) (.v 1))) (.ki 11)) (.ki 2862933555777941757)) (.ki 999999999999999989)))))⟩
noncomputable def GP:List C.Dd:=wC::GO
noncomputable def Jd:List C.FT:=.p ib::Jc
theorem Xu:C.tab GP=Jd:=C.bK Xt rfl rfl rfl
noncomputable def BJ:Ev→Option Fl :=
 (aK (ag aL (ag aR (ay ic (ae (jV 0) (ae (jC (.int 0)) ah))) (jC (.int 2))) (jC (.int 1))))
noncomputable def mR:List D→Option (M×D):=fn 1 BJ
noncomputable def wD:C.Dd:=⟨"_law_is_free",top 19,["_law_script"],["_law_script"],1,none,(.o (.l (.rt (.co .eq (.bo .mod (.ca 1 (.c (.v 0) (.c (.ki 0) .n))) (.ki 2)) (.ki 1)))))⟩
noncomputable def GQ:List C.Dd:=wD::GP
noncomputable def Je:List C.FT:=.p mR::Jd
theorem Xv:C.tab GQ=Je:=C.bK Xu rfl rfl rfl
noncomputable def oU:Ev→Option Fl :=
 (aq (av 8 (ag bC (ag bW (ag bW (jV 0) (jC (.int 192))) (ag bC (jV 7) (jC (.int 1)))) (ag eQ (jC (.int 5)) (jV 7))))
 (aO (cW (jB (ag aL (jV 7) (jV 3))) (jB (ag aL (jV 7) (jC (.int 0)))))
  (av 6 (ag bC (jV 6) (ag ao (jV 1) (ag aR (ag bC (jV 8) (ag eQ (jV 5) (aI kQ (ae (ag aL (jV 7) (jV 3)) ah)))) (jC (.int 26))))))
  (av 6 (ag bC (jV 6) (ag ao (ag bC (jV 1) (jC (.str "0123456789"))) (ag aR (jV 8) (jC (.int 36))))))))
noncomputable def sE:Ev→Option Fl :=
 (aq (av 6 (jC (.str "")))
 (aq (bf (bN (ae (jV 2) ah)) (gN 7)
  oU)
 (aq (aO (jB (ag (dY false) (jV 6) (aM (ae (jC (.str "say")) (ae (jC (.str "go")) (ae (jC (.str "part")) (ae (jC (.str "end")) ah)))))))
  (av 6 (ag bC (jV 6) (jC (.str "1"))))
  aY)
 (cF 4 (jV 6)))))
noncomputable def B6:Ev→Option Fl :=
 (aq (av 1 (jC (.str "abcdefghijklmnopqrstuvwxyz")))
 (aq (av 0 (ay ib (ae (jV 0) (ae (jC (.int 3)) ah))))
 (aq (av 2 (ag bC (jC (.int 1)) (ag aR (jV 0) (jC (.int 8)))))
 (aq (av 3 (ag aR (ag bW (jV 0) (jC (.int 8))) (jV 2)))
 (aq (av 4 (bp ah))
 (aq (bf (bN (ae (ag bC (jC (.int 3)) (ag aR (ag bW (jV 0) (jC (.int 64))) (jC (.int 3)))) ah)) (gN 5)
  sE)
 (aK (jV 4))))))))
noncomputable def mV:List D→Option (M×D):=fn 9 B6
noncomputable def wF:C.Dd:=⟨"_law_names",top 20,["_law_cell_here"],["_law_cell_here", "_law_signs", "_law_size", "_law_at", "_law_names_here", "_law_k", "_law_name", "_law_j", "_law_step"],1,none,(.c (.l (.st 1 (.ks "abcdefghijklmnopqrstuvwxyz"))) (.c (.l (.st 0 (.ca 1 (.c (.v 0) (.c (.ki 3) .n))))) (.c (.l (.st 2 (.bo .add (.ki 1) (.bo .mod (.v 0) (.ki 8))))) (.c (.l (.st 3 (.bo .mod (.bo .div (.v 0) (.ki 8)) (.v 2)))) (.c (.l (.st 4 (.li .n))) (.c (.fo (.r1 (.c (.bo .add (.ki 3) (.bo .mod (.bo .div (.v 0) (.ki 64)) (.ki 3))) .n)) (.n 5) (.c (.l (.st 6 (.ks ""))) (.c (.fo (.r1 (.c (.v 2) .n)) (.n 7) (.c (.l (.st 8 (.bo .add (.bo .div (.bo .div (.v 0) (.ki 192)) (.bo .add (.v 7) (.ki 1))) (.bo .mul (.ki 5) (.v 7))))) (.o (.ie (.or (.c .eq (.v 7) (.v 3)) (.c .eq (.v 7) (.ki 0))) (.o (.l (.st 6 (.bo .add (.v 6) (.ix (.v 1) (.bo .mod (.bo .add (.v 8) (.bo .mul (.v 5) (.fb .int (.c (.co .eq (.v 7) (.v 3)) .n)))) (.ki 26))))))) (.o (.l (.st 6 (.bo .add (.v 6) (.ix (.bo .add (.v 1) (.ks "0123456789")) (.bo .mod (.v 8) (.ki 36))))))))))) (.c (.ie (.c .lg (.v 6) (.tu (.c (.ks "say") (.c (.ks "go") (.c (.ks "part") (.c (.ks "end") .n)))))) (.o (.l (.st 6 (.bo .add (.v 6) (.ks "1"))))) .n) (.o (.l (.ap 4 (.v 6)))))))) (.o (.l (.rt (.v 4))))))))))⟩
noncomputable def GR:List C.Dd:=wF::GQ
noncomputable def Jf:List C.FT:=.p mV::Je
theorem Xw:C.tab GR=Jf:=C.bK Xv rfl rfl rfl
noncomputable def BK:Ev→Option Fl :=
 (aq (aO (jB (ag aL (ag aR (jV 0) (jC (.int 6))) (jC (.int 0))))
  (aK (ag ao (bp (ae (jC (.int 0)) (ae (jC (.int 1)) (ae (ag g6 (ag gD (jC (.int 2)) (jC (.int 64))) (jC (.int 1))) (ae (ag aR (ag eQ (ag bW (jV 0) (jC (.int 24))) (jC (.int 48271))) (ag gD (jC (.int 2)) (jC (.int 64)))) ah))))) (ag aR (ag bW (jV 0) (jC (.int 6))) (jC (.int 4)))))
  aY)
 (aK (ag ao (jV 1) (ag aR (ag bW (jV 0) (jC (.int 6))) (aI bx (ae (jV 1) ah))))))
noncomputable def ia:List D→Option (M×D):=fn 2 BK
noncomputable def wG:C.Dd:=⟨"_law_operand",top 21,["_law_cell_here", "_law_names_here"],["_law_cell_here", "_law_names_here"],0,none,(.c (.ie (.c .eq (.bo .mod (.v 0) (.ki 6)) (.ki 0)) (.o (.l (.rt (.ix (.li (.c (.ki 0) (.c (.ki 1) (.c (.bo .sub (.bo .pow (.ki 2) (.ki 64)) (.ki 1)) (.c (.bo .mod (.bo .mul (.bo .div (.v 0) (.ki 24)) (.ki 48271)) (.bo .pow (.ki 2) (.ki 64))) .n))))) (.bo .mod (.bo .div (.v 0) (.ki 6)) (.ki 4)))))) .n) (.o (.l (.rt (.ix (.v 1) (.bo .mod (.bo .div (.v 0) (.ki 6)) (.fb .len (.c (.v 1) .n))))))))⟩
noncomputable def GU:List C.Dd:=wG::GR
noncomputable def Jg:List C.FT:=.p ia::Jf
theorem Xx:C.tab GU=Jg:=C.bK Xw rfl rfl rfl
noncomputable def sF:Ev→Option Fl :=
 (aq (av 7 (ay ib (ae (jV 4) (ae (jV 6) ah))))
 (aq (av 8 (ay ib (ae (jV 4) (ae (ag bC (jV 6) (jC (.int 20))) ah))))
 (aq (av 9 (ag aR (ay ib (ae (jV 4) (ae (ag bC (jV 6) (jC (.int 40))) ah))) (jC (.int 8))))
 (aq (aO (jB (ay mR (ae (jV 0) ah)))
  (aq (av 7 (ag aR (jV 4) (ag gD (jC (.int 10)) (jC (.int 21)))))
 (aq (av 8 (ag aR (ag bW (jV 4) (ag gD (jC (.int 10)) (jC (.int 21)))) (ag gD (jC (.int 10)) (jC (.int 21)))))
 (aq (av 9 (ag aR (ag bW (jV 4) (ag gD (jC (.int 10)) (jC (.int 42)))) (jC (.int 8))))
 (av 4 (ag bW (jV 4) (ag eQ (jC (.int 8)) (ag gD (jC (.int 10)) (jC (.int 42)))))))))
  aY)
 (cF 5 (aM (ae (ag ao (jC (.str "+-*&|^<=")) (jV 9)) (ae (ay ia (ae (jV 7) (ae (jV 1) ah))) (ae (ay ia (ae (jV 8) (ae (jV 1) ah))) ah)))))))))
noncomputable def B7:Ev→Option Fl :=
 (aq (av 2 (ay ic (ae (jV 0) (ae (jC (.int 1)) ah))))
 (aq (av 3 (ag bC (jC (.int 1)) (ag aR (jV 2) (jC (.int 4)))))
 (aq (aO (jB (ag aL (ag aR (ag bW (jV 2) (jC (.int 4))) (jC (.int 6))) (jC (.int 1))))
  (av 3 (jC (.int 12)))
  aY)
 (aq (av 4 (ag bW (jV 2) (jC (.int 24))))
 (aq (av 5 (bp ah))
 (aq (bf (bN (ae (jV 3) ah)) (gN 6)
  sF)
 (aq (aO (bX (jB (ag aL (aI bx (ae (jV 5) ah)) (jC (.int 2)))) (jB (ag aL (ag aR (ag bW (jV 2) (jC (.int 4))) (jC (.int 3))) (jC (.int 0)))))
  (fq 5 (jC (.int 1)) (aM (ae (ag ao (ag ao (jV 5) (jC (.int 0))) (jC (.int 0))) (ae (ag ao (ag ao (jV 5) (jC (.int 0))) (jC (.int 2))) (ae (ag ao (ag ao (jV 5) (jC (.int 0))) (jC (.int 1))) ah)))))
  aY)
 (aK (jV 5)))))))))
noncomputable def mW:List D→Option (M×D):=fn 10 B7
noncomputable def wH:C.Dd:=⟨"_law_deeds",top 22,["_law_script", "_law_names_here"],["_law_script", "_law_names_here", "_law_cell_here", "_law_many", "_law_rest", "_law_found", "_law_k", "_law_one", "_law_other", "_law_sign"],2,none,(.c (.l (.st 2 (.ca 4 (.c (.v 0) (.c (.ki 1) .n))))) (.c (.l (.st 3 (.bo .add (.ki 1) (.bo .mod (.v 2) (.ki 4))))) (.c (.ie (.c .eq (.bo .mod (.bo .div (.v 2) (.ki 4)) (.ki 6)) (.ki 1)) (.o (.l (.st 3 (.ki 12)))) .n) (.c (.l (.st 4 (.bo .div (.v 2) (.ki 24)))) (.c (.l (.st 5 (.li .n))) (.c (.fo (.r1 (.c (.v 3) .n)) (.n 6) (.c (.l (.st 7 (.ca 3 (.c (.v 4) (.c (.v 6) .n))))) (.c (.l (.st 8 (.ca 3 (.c (.v 4) (.c (.bo .add (.v 6) (.ki 20)) .n))))) (.c (.l (.st 9 (.bo .mod (.ca 3 (.c (.v 4) (.c (.bo .add (.v 6) (.ki 40)) .n))) (.ki 8)))) (.c (.ie (.b (.ca 2 (.c (.v 0) .n))) (.c (.l (.st 7 (.bo .mod (.v 4) (.bo .pow (.ki 10) (.ki 21))))) (.c (.l (.st 8 (.bo .mod (.bo .div (.v 4) (.bo .pow (.ki 10) (.ki 21))) (.bo .pow (.ki 10) (.ki 21))))) (.c (.l (.st 9 (.bo .mod (.bo .div (.v 4) (.bo .pow (.ki 10) (.ki 42))) (.ki 8)))) (.o (.l (.st 4 (.bo .div (.v 4) (.bo .mul (.ki 8) (.bo .pow (.ki 10) (.ki 42)))))))))) .n) (.o (.l (.ap 5 (.tu (.c (.ix (.ks "+-*&|^<=") (.v 9)) (.c (.ca 0 (.c (.v 7) (.c (.v 1) .n))) (.c (.ca 0 (.c (.v 8) (.c (.v 1) .n))) .n)))))))))))) (.c (.ie (.an (.c .eq (.fb .len (.c (.v 5) .n)) (.ki 2)) (.c .eq (.bo .mod (.bo .div (.v 2) (.ki 4)) (.ki 3)) (.ki 0))) (.o (.l (.si 5 (.ki 1) (.tu (.c (.ix (.ix (.v 5) (.ki 0)) (.ki 0)) (.c (.ix (.ix (.v 5) (.ki 0)) (.ki 2)) (.c (.ix (.ix (.v 5) (.ki 0)) (.ki 1)) .n))))))) .n) (.o (.l (.rt (.v 5)))))))))))⟩
noncomputable def GW:List C.Dd:=wH::GU
noncomputable def Jh:List C.FT:=.p mW::Jg
theorem Xy:C.tab GW=Jh:=C.bK Xx rfl rfl rfl
noncomputable def CZ:Ev→Option Fl :=
 (aq (av 4 (ag ao (jV 2) (ag aR (ag aR (jV 1) (jC (.int 60))) (aI bx (ae (jV 2) ah)))))
 (aq (av 5 (ay ia (ae (ag bW (jV 1) (jC (.int 43200))) (ae (jV 2) ah))))
 (aq (aO (jB (ag fD (ag aR (jV 0) (jC (.int 11))) (jC (.int 5))))
  (aq (lX (gT 3 (cq (gN 6) (cq (gN 7) (cq (gN 8) fL)))) (ag ao (jV 3) (ag aR (ag aR (ag bW (jV 1) (jC (.int 60))) (jC (.int 12))) (aI bx (ae (jV 3) ah)))))
 (aK (aM (ae (jC (.str "reckon")) (ae (jV 4) (ae (jV 6) (ae (jV 7) (ae (jV 8) ah))))))))
  aY)
 (aq (aO (jB (ag aL (ag aR (jV 0) (jC (.int 11))) (jC (.int 5))))
  (aK (aM (ae (jC (.str "copy")) (ae (jV 4) (ae (jV 5) ah)))))
  aY)
 (aq (aO (jB (ag aL (ag aR (jV 0) (jC (.int 11))) (jC (.int 6))))
  (aK (aM (ae (jC (.str "say")) (ae (jV 5) ah))))
  aY)
 (aq (aO (jB (ag fD (ag aR (jV 0) (jC (.int 11))) (jC (.int 9))))
  (aK (aM (ae (jC (.str "part")) (ae (jV 5) (ae (ag aR (ag bW (jV 1) (jC (.int 720))) (jC (.int 60))) ah)))))
  aY)
 (aK (aM (ae (jC (.str "part")) (ae (jV 5) (ae (cB dX (jC (.int 1))) ah)))))))))))
noncomputable def pF:List D→Option (M×D):=fn 9 CZ
noncomputable def wI:C.Dd:=⟨"_law_row",top 23,["_law_cell_here", "_law_other", "_law_names_here", "_law_deeds_here"],["_law_cell_here", "_law_other", "_law_names_here", "_law_deeds_here", "_law_name", "_law_operand_here", "_law_s", "_law_a", "_law_b"],1,none,(.c (.l (.st 4 (.ix (.v 2) (.bo .mod (.bo .mod (.v 1) (.ki 60)) (.fb .len (.c (.v 2) .n)))))) (.c (.l (.st 5 (.ca 1 (.c (.bo .div (.v 1) (.ki 43200)) (.c (.v 2) .n))))) (.c (.ie (.c .lt (.bo .mod (.v 0) (.ki 11)) (.ki 5)) (.c (.l (.as (.t 3 (.c (.n 6) (.c (.n 7) (.c (.n 8) .n)))) (.ix (.v 3) (.bo .mod (.bo .mod (.bo .div (.v 1) (.ki 60)) (.ki 12)) (.fb .len (.c (.v 3) .n)))))) (.o (.l (.rt (.tu (.c (.ks "reckon") (.c (.v 4) (.c (.v 6) (.c (.v 7) (.c (.v 8) .n)))))))))) .n) (.c (.ie (.c .eq (.bo .mod (.v 0) (.ki 11)) (.ki 5)) (.o (.l (.rt (.tu (.c (.ks "copy") (.c (.v 4) (.c (.v 5) .n))))))) .n) (.c (.ie (.c .eq (.bo .mod (.v 0) (.ki 11)) (.ki 6)) (.o (.l (.rt (.tu (.c (.ks "say") (.c (.v 5) .n)))))) .n) (.c (.ie (.c .lt (.bo .mod (.v 0) (.ki 11)) (.ki 9)) (.o (.l (.rt (.tu (.c (.ks "part") (.c (.v 5) (.c (.bo .mod (.bo .div (.v 1) (.ki 720)) (.ki 60)) .n))))))) .n) (.o (.l (.rt (.tu (.c (.ks "part") (.c (.v 5) (.c (.uo .neg (.ki 1)) .n)))))))))))))⟩
noncomputable def GX:List C.Dd:=wI::GW
noncomputable def Ji:List C.FT:=.p pF::Jh
theorem Xz:C.tab GX=Ji:=C.bK Xy rfl rfl rfl
noncomputable def Cv:Ev→Option Fl :=
 (aq (av 2 (cC (bN (ae (aI bx (ae (jV 0) ah)) ah)) [0] (jB (ag aL (ag ao (ag ao (jV 1) (jV 0)) (jC (.int 0))) (jC (.str "end")))) (jV 0)))
 (aq (aO (cW (jB (ag gG (jV 2) (bp ah))) (jB (ag gR (ag aR (jV 1) (jC (.int 3))) (jC (.int 0)))))
  (aK (aM (ae (jC (.str "end")) ah)))
  aY)
 (aK (aM (ae (jC (.str "go")) (ae (ag aR (ag bW (jV 1) (jC (.int 3))) (ag ao (jV 2) (jC (.int 0)))) ah))))))
noncomputable def tH:List D→Option (M×D):=fn 3 Cv
noncomputable def wJ:C.Dd:=⟨"_law_last",top 24,["_law_rows", "_law_number_here"],["_law_rows", "_law_number_here", "_law_ends"],0,none,(.c (.l (.sc 2 (.r1 (.c (.fb .len (.c (.v 0) .n)) .n)) [0] (.c .eq (.ix (.ix (.v 1) (.v 0)) (.ki 0)) (.ks "end")) (.v 0))) (.c (.ie (.or (.c .oF (.v 2) (.li .n)) (.c .gt (.bo .mod (.v 1) (.ki 3)) (.ki 0))) (.o (.l (.rt (.tu (.c (.ks "end") .n))))) .n) (.o (.l (.rt (.tu (.c (.ks "go") (.c (.bo .mod (.bo .div (.v 1) (.ki 3)) (.ix (.v 2) (.ki 0))) .n))))))))⟩
noncomputable def GY:List C.Dd:=wJ::GX
noncomputable def Jj:List C.FT:=.p tH::Ji
theorem XA:C.tab GY=Jj:=C.bK Xz rfl rfl rfl
noncomputable def BQ:Ev→Option Fl :=
 (aq (aO (jB (ay mR (ae (jV 0) ah)))
  (aK (ay ic (ae (jV 0) (ae (jV 1) ah))))
  aY)
 (aK (ay ib (ae (aI qw (ae (fE gq (jV 0) gi (eZ (jC (.int 4)))) ah)) (ae (jV 1) ah)))))
noncomputable def j8:List D→Option (M×D):=fn 2 BQ
noncomputable def wK:C.Dd:=⟨"_law_number",top 26,["_law_script", "_law_k"],["_law_script", "_law_k"],2,none,(.c (.ie (.b (.ca 5 (.c (.v 0) .n))) (.o (.l (.rt (.ca 7 (.c (.v 0) (.c (.v 1) .n)))))) .n) (.o (.l (.rt (.ca 6 (.c (.fb .sum (.c (.sl (.v 0) .n (.s (.ki 4))) .n)) (.c (.v 1) .n)))))))⟩
noncomputable def GZ:List C.Dd:=wK::GY
noncomputable def Jk:List C.FT:=.p j8::Jj
theorem XB:C.tab GZ=Jk:=C.bK XA rfl rfl rfl
noncomputable def sH:Ev→Option Fl :=
 (aq (av 7 (ay ib (ae (jV 6) (ae (jV 5) ah))))
 (aq (cF 4 (ay pF (ae (jV 6) (ae (jV 7) (ae (jV 2) (ae (jV 3) ah))))))
 (aq (aO (jB (ag aL (ag aR (jV 6) (jC (.int 11))) (jC (.int 9))))
  (cF 4 (aM (ae (jC (.str "end")) ah)))
  aY)
 (aO (jB (ag aL (ag aR (jV 6) (jC (.int 11))) (jC (.int 10))))
  (cF 4 (aM (ae (jC (.str "go")) (ae (ag aR (ag bW (jV 7) (jC (.int 720))) (jC (.int 60))) ah))))
  aY))))
noncomputable def B8:Ev→Option Fl :=
 (aq (av 2 (ay mV (ae (ay ic (ae (jV 0) (ae (jC (.int 0)) ah))) ah)))
 (aq (av 3 (ay mW (ae (jV 0) (ae (jV 2) ah))))
 (aq (av 4 (bp ah))
 (aq (cN 1 (bf (jo (ae (jV 1) ah)) (gT 2 (cq (gN 5) (cq (gN 6) fL)))
  sH))
 (aK (ag bC (jV 4) (bp (ae (ay tH (ae (jV 4) (ae (ay j8 (ae (jV 0) (ae (jC (.int 58)) ah))) ah))) ah))))))))
noncomputable def tD:List D→Option (M×D):=fn 8 B8
noncomputable def wL:C.Dd:=⟨"_law_rough",top 25,["_law_script", "_law_cells"],["_law_script", "_law_cells", "_law_names_here", "_law_deeds_here", "_law_rows", "_law_k", "_law_cell_here", "_law_other"],3,none,(.c (.l (.st 2 (.ca 5 (.c (.ca 8 (.c (.v 0) (.c (.ki 0) .n))) .n)))) (.c (.l (.st 3 (.ca 3 (.c (.v 0) (.c (.v 2) .n))))) (.c (.l (.st 4 (.li .n))) (.c (.fz 1 (.fo (.en (.c (.v 1) .n)) (.t 2 (.c (.n 5) (.c (.n 6) .n))) (.c (.l (.st 7 (.ca 7 (.c (.v 6) (.c (.v 5) .n))))) (.c (.l (.ap 4 (.ca 2 (.c (.v 6) (.c (.v 7) (.c (.v 2) (.c (.v 3) .n))))))) (.c (.ie (.c .eq (.bo .mod (.v 6) (.ki 11)) (.ki 9)) (.o (.l (.ap 4 (.tu (.c (.ks "end") .n))))) .n) (.o (.ie (.c .eq (.bo .mod (.v 6) (.ki 11)) (.ki 10)) (.o (.l (.ap 4 (.tu (.c (.ks "go") (.c (.bo .mod (.bo .div (.v 7) (.ki 720)) (.ki 60)) .n)))))) .n))))))) (.o (.l (.rt (.bo .add (.v 4) (.li (.c (.ca 1 (.c (.v 4) (.c (.ca 0 (.c (.v 0) (.c (.ki 58) .n))) .n))) .n))))))))))⟩
noncomputable def G0:List C.Dd:=wL::GZ
noncomputable def Jl:List C.FT:=.p tD::Jk
theorem XC:C.tab G0=Jl:=C.bK XB rfl rfl rfl
noncomputable def xn:Ev→Option Fl :=
 (av 1 (ag g6 (jV 1) (jC (.int 1))))
noncomputable def sW:Ev→Option Bool :=
 (jB (ag aL (ag ao (ag ao (jV 0) (jV 1)) (jC (.int 0))) (jC (.str "go"))))
noncomputable def Cw:Ev→Option Fl :=
 (aq (av 1 (ag aR (jV 1) (aI bx (ae (jV 0) ah))))
 (aq (gB sW
  xn)
 (aK (jV 1))))
noncomputable def tI:List D→Option (M×D):=fn 2 Cw
noncomputable def wM:C.Dd:=⟨"_law_goal",top 27,["_law_rough_here", "_law_to"],["_law_rough_here", "_law_to"],0,none,(.c (.l (.st 1 (.bo .mod (.v 1) (.fb .len (.c (.v 0) .n))))) (.c (.wh (.c .eq (.ix (.ix (.v 0) (.v 1)) (.ki 0)) (.ks "go")) (.o (.l (.st 1 (.bo .sub (.v 1) (.ki 1)))))) (.o (.l (.rt (.v 1))))))⟩
noncomputable def G3:List C.Dd:=wM::G0
noncomputable def Jm:List C.FT:=.p tI::Jl
theorem XD:C.tab G3=Jm:=C.bK XC rfl rfl rfl
noncomputable def Bx:Ev→Option Fl :=
 (aq (av 2 (cC (qt (ae (jC (.int 2)) (ae (aI bx (ae (jV 0) ah)) ah))) [0] (jB (ag (dY false) (ag ao (ag ao (jV 1) (jV 0)) (jC (.int 0))) (aM (ae (jC (.str "reckon")) (ae (jC (.str "copy")) (ae (jC (.str "say")) ah)))))) (jV 0)))
 (aq (aO (cW (jB (ag gG (jV 2) (bp ah))) (jB (ag (dY true) (ag ao (ag ao (jV 0) (jC (.int 0))) (jC (.int 0))) (aM (ae (jC (.str "reckon")) (ae (jC (.str "copy")) (ae (jC (.str "say")) ah)))))))
  (aK (jV 0))
  aY)
 (aq (av 3 (ag ao (jV 2) (ag aR (ag bW (jV 1) (jC (.int 4))) (aI bx (ae (jV 2) ah)))))
 (aq (fq 0 (jV 3) (aM (ae (jC (.str "part")) (ae (ag ao (ag ao (jV 0) (jV 3)) (jC (.int 1))) (ae (jC (.int 1)) ah)))))
 (aq (fq 0 (jC (.int 0)) (aM (ae (jC (.str "go")) (ae (jV 3) ah))))
 (aK (jV 0)))))))
noncomputable def rX:List D→Option D:=i6 4 Bx
noncomputable def wN:C.Dd:=⟨"_law_with_while",top 28,["_law_rows", "_law_cell_here"],["_law_rows", "_law_cell_here", "_law_flat", "_law_last_here"],0,some [],(.c (.l (.sc 2 (.r2 (.c (.ki 2) (.c (.fb .len (.c (.v 0) .n)) .n))) [0] (.c .lg (.ix (.ix (.v 1) (.v 0)) (.ki 0)) (.tu (.c (.ks "reckon") (.c (.ks "copy") (.c (.ks "say") .n))))) (.v 0))) (.c (.ie (.or (.c .oF (.v 2) (.li .n)) (.c .vZ (.ix (.ix (.v 0) (.ki 0)) (.ki 0)) (.tu (.c (.ks "reckon") (.c (.ks "copy") (.c (.ks "say") .n)))))) (.o (.l (.rt (.v 0)))) .n) (.c (.l (.st 3 (.ix (.v 2) (.bo .mod (.bo .div (.v 1) (.ki 4)) (.fb .len (.c (.v 2) .n)))))) (.c (.l (.si 0 (.v 3) (.tu (.c (.ks "part") (.c (.ix (.ix (.v 0) (.v 3)) (.ki 1)) (.c (.ki 1) .n)))))) (.c (.l (.si 0 (.ki 0) (.tu (.c (.ks "go") (.c (.v 3) .n))))) (.o (.l (.rt (.v 0)))))))))⟩
noncomputable def G4:List C.Dd:=wN::G3
noncomputable def Jn:List C.FT:=.oo rX::Jm
theorem XE:C.tab G4=Jn:=C.yB XD rfl rfl rfl
noncomputable def BD:Ev→Option Fl :=
 (aq (av 2 (cC (bN (ae (aI bx (ae (jV 0) ah)) ah)) [0] (jB (ag (dY false) (ag ao (ag ao (jV 1) (jV 0)) (jC (.int 0))) (aM (ae (jC (.str "reckon")) (ae (jC (.str "copy")) (ae (jC (.str "say")) ah)))))) (jV 0)))
 (aq (aO (jB (ag aL (ag aR (jV 1) (jC (.int 4))) (jC (.int 3))))
  (jF [0] [(0,0),(1,1)] rX (ae (jV 0) (ae (jV 1) ah)))
  aY)
 (aq (aO (cW (jB (ag fD (aI bx (ae (jV 2) ah)) (jC (.int 2)))) (jB (ag aL (ag aR (jV 1) (jC (.int 2))) (jC (.int 0)))))
  (aK (jV 0))
  aY)
 (aq (av 3 (ag ao (jV 2) (ag aR (ag bW (jV 1) (jC (.int 4))) (ag g6 (aI bx (ae (jV 2) ah)) (jC (.int 1))))))
 (aq (cN 2 (av 4 (cC (bQ (jV 2)) [3] (jB (ag gR (jV 0) (jV 1))) (jV 0))))
 (aq (av 5 (ag ao (jV 4) (ag aR (ag bW (jV 1) (jC (.int 256))) (aI bx (ae (jV 4) ah)))))
 (aq (av 6 (ag aR (ag bW (jV 1) (jC (.int 16384))) (aI bx (ae (jV 0) ah))))
 (aq (aO (jB (ag aL (ag ao (ag ao (jV 0) (cB dX (jC (.int 1)))) (jC (.int 0))) (jC (.str "go"))))
  (av 6 (ag aR (jV 6) (ag bC (jV 3) (jC (.int 1)))))
  aY)
 (aq (aO (jB (nh fD oB (jV 3) (jV 6) (jV 5)))
  (av 6 (ag bC (jV 5) (jC (.int 1))))
  aY)
 (aq (aO (jB (ag aL (ag ao (ag ao (jV 0) (jV 6)) (jC (.int 0))) (jC (.str "go"))))
  (av 6 (jC (.int 0)))
  aY)
 (aq (fq 0 (jV 3) (aM (ae (jC (.str "part")) (ae (ag ao (ag ao (jV 0) (jV 3)) (jC (.int 1))) (ae (ag bC (jV 5) (jC (.int 1))) ah)))))
 (aq (fq 0 (jV 5) (aM (ae (jC (.str "go")) (ae (jV 6) ah))))
 (aK (jV 0))))))))))))))
noncomputable def sf:List D→Option D:=i6 7 BD
noncomputable def wO:C.Dd:=⟨"_law_with_else",top 29,["_law_rows", "_law_cell_here"],["_law_rows", "_law_cell_here", "_law_flat", "_law_first", "_law_later", "_law_last_here", "_law_to"],1,some [],(.c (.l (.sc 2 (.r1 (.c (.fb .len (.c (.v 0) .n)) .n)) [0] (.c .lg (.ix (.ix (.v 1) (.v 0)) (.ki 0)) (.tu (.c (.ks "reckon") (.c (.ks "copy") (.c (.ks "say") .n))))) (.v 0))) (.c (.ie (.c .eq (.bo .mod (.v 1) (.ki 4)) (.ki 3)) (.o (.l (.rO 0 [0] (.c (.v 0) (.c (.v 1) .n))))) .n) (.c (.ie (.or (.c .lt (.fb .len (.c (.v 2) .n)) (.ki 2)) (.c .eq (.bo .mod (.v 1) (.ki 2)) (.ki 0))) (.o (.l (.rt (.v 0)))) .n) (.c (.l (.st 3 (.ix (.v 2) (.bo .mod (.bo .div (.v 1) (.ki 4)) (.bo .sub (.fb .len (.c (.v 2) .n)) (.ki 1)))))) (.c (.fz 2 (.l (.sc 4 (.l (.v 2)) [3] (.c .gt (.v 0) (.v 1)) (.v 0)))) (.c (.l (.st 5 (.ix (.v 4) (.bo .mod (.bo .div (.v 1) (.ki 256)) (.fb .len (.c (.v 4) .n)))))) (.c (.l (.st 6 (.bo .mod (.bo .div (.v 1) (.ki 16384)) (.fb .len (.c (.v 0) .n))))) (.c (.ie (.c .eq (.ix (.ix (.v 0) (.uo .neg (.ki 1))) (.ki 0)) (.ks "go")) (.o (.l (.st 6 (.bo .mod (.v 6) (.bo .add (.v 3) (.ki 1)))))) .n) (.c (.ie (.h .lt .le (.v 3) (.v 6) (.v 5)) (.o (.l (.st 6 (.bo .add (.v 5) (.ki 1))))) .n) (.c (.ie (.c .eq (.ix (.ix (.v 0) (.v 6)) (.ki 0)) (.ks "go")) (.o (.l (.st 6 (.ki 0)))) .n) (.c (.l (.si 0 (.v 3) (.tu (.c (.ks "part") (.c (.ix (.ix (.v 0) (.v 3)) (.ki 1)) (.c (.bo .add (.v 5) (.ki 1)) .n)))))) (.c (.l (.si 0 (.v 5) (.tu (.c (.ks "go") (.c (.v 6) .n))))) (.o (.l (.rt (.v 0))))))))))))))))⟩
noncomputable def G5:List C.Dd:=wO::G4
noncomputable def Jo:List C.FT:=.oo sf::Jn
theorem XF:C.tab G5=Jo:=C.yB XE rfl rfl rfl
noncomputable def sr:Ev→Option Fl :=
 (aq (av 6 (ay ic (ae (jV 0) (ae (ag bC (jC (.int 2)) (jV 5)) ah))))
 (aq (cF 4 (ay pF (ae (ag bC (ag eQ (ag bW (jV 6) (jC (.int 11))) (jC (.int 11))) (ag aR (jV 6) (jC (.int 7)))) (ae (ay ib (ae (jV 6) (ae (jV 5) ah))) (ae (jV 2) (ae (jV 3) ah))))))
 (cF 4 (aM (ae (jC (.str "go")) (ae (ag g6 (ag eQ (jC (.int 2)) (jV 5)) (jC (.int 1))) ah))))))
noncomputable def BR:Ev→Option Fl :=
 (aq (av 2 (ay mV (ae (ay ic (ae (jV 0) (ae (jC (.int 0)) ah))) ah)))
 (aq (av 3 (ay mW (ae (jV 0) (ae (jV 2) ah))))
 (aq (av 4 (bp (ae (aM (ae (jC (.str "go")) (ae (ag g6 (ag eQ (jC (.int 2)) (jV 1)) (jC (.int 1))) ah))) ah)))
 (aq (bf (bN (ae (jV 1) ah)) (gN 5)
  sr)
 (aq (fq 4 (jC (.int 2)) (aM (ae (jC (.str "go")) (ae (ag bC (ag eQ (jC (.int 2)) (jV 1)) (jC (.int 1))) ah))))
 (aK (ag bC (jV 4) (bp (ae (aM (ae (jC (.str "end")) ah)) ah)))))))))
noncomputable def sY:List D→Option (M×D):=fn 7 BR
noncomputable def wQ:C.Dd:=⟨"_law_stairs",top 30,["_law_script", "_law_many"],["_law_script", "_law_many", "_law_names_here", "_law_deeds_here", "_law_rows", "_law_k", "_law_cell_here"],3,none,(.c (.l (.st 2 (.ca 9 (.c (.ca 12 (.c (.v 0) (.c (.ki 0) .n))) .n)))) (.c (.l (.st 3 (.ca 7 (.c (.v 0) (.c (.v 2) .n))))) (.c (.l (.st 4 (.li (.c (.tu (.c (.ks "go") (.c (.bo .sub (.bo .mul (.ki 2) (.v 1)) (.ki 1)) .n))) .n)))) (.c (.fo (.r1 (.c (.v 1) .n)) (.n 5) (.c (.l (.st 6 (.ca 12 (.c (.v 0) (.c (.bo .add (.ki 2) (.v 5)) .n))))) (.c (.l (.ap 4 (.ca 6 (.c (.bo .add (.bo .mul (.bo .div (.v 6) (.ki 11)) (.ki 11)) (.bo .mod (.v 6) (.ki 7))) (.c (.ca 11 (.c (.v 6) (.c (.v 5) .n))) (.c (.v 2) (.c (.v 3) .n))))))) (.o (.l (.ap 4 (.tu (.c (.ks "go") (.c (.bo .sub (.bo .mul (.ki 2) (.v 5)) (.ki 1)) .n))))))))) (.c (.l (.si 4 (.ki 2) (.tu (.c (.ks "go") (.c (.bo .add (.bo .mul (.ki 2) (.v 1)) (.ki 1)) .n))))) (.o (.l (.rt (.bo .add (.v 4) (.li (.c (.tu (.c (.ks "end") .n)) .n)))))))))))⟩
noncomputable def G6:List C.Dd:=wQ::G5
noncomputable def Jp:List C.FT:=.p sY::Jo
theorem XG:C.tab G6=Jp:=C.bK XF rfl rfl rfl
noncomputable def BL:Ev→Option Fl :=
 (aq (av 5 (ag aR (jV 0) (jC (.int 14))))
 (aq (av 6 (ag bW (jV 0) (jC (.int 14))))
 (aq (aO (jB (ag fD (jV 5) (jC (.int 6))))
  (aq (lX (gT 3 (cq (gN 7) (cq (gN 8) (cq (gN 9) fL)))) (ag ao (jV 4) (ag aR (ag bW (jV 6) (aI bx (ae (jV 3) ah))) (aI bx (ae (jV 4) ah)))))
 (aK (aM (ae (jC (.str "reckon")) (ae (ag ao (jV 3) (ag aR (jV 6) (aI bx (ae (jV 3) ah)))) (ae (jV 7) (ae (jV 8) (ae (jV 9) ah))))))))
  aY)
 (aq (aO (jB (ag fD (jV 5) (jC (.int 8))))
  (aK (aM (ae (jC (.str "copy")) (ae (ag ao (jV 3) (ag aR (jV 6) (aI bx (ae (jV 3) ah)))) (ae (ay ia (ae (ag bW (jV 6) (aI bx (ae (jV 3) ah))) (ae (jV 3) ah))) ah)))))
  aY)
 (aq (aO (jB (ag fD (jV 5) (jC (.int 10))))
  (aK (aM (ae (jC (.str "say")) (ae (ay ia (ae (jV 6) (ae (jV 3) ah))) ah))))
  aY)
 (aq (aO (bX (jB (ag fD (jV 5) (jC (.int 12)))) (jB (ag gR (jV 2) (jC (.int 1)))))
  (aK (aM (ae (jC (.str "part")) (ae (ay ia (ae (ag bW (jV 6) (ag g6 (jV 2) (jC (.int 1)))) (ae (jV 3) ah))) (ae (ag aR (ag bC (ag bC (jV 1) (jC (.int 2))) (ag aR (jV 6) (ag g6 (jV 2) (jC (.int 1))))) (jV 2)) ah)))))
  aY)
 (aq (aO (jB (ag aL (jV 5) (jC (.int 12))))
  (aK (aM (ae (jC (.str "go")) (ae (ag aR (jV 6) (jV 2)) ah))))
  aY)
 (aK (aM (ae (jC (.str "end")) ah))))))))))
noncomputable def oV:List D→Option (M×D):=fn 10 BL
noncomputable def wR:C.Dd:=⟨"_law_any_row",top 31,["_law_cell_here", "_law_n", "_law_many", "_law_names_here", "_law_deeds_here"],["_law_cell_here", "_law_n", "_law_many", "_law_names_here", "_law_deeds_here", "_law_kind", "_law_rest", "_law_s", "_law_a", "_law_b"],1,none,(.c (.l (.st 5 (.bo .mod (.v 0) (.ki 14)))) (.c (.l (.st 6 (.bo .div (.v 0) (.ki 14)))) (.c (.ie (.c .lt (.v 5) (.ki 6)) (.c (.l (.as (.t 3 (.c (.n 7) (.c (.n 8) (.c (.n 9) .n)))) (.ix (.v 4) (.bo .mod (.bo .div (.v 6) (.fb .len (.c (.v 3) .n))) (.fb .len (.c (.v 4) .n)))))) (.o (.l (.rt (.tu (.c (.ks "reckon") (.c (.ix (.v 3) (.bo .mod (.v 6) (.fb .len (.c (.v 3) .n)))) (.c (.v 7) (.c (.v 8) (.c (.v 9) .n)))))))))) .n) (.c (.ie (.c .lt (.v 5) (.ki 8)) (.o (.l (.rt (.tu (.c (.ks "copy") (.c (.ix (.v 3) (.bo .mod (.v 6) (.fb .len (.c (.v 3) .n)))) (.c (.ca 9 (.c (.bo .div (.v 6) (.fb .len (.c (.v 3) .n))) (.c (.v 3) .n))) .n))))))) .n) (.c (.ie (.c .lt (.v 5) (.ki 10)) (.o (.l (.rt (.tu (.c (.ks "say") (.c (.ca 9 (.c (.v 6) (.c (.v 3) .n))) .n)))))) .n) (.c (.ie (.an (.c .lt (.v 5) (.ki 12)) (.c .gt (.v 2) (.ki 1))) (.o (.l (.rt (.tu (.c (.ks "part") (.c (.ca 9 (.c (.bo .div (.v 6) (.bo .sub (.v 2) (.ki 1))) (.c (.v 3) .n))) (.c (.bo .mod (.bo .add (.bo .add (.v 1) (.ki 2)) (.bo .mod (.v 6) (.bo .sub (.v 2) (.ki 1)))) (.v 2)) .n))))))) .n) (.c (.ie (.c .eq (.v 5) (.ki 12)) (.o (.l (.rt (.tu (.c (.ks "go") (.c (.bo .mod (.v 6) (.v 2)) .n)))))) .n) (.o (.l (.rt (.tu (.c (.ks "end") .n))))))))))))⟩
noncomputable def G7:List C.Dd:=wR::G6
noncomputable def Jq:List C.FT:=.p oV::Jp
theorem XH:C.tab G7=Jq:=C.bK XG rfl rfl rfl
noncomputable def J9:Ev→Option Fl :=
 (aq (av 2 (ag ao (jV 0) (jV 1)))
 (aq (aO (jB (ag aL (ag ao (jV 2) (jC (.int 0))) (jC (.str "end"))))
  (aK (bp ah))
  aY)
 (aq (aO (jB (ag aL (ag ao (jV 2) (jC (.int 0))) (jC (.str "go"))))
  (aK (bp (ae (ag ao (jV 2) (jC (.int 1))) ah)))
  aY)
 (aq (aO (jB (ag aL (ag ao (jV 2) (jC (.int 0))) (jC (.str "part"))))
  (aK (bp (ae (ag bC (jV 1) (jC (.int 1))) (ae (ag ao (jV 2) (jC (.int 2))) ah))))
  aY)
 (aK (bp (ae (ag bC (jV 1) (jC (.int 1))) ah)))))))
noncomputable def oR:List D→Option (M×D):=fn 3 J9
noncomputable def wU:C.Dd:=⟨"_law_followers",top 36,["_law_program_here", "_law_n"],["_law_program_here", "_law_n", "_law_row_here"],0,none,(.c (.l (.st 2 (.ix (.v 0) (.v 1)))) (.c (.ie (.c .eq (.ix (.v 2) (.ki 0)) (.ks "end")) (.o (.l (.rt (.li .n)))) .n) (.c (.ie (.c .eq (.ix (.v 2) (.ki 0)) (.ks "go")) (.o (.l (.rt (.li (.c (.ix (.v 2) (.ki 1)) .n))))) .n) (.c (.ie (.c .eq (.ix (.v 2) (.ki 0)) (.ks "part")) (.o (.l (.rt (.li (.c (.bo .add (.v 1) (.ki 1)) (.c (.ix (.v 2) (.ki 2)) .n)))))) .n) (.o (.l (.rt (.li (.c (.bo .add (.v 1) (.ki 1)) .n)))))))))⟩
noncomputable def G8:List C.Dd:=wU::G7
noncomputable def Jr:List C.FT:=.p oR::Jq
theorem XI:C.tab G8=Jr:=C.bK XH rfl rfl rfl
noncomputable def oQ:Ev→Option Fl :=
 (aO (jB (ag aL (ag ao (ag ao (jV 0) (jV 3)) (jC (.int 0))) (jC (.str "end"))))
  (gZ 2 (jV 3) (jC (.bl true)))
  aY)
noncomputable def rY:Ev→Option Fl :=
 (aq (lX (gT 2 (cq (gN 6) (cq (gN 7) fL))) (ag ao (bp (ae (aM (ae (jV 5) (ae (jV 3) ah))) (ae (aM (ae (jV 3) (ae (jV 5) ah))) ah))) (aI kQ (ae (jV 1) ah))))
 (aO (bX (jB (du false (jV 6) (jV 2))) (jB (du true (jV 7) (jV 2))))
  (aq (gZ 2 (jV 7) (jC (.bl true)))
 (av 4 (jC (.bl true))))
  aY))
noncomputable def rZ:Ev→Option Fl :=
 (bf (bQ (ay oR (ae (jV 0) (ae (jV 3) ah)))) (gN 5)
  rY)
noncomputable def r6:Ev→Option Fl :=
 (aq (av 4 (jC (.bl false)))
 (bf (bN (ae (aI bx (ae (jV 0) ah)) ah)) (gN 3)
  rZ))
noncomputable def xm:Ev→Option Bool :=
 (jB (jV 4))
noncomputable def BF:Ev→Option Fl :=
 (aq (av 2 (yV (jC (.int 0)) (jC (.bl true))))
 (aq (aO (g7 (jB (jV 1)))
  (aq (av 2 nz)
 (bf (bN (ae (aI bx (ae (jV 0) ah)) ah)) (gN 3)
  oQ))
  aY)
 (aq (av 4 (jC (.bl true)))
 (aq (gB xm
  r6)
 (aK (jV 2))))))
noncomputable def oS:List D→Option (M×D):=fn 8 BF
noncomputable def wV:C.Dd:=⟨"_law_comes_to",top 32,["_law_rows", "_law_ahead"],["_law_rows", "_law_ahead", "_law_seen", "_law_n", "_law_more", "_law_m", "_law_one", "_law_other"],1,none,(.c (.l (.st 2 (.d1 (.ki 0) (.kb true)))) (.c (.ie (.nt (.b (.v 1))) (.c (.l (.st 2 .dK)) (.o (.fo (.r1 (.c (.fb .len (.c (.v 0) .n)) .n)) (.n 3) (.o (.ie (.c .eq (.ix (.ix (.v 0) (.v 3)) (.ki 0)) (.ks "end")) (.o (.l (.dp 2 (.v 3) (.kb true)))) .n))))) .n) (.c (.l (.st 4 (.kb true))) (.c (.wh (.b (.v 4)) (.c (.l (.st 4 (.kb false))) (.o (.fo (.r1 (.c (.fb .len (.c (.v 0) .n)) .n)) (.n 3) (.o (.fo (.l (.ca 0 (.c (.v 0) (.c (.v 3) .n)))) (.n 5) (.c (.l (.as (.t 2 (.c (.n 6) (.c (.n 7) .n))) (.ix (.li (.c (.tu (.c (.v 5) (.c (.v 3) .n))) (.c (.tu (.c (.v 3) (.c (.v 5) .n))) .n))) (.fb .int (.c (.v 1) .n))))) (.o (.ie (.an (.d false (.v 6) (.v 2)) (.d true (.v 7) (.v 2))) (.c (.l (.dp 2 (.v 7) (.kb true))) (.o (.l (.st 4 (.kb true))))) .n))))))))) (.o (.l (.rt (.v 2))))))))⟩
noncomputable def G9:List C.Dd:=wV::G8
noncomputable def Js:List C.FT:=.p oS::Jr
theorem XJ:C.tab G9=Js:=C.bK XI rfl rfl rfl
noncomputable def oT:Ev→Option Fl :=
 (aq (av 3 (ay oS (ae (jV 0) (ae (jC (.bl true)) ah))))
 (aq (av 4 (ay oS (ae (jV 0) (ae (jC (.bl false)) ah))))
 (aq (av 5 (cC (bN (ae (aI bx (ae (jV 0) ah)) ah)) [3] (jB (du true (jV 0) (jV 1))) (jV 0)))
 (aq (av 6 (cC (bN (ae (aI bx (ae (jV 0) ah)) ah)) [4] (jB (du true (jV 0) (jV 1))) (jV 0)))
 (aO (jB (ag eR (jV 5) (bp ah)))
  (fq 0 (ag g6 (ag ao (jV 5) (jC (.int 0))) (jC (.int 1))) (aM (ae (jC (.str "say")) (ae (jV 2) ah))))
  (aO (bX (jB (ag eR (jV 6) (bp ah))) (jB (ag aL (ag ao (jV 6) (cB dX (jC (.int 1)))) (jV 1))))
  (fq 0 (jV 1) (aM (ae (jC (.str "end")) ah)))
  (aO (jB (ag eR (jV 6) (bp ah)))
  (fq 0 (ag ao (jV 6) (cB dX (jC (.int 1)))) (aM (ae (jC (.str "say")) (ae (jV 2) ah))))
  (aK (jV 0)))))))))
noncomputable def BU:Ev→Option Fl :=
 (aq (av 1 (ag g6 (aI bx (ae (jV 0) ah)) (jC (.int 1))))
 (aq (aO (jB (ag dS (ag ao (ag ao (jV 0) (jV 1)) (jC (.int 0))) (jC (.str "go"))))
  (fq 0 (jV 1) (aM (ae (jC (.str "end")) ah)))
  aY)
 (aq (bf (bN (ae (ag eQ (jC (.int 2)) (aI bx (ae (jV 0) ah))) ah)) (gN 2)
  oT)
 (aK (jV 0)))))
noncomputable def oW:List D→Option D:=i6 7 BU
noncomputable def wW:C.Dd:=⟨"_law_mended",top 33,["_law_rows"],["_law_rows", "_law_last_here", "_law_turn", "_law_seen", "_law_near", "_law_lost", "_law_dead"],2,some [],(.c (.l (.st 1 (.bo .sub (.fb .len (.c (.v 0) .n)) (.ki 1)))) (.c (.ie (.c .ne (.ix (.ix (.v 0) (.v 1)) (.ki 0)) (.ks "go")) (.o (.l (.si 0 (.v 1) (.tu (.c (.ks "end") .n))))) .n) (.c (.fo (.r1 (.c (.bo .mul (.ki 2) (.fb .len (.c (.v 0) .n))) .n)) (.n 2) (.c (.l (.st 3 (.ca 0 (.c (.v 0) (.c (.kb true) .n))))) (.c (.l (.st 4 (.ca 0 (.c (.v 0) (.c (.kb false) .n))))) (.c (.l (.sc 5 (.r1 (.c (.fb .len (.c (.v 0) .n)) .n)) [3] (.d true (.v 0) (.v 1)) (.v 0))) (.c (.l (.sc 6 (.r1 (.c (.fb .len (.c (.v 0) .n)) .n)) [4] (.d true (.v 0) (.v 1)) (.v 0))) (.o (.ie (.c .j5 (.v 5) (.li .n)) (.o (.l (.si 0 (.bo .sub (.ix (.v 5) (.ki 0)) (.ki 1)) (.tu (.c (.ks "say") (.c (.v 2) .n)))))) (.o (.ie (.an (.c .j5 (.v 6) (.li .n)) (.c .eq (.ix (.v 6) (.uo .neg (.ki 1))) (.v 1))) (.o (.l (.si 0 (.v 1) (.tu (.c (.ks "end") .n))))) (.o (.ie (.c .j5 (.v 6) (.li .n)) (.o (.l (.si 0 (.ix (.v 6) (.uo .neg (.ki 1))) (.tu (.c (.ks "say") (.c (.v 2) .n)))))) (.o (.l (.rt (.v 0))))))))))))))) (.o (.l (.rt (.v 0)))))))⟩
noncomputable def Hc:List C.Dd:=wW::G9
noncomputable def Jt:List C.FT:=.oo oW::Js
theorem XM:C.tab Hc=Jt:=C.yB XJ rfl rfl rfl
noncomputable def Bv:Ev→Option Fl :=
 (aq (av 2 (ay mV (ae (ay ic (ae (jV 0) (ae (jC (.int 0)) ah))) ah)))
 (aq (av 3 (ay mW (ae (jV 0) (ae (jV 2) ah))))
 (aq (av 4 (aI lV (ae (jC (.int 1)) (ae (aI bx (ae (jV 1) ah)) ah))))
 (aq (av 5 (bp (ae (aM (ae (jC (.str "end")) ah)) ah)))
 (aq (aO (jB (ag gR (aI bx (ae (jV 1) ah)) (jC (.int 0))))
  (av 5 (cC (bN (ae (jV 4) ah)) [4,2,3,1] kW (ay oV (ae (ag ao (jV 4) (jV 0)) (ae (jV 0) (ae (jV 1) (ae (jV 2) (ae (jV 3) ah))))))))
  aY)
 (jF [5] [(0,5)] oW (ae (jV 5) ah)))))))
noncomputable def rW:List D→Option (M×D):=fn 6 Bv
noncomputable def wX:C.Dd:=⟨"_law_any_program",top 34,["_law_script", "_law_cells"],["_law_script", "_law_cells", "_law_names_here", "_law_deeds_here", "_law_many", "_law_rows"],3,none,(.c (.l (.st 2 (.ca 14 (.c (.ca 17 (.c (.v 0) (.c (.ki 0) .n))) .n)))) (.c (.l (.st 3 (.ca 12 (.c (.v 0) (.c (.v 2) .n))))) (.c (.l (.st 4 (.fb .max (.c (.ki 1) (.c (.fb .len (.c (.v 1) .n)) .n))))) (.c (.l (.st 5 (.li (.c (.tu (.c (.ks "end") .n)) .n)))) (.c (.ie (.c .gt (.fb .len (.c (.v 1) .n)) (.ki 0)) (.o (.l (.sc 5 (.r1 (.c (.v 4) .n)) [4,2,3,1] .y (.ca 3 (.c (.ix (.v 4) (.v 0)) (.c (.v 0) (.c (.v 1) (.c (.v 2) (.c (.v 3) .n))))))))) .n) (.o (.l (.rO 0 [5] (.c (.v 5) .n)))))))))⟩
noncomputable def Hd:List C.Dd:=wX::Hc
noncomputable def Ju:List C.FT:=.p rW::Jt
theorem XO:C.tab Hd=Ju:=C.bK XM rfl rfl rfl
noncomputable def sg:Ev→Option Fl :=
 (aq (aO (bX (jB (ag aL (ag ao (jV 6) (jC (.int 0))) (jC (.str "part")))) (jB (ag aL (ag ao (jV 6) (jC (.int 2))) (cB dX (jC (.int 1))))))
  (av 6 (aM (ae (jC (.str "part")) (ae (ag ao (jV 6) (jC (.int 1))) (ae (ag bC (jV 5) (jC (.int 2))) ah)))))
  (aO (bX (jB (ag aL (ag ao (jV 6) (jC (.int 0))) (jC (.str "part")))) (jB (ag aL (ag aR (ag ao (jV 6) (jC (.int 2))) (aI bx (ae (jV 3) ah))) (ag bC (jV 5) (jC (.int 1))))))
  (av 6 (aM (ae (jC (.str "part")) (ae (ag ao (jV 6) (jC (.int 1))) (ae (jV 5) ah)))))
  (aO (jB (ag aL (ag ao (jV 6) (jC (.int 0))) (jC (.str "part"))))
  (av 6 (aM (ae (jC (.str "part")) (ae (ag ao (jV 6) (jC (.int 1))) (ae (ag aR (ag ao (jV 6) (jC (.int 2))) (aI bx (ae (jV 3) ah))) ah)))))
  (aO (jB (ag aL (ag ao (jV 6) (jC (.int 0))) (jC (.str "go"))))
  (av 6 (aM (ae (jC (.str "go")) (ae (ay tI (ae (jV 3) (ae (ag ao (jV 6) (jC (.int 1))) ah))) ah))))
  aY))))
 (cF 4 (jV 6)))
noncomputable def BM:Ev→Option Fl :=
 (aq (aO (jB (ay mR (ae (jV 0) ah)))
  (aK (ay rW (ae (jV 0) (ae (jV 1) ah))))
  aY)
 (aq (av 2 (ay j8 (ae (jV 0) (ae (jC (.int 57)) ah))))
 (aq (aO (jB (ag aL (ag aR (jV 2) (jC (.int 8))) (jC (.int 1))))
  (aK (ay sY (ae (jV 0) (ae (ag bC (jC (.int 1)) (ag aR (ag bW (jV 2) (jC (.int 8))) (jC (.int 28)))) ah))))
  aY)
 (aq (av 3 (ay tD (ae (jV 0) (ae (jV 1) ah))))
 (aq (av 4 (bp ah))
 (aq (cN 3 (bf (jo (ae (jV 3) ah)) (gT 2 (cq (gN 5) (cq (gN 6) fL)))
  sg))
 (jF [4] [(0,4)] sf (ae (jV 4) (ae (ay j8 (ae (jV 0) (ae (jC (.int 59)) ah))) ah)))))))))
noncomputable def sJ:List D→Option (M×D):=fn 7 BM
noncomputable def wY:C.Dd:=⟨"_law_program",top 35,["_law_script", "_law_cells"],["_law_script", "_law_cells", "_law_turn", "_law_rough_here", "_law_rows", "_law_n", "_law_row_here"],4,none,(.c (.ie (.b (.ca 16 (.c (.v 0) .n))) (.o (.l (.rt (.ca 0 (.c (.v 0) (.c (.v 1) .n)))))) .n) (.c (.l (.st 2 (.ca 10 (.c (.v 0) (.c (.ki 57) .n))))) (.c (.ie (.c .eq (.bo .mod (.v 2) (.ki 8)) (.ki 1)) (.o (.l (.rt (.ca 5 (.c (.v 0) (.c (.bo .add (.ki 1) (.bo .mod (.bo .div (.v 2) (.ki 8)) (.ki 28))) .n)))))) .n) (.c (.l (.st 3 (.ca 9 (.c (.v 0) (.c (.v 1) .n))))) (.c (.l (.st 4 (.li .n))) (.c (.fz 3 (.fo (.en (.c (.v 3) .n)) (.t 2 (.c (.n 5) (.c (.n 6) .n))) (.c (.ie (.an (.c .eq (.ix (.v 6) (.ki 0)) (.ks "part")) (.c .eq (.ix (.v 6) (.ki 2)) (.uo .neg (.ki 1)))) (.o (.l (.st 6 (.tu (.c (.ks "part") (.c (.ix (.v 6) (.ki 1)) (.c (.bo .add (.v 5) (.ki 2)) .n))))))) (.o (.ie (.an (.c .eq (.ix (.v 6) (.ki 0)) (.ks "part")) (.c .eq (.bo .mod (.ix (.v 6) (.ki 2)) (.fb .len (.c (.v 3) .n))) (.bo .add (.v 5) (.ki 1)))) (.o (.l (.st 6 (.tu (.c (.ks "part") (.c (.ix (.v 6) (.ki 1)) (.c (.v 5) .n))))))) (.o (.ie (.c .eq (.ix (.v 6) (.ki 0)) (.ks "part")) (.o (.l (.st 6 (.tu (.c (.ks "part") (.c (.ix (.v 6) (.ki 1)) (.c (.bo .mod (.ix (.v 6) (.ki 2)) (.fb .len (.c (.v 3) .n))) .n))))))) (.o (.ie (.c .eq (.ix (.v 6) (.ki 0)) (.ks "go")) (.o (.l (.st 6 (.tu (.c (.ks "go") (.c (.ca 8 (.c (.v 3) (.c (.ix (.v 6) (.ki 1)) .n))) .n)))))) .n))))))) (.o (.l (.ap 4 (.v 6))))))) (.o (.l (.rO 6 [4] (.c (.v 4) (.c (.ca 10 (.c (.v 0) (.c (.ki 59) .n))) .n)))))))))))⟩
noncomputable def He:List C.Dd:=wY::Hd
noncomputable def Jv:List C.FT:=.p sJ::Ju
theorem XQ:C.tab He=Jv:=C.bK XO rfl rfl rfl
noncomputable def su:Ev→Option Fl :=
 (cF 1 (aM (ae (jV 2) (ae (jV 3) ah))))
noncomputable def sv:Ev→Option Fl :=
 (bf (bQ (ay oR (ae (jV 0) (ae (jV 2) ah)))) (gN 3)
  su)
noncomputable def BV:Ev→Option Fl :=
 (aq (av 1 (bp (ae (aM (ae (cB dX (jC (.int 1))) (ae (jC (.int 0)) ah))) ah)))
 (aq (bf (bN (ae (aI bx (ae (jV 0) ah)) ah)) (gN 2)
  sv)
 (aK (jV 1))))
noncomputable def oX:List D→Option (M×D):=fn 4 BV
noncomputable def wZ:C.Dd:=⟨"_law_places",top 37,["_law_program_here"],["_law_program_here", "_law_found", "_law_n", "_law_m"],1,none,(.c (.l (.st 1 (.li (.c (.tu (.c (.uo .neg (.ki 1)) (.c (.ki 0) .n))) .n)))) (.c (.fo (.r1 (.c (.fb .len (.c (.v 0) .n)) .n)) (.n 2) (.o (.fo (.l (.ca 4 (.c (.v 0) (.c (.v 2) .n)))) (.n 3) (.o (.l (.ap 1 (.tu (.c (.v 2) (.c (.v 3) .n))))))))) (.o (.l (.rt (.v 1))))))⟩
noncomputable def Hf:List C.Dd:=wZ::He
noncomputable def Jw:List C.FT:=.p oX::Jv
theorem XR:C.tab Hf=Jw:=C.bK XQ rfl rfl rfl
noncomputable def C0:Ev→Option Fl :=
 (aK (kO (ag aL (ag ao (jV 0) (jC (.int 0))) (jC (.str "reckon"))) (ag gG (fE gq (jV 0) (eZ (jC (.int 2))) gi) (jV 1))))
noncomputable def pG:List D→Option (M×D):=fn 2 C0
noncomputable def w4:C.Dd:=⟨"_law_has",top 38,["_law_row_here", "_law_deed"],["_law_row_here", "_law_deed"],0,none,(.o (.l (.rt (.an (.co .eq (.ix (.v 0) (.ki 0)) (.ks "reckon")) (.co .oF (.sl (.v 0) (.s (.ki 2)) .n) (.v 1))))))⟩
noncomputable def Hg:List C.Dd:=w4::Hf
noncomputable def Jx:List C.FT:=.p pG::Jw
theorem XS:C.tab Hg=Jx:=C.bK XR rfl rfl rfl
noncomputable def BO:Ev→Option Fl :=
 (aK (kO (ag (dY false) (ag ao (jV 0) (jC (.int 0))) (aM (ae (jC (.str "reckon")) (ae (jC (.str "copy")) ah)))) (ag (dY false) (ag ao (jV 0) (jC (.int 1))) (fE gq (jV 1) (eZ (jC (.int 1))) gi))))
noncomputable def mS:List D→Option (M×D):=fn 2 BO
noncomputable def w5:C.Dd:=⟨"_law_changes",top 39,["_law_row_here", "_law_deed"],["_law_row_here", "_law_deed"],0,none,(.o (.l (.rt (.an (.co .lg (.ix (.v 0) (.ki 0)) (.tu (.c (.ks "reckon") (.c (.ks "copy") .n)))) (.co .lg (.ix (.v 0) (.ki 1)) (.sl (.v 1) (.s (.ki 1)) .n))))))⟩
noncomputable def Hh:List C.Dd:=w5::Hg
noncomputable def Jy:List C.FT:=.p mS::Jx
theorem XT:C.tab Hh=Jy:=C.bK XS rfl rfl rfl
noncomputable def sM:Ev→Option Fl :=
 (aO (bX (jB (ag aL (ag ao (jV 2) (jC (.int 0))) (jC (.str "reckon")))) (jB (ag (iC true) (fE gq (jV 2) (eZ (jC (.int 2))) gi) (jV 1))))
  (cF 1 (fE gq (jV 2) (eZ (jC (.int 2))) gi))
  aY)
noncomputable def B9:Ev→Option Fl :=
 (aq (av 1 (bp ah))
 (aq (cN 0 (bf (bQ (jV 0)) (gN 2)
  sM))
 (aK (jV 1))))
noncomputable def tE:List D→Option (M×D):=fn 3 B9
noncomputable def w6:C.Dd:=⟨"_law_known",top 40,["_law_program_here"],["_law_program_here", "_law_found", "_law_row_here"],0,none,(.c (.l (.st 1 (.li .n))) (.c (.fz 0 (.fo (.l (.v 0)) (.n 2) (.o (.ie (.an (.c .eq (.ix (.v 2) (.ki 0)) (.ks "reckon")) (.c .rD (.sl (.v 2) (.s (.ki 2)) .n) (.v 1))) (.o (.l (.ap 1 (.sl (.v 2) (.s (.ki 2)) .n)))) .n)))) (.o (.l (.rt (.v 1))))))⟩
noncomputable def Hi:List C.Dd:=w6::Hh
noncomputable def Jz:List C.FT:=.p tE::Jy
theorem XU:C.tab Hi=Jz:=C.bK XT rfl rfl rfl
noncomputable def Cy:Ev→Option Fl :=
 (aK (ay sJ (ae (jV 0) (ae (fE gq (jV 0) (eZ (jC (.int 2))) (eZ (jC (.int 18)))) ah))))
noncomputable def tJ:List D→Option (M×D):=fn 1 Cy
noncomputable def w9:C.Dd:=⟨"_law_made",top 41,["_law_script"],["_law_script"],5,none,(.o (.l (.rt (.ca 4 (.c (.v 0) (.c (.sl (.v 0) (.s (.ki 2)) (.s (.ki 18))) .n))))))⟩
noncomputable def Hj:List C.Dd:=w9::Hi
noncomputable def JA:List C.FT:=.p tJ::Jz
theorem XW:C.tab Hj=JA:=C.bK XU rfl rfl rfl
noncomputable def sN:Ev→Option Fl :=
 (aq (aO (jB (ag aL (ag aR (jV 3) (jC (.int 2))) (jC (.int 1))))
  (cF 4 (jV 5))
  aY)
 (av 3 (ag bW (jV 3) (jC (.int 2)))))
noncomputable def sO:Ev→Option Fl :=
 (aO (jB (ay pG (ae (ag ao (jV 1) (jV 7)) (ae (jV 2) ah))))
  (aq (cF 6 (aM (ae (jV 7) (ae (ag ao (bp (ae (jC (.str "own")) (ae (jC (.str "keep")) (ae (jC (.str "read")) ah)))) (ag aR (jV 3) (jC (.int 3)))) ah))))
 (av 3 (ag bW (jV 3) (jC (.int 3)))))
  aY)
noncomputable def Ca:Ev→Option Fl :=
 (aq (av 3 (ay j8 (ae (jV 0) (ae (jC (.int 60)) ah))))
 (aq (av 4 (bp ah))
 (aq (bf (bQ (ay oX (ae (jV 1) ah))) (gN 5)
  sN)
 (aq (av 3 (ay j8 (ae (jV 0) (ae (jC (.int 61)) ah))))
 (aq (av 6 (bp ah))
 (aq (bf (bN (ae (aI bx (ae (jV 1) ah)) ah)) (gN 7)
  sO)
 (aK (aM (ae (aI pY (ae (jV 4) ah)) (ae (aI pY (ae (jV 6) ah)) ah))))))))))
noncomputable def tF:List D→Option (M×D):=fn 8 Ca
noncomputable def xa:C.Dd:=⟨"_law_sheet",top 42,["_law_script", "_law_program_here", "_law_deed"],["_law_script", "_law_program_here", "_law_deed", "_law_rest", "_law_kept", "_law_spot", "_law_hows", "_law_n"],3,none,(.c (.l (.st 3 (.ca 16 (.c (.v 0) (.c (.ki 60) .n))))) (.c (.l (.st 4 (.li .n))) (.c (.fo (.l (.ca 4 (.c (.v 1) .n))) (.n 5) (.c (.ie (.c .eq (.bo .mod (.v 3) (.ki 2)) (.ki 1)) (.o (.l (.ap 4 (.v 5)))) .n) (.o (.l (.st 3 (.bo .div (.v 3) (.ki 2))))))) (.c (.l (.st 3 (.ca 16 (.c (.v 0) (.c (.ki 61) .n))))) (.c (.l (.st 6 (.li .n))) (.c (.fo (.r1 (.c (.fb .len (.c (.v 1) .n)) .n)) (.n 7) (.o (.ie (.b (.ca 3 (.c (.ix (.v 1) (.v 7)) (.c (.v 2) .n)))) (.c (.l (.ap 6 (.tu (.c (.v 7) (.c (.ix (.li (.c (.ks "own") (.c (.ks "keep") (.c (.ks "read") .n)))) (.bo .mod (.v 3) (.ki 3))) .n))))) (.o (.l (.st 3 (.bo .div (.v 3) (.ki 3)))))) .n))) (.o (.l (.rt (.tu (.c (.fb .tuple (.c (.v 4) .n)) (.c (.fb .tuple (.c (.v 6) .n)) .n))))))))))))⟩
noncomputable def Hk:List C.Dd:=xa::Hj
noncomputable def JB:List C.FT:=.p tF::JA
theorem XX:C.tab Hk=JB:=C.bK XW rfl rfl rfl
noncomputable def xo:Ev→Option Fl :=
 (aq (kR 7 6)
 (aq (av 8 (pW (jV 4) (jV 7) (jC (.str ""))))
 (aq (aO (jB (ag aL (jV 8) (jC (.str "read"))))
  (aK (jC (.bl true)))
  aY)
 (aq (aO (cW (jB (du false (jV 7) (jV 5))) (cW (jB (ag aL (jV 8) (jC (.str "keep")))) (jB (ay mS (ae (ag ao (jV 0) (jV 7)) (ae (jV 1) ah))))))
  yR
  aY)
 (aq (gZ 5 (jV 7) (jC (.bl true)))
 (av 6 (ag bC (jV 6) (cC (bQ (ay oR (ae (jV 0) (ae (jV 7) ah)))) [7,2] (jB (ag (iC true) (aM (ae (jV 1) (ae (jV 0) ah))) (ag ao (jV 2) (jC (.int 0))))) (jV 0)))))))))
noncomputable def oY:Ev→Option Bool :=
 (jB (ag gR (aI bx (ae (jV 6) ah)) (jC (.int 0))))
noncomputable def Cz:Ev→Option Fl :=
 (aq (av 4 (aI nB (ae (ag ao (jV 2) (jC (.int 1))) ah)))
 (aq (av 5 nz)
 (aq (av 6 (bp (ae (jV 3) ah)))
 (aq (gB oY
  xo)
 (aK (jC (.bl false)))))))
noncomputable def pB:List D→Option (M×D):=fn 9 Cz
noncomputable def xc:C.Dd:=⟨"_law_asks",top 43,["_law_program_here", "_law_deed", "_law_sheet_here", "_law_m"],["_law_program_here", "_law_deed", "_law_sheet_here", "_law_m", "_law_hows", "_law_seen", "_law_left", "_law_n", "_law_how"],1,none,(.c (.l (.st 4 (.fb .qi (.c (.ix (.v 2) (.ki 1)) .n)))) (.c (.l (.st 5 .dK)) (.c (.l (.st 6 (.li (.c (.v 3) .n)))) (.c (.wh (.c .gt (.fb .len (.c (.v 6) .n)) (.ki 0)) (.c (.l (.po 7 6)) (.c (.l (.st 8 (.g2 (.v 4) (.v 7) (.ks "")))) (.c (.ie (.c .eq (.v 8) (.ks "read")) (.o (.l (.rt (.kb true)))) .n) (.c (.ie (.or (.d false (.v 7) (.v 5)) (.or (.c .eq (.v 8) (.ks "keep")) (.b (.ca 3 (.c (.ix (.v 0) (.v 7)) (.c (.v 1) .n)))))) (.o (.l .ct)) .n) (.c (.l (.dp 5 (.v 7) (.kb true))) (.o (.l (.st 6 (.bo .add (.v 6) (.cp (.l (.ca 10 (.c (.v 0) (.c (.v 7) .n)))) [7,2] (.c .rD (.tu (.c (.v 1) (.c (.v 0) .n))) (.ix (.v 2) (.ki 0))) (.v 0)))))))))))) (.o (.l (.rt (.kb false))))))))⟩
noncomputable def Hl:List C.Dd:=xc::Hk
noncomputable def JC:List C.FT:=.p pB::JB
theorem XY:C.tab Hl=JC:=C.bK XX rfl rfl rfl
noncomputable def C1:Ev→Option Fl :=
 (aK (cC (bQ (ay oX (ae (jV 0) ah))) [0,1,2] (jB (ay pB (ae (jV 1) (ae (jV 2) (ae (jV 3) (ae (ag ao (jV 0) (jC (.int 1))) ah)))))) (jV 0)))
noncomputable def pH:List D→Option (M×D):=fn 3 C1
noncomputable def xg:C.Dd:=⟨"_law_due",top 44,["_law_program_here", "_law_deed", "_law_sheet_here"],["_law_program_here", "_law_deed", "_law_sheet_here"],2,none,(.o (.l (.rt (.cp (.l (.ca 6 (.c (.v 0) .n))) [0,1,2] (.b (.ca 0 (.c (.v 1) (.c (.v 2) (.c (.v 3) (.c (.ix (.v 0) (.ki 1)) .n)))))) (.v 0)))))⟩
noncomputable def Hm:List C.Dd:=xg::Hl
noncomputable def JD:List C.FT:=.p pH::JC
theorem XZ:C.tab Hm=JD:=C.bK XY rfl rfl rfl
noncomputable def ui:Ev→Option Fl :=
 (aq (av 4 (ag ao (jV 2) (jV 3)))
 (aq (av 5 (ay tF (ae (jV 0) (ae (jV 1) (ae (jV 4) ah)))))
 (aq (av 6 (ay pH (ae (jV 1) (ae (jV 4) (ae (jV 5) ah)))))
 (aq (av 7 (ay nE (ae (jV 1) (ae (jV 3) (ae (jV 5) ah)))))
 (aq (aO (cW (g7 (jB (aI lY (ae (jV 7) (ae (jC (.ty "list")) ah))))) (jB (ag eR (jV 7) (jV 6))))
  (aK (jC (.bl false)))
  aY)
 (aq (yo 7)
 (aq (av 8 (aM (ae (aM ah) (ae (ag ao (jV 5) (jC (.int 1))) ah))))
 (aO (cW (jB (ag eR (ay nE (ae (jV 1) (ae (jV 3) (ae (jV 8) ah)))) (ay pH (ae (jV 1) (ae (jV 4) (ae (jV 8) ah)))))) (jB (ag eR (ay nE (ae (jV 1) (ae (jV 3) (ae (jV 5) ah)))) (jV 6))))
  (aK (jC (.bl false)))
  aY))))))))
noncomputable def F2:Ev→Option Fl :=
 (aq (av 1 (ay tJ (ae (jV 0) ah)))
 (aq (av 2 (ay tE (ae (jV 1) ah)))
 (aq (bf (bQ (fE gq (bp (ae (ag aR (ay ib (ae (ay ic (ae (jV 0) (ae (jC (.int 0)) ah))) (ae (jC (.int 8)) ah))) (aI lV (ae (jC (.int 1)) (ae (aI bx (ae (jV 2) ah)) ah)))) ah)) gi (eZ (aI bx (ae (jV 2) ah))))) (gN 3)
  ui)
 (aK (jC (.bl true))))))
noncomputable def uW:List D→Option (M×D):=fn 9 F2
noncomputable def xh:C.Dd:=⟨"law",top 45,["_law_script"],["_law_script", "_law_program_here", "_law_known_here", "_law_k", "_law_deed", "_law_sheet_here", "_law_due_here", "_law_found", "_law_bare"],6,none,(.c (.l (.st 1 (.ca 3 (.c (.v 0) .n)))) (.c (.l (.st 2 (.ca 4 (.c (.v 1) .n)))) (.c (.fo (.l (.sl (.li (.c (.bo .mod (.ca 26 (.c (.ca 27 (.c (.v 0) (.c (.ki 0) .n))) (.c (.ki 8) .n))) (.fb .max (.c (.ki 1) (.c (.fb .len (.c (.v 2) .n)) .n)))) .n)) .n (.s (.fb .len (.c (.v 2) .n))))) (.n 3) (.c (.l (.st 4 (.ix (.v 2) (.v 3)))) (.c (.l (.st 5 (.ca 2 (.c (.v 0) (.c (.v 1) (.c (.v 4) .n)))))) (.c (.l (.st 6 (.ca 0 (.c (.v 1) (.c (.v 4) (.c (.v 5) .n)))))) (.c (.l (.st 7 (.ca 28 (.c (.v 1) (.c (.v 3) (.c (.v 5) .n)))))) (.c (.ie (.or (.nt (.b (.fb .v3 (.c (.v 7) (.c (.ty "list") .n))))) (.c .j5 (.v 7) (.v 6))) (.o (.l (.rt (.kb false)))) .n) (.c (.l (.cl 7)) (.c (.l (.st 8 (.tu (.c (.tu .n) (.c (.ix (.v 5) (.ki 1)) .n))))) (.o (.ie (.or (.c .j5 (.ca 28 (.c (.v 1) (.c (.v 3) (.c (.v 8) .n)))) (.ca 0 (.c (.v 1) (.c (.v 4) (.c (.v 8) .n))))) (.c .j5 (.ca 28 (.c (.v 1) (.c (.v 3) (.c (.v 5) .n)))) (.v 6))) (.o (.l (.rt (.kb false)))) .n)))))))))) (.o (.l (.rt (.kb true)))))))⟩
noncomputable def vt:List C.Dd:=xh::Hm
noncomputable def X1:List C.FT:=.p uW::JD
theorem X2:C.tab vt=X1:=C.bK XZ rfl rfl rfl
theorem ok:C.uV bs gs vt=true:=by decide +kernel
theorem VQ:C.BA d1.nm d1.st d1.ps:=C.fX fun _ _ _ _ _ _ _=>rfl
theorem VR:C.BA d2.nm d2.st d2.ps:=C.fX fun _ _ _ _ _ _ _=>rfl
theorem VW:C.BA d3.nm d3.st d3.ps:=C.dU fun _ _ _ _ _ _ _ _=>rfl
theorem VX:C.BA d4.nm d4.st d4.ps:=C.dU fun _ _ _ _ _ _ _ _=>rfl
theorem VY:C.BA d5.nm d5.st d5.ps:=C.fX fun _ _ _ _ _ _ _=>rfl
theorem VZ:C.BA d6.nm d6.st d6.ps:=C.fX fun _ _ _ _ _ _ _=>rfl
theorem V0:C.BA d7.nm d7.st d7.ps:=C.fX fun _ _ _ _ _ _ _=>rfl
theorem V1:C.BA d8.nm d8.st d8.ps:=C.fX fun _ _ _ _ _ _ _=>rfl
theorem V2:C.BA d9.nm d9.st d9.ps:=C.dU fun _ _ _ _ _ _ _ _=>rfl
theorem Up:C.BA wu.nm wu.st wu.ps:=C.fX fun _ _ _ _ _ _ _=>rfl
theorem Uq:C.BA wx.nm wx.st wx.ps:=C.fX fun _ _ _ _ _ _ _=>rfl
theorem Ur:C.BA wy.nm wy.st wy.ps:=C.rL fun _ _ _ _ _ _ _ _ _=>rfl
theorem Us:C.BA wz.nm wz.st wz.ps:=C.rL fun _ _ _ _ _ _ _ _ _=>rfl
theorem Ut:C.BA wA.nm wA.st wA.ps:=C.rL fun _ _ _ _ _ _ _ _ _=>rfl
theorem Uu:C.BA wB.nm wB.st wB.ps:=C.dU fun _ _ _ _ _ _ _ _=>rfl
theorem Uv:C.BA wC.nm wC.st wC.ps:=C.dU fun _ _ _ _ _ _ _ _=>rfl
theorem Uw:C.BA wD.nm wD.st wD.ps:=C.fX fun _ _ _ _ _ _ _=>rfl
theorem Ux:C.BA wF.nm wF.st wF.ps:=C.fX fun _ _ _ _ _ _ _=>rfl
theorem Uy:C.BA wG.nm wG.st wG.ps:=C.dU fun _ _ _ _ _ _ _ _=>rfl
theorem Uz:C.BA wH.nm wH.st wH.ps:=C.dU fun _ _ _ _ _ _ _ _=>rfl
theorem UA:C.BA wI.nm wI.st wI.ps:=C.IC fun _ _ _ _ _ _ _ _ _ _=>rfl
theorem UB:C.BA wJ.nm wJ.st wJ.ps:=C.dU fun _ _ _ _ _ _ _ _=>rfl
theorem UC:C.BA wK.nm wK.st wK.ps:=C.dU fun _ _ _ _ _ _ _ _=>rfl
theorem UD:C.BA wL.nm wL.st wL.ps:=C.dU fun _ _ _ _ _ _ _ _=>rfl
theorem UE:C.BA wM.nm wM.st wM.ps:=C.dU fun _ _ _ _ _ _ _ _=>rfl
theorem UG:C.BA wN.nm wN.st wN.ps:=C.dU fun _ _ _ _ _ _ _ _=>rfl
theorem UH:C.BA wO.nm wO.st wO.ps:=C.dU fun _ _ _ _ _ _ _ _=>rfl
theorem UI:C.BA wQ.nm wQ.st wQ.ps:=C.dU fun _ _ _ _ _ _ _ _=>rfl
theorem UJ:C.BA wR.nm wR.st wR.ps:=C.Xn fun _ _ _ _ _ _ _ _ _ _ _=>rfl
theorem UK:C.BA wU.nm wU.st wU.ps:=C.dU fun _ _ _ _ _ _ _ _=>rfl
theorem UL:C.BA wV.nm wV.st wV.ps:=C.dU fun _ _ _ _ _ _ _ _=>rfl
theorem UM:C.BA wW.nm wW.st wW.ps:=C.fX fun _ _ _ _ _ _ _=>rfl
theorem UN:C.BA wX.nm wX.st wX.ps:=C.dU fun _ _ _ _ _ _ _ _=>rfl
theorem UO:C.BA wY.nm wY.st wY.ps:=C.dU fun _ _ _ _ _ _ _ _=>rfl
theorem UQ:C.BA wZ.nm wZ.st wZ.ps:=C.fX fun _ _ _ _ _ _ _=>rfl
theorem UR:C.BA w4.nm w4.st w4.ps:=C.dU fun _ _ _ _ _ _ _ _=>rfl
theorem UT:C.BA w5.nm w5.st w5.ps:=C.dU fun _ _ _ _ _ _ _ _=>rfl
theorem UU:C.BA w6.nm w6.st w6.ps:=C.fX fun _ _ _ _ _ _ _=>rfl
theorem UW:C.BA w9.nm w9.st w9.ps:=C.fX fun _ _ _ _ _ _ _=>rfl
theorem UX:C.BA xa.nm xa.st xa.ps:=C.rL fun _ _ _ _ _ _ _ _ _=>rfl
theorem UY:C.BA xc.nm xc.st xc.ps:=C.IC fun _ _ _ _ _ _ _ _ _ _=>rfl
theorem UZ:C.BA xg.nm xg.st xg.ps:=C.rL fun _ _ _ _ _ _ _ _ _=>rfl
theorem U0:C.BA xh.nm xh.st xh.ps:=C.fX fun _ _ _ _ _ _ _=>rfl
theorem ba:C.wm vt:=⟨U0,UZ,UY,UX,UW,UU,UT,UR,UQ,UO,UN,UM,UL,UK,UJ,UI,UH,UG,UE,UD,UC,UB,UA,Uz,Uy,Ux,Uw,Uv,Uu,Ut,Us,Ur,Uq,Up,V2,V1,V0,VZ,VY,VX,VW,VR,VQ,trivial⟩
end aN
namespace aN
open PySem L2 J
theorem cg{d:D}{ds:List D}{n:Nat}:((d::ds).map (fun d=>some (M.al,d))++List.replicate (n+1-(d::ds).length) none:Ev)=some (.al,d)::(ds.map (fun d=>some (M.al,d))++List.replicate (n-ds.length) none):=by simp
theorem a7{n:Nat}:(([]:List D).map (fun d=>some (M.al,d))++List.replicate (n+1-([]:List D).length) none:Ev)=none::(([]:List D).map (fun d=>some (M.al,d))++List.replicate (n-([]:List D).length) none):=rfl
theorem bD:(([]:List D).map (fun d=>some (M.al,d))++List.replicate (0-([]:List D).length) none:Ev)=[]:=rfl
theorem an{a b:Prop}(x:a)(y:b):a∧b:=⟨x,y⟩
def X3 :=
 an @lK<|an @cS<|an @FW<|an @yT<|an @ny<|an @yq<|an @T8<|an @T9<|an @nM<|an @lL<|an @dq<|an @cT<|an @Ub<|an @bh<|an @jD<|an @fI<|an @Pg<|an @gb<|an @uw<|an @ux<|an @yt<|an @fJ<|an @uz<|an @vk<|an @GA<|an @dn<|an @kj<|an @RX<|an @yu<|an @Bool.and_self<|an @Bool.and_true<|an @Bool.true_and<|an @Bool.false_eq_true<|an @decide_true<|an @decide_false<|an @Bool.not_true<|an @Bool.not_false<|an @vV<|an @mul_r<|an @iV<|an @div_ii<|an @T7<|an @Ky<|an @Kk<|an @aq.eq_1<|an @aO.eq_1<|an @jB.eq_1<|an @ag.eq_1<|an @cB.eq_1<|an @jV.eq_1<|an @aI.eq_1<|an @ae.eq_1<|an @ah.eq_1<|an @aK.eq_1<|an @av.eq_1<|an @aY.eq_1<|an @jC.eq_1<|an @ay.eq_1<|an @kO.eq_1<|an @qW.eq_1<|an @zy.eq_1<|an @bX.eq_1<|an @cW.eq_1<|an @g7.eq_1<|an @zz.eq_1<|an @aM.eq_1<|an @bp.eq_1<|an @iY.eq_1<|an @c9.eq_1<|an @cF.eq_1<|an @fq.eq_1<|an @lX.eq_1<|an @gL.eq_1<|an @cN.eq_1<|an @cw.eq_1<|an @bf.eq_1<|an @bQ.eq_1<|an @bN.eq_1<|an @dW.eq_1<|an @gN.eq_1<|an @kW.eq_1<|an @List.map_cons.{0,0} <| an @List.map_nil.{0,0} <| an @List.length_cons.{0} <| an @List.length_nil.{0} <| an @List.cons_append.{0} <| an @List.nil_append.{0} <| an @List.getElem?_cons_zero.{0} <| an @List.getElem?_cons_succ.{0} <| an @List.set_cons_zero.{0} <| an @List.set_cons_succ.{0} <| an @List.all_cons.{0} <| an @List.all_nil.{0} <| an @Option.bind_some.{0,0} <| an @Option.bind_none.{0,0} <| an @Option.map_some.{0,0} <| an @Option.map_none.{0,0} <| an @id_eq.{1} <| an @if_true.{1} <| an @if_false.{1} <| an @List.length_map.{0,0} <| an @and_self<|an @and_true<|an @true_and<|an @ne_eq.{1} <| an @not_false_eq_true<|an @fE.eq_1<|an @eZ.eq_1<|an @gi.eq_1<|an @nh.eq_1 @AF.eq_1
local macro_rules|`(tactic| walk_at "ev")=>`(tactic| simp -implicitDefEqProofs only [X3,cq,fL,b8,own,zC,fu,List.replicate,reduceIte,reduceCtorEq,Nat.reduceAdd,Nat.reduceSub,Nat.reduceLeDiff,Int.reducePow,Int.reduceNeg,Int.reduceLT,Int.reduceLE,Int.reduceToNat,Nat.reduceLT,Int.reduceEq,Int.reduceSub,Int.reduceAdd])
local macro_rules|`(tactic| walk_at "go")=>`(tactic| ((try walk_at "ev");repeat ((first|rw[div_ii (by omega)]|rw[iV (by omega)]|rw[mul_r (by omega)]|rw[FX (by omega)]|rw[mul_r (by split<;>omega)]);try walk_at "ev")))
theorem gz{α:Type}{a:α}{l:List α}:(a::l)[0]?=some a:=rfl
theorem gy{α:Type}{a:α}{l:List α}{i:Nat}:(a::l)[i+1]?=l[i]?:=List.getElem?_cons_succ
theorem oq{α β:Type}{a:α}{f:α→Option β}:(some a).bind f=f a:=rfl
theorem tz{α:Type}{a b:α}{l:List α}:(a::l).set 0 b=b::l:=rfl
theorem tq{α:Type}{a b:α}{l:List α}{i:Nat}:(a::l).set (i+1) b=a::l.set i b:=rfl
theorem mq{α β:Type}{a:α}{l:List α}{f:α→β}:(a::l).map f=f a::l.map f:=rfl
theorem mn{α β:Type}{f:α→β}:[].map f=[]:=rfl
theorem oy{α β:Type}{a:α}{f:α→β}:(some a).map f=some (f a):=rfl
theorem ln{α β:Type}{l:List α}{f:α→β}:(l.map f).length=l.length:=List.length_map _
theorem eW{c:Ev→Option Bool}{f g:Ev→Option Fl}{e:Ev}(h:c e=some false):aq (aO c f aY) g e=g e:=by simp[aq,aO,h,aY]
noncomputable abbrev AB:Str := "abcdefghijklmnopqrstuvwxyz"
theorem yD(x y:Str):(x++y).length=x.length+y.length:=by
 show(x.cps++y.cps).size=_
 rw[Array.size_append];rfl
theorem ke(ns:List Int)(k:Int)(h0:0≤k):∃c,ic [.lst (ns.map .int),.int k]=some (.fr,.int c):=by
 unfold ic fn Cu
 walk_at "ev"
 by_cases h:k<ns.length
 ·obtain⟨c,hc⟩:=Dq h0 h
  refine⟨c,?_⟩
  simp only[h,hc]
  walk_at "ev"
  simp only[EZ,vk]
 ·simp only[h]
  walk_at "go"
  exact⟨_,rfl⟩
theorem kc(c k:Int):∃x,ib [.int c,.int k]=some (.fr,.int x):=by
 unfold ib fn B5
 walk_at "go"
 exact⟨_,rfl⟩
theorem x9(ns:List Int):∃b,mR [.lst (ns.map .int)]=some (.fr,.bl b):=by
 obtain⟨c,hc⟩:=ke ns 0 (by omega)
 unfold mR fn BJ
 walk_at "ev"
 rw[hc]
 walk_at "go"
 exact⟨_,rfl⟩
theorem Np(c sz a k j:Int)(L:Option (M×D))(z:Str)(o:Option (M×D))(hz:z.length≤20)(h0:0≤j)(h1:j<9) :
  ∃z' o',oU [some (.fr,.int c),some (.fr,.str AB),some (.fr,.int sz),some (.fr,.int a),L,some (.fr,.int k),some (.fr,.str z),some (.fr,.int j),o]=some (.nx [some (.fr,.int c),some (.fr,.str AB),some (.fr,.int sz),some (.fr,.int a),L,some (.fr,.int k),some (.fr,.str z'),some (.fr,.int j),o'])∧z'.length≤z.length+1:=by
 have X4:AB.length≤sizeLine:=by decide
 have la:AB.cps.toList.length=26:=by decide +kernel
 have lb:(AB++("0123456789" : Str)).cps.toList.length=36:=by decide +kernel
 have sb:(AB++("0123456789" : Str)).length≤sizeLine:=by decide +kernel
 have sc:AB.length+("0123456789" : Str).length≤sizeLine:=by decide
 have h8:oU [some (.fr,.int c),some (.fr,.str AB),some (.fr,.int sz),some (.fr,.int a),L,some (.fr,.int k),some (.fr,.str z),some (.fr,.int j),o] =
  (aO (cW (jB (ag aL (jV 7) (jV 3))) (jB (ag aL (jV 7) (jC (.int 0)))))
   (av 6 (ag bC (jV 6) (ag ao (jV 1) (ag aR (ag bC (jV 8) (ag eQ (jV 5) (aI kQ (ae (ag aL (jV 7) (jV 3)) ah)))) (jC (.int 26))))))
   (av 6 (ag bC (jV 6) (ag ao (ag bC (jV 1) (jC (.str "0123456789"))) (ag aR (jV 8) (jC (.int 36)))))))
   [some (.fr,.int c),some (.fr,.str AB),some (.fr,.int sz),some (.fr,.int a),L,some (.fr,.int k),some (.fr,.str z),some (.fr,.int j),some (.fr,.int (c/192/(j+1)+5*j))]:=by
  unfold oU
  refine aw ?_
  walk_at "go"
 rw[h8]
 generalize c/192/(j+1)+5*j=st
 have fin:∀d,J.One d→∃y:Str,d=.str y∧y.length=1:=fun d ⟨cc,e⟩=>⟨_,e,rfl⟩
 have hc:∃b,(cW (jB (ag aL (jV 7) (jV 3))) (jB (ag aL (jV 7) (jC (.int 0))))) [some (.fr,.int c),some (.fr,.str AB),some (.fr,.int sz),some (.fr,.int a),L,some (.fr,.int k),some (.fr,.str z),some (.fr,.int j),some (.fr,.int st)]=some b:=by
  walk_at "ev"
  by_cases q:j=a
  ·simp only[q,decide_true];exact⟨_,rfl⟩
  ·simp only[q,decide_false];exact⟨_,rfl⟩
 obtain⟨b,hb⟩:=hc
 cases b with
 |true =>
  rw[bA hb]
  have hm:∀i:Int,∃y:Str,ao (.fr,.str AB) (.fr,.int (i%26))=some (.fr,.str y)∧y.length=1:=fun i=>by
   obtain⟨d,e,od⟩:=xZ (m:=.fr) (n:=.fr) (x:=AB) (i:=i%26) X4 (by omega) (by rw[la];omega)
   obtain⟨y,rfl,hy⟩:=fin d od
   exact⟨y,e,hy⟩
  walk_at "go"
  obtain⟨y,e,hy⟩:=hm (st+k*if decide (j=a)=true then 1 else 0)
  rw[e]
  walk_at "ev"
  rw[uv (by rw[hy];exact bP (show z.length+1≤21 by omega) (by decide))]
  walk_at "ev"
  exact⟨_,_,rfl,by rw[yD];omega⟩
 |false =>
  rw[bL hb]
  walk_at "ev"
  rw[uv sc]
  walk_at "go"
  obtain⟨d,e,od⟩:=xZ (m:=.fr) (n:=.fr) (x:=AB++("0123456789" : Str)) (i:=st%36) sb (by omega) (by rw[lb];omega)
  obtain⟨y,rfl,hy⟩:=fin d od
  rw[e]
  walk_at "ev"
  rw[uv (by rw[hy];exact bP (show z.length+1≤21 by omega) (by decide))]
  walk_at "ev"
  exact⟨_,_,rfl,by rw[yD];omega⟩
theorem Nq(c sz a k:Int)(fs:List Str)(o6 o7 o8:Option (M×D))(hs:0≤sz∧sz≤8)(hf:fs.length≤50) :
  ∃z bZ gu,sE [some (.fr,.int c),some (.fr,.str AB),some (.fr,.int sz),some (.fr,.int a),some (.bo,.lst (fs.map .str)),some (.fr,.int k),o6,o7,o8]=some (.nx [some (.fr,.int c),some (.fr,.str AB),some (.fr,.int sz),some (.fr,.int a),some (.bo,.lst ((fs++[z]).map .str)),some (.fr,.int k),some (.fr,.str z),bZ,gu])∧z.length≤20:=by
 obtain⟨e',l1,z,bZ,gu,he,hz⟩:=dI (g:=gN 7) (b:=oU) (m:=.fr) (ds:=bY 0 sz.toNat) (e:=[some (.fr,.int c),some (.fr,.str AB),some (.fr,.int sz),some (.fr,.int a),some (.bo,.lst (fs.map .str)),some (.fr,.int k),some (.fr,.str ""),o7,o8])
  (fun i e=>∃(z:Str) (o7 o8:Option (M×D)),e=[some (.fr,.int c),some (.fr,.str AB),some (.fr,.int sz),some (.fr,.int a),some (.bo,.lst (fs.map .str)),some (.fr,.int k),some (.fr,.str z),o7,o8]∧z.length≤i) ⟨"",o7,o8,rfl,a6 _⟩
  (fun i d e hd bz=>by
   obtain⟨z,o7,o8,he,hz⟩:=bz
   subst he
   obtain⟨hi,rfl⟩:=jE hd
   obtain⟨z',o',q,hl⟩:=Np c sz a k (0+(i:Int)) (some (.bo,.lst (fs.map .str))) z o8 (by omega) (by omega) (by omega)
   exact⟨_,_,rfl,q,z',_,o',rfl,by omega⟩)
 subst he
 rw[ik]at hz
 have Y6:z.length≤8:=by omega
 unfold sE
 rw[aw (e':=[some (.fr,.int c),some (.fr,.str AB),some (.fr,.int sz),some (.fr,.int a),some (.bo,.lst (fs.map .str)),some (.fr,.int k),some (.fr,.str ""),o7,o8]) rfl]
 rw[aw (e':=[some (.fr,.int c),some (.fr,.str AB),some (.fr,.int sz),some (.fr,.int a),some (.bo,.lst (fs.map .str)),some (.fr,.int k),some (.fr,.str z),bZ,gu]) (by
  have b0:-4611686018427387904≤sz∧sz<4611686018427387904:=by omega
  simp -implicitDefEqProofs only [bf,bN,ae,ah,jV,gz,gy,id_eq,oq,b0,and_self,if_true]
  exact l1)]
 have s5:fs.length<sizeLine:=dz hf (by decide)
 have hb:∃b,(jB (ag (dY false) (jV 6) (aM (ae (jC (.str "say")) (ae (jC (.str "go")) (ae (jC (.str "part")) (ae (jC (.str "end")) ah))))))) [some (.fr,.int c),some (.fr,.str AB),some (.fr,.int sz),some (.fr,.int a),some (.bo,.lst (fs.map .str)),some (.fr,.int k),some (.fr,.str z),bZ,gu]=some b:=⟨dQ (.str z) [.str "say",.str "go",.str "part",.str "end"],by with_unfolding_all rfl⟩
 obtain⟨b,hb⟩:=hb
 cases b with
 |false =>
  rw[aw (e':=[some (.fr,.int c),some (.fr,.str AB),some (.fr,.int sz),some (.fr,.int a),some (.bo,.lst (fs.map .str)),some (.fr,.int k),some (.fr,.str z),bZ,gu]) (by rw[bL hb];rfl)]
  refine⟨z,bZ,gu,?_,by omega⟩
  simp -implicitDefEqProofs only [cF,jV,gz,gy,id_eq,oq,fJ,if_true,dW,own,ln,s5,tz,tq,List.map_append,mq,mn]
 |true =>
  have s1:z.length+("1" : Str).length≤sizeLine:=bP (show z.length+1≤9 by omega) (by decide)
  rw[aw (e':=[some (.fr,.int c),some (.fr,.str AB),some (.fr,.int sz),some (.fr,.int a),some (.bo,.lst (fs.map .str)),some (.fr,.int k),some (.fr,.str (z ++ "1")),bZ,gu]) (by
   rw[bA hb]
   simp -implicitDefEqProofs only [av,ag,jV,jC,gz,gy,id_eq,oq,uv s1,fI,tz,tq])]
  refine⟨z ++ "1",bZ,gu,?_,by
   rw[yD];have:("1" : Str).length=1:=rfl
   omega⟩
  simp -implicitDefEqProofs only [cF,jV,gz,gy,id_eq,oq,fJ,if_true,dW,own,ln,s5,tz,tq,List.map_append,mq,mn]
theorem xK(c:Int):∃fs:List Str,(3≤fs.length∧fs.length≤5)∧mV [.int c]=some (.un,.lst (fs.map .str)):=by
 obtain⟨x,hx⟩:=kc c 3
 obtain⟨e',l1,fs,o5,o6,o7,o8,he,hl⟩:=dI (g:=gN 5) (b:=sE) (m:=.fr) (ds:=bY 0 (3+x/64%3).toNat) (e:=[some (.fr,.int x),some (.fr,.str AB),some (.fr,.int (1+x%8)),some (.fr,.int (x/8%(1+x%8))),some (.bo,.lst []),none,none,none,none])
  (fun i e=>∃(fs:List Str) (o5 o6 o7 o8:Option (M×D)),e=[some (.fr,.int x),some (.fr,.str AB),some (.fr,.int (1+x%8)),some (.fr,.int (x/8%(1+x%8))),some (.bo,.lst (fs.map .str)),o5,o6,o7,o8]∧fs.length=i) ⟨[],none,none,none,none,rfl,rfl⟩
  (fun i d e hd bz=>by
   obtain⟨fs,o5,o6,o7,o8,he,hl⟩:=bz
   subst he
   obtain⟨hi,rfl⟩:=jE hd
   obtain⟨z,bZ,gu,q,hz⟩:=Nq x (1+x%8) (x/8%(1+x%8)) (0+(i:Int)) fs o6 o7 o8 (by omega) (by omega)
   exact⟨_,_,rfl,q,fs++[z],_,_,bZ,gu,rfl,by simp[hl]⟩)
 subst he
 rw[ik]at hl
 refine⟨fs,by omega,?_⟩
 unfold mV fn B6
 simp only[cg,a7,bD]
 rw[aw (e':=[some (.al,.int c),some (.fr,.str AB),none,none,none,none,none,none,none]) rfl]
 rw[aw (e':=[some (.fr,.int x),some (.fr,.str AB),none,none,none,none,none,none,none]) (by walk_at "ev"; rw[hx];walk_at "ev")]
 rw[aw (e':=[some (.fr,.int x),some (.fr,.str AB),some (.fr,.int (1+x%8)),none,none,none,none,none,none]) (by walk_at "go")]
 rw[aw (e':=[some (.fr,.int x),some (.fr,.str AB),some (.fr,.int (1+x%8)),some (.fr,.int (x/8%(1+x%8))),none,none,none,none,none]) (by walk_at "go")]
 rw[aw (e':=[some (.fr,.int x),some (.fr,.str AB),some (.fr,.int (1+x%8)),some (.fr,.int (x/8%(1+x%8))),some (.bo,.lst []),none,none,none,none]) rfl]
 rw[aw (e':=[some (.fr,.int x),some (.fr,.str AB),some (.fr,.int (1+x%8)),some (.fr,.int (x/8%(1+x%8))),some (.bo,.lst (fs.map .str)),o5,o6,o7,o8]) (by
  have b0:-4611686018427387904≤3+x/64%3∧3+x/64%3<4611686018427387904:=by omega
  walk_at "go"
  simp -implicitDefEqProofs only [b0,and_self,if_true,oq]
  exact l1)]
 rfl
theorem L9{ns:List Str}{k:Int}(h0:0≤k)(h1:k<ns.length):∃c,L2.bB (ns.map D.str) k=some (.str c):=M9 h0 h1
theorem mX(c:Int)(ns:List Str)(h:0<ns.length):∃k:Ko,ia [.int c,.lst (ns.map .str)]=some (.fr,kD k):=by
 unfold ia fn BK
 simp only[cg,a7,bD]
 have hb:(jB (ag aL (ag aR (jV 0) (jC (.int 6))) (jC (.int 0)))) [some (.al,.int c),some (.al,.lst (ns.map .str))]=some (decide (c%6=0)):=by walk_at "go"
 by_cases q:c%6=0
 ·rw[dJ (e':=[some (.al,.int c),some (.al,.lst (ns.map .str))]) (m:=.fr) (d:=kD (.inl ((L2.bB [0,1,18446744073709551615,c/24*48271%18446744073709551616] (c/6%4)).getD 0))) (by
   rw[bA (by rw[hb,q];rfl)]
   walk_at "go"
   have e:=gW (l:=[D.int 0,.int 1,.int 18446744073709551615,.int (c/24*48271%18446744073709551616)]) (k:=c/6%4) (by omega) (by simp;omega)
   have e2:=gW (l:=[(0:Int),1,18446744073709551615,c/24*48271%18446744073709551616]) (k:=c/6%4) (by omega) (by simp;omega)
   rw[e,e2]
   have:∀(l:List Int) (i:Nat) (h:i<l.length) (h':i<(l.map D.int).length),(l.map D.int)[i]=D.int l[i]:=fun l i h h'=>by simp
   have e3:=this [(0:Int),1,18446744073709551615,c/24*48271%18446744073709551616] (c/6%4).toNat (by simp;omega) (by simp;omega)
   simp -implicitDefEqProofs only [mq,mn]at e3
   rw[e3]
   rfl)]
  exact⟨_,rfl⟩
 ·rw[eW (by rw[hb,df q])]
  walk_at "go"
  obtain⟨z,e⟩:=L9 (ns:=ns) (k:=c/6%ns.length) (Int.emod_nonneg _ (by omega)) (Int.emod_lt_of_pos _ (by omega))
  rw[e]
  walk_at "ev"
  exact⟨.inr z,by simp only[EZ,GA];rfl⟩
noncomputable abbrev De:=Str×Ko×Ko
noncomputable def ak(q:De):D:=.tup [.str q.1,kD q.2.1,kD q.2.2]
theorem SW(q:De):(ak q).bU=true:=by simp only[ak,D.bU,D.bS,pV,Bool.and_self]
theorem lF{α β:Type}{f:α→β}{l:List α}{k:Int}(h0:0≤k)(h1:k<l.length):∃c∈l,L2.bB (l.map f) k=some (f c):=by
 rw[gW h0 (by simpa using h1)]
 exact⟨l[k.toNat]'(by omega),List.getElem_mem _,by simp⟩
section
variable {m n:M}
theorem U1:gD (m,.int 10) (n,.int 21)=some (.fr,.int 1000000000000000000000):=by
 rw[yr (by decide),show(10:Int)^(21:Int).toNat=1000000000000000000000 by decide]
theorem U2:gD (m,.int 10) (n,.int 42)=some (.fr,.int 1000000000000000000000000000000000000000000):=by
 rw[yr (by decide),show(10:Int)^(42:Int).toNat=1000000000000000000000000000000000000000000 by decide]
end
theorem SX{m n:M}{i:Int}(h0:0≤i)(h1:i<8):∃s:Str,ao (m,.str "+-*&|^<=") (n,.int i)=some (.fr,.str s):=by
 obtain⟨d,e,c,rfl⟩:=xZ (m:=m) (n:=n) (x := "+-*&|^<=") (i:=i) (by decide) h0 (by rw[show(("+-*&|^<=" : Str).cps.toList.length:Int)=8 by decide +kernel];exact h1)
 exact⟨_,e⟩
theorem PL(ns:List Int)(fs:List Str)(hf:0<fs.length)(A2 A3:Option (M×D))(r k:Int)(ds:List De)(hd:ds.length≤50)(o7 o8 o9:Option (M×D)) :
  ∃r' q bZ gu Bc,sF [some (.al,.lst (ns.map .int)),some (.al,.lst (fs.map .str)),A2,A3,some (.fr,.int r),some (.bo,.lst (ds.map ak)),some (.fr,.int k),o7,o8,o9]=some (.nx [some (.al,.lst (ns.map .int)),some (.al,.lst (fs.map .str)),A2,A3,some (.fr,.int r'),some (.bo,.lst ((ds++[q]).map ak)),some (.fr,.int k),bZ,gu,Bc]):=by
 obtain⟨x1,h1⟩:=kc r k
 obtain⟨x2,h2⟩:=kc r (k+20)
 obtain⟨x3,h3⟩:=kc r (k+40)
 obtain⟨b,hb⟩:=x9 ns
 have s5:ds.length<sizeLine:=dz hd (by decide)
 unfold sF
 rw[aw (e':=[some (.al,.lst (ns.map .int)),some (.al,.lst (fs.map .str)),A2,A3,some (.fr,.int r),some (.bo,.lst (ds.map ak)),some (.fr,.int k),some (.fr,.int x1),o8,o9]) (by walk_at "ev"; rw[h1];walk_at "ev")]
 rw[aw (e':=[some (.al,.lst (ns.map .int)),some (.al,.lst (fs.map .str)),A2,A3,some (.fr,.int r),some (.bo,.lst (ds.map ak)),some (.fr,.int k),some (.fr,.int x1),some (.fr,.int x2),o9]) (by walk_at "ev"; rw[h2];walk_at "ev")]
 rw[aw (e':=[some (.al,.lst (ns.map .int)),some (.al,.lst (fs.map .str)),A2,A3,some (.fr,.int r),some (.bo,.lst (ds.map ak)),some (.fr,.int k),some (.fr,.int x1),some (.fr,.int x2),some (.fr,.int (x3%8))]) (by walk_at "ev"; rw[h3];walk_at "go")]
 have fin:∀(r' y1 y2 y3:Int),0≤y3→y3<8→∃q,cF 5 (aM (ae (ag ao (jC (.str "+-*&|^<=")) (jV 9)) (ae (ay ia (ae (jV 7) (ae (jV 1) ah))) (ae (ay ia (ae (jV 8) (ae (jV 1) ah))) ah)))) [some (.al,.lst (ns.map .int)),some (.al,.lst (fs.map .str)),A2,A3,some (.fr,.int r'),some (.bo,.lst (ds.map ak)),some (.fr,.int k),some (.fr,.int y1),some (.fr,.int y2),some (.fr,.int y3)]=some (.nx [some (.al,.lst (ns.map .int)),some (.al,.lst (fs.map .str)),A2,A3,some (.fr,.int r'),some (.bo,.lst ((ds++[q]).map ak)),some (.fr,.int k),some (.fr,.int y1),some (.fr,.int y2),some (.fr,.int y3)]):=fun r' y1 y2 y3 z0 z1=>by
  obtain⟨s,hs⟩:=SX (m:=.fr) (n:=.fr) z0 z1
  obtain⟨a,ha⟩:=mX y1 fs hf
  obtain⟨b,hb⟩:=mX y2 fs hf
  refine⟨(s,a,b),?_⟩
  walk_at "ev"
  rw[hs]
  walk_at "ev"
  rw[ha]
  walk_at "ev"
  rw[hb]
  walk_at "ev"
  simp -implicitDefEqProofs only [s5,if_true,List.map_append,mq,mn,ak]
 cases b with
 |false =>
  rw[aw (e':=[some (.al,.lst (ns.map .int)),some (.al,.lst (fs.map .str)),A2,A3,some (.fr,.int r),some (.bo,.lst (ds.map ak)),some (.fr,.int k),some (.fr,.int x1),some (.fr,.int x2),some (.fr,.int (x3%8))]) (by walk_at "ev"; rw[hb];walk_at "ev")]
  obtain⟨q,hq⟩:=fin r x1 x2 (x3%8) (by omega) (by omega)
  exact⟨_,q,_,_,_,hq⟩
 |true =>
  rw[aw (e':=[some (.al,.lst (ns.map .int)),some (.al,.lst (fs.map .str)),A2,A3,some (.fr,.int (r/8000000000000000000000000000000000000000000)),some (.bo,.lst (ds.map ak)),some (.fr,.int k),some (.fr,.int (r%1000000000000000000000)),some (.fr,.int (r/1000000000000000000000%1000000000000000000000)),some (.fr,.int (r/1000000000000000000000000000000000000000000%8))]) (by
   rw[bA (by walk_at "ev"; rw[hb];rfl)]
   walk_at "ev"
   simp -implicitDefEqProofs only [U1,U2]
   walk_at "go"
   rfl)]
  obtain⟨q,hq⟩:=fin (r/8000000000000000000000000000000000000000000) (r%1000000000000000000000) (r/1000000000000000000000%1000000000000000000000) (r/1000000000000000000000000000000000000000000%8) (by omega) (by omega)
  exact⟨_,q,_,_,_,hq⟩
theorem xM(ns:List Int)(fs:List Str)(hf:0<fs.length):∃ds:List De,(1≤ds.length∧ds.length≤12)∧mW [.lst (ns.map .int),.lst (fs.map .str)]=some (.un,.lst (ds.map ak)):=by
 obtain⟨c,hc⟩:=ke ns 1 (by omega)
 unfold mW fn B7
 simp only[cg,a7,bD]
 rw[aw (e':=[some (.al,.lst (ns.map .int)),some (.al,.lst (fs.map .str)),some (.fr,.int c),none,none,none,none,none,none,none]) (by walk_at "ev"; rw[hc];walk_at "ev")]
 rw[aw (e':=[some (.al,.lst (ns.map .int)),some (.al,.lst (fs.map .str)),some (.fr,.int c),some (.fr,.int (1+c%4)),none,none,none,none,none,none]) (by walk_at "go")]
 have hm:∃many:Int,(1≤many∧many≤12)∧aO (jB (ag aL (ag aR (ag bW (jV 2) (jC (.int 4))) (jC (.int 6))) (jC (.int 1)))) (av 3 (jC (.int 12))) aY [some (.al,.lst (ns.map .int)),some (.al,.lst (fs.map .str)),some (.fr,.int c),some (.fr,.int (1+c%4)),none,none,none,none,none,none]=some (.nx [some (.al,.lst (ns.map .int)),some (.al,.lst (fs.map .str)),some (.fr,.int c),some (.fr,.int many),none,none,none,none,none,none]):=by
  by_cases q:c/4%6=1
  ·exact⟨12,by omega,by rw[bA (by walk_at "go"; simp only[q,decide_true])];rfl⟩
  ·exact⟨1+c%4,by omega,by rw[bL (by walk_at "go"; simp only[q,decide_false])];rfl⟩
 obtain⟨many,Bd,em⟩:=hm
 rw[aw em]
 rw[aw (e':=[some (.al,.lst (ns.map .int)),some (.al,.lst (fs.map .str)),some (.fr,.int c),some (.fr,.int many),some (.fr,.int (c/24)),none,none,none,none,none]) (by walk_at "go")]
 rw[aw (e':=[some (.al,.lst (ns.map .int)),some (.al,.lst (fs.map .str)),some (.fr,.int c),some (.fr,.int many),some (.fr,.int (c/24)),some (.bo,.lst []),none,none,none,none]) rfl]
 obtain⟨e',l1,ds,r,o6,o7,o8,o9,he,hl⟩:=dI (g:=gN 6) (b:=sF) (m:=.fr) (ds:=bY 0 many.toNat) (e:=[some (.al,.lst (ns.map .int)),some (.al,.lst (fs.map .str)),some (.fr,.int c),some (.fr,.int many),some (.fr,.int (c/24)),some (.bo,.lst []),none,none,none,none])
  (fun i e=>∃(ds:List De) (r:Int) (o6 o7 o8 o9:Option (M×D)),e=[some (.al,.lst (ns.map .int)),some (.al,.lst (fs.map .str)),some (.fr,.int c),some (.fr,.int many),some (.fr,.int r),some (.bo,.lst (ds.map ak)),o6,o7,o8,o9]∧ds.length=i) ⟨[],_,none,none,none,none,rfl,rfl⟩
  (fun i d e hd bz=>by
   obtain⟨ds,r,o6,o7,o8,o9,he,hl⟩:=bz
   subst he
   obtain⟨hi,rfl⟩:=jE hd
   obtain⟨r',q,bZ,gu,Bc,e⟩:=PL ns fs hf (some (.fr,.int c)) (some (.fr,.int many)) r (0+(i:Int)) ds (by omega) o7 o8 o9
   exact⟨_,_,rfl,e,ds++[q],r',_,bZ,gu,Bc,rfl,by simp[hl]⟩)
 subst he
 rw[ik]at hl
 rw[aw (e':=[some (.al,.lst (ns.map .int)),some (.al,.lst (fs.map .str)),some (.fr,.int c),some (.fr,.int many),some (.fr,.int r),some (.bo,.lst (ds.map ak)),o6,o7,o8,o9]) (by
  have b0:-4611686018427387904≤many∧many<4611686018427387904:=by omega
  simp -implicitDefEqProofs only [bf,bN,ae,ah,jV,gz,gy,id_eq,oq,b0,and_self,if_true]
  exact l1)]
 by_cases q2:ds.length=2
 ·obtain⟨d0,d1,rfl⟩:∃a b,ds=[a,b]:=by
   clear hl l1
   obtain _|⟨a,_|⟨b,_|_⟩⟩:=ds
   ·cases q2
   ·cases q2
   ·exact⟨a,b,rfl⟩
   ·cases q2
  by_cases q3:c/4%3=0
  ·refine⟨[d0,(d0.1,d0.2.2,d0.2.1)],by simp,?_⟩
   rw[aw (e':=[some (.al,.lst (ns.map .int)),some (.al,.lst (fs.map .str)),some (.fr,.int c),some (.fr,.int many),some (.fr,.int r),some (.bo,.lst ([d0,(d0.1,d0.2.2,d0.2.1)].map ak)),o6,o7,o8,o9]) (by
    rw[bA (by walk_at "go"; simp[q3])]
    rfl)]
   rfl
  ·refine⟨[d0,d1],by simp,?_⟩
   rw[aw (e':=[some (.al,.lst (ns.map .int)),some (.al,.lst (fs.map .str)),some (.fr,.int c),some (.fr,.int many),some (.fr,.int r),some (.bo,.lst ([d0,d1].map ak)),o6,o7,o8,o9]) (by
    rw[bL (by walk_at "go"; simp[q3])]
    rfl)]
   rfl
 ·refine⟨ds,by omega,?_⟩
  rw[aw (e':=[some (.al,.lst (ns.map .int)),some (.al,.lst (fs.map .str)),some (.fr,.int c),some (.fr,.int many),some (.fr,.int r),some (.bo,.lst (ds.map ak)),o6,o7,o8,o9]) (by
   rw[bL (by
    walk_at "ev"
    have:¬((ds.length:Int)=2):=by omega
    simp only[this,decide_false]
    walk_at "ev")]
   rfl)]
  rfl
noncomputable def Row.flat:Row→Bool
 |.rk _ _ _ _=>true
 |.cp _ _=>true
 |.sy _=>true
 |_=>false
theorem Fe(c o:Int)(fs:List Str)(hf:0<fs.length)(ds:List De)(hd:0<ds.length):∃r:Row,pF [.int c,.int o,.lst (fs.map .str),.lst (ds.map ak)]=some (.fr,r.d)∧(c%11<7→Row.flat r=true)∧(7≤c%11→c%11<9→∃a t,r=.pt a t∧0≤t)∧(9≤c%11→∃a,r=.pt a (-1)):=by
 obtain⟨nm,_,hn⟩:=lF (f:=D.str) (l:=fs) (k:=o%60%fs.length) (Int.emod_nonneg _ (by omega)) (Int.emod_lt_of_pos _ (by omega))
 obtain⟨op,ho⟩:=mX (o/43200) fs hf
 obtain⟨q,_,hq⟩:=lF (f:=ak) (l:=ds) (k:=o/60%12%ds.length) (Int.emod_nonneg _ (by omega)) (Int.emod_lt_of_pos _ (by omega))
 unfold pF fn CZ
 simp only[cg,a7,bD]
 rw[aw (e':=[some (.al,.int c),some (.al,.int o),some (.al,.lst (fs.map .str)),some (.al,.lst (ds.map ak)),some (.al,.str nm),none,none,none,none]) (by
  walk_at "go"
  rw[hn]
  walk_at "ev")]
 rw[aw (e':=[some (.al,.int c),some (.al,.int o),some (.al,.lst (fs.map .str)),some (.al,.lst (ds.map ak)),some (.al,.str nm),some (.fr,kD op),none,none,none]) (by
  walk_at "go"
  rw[ho]
  walk_at "ev")]
 by_cases q1:c%11<5
 ·refine⟨.rk nm q.1 q.2.1 q.2.2,?_,fun _=>rfl,fun z=>by omega,fun z=>by omega⟩
  rw[dJ (e':=[some (.al,.int c),some (.al,.int o),some (.al,.lst (fs.map .str)),some (.al,.lst (ds.map ak)),some (.al,.str nm),some (.fr,kD op),some (.al,.str q.1),some (.al,kD q.2.1),some (.al,kD q.2.2)]) (m:=.fr) (d:=Row.d (.rk nm q.1 q.2.1 q.2.2)) (by
   rw[bA (by walk_at "go"; simp only[q1,decide_true])]
   rw[aw (e':=[some (.al,.int c),some (.al,.int o),some (.al,.lst (fs.map .str)),some (.al,.lst (ds.map ak)),some (.al,.str nm),some (.fr,kD op),some (.al,.str q.1),some (.al,kD q.2.1),some (.al,kD q.2.2)]) (by
    walk_at "go"
    rw[hq]
    rfl)]
   walk_at "ev"
   simp -implicitDefEqProofs only [pV,Bool.and_self,if_true]
   rfl)]
  rfl
 rw[eW (by walk_at "go"; simp only[q1,decide_false])]
 by_cases q2:c%11=5
 ·refine⟨.cp nm op,?_,fun _=>rfl,fun z=>by omega,fun z=>by omega⟩
  rw[dJ (e':=[some (.al,.int c),some (.al,.int o),some (.al,.lst (fs.map .str)),some (.al,.lst (ds.map ak)),some (.al,.str nm),some (.fr,kD op),none,none,none]) (m:=.fr) (d:=Row.d (.cp nm op)) (by
   rw[bA (by walk_at "go"; simp only[q2,decide_true])]
   walk_at "ev"
   rfl)]
  rfl
 rw[eW (by walk_at "go"; simp only[q2,decide_false])]
 by_cases q3:c%11=6
 ·refine⟨.sy op,?_,fun _=>rfl,fun z=>by omega,fun z=>by omega⟩
  rw[dJ (e':=[some (.al,.int c),some (.al,.int o),some (.al,.lst (fs.map .str)),some (.al,.lst (ds.map ak)),some (.al,.str nm),some (.fr,kD op),none,none,none]) (m:=.fr) (d:=Row.d (.sy op)) (by
   rw[bA (by walk_at "go"; simp only[q3,decide_true])]
   walk_at "ev"
   rfl)]
  rfl
 rw[eW (by walk_at "go"; simp only[q3,decide_false])]
 by_cases q4:c%11<9
 ·refine⟨.pt op (o/720%60),?_,fun z=>by omega,fun _ _=>⟨_,_,rfl,by omega⟩,fun z=>by omega⟩
  rw[dJ (e':=[some (.al,.int c),some (.al,.int o),some (.al,.lst (fs.map .str)),some (.al,.lst (ds.map ak)),some (.al,.str nm),some (.fr,kD op),none,none,none]) (m:=.fr) (d:=Row.d (.pt op (o/720%60))) (by
   rw[bA (by walk_at "go"; simp only[q4,decide_true])]
   walk_at "go"
   rfl)]
  rfl
 ·refine⟨.pt op (-1),?_,fun z=>by omega,fun _ z=>by omega,fun _=>⟨_,rfl⟩⟩
  rw[eW (by walk_at "go"; simp only[q4,decide_false])]
  walk_at "ev"
  rfl
noncomputable def Row.cA:Row→Bool
 |.go _=>true
 |_=>false
noncomputable def Row.fA:Row→Bool
 |.pt _ _=>true
 |_=>false
noncomputable def Row.dZ:Row→Bool
 |.en=>true
 |_=>false
theorem gj(r:Row):decide (r.word=("go" : Str))=Row.cA r:=by
 cases r with
 |rk x s a b=>exact(by decide +kernel:decide (("reckon" : Str) = "go")=false)
 |cp x a=>exact(by decide +kernel:decide (("copy" : Str) = "go")=false)
 |sy a=>exact(by decide +kernel:decide (("say" : Str) = "go")=false)
 |go t=>exact(by decide +kernel:decide (("go" : Str) = "go")=true)
 |pt a t=>exact(by decide +kernel:decide (("part" : Str) = "go")=false)
 |en=>exact(by decide +kernel:decide (("end" : Str) = "go")=false)
theorem iD(r:Row):decide (r.word=("part" : Str))=Row.fA r:=by
 cases r with
 |rk x s a b=>exact(by decide +kernel:decide (("reckon" : Str) = "part")=false)
 |cp x a=>exact(by decide +kernel:decide (("copy" : Str) = "part")=false)
 |sy a=>exact(by decide +kernel:decide (("say" : Str) = "part")=false)
 |go t=>exact(by decide +kernel:decide (("go" : Str) = "part")=false)
 |pt a t=>exact(by decide +kernel:decide (("part" : Str) = "part")=true)
 |en=>exact(by decide +kernel:decide (("end" : Str) = "part")=false)
theorem g9(r:Row):decide (r.word=("end" : Str))=Row.dZ r:=by
 cases r with
 |rk x s a b=>exact(by decide +kernel:decide (("reckon" : Str) = "end")=false)
 |cp x a=>exact(by decide +kernel:decide (("copy" : Str) = "end")=false)
 |sy a=>exact(by decide +kernel:decide (("say" : Str) = "end")=false)
 |go t=>exact(by decide +kernel:decide (("go" : Str) = "end")=false)
 |pt a t=>exact(by decide +kernel:decide (("part" : Str) = "end")=false)
 |en=>exact(by decide +kernel:decide (("end" : Str) = "end")=true)
theorem cX(m n:M)(r:Row):ao (m,r.d) (n,.int 0)=some (aQ m,.str r.word):=by
 show(L2.bB r.ds 0).map (fun d=>(aQ m,d))=_
 rw[Row.W5];rfl
theorem PN{rs:List Row}{i:Nat}{d:D}(h:(cI (rs.map Row.d))[i]?=some d):∃r,rs[i]?=some r∧d=.tup [.int i,r.d]:=by
 unfold cI at h
 rw[List.getElem?_mapIdx,dG]at h
 cases e:rs[i]? with
 |none=>rw[e]at h;cases h
 |some r=>rw[e]at h;cases h;exact⟨r,rfl,rfl⟩
noncomputable def bj(n:Int):Row→List Int
 |.en=>[]
 |.go t=>[t]
 |.pt _ t=>[n+1,t]
 |_=>[n+1]
def aV(rs:List Row)(i j:Nat):Prop:=∃r,rs[i]?=some r∧(j:Int)∈bj i r∧j<rs.length
theorem Ff(rs:List Row)(n:Nat)(r:Row)(h:rs[n]?=some r):ph [.lst (rs.map Row.d),.int n]=some (.un,.lst ((bj n r).map .int)):=by
 have aU:n<rs.length:=(bO.mp h).1
 have oJ:L2.bB (rs.map Row.d) (n:Int)=some r.d:=by
  rw[lD (by rw[ln];exact aU),List.getElem_map]
  rw[eU aU]at h
  rw[Option.some.inj h]
 generalize (n:Int)=nn at oJ ⊢
 unfold ph fn B2
 walk_at "ev"
 rw[oJ]
 walk_at "ev"
 simp -implicitDefEqProofs only [cX,oq,dn,cS,bh,g9,gj,iD]
 cases r with
 |en=>simp only[Row.dZ,bj];walk_at "ev"
 |go t =>
  have q:∀{m n:M},ao (m,Row.d (.go t)) (n,.int 1)=some (aQ m,.int t):=fun {m n}=>rfl
  simp only[Row.dZ,Row.cA,bj]
  walk_at "ev"
  simp -implicitDefEqProofs only [cX,oq,dn,cS,bh,g9,gj,iD,Row.cA]
  walk_at "ev"
  rw[q]
  walk_at "ev"
 |pt a t =>
  have q:∀{m n:M},ao (m,Row.d (.pt a t)) (n,.int 2)=some (aQ m,.int t):=fun {m n}=>rfl
  simp only[Row.dZ,Row.cA,Row.fA,bj]
  walk_at "ev"
  simp -implicitDefEqProofs only [cX,oq,dn,cS,bh,g9,gj,iD,Row.cA,Row.fA]
  walk_at "ev"
  simp -implicitDefEqProofs only [cX,oq,dn,cS,bh,g9,gj,iD,Row.cA,Row.fA]
  walk_at "ev"
  rw[q]
  walk_at "ev"
 |rk x s a b =>
  simp only[Row.dZ,bj]
  walk_at "ev"
  simp -implicitDefEqProofs only [cX,oq,dn,cS,bh,g9,gj,iD,Row.cA,Row.fA]
  walk_at "ev"
  simp -implicitDefEqProofs only [cX,oq,dn,cS,bh,g9,gj,iD,Row.cA,Row.fA]
  walk_at "ev"
 |cp x a =>
  simp only[Row.dZ,bj]
  walk_at "ev"
  simp -implicitDefEqProofs only [cX,oq,dn,cS,bh,g9,gj,iD,Row.cA,Row.fA]
  walk_at "ev"
  simp -implicitDefEqProofs only [cX,oq,dn,cS,bh,g9,gj,iD,Row.cA,Row.fA]
  walk_at "ev"
 |sy a =>
  simp only[Row.dZ,bj]
  walk_at "ev"
  simp -implicitDefEqProofs only [cX,oq,dn,cS,bh,g9,gj,iD,Row.cA,Row.fA]
  walk_at "ev"
  simp -implicitDefEqProofs only [cX,oq,dn,cS,bh,g9,gj,iD,Row.cA,Row.fA]
  walk_at "ev"
theorem ya(rs:List Row)(n:Nat)(r:Row)(h:rs[n]?=some r):oR [.lst (rs.map Row.d),.int n]=some (.un,.lst ((bj n r).map .int)):=Ff rs n r h
structure Good (rs:List Row):Prop where
 pos:0<rs.length
 bj:∀(n:Nat) r,rs[n]?=some r→∀m∈aN.bj n r,0≤m∧m<rs.length
theorem gx:∀(N:Nat) (l:List Nat),l.Nodup→(∀x∈l,x<N)→l.length≤N
 |0,l,_,h=>by
  cases l with
  |nil=>exact a6 _
  |cons a l=>exact absurd (h a bV) (Nat.not_lt_zero a)
 |N+1,l,hn,h=>by
  have ih:=gx N (l.erase N) (hn.erase N) (fun x hx=>by
   have h1:=h x (List.mem_of_mem_erase hx)
   have h2:x≠N:=fun e=>by subst e;exact(List.Nodup.not_mem_erase hn) hx
   omega)
  rw[List.length_erase]at ih
  split at ih<;>omega
noncomputable def aj(l:List Nat):List D:=l.map fun(n:Nat)=>D.int (n:Int)
theorem cR(l:List Nat):(aj l).length=l.length:=by simp[aj]
theorem xN(l:List Nat)(x:Nat):aj l++[D.int (x:Int)]=aj (l++[x]):=by simp[aj]
theorem yb:∀l:List Nat,D.bS (aj l)=true
 |[]=>by simp only[aj,mn,D.bS]
 |a::l=>by
  have:=yb l
  simp only[aj]at this
  simp only[aj,mq,D.bS,D.bU,this,Bool.and_self]
noncomputable def F3(k:Nat)(e:Ev):Nat:=match e[k]? with
 |some (some (_,.lst ds))=>ds.length
 |_=>0
noncomputable def cv(rs:List Row)(n:Nat):List Int:=match rs[n]? with
 |some r=>bj n r
 |none=>[]
noncomputable def gk(rs:List Row)(n:Nat):List Nat:=(cv rs n).map Int.toNat
theorem tV{rs:List Row}(g:Good rs){n:Nat}{m:Int}(h:m∈cv rs n):0≤m∧m<rs.length:=by
 unfold cv at h
 split at h
 ·rename_i r hr;exact g.bj _ _ hr _ h
 ·cases h
theorem Fg{rs:List Row}(g:Good rs)(n:Nat):(cv rs n).map D.int=aj (gk rs n):=by
 unfold aj gk
 rw[List.map_map]
 refine List.map_congr_left fun m hm=>?_
 have:=tV g hm
 show D.int m=D.int ((m.toNat:Nat):Int)
 rw[Int.toNat_of_nonneg this.1]
theorem xO{rs:List Row}(g:Good rs){n m:Nat}(h:m∈gk rs n):aV rs n m:=by
 obtain⟨x,hx,rfl⟩:=bu.mp h
 have b:=tV g hx
 unfold cv at hx
 split at hx
 ·rename_i r hr
  exact⟨r,hr,by rw[Int.toNat_of_nonneg b.1];exact hx,by omega⟩
 ·cases hx
theorem Nr{rs:List Row}{n m:Nat}(h:aV rs n m):m∈gk rs n:=by
 obtain⟨r,hr,hm,_⟩:=h
 refine bu.mpr ⟨(m:Int),?_,by simp⟩
 unfold cv;rw[hr];exact hm
noncomputable def oK(rs:List Row):List D:=(List.range rs.length).map fun n=>D.lst ((cv rs n).map D.int)
theorem C2{fe:Ev→Option (M×D)}{m m':M}{fr:Ev}:∀{ds:List D}{G:Nat→D},(∀(k:Nat) d,ds[k]?=some d→fe (some (m,d)::fr)=some (m',G k))→fh kW fe m fr ds=some ((List.range ds.length).map fun k=>(m',G k))
 |[],G,_=>rfl
 |d::ds,G,h=>by
  have ih:=C2 (fe:=fe) (m:=m) (m':=m') (fr:=fr) (ds:=ds) (G:=fun k=>G (k+1)) fun k e he=>h (k+1) e (by simpa using he)
  rw[fh,show kW (some (m,d)::fr)=some true from rfl,oq,if_pos rfl,h 0 d rfl,oq,ih,oq,List.length_cons,List.range_succ_eq_map,mq,List.map_map]
  rfl
theorem SY{m:M}(hm:m=.fr∨m=.un){N:Nat}(h:N≤1000)(G:Nat→D):c9 ((List.range N).map fun k=>(m,G k))=some (.un,.lst ((List.range N).map G)):=by
 unfold c9
 rw[if_pos (by rw[ln,List.length_range];exact bP h (by decide)),if_pos (by rw[List.all_map];exact List.all_eq_true.mpr fun _ _=>by rcases hm with rfl|rfl<;>rfl),List.map_map]
 rfl
theorem K3{rs:List Row}(hl:rs.length≤800):r9 [.lst (rs.map Row.d)]=some (.un,.lst (oK rs)):=by
 have ex:=C2 (fe:=ay ph (ae (jV 1) (ae (jV 0) ah))) (m:=.fr) (m':=.un) (fr:=[some (.al,.lst (rs.map Row.d))]) (ds:=bY 0 rs.length) (G:=fun n=>D.lst ((cv rs n).map D.int)) (fun k d hd=>by
  obtain⟨hk,rfl⟩:=jE hd
  have hr:rs[k]?=some (rs[k]'hk):=by simp
  have e:=Ff rs k _ hr
  have ef:cv rs k=bj k (rs[k]'hk):=by unfold cv;rw[hr]
  rw[ef,show(0:Int)+(k:Int)=(k:Int) by omega]
  simp -implicitDefEqProofs only [ay,ae,ah,jV,gz,gy,id_eq,oq,mq,mn,e])
 rw[ik]at ex
 have b0:-4611686018427387904≤(rs.length:Int)∧(rs.length:Int)<4611686018427387904:=by omega
 have ht:(rs.length:Int).toNat=rs.length:=by omega
 unfold r9 fn Bz
 simp -implicitDefEqProofs only [aK,cC,bN,aI,ae,ah,jV,mq,mn,List.length_cons,List.length_nil,List.replicate,List.nil_append,List.cons_append,List.append_nil,gz,id_eq,oq,cT,ln,b0,and_self,if_true,ht,Nat.sub_self,Nat.reduceAdd,Nat.reduceSub]
 rw[show dB [some (M.al,D.lst (rs.map Row.d))] [0]=[some (.al,.lst (rs.map Row.d))] from rfl]
 rw[ex,oq,SY (.inr rfl) (by omega),oq]
 rfl
noncomputable def rM(k:Nat)(e:Ev):Nat:=match e[k]? with
 |some (some (_,.dk ks))=>ks.length
 |_=>0
noncomputable def aD(ks:List Nat):List (Key×D):=ks.map fun(n:Nat)=>(.inl (n:Int),.bl true)
theorem lP:∀(ks:List Nat) (n:Nat),(cO (aD ks) (.inl (n:Int))).isSome=decide (n∈ks)
 |[],n=>rfl
 |k::ks,n=>by
  have ih:=lP ks n
  show(((((Key.inl (k:Int):Key),D.bl true)::aD ks).find? fun kv=>decide (kv.1=.inl (n:Int))).map (·.2)).isSome=_
  rw[List.find?_cons]
  by_cases h:k=n
  ·subst h
   rw[cV rfl]
   simp
  ·have eD:¬((Key.inl (k:Int):Key)=.inl (n:Int)):=fun e=>h (Int.ofNat_inj.mp (Key.inl.inj e))
   rw[df eD]
   have h':¬n=k:=fun z=>h z.symm
   simp only[List.mem_cons,h',false_or]
   exact ih
theorem qa{ks:List Nat}{n:Nat}(h:n∉ks):putD (aD ks) (.inl (n:Int)) (.bl true)=aD (ks++[n]):=by
 have ha:((aD ks).any fun kv=>decide (kv.1=.inl (n:Int)))=false:=by
  rw[List.any_eq_false]
  intro kv cH
  obtain⟨q,hq,rfl⟩:=bu.mp cH
  simp only[decide_eq_true_eq]
  intro e
  exact h ((Int.ofNat_inj.mp (Key.inl.inj e))▸hq)
 unfold putD
 rw[ha,if_neg aZ]
 simp only[aD,List.map_append,mq,mn]
theorem km(ks:List Nat):(aD ks).length=ks.length:=by simp[aD]
theorem PQ{m:M}(l:List Nat):gp m (aj l)=some (.un,.lst (aj l)):=by
 unfold gp
 rw[if_pos (yb l),if_pos (yb l),ite_self,ite_self]
noncomputable def b5(S:List (List Nat)):List D:=S.map fun l=>.lst (aj l)
noncomputable def bR(Bk:List (List Nat)):D:=.lst ((Bk.map aj).map D.lst)
theorem Ef(Bk:List (List Nat)):bR Bk=.lst (b5 Bk):=by unfold bR b5;rw[List.map_map];rfl
theorem PR{A0 A3:Option (M×D)}{Bk:List (List Nat)}{n m:Nat}(hm:m<Bk.length)(hl:(Bk.getD m []).length≤5000) :
  pA [A0,some (.nb,bR Bk),some (.al,.int (n:Int)),A3,some (.al,.int (m:Int))]=some (.nx [A0,some (.nb,bR (Bk.set m (Bk.getD m []++[n]))),some (.al,.int (n:Int)),A3,some (.al,.int (m:Int))]):=by
 have rN:dP (Bk.map aj).length (m:Int)=some m:=by
  unfold dP
  rw[ln,if_pos (by omega),if_pos (by omega)];simp
 have hd:(Bk.map aj)[m]?=some (aj (Bk.getD m [])):=by
  rw[dG,eU hm,List.getD_eq_getElem?_getD,eU hm];rfl
 have hs:(aj (Bk.getD m [])).length<sizeLine:=by rw[cR];exact dz hl (by decide)
 have e1:(Bk.map aj).set m (aj (Bk.getD m []++[n]))=(Bk.set m (Bk.getD m []++[n])).map aj:=by rw[List.map_set]
 unfold pA bR
 simp -implicitDefEqProofs only [kx,jV,gz,gy,id_eq,oq,jD,uz,vk,if_true,rA,xI,rN,hd,hs,xN,e1,tz,tq]
theorem lC{Bk:List (List Nat)}{m j:Nat}{v:List Nat}(hm:m<Bk.length):(Bk.set m v).getD j []=if j=m then v else Bk.getD j []:=by
 rw[List.getD_eq_getElem?_getD,List.getD_eq_getElem?_getD,List.getElem?_set]
 by_cases h:m=j
 ·subst h;simp[hm]
 ·have h':¬j=m:=fun z=>h z.symm
  simp[h,h']
theorem CB{A0 A3:Option (M×D)}{n:Nat}:∀(ms:List Nat) (Bk:List (List Nat)) (c:Nat) (o4:Option (M×D)),(∀m∈ms,m<Bk.length)→(∀j,(Bk.getD j []).length≤c)→c+ms.length≤5000 →
  ∃jr fY,forL (gN 4) pA .al (aj ms) [A0,some (.nb,bR Bk),some (.al,.int (n:Int)),A3,o4]=some (.nx [A0,some (.nb,bR jr),some (.al,.int (n:Int)),A3,fY])∧jr.length=Bk.length∧(∀j,(jr.getD j []).length≤c+ms.length)∧(∀j x,x∈Bk.getD j []→x∈jr.getD j [])∧(∀m∈ms,n∈jr.getD m [])∧∀j x,x∈jr.getD j []→x∈Bk.getD j []∨(x=n∧j∈ms)
 |[],Bk,c,o4,_,hc,_=>⟨Bk,o4,by simp[aj,forL],rfl,fun j=>by have:=hc j;simp;exact this,fun j x h=>h,(fun m hm=>nomatch hm),fun j x h=>.inl h⟩
 |m::ms,Bk,c,o4,hm,hc,hl=>by
  have iQ:=hm m bV
  have Y7:=hc m
  rw[List.length_cons]at hl
  obtain⟨jr,fY,q1,q2,q3,q4,q5,q6⟩:=CB (A0:=A0) (A3:=A3) (n:=n) ms (Bk.set m (Bk.getD m []++[n])) (c+1) (some (.al,.int (m:Int))) (fun x hx=>by rw[List.length_set];exact hm x (b9 _ hx)) (fun j=>by
   rw[lC iQ]
   split
   ·rw[dO];simp only[List.length_cons,List.length_nil];omega
   ·have:=hc j;omega) (by omega)
  refine⟨jr,fY,?_,by rw[q2,List.length_set],fun j=>by have:=q3 j;rw[List.length_cons];omega,fun j x hx=>q4 j x ?_,fun x hx=>?_,fun j x hx=>?_⟩
  ·rw[show aj (m::ms)=D.int (m:Int)::aj ms from rfl,forL,show gN 4 (M.al,D.int (m:Int)) [A0,some (.nb,bR Bk),some (.al,.int (n:Int)),A3,o4]=some [A0,some (.nb,bR Bk),some (.al,.int (n:Int)),A3,some (.al,.int (m:Int))] from rfl,oq,PR iQ (by omega),oq]
   exact q1
  ·rw[lC iQ]
   split
   ·rename_i e;subst e;exact dN _ hx
   ·exact hx
  ·rcases cJ.mp hx with rfl|hx
   ·refine q4 x n ?_
    rw[lC iQ,if_pos rfl];simp
   ·exact q5 x hx
  ·rcases q6 j x hx with z|z
   ·rw[lC iQ]at z
    split at z
    ·rename_i e;subst e
     rcases cU.mp z with y|y
     ·exact .inl y
     ·exact .inr ⟨by simpa using y,bV⟩
    ·exact .inl z
   ·exact .inr ⟨z.1,b9 _ z.2⟩
theorem DB(rs:List Row)(n:Nat):(gk rs n).length≤2:=by
 unfold gk cv
 rw[ln]
 split
 ·rename_i r _;cases r<;>simp[bj]
 ·simp
theorem Nt{T:List (List Nat)}{i:Nat}{d:D}(h:(cI (b5 T))[i]?=some d):i<T.length∧d=.tup [.int (i:Int),.lst (aj (T.getD i []))]:=by
 unfold cI b5 at h
 rw[List.getElem?_mapIdx,dG]at h
 cases e:T[i]? with
 |none=>rw[e]at h;cases h
 |some l =>
  rw[e]at h
  cases h
  exact⟨(bO.mp e).1,by rw[List.getD_eq_getElem?_getD,e];rfl⟩
theorem K4{T:List (List Nat)}(hl:T.length≤800)(hT:∀n,∀m∈T.getD n [],m<T.length)(X5:∀n,(T.getD n []).length≤2):∃Bk:List (List Nat),tU [.lst (b5 T)]=some (.fr,.lst (b5 Bk))∧Bk.length=T.length∧(∀n m,m∈T.getD n []→n∈Bk.getD m [])∧∀n m,n∈Bk.getD m []→m∈T.getD n []:=by
 have b0:-4611686018427387904≤(T.length:Int)∧(T.length:Int)<4611686018427387904:=by omega
 have ht:(T.length:Int).toNat=T.length:=by omega
 have sl:(b5 T).length=T.length:=by simp[b5]
 have r0:∀j,(List.replicate T.length ([]:List Nat)).getD j []=[]:=fun j=>by
  rw[List.getD_eq_getElem?_getD,List.getElem?_replicate];split<;>rfl
 obtain⟨e',l1,Bk,o2,o3,o4,he,b1,b2,b3,b4⟩:=dI (g:=gT 2 (cq (gN 2) (cq (gN 3) fL))) (b:=xv) (m:=.al) (ds:=cI (b5 T)) (e:=[some (.al,.lst (b5 T)),some (.nb,bR (List.replicate T.length [])),none,none,none])
  (fun i e=>∃(Bk:List (List Nat)) (o2 o3 o4:Option (M×D)),e=[some (.al,.lst (b5 T)),some (.nb,bR Bk),o2,o3,o4]∧Bk.length=T.length∧(∀j,(Bk.getD j []).length≤2*i)∧(∀n,n<i→∀m,m∈T.getD n []→n∈Bk.getD m [])∧∀j x,x∈Bk.getD j []→j∈T.getD x [])
  ⟨List.replicate T.length [],none,none,none,rfl,by simp,fun j=>by rw[r0];simp,fun n h=>absurd h (Nat.not_lt_zero n),fun j x h=>by rw[r0]at h;cases h⟩
  (fun i d e hd bz=>by
   obtain⟨Bk,o2,o3,o4,he,b1,b2,b3,b4⟩:=bz
   subst he
   obtain⟨hi,rfl⟩:=Nt hd
   have jt:=X5 i
   obtain⟨jr,fY,q1,q2,q3,q4,q5,q6⟩:=CB (A0:=some (.al,.lst (b5 T))) (A3:=some (.al,.lst (aj (T.getD i [])))) (n:=i) (T.getD i []) Bk (2*i) o4 (fun m hm=>by
    rw[b1];exact hT i m hm) b2 (by omega)
   refine⟨_,_,rfl,?_,jr,some (.al,.int (i:Int)),some (.al,.lst (aj (T.getD i []))),fY,rfl,by rw[q2,b1],fun j=>by have:=q3 j;omega,fun n hn m hs=>?_,fun j x hx=>?_⟩
   ·unfold xv
    rw[cN]
    show bf (bQ (jV 3)) (gN 4) pA [some (.al,.lst (b5 T)),some (.nb,bR Bk),some (.al,.int (i:Int)),some (.al,.lst (aj (T.getD i []))),o4]=_
    simp -implicitDefEqProofs only [bf,bQ,jV,gz,gy,id_eq,oq,b8,oy]
    exact q1
   ·by_cases e:n=i
    ·subst e;exact q5 m hs
    ·exact q4 m n (b3 n (by omega) m hs)
   ·rcases q6 j x hx with z|z
    ·exact b4 j x z
    ·obtain⟨rfl,hj⟩:=z;exact hj)
 subst he
 have hE:(cI (b5 T)).length=T.length:=by simp[cI,sl]
 rw[hE]at b3
 refine⟨Bk,?_,b1,fun n m hs=>b3 n ?_ m hs,fun n m h=>b4 m n h⟩
 ·have n0:((bY 0 T.length).map fun _=>([]:List D))=(List.replicate T.length ([]:List Nat)).map aj:=by
   unfold bY
   rw[List.map_map]
   exact List.ext_getElem (by simp) fun i h1 h2=>by simp[aj]
  have Be:vn 1 [some (.al,.lst (b5 T)),none,none,none,none]=true:=rfl
  have hs:(bY 0 T.length).length<sizeLine:=by rw[ik];exact dz hl (by decide)
  unfold tU fn Dz
  simp only[cg,a7,bD]
  rw[aw (e':=[some (.al,.lst (b5 T)),some (.nb,bR (List.replicate T.length [])),none,none,none]) (by
   simp -implicitDefEqProofs only [nP,bN,aI,ae,ah,jV,gz,id_eq,oq,cT,sl,b0,and_self,if_true,ht,Be,hs,n0,tz,tq,bR])]
  rw[aw (e':=[some (.al,.lst (b5 T)),some (.nb,bR Bk),o2,o3,o4]) (by
   rw[cN,show cw 0 [some (.al,.lst (b5 T)),some (.nb,bR (List.replicate T.length [])),none,none,none]=[some (.al,.lst (b5 T)),some (.nb,bR (List.replicate T.length [])),none,none,none] from rfl]
   simp -implicitDefEqProofs only [bf,jo,ae,jV,ah,gz,gy,oq,id_eq,b8,oy]
   exact l1)]
  rw[←Ef Bk]
  rfl
 ·by_cases z:n<T.length
  ·exact z
  ·rw[List.getD_eq_getElem?_getD,List.getElem?_eq_none (by omega)]at hs;cases hs
theorem yc(N:Nat):bY 0 N=aj (List.range N):=by
 unfold bY aj
 exact List.map_congr_left fun k _=>by rw[Int.zero_add]
theorem oZ{fc:Ev→Option Bool}{fe:Ev→Option (M×D)}{m:M}{fr:Ev}{p:Nat→Bool}:∀(ks:List Nat),(∀k∈ks,fc (some (m,.int (k:Int))::fr)=some (p k)∧fe (some (m,.int (k:Int))::fr)=some (.fr,.int (k:Int)))→fh fc fe m fr (aj ks)=some ((aj (ks.filter p)).map fun x=>(M.fr,x))
 |[],_=>rfl
 |k::ks,h=>by
  obtain⟨h1,h2⟩:=h k bV
  have ih:=oZ (fc:=fc) (fe:=fe) (m:=m) (fr:=fr) (p:=p) ks fun x hx=>h x (b9 _ hx)
  rw[show aj (k::ks)=D.int (k:Int)::aj ks from rfl,fh,h1,oq,List.filter_cons]
  cases p k with
  |true=>rw[if_pos rfl,h2,oq,ih,if_pos rfl];rfl
  |false=>rw[if_neg aZ,ih,if_neg aZ]
mutual
theorem DC:∀d:D,J.plain d=true→PyData.eqv (toPy d) (toPy d)=true
 |.non,_=>by simp[toPy,PyData.eqv]
 |.bl b,_=>by simp[toPy,PyData.eqv]
 |.int i,_=>by simp[toPy,PyData.eqv]
 |.str x,_=>by simp[toPy,PyData.eqv]
 |.ty n,h=>by simp[J.plain]at h
 |.dk _,h=>by simp[J.plain]at h
 |.dt _,h=>by simp[J.plain]at h
 |.tup ds,h=>by
  simp only[toPy,PyData.eqv]
  exact xE ds (by simpa only[J.plain]using h)
 |.lst ds,h=>by
  simp only[toPy,PyData.eqv]
  exact xE ds (by simpa only[J.plain]using h)
theorem xE:∀ds:List D,J.dC ds=true→PyData.eqvAll (cu ds) (cu ds)=true
 |[],_=>by simp[cu,PyData.eqvAll]
 |d::ds,h=>by
  have h':J.plain d=true∧J.dC ds=true:=by simpa[J.dC]using h
  simp only[cu,PyData.eqvAll,DC d h'.1,xE ds h'.2,Bool.and_self]
end
theorem C3{n:Nat}:∀{ds:List D},(∀d∈ds,(toPy d).depth≤n)→PyData.depthAll (cu ds)≤n
 |[],_=>by simp[cu,PyData.depthAll]
 |d::ds,h=>by
  have:=C3 (ds:=ds) fun x hx=>h x (b9 _ hx)
  have h1:=h d bV
  simp only[cu,PyData.depthAll];omega
theorem mY:∀{ds:List D},(∀d∈ds,J.plain d=true)→J.dC ds=true
 |[],_=>by simp[J.dC]
 |d::ds,h=>by simp only[J.dC,h d List.mem_cons_self,mY fun x hx=>h x (List.mem_cons_of_mem _ hx),Bool.and_self]
theorem Nu{ds:List D}(h1:∀d∈ds,J.plain d=true)(h2:∀d∈ds,(toPy d).depth≤10):i3 (.lst ds) (.lst ds)=true:=by
 have hd:(toPy (.lst ds)).depth≤60:=by
  simp only[toPy,PyData.depth]
  have:=C3 h2;omega
 simp only[i3,J.plain,mY h1,lN,Bool.and_self,Bool.true_and]
 exact cV (by omega)
theorem Fh{m n:M}{ds:List D}(h1:∀d∈ds,J.plain d=true)(h2:∀d∈ds,(toPy d).depth≤10):eR (m,.lst ds) (n,.lst ds)=some (.fr,.bl false):=by
 have e:=DC (.lst ds) (by simp only[J.plain];exact mY h1)
 simp only[eR,Nu h1 h2,if_true,e,Bool.not_true]
noncomputable def bq(q:Int×Int):D:=.tup [.int q.1,.int q.2]
noncomputable def aF(l:List (Int×Int)):List D:=l.map bq
theorem C4(l:List (Int×Int)):∀d∈aF l,J.plain d=true:=fun d hd=>by
 obtain⟨q,_,rfl⟩:=bu.mp hd
 simp[bq,J.plain,J.dC]
theorem C5(l:List (Int×Int)):∀d∈aF l,(toPy d).depth≤10:=fun d hd=>by
 obtain⟨q,_,rfl⟩:=bu.mp hd
 simp[bq,toPy,cu,PyData.depth,PyData.depthAll]
theorem kf(l:List (Int×Int)):(aF l).length=l.length:=by simp[aF]
theorem DF(l:List (Int×Int))(a b:Int):aF l++[.tup [.int a,.int b]]=aF (l++[(a,b)]):=by simp[aF,bq]
noncomputable def a9(rs:List Row)(k:Nat):List (Int×Int):=(-1,0)::(List.range k).flatMap fun n=>(cv rs n).map fun m=>((n:Int),m)
theorem tW(rs:List Row)(k:Nat):a9 rs (k+1)=a9 rs k++(cv rs k).map fun m=>((k:Int),m):=by
 unfold a9
 rw[List.range_succ,List.flatMap_append]
 simp
theorem tX(rs:List Row)(n:Nat):(cv rs n).length≤2:=by
 have:=DB rs n
 unfold gk at this
 rwa [ln]at this
theorem lG(rs:List Row):∀k,(a9 rs k).length≤2*k+1
 |0=>by simp[a9]
 |k+1=>by
  have:=lG rs k
  have:=tX rs k
  rw[tW,dO,ln];omega
theorem BW{A0 A3:Option (M×D)}{n:Int}:∀(ms:List Int) (l:List (Int×Int)) (o4:Option (M×D)),l.length+ms.length≤5000→∃fY,forL (gN 4) pw .fr (ms.map D.int) [A0,some (.bo,.lst (aF l)),some (.fr,.int n),A3,o4]=some (.nx [A0,some (.bo,.lst (aF (l++ms.map fun m=>(n,m)))),some (.fr,.int n),A3,fY])
 |[],l,o4,_=>⟨o4,by simp[forL]⟩
 |m::ms,l,o4,hl=>by
  rw[List.length_cons]at hl
  obtain⟨fY,q⟩:=BW (A0:=A0) (A3:=A3) (n:=n) ms (l++[(n,m)]) (some (.fr,.int m)) (by rw[dO];simp only[List.length_cons,List.length_nil];omega)
  refine⟨fY,?_⟩
  have hs:l.length<sizeLine:=dz (show l.length≤5000 by omega) (by decide)
  rw[mq,forL,show gN 4 (M.fr,D.int m) [A0,some (.bo,.lst (aF l)),some (.fr,.int n),A3,o4]=some [A0,some (.bo,.lst (aF l)),some (.fr,.int n),A3,some (.fr,.int m)] from rfl,oq]
  have hb:pw [A0,some (.bo,.lst (aF l)),some (.fr,.int n),A3,some (.fr,.int m)]=some (.nx [A0,some (.bo,.lst (aF (l++[(n,m)]))),some (.fr,.int n),A3,some (.fr,.int m)]):=by
   unfold pw
   walk_at "ev"
   rw[kf,if_pos hs,DF]
  rw[hb,oq]
  simpa using q
theorem Nv{rs:List Row}{i:Nat}{d:D}(h:(cI (oK rs))[i]?=some d):i<rs.length∧d=.tup [.int (i:Int),.lst ((cv rs i).map D.int)]:=by
 unfold cI oK at h
 rw[List.getElem?_mapIdx,dG]at h
 rcases Nat.lt_or_ge i rs.length with z|z
 ·rw[List.getElem?_range z]at h
  cases h
  exact⟨z,rfl⟩
 ·rw[List.getElem?_eq_none (by simpa using z)]at h;cases h
theorem C6{rs:List Row}(hl:rs.length≤800):pN [.lst (rs.map Row.d)]=some (.un,.lst (aF (a9 rs rs.length))):=by
 have af:=K3 hl
 obtain⟨e',l1,o2,o3,o4,he⟩:=dI (g:=gT 2 (cq (gN 2) (cq (gN 3) fL))) (b:=xu) (m:=.fr) (ds:=cI (oK rs)) (e:=[some (.al,.lst (rs.map Row.d)),some (.bo,.lst (aF (a9 rs 0))),none,none,none])
  (fun i e=>∃(o2 o3 o4:Option (M×D)),e=[some (.al,.lst (rs.map Row.d)),some (.bo,.lst (aF (a9 rs i))),o2,o3,o4])
  ⟨none,none,none,rfl⟩
  (fun i d e hd bz=>by
   obtain⟨o2,o3,o4,he⟩:=bz
   subst he
   obtain⟨hi,rfl⟩:=Nv hd
   have h1:=lG rs i
   have h2:=tX rs i
   obtain⟨fY,q⟩:=BW (A0:=some (.al,.lst (rs.map Row.d))) (A3:=some (.fr,.lst ((cv rs i).map D.int))) (n:=(i:Int)) (cv rs i) (a9 rs i) o4 (by omega)
   refine⟨_,_,rfl,?_,some (.fr,.int (i:Int)),some (.fr,.lst ((cv rs i).map D.int)),fY,by rw[tW]⟩
   unfold xu
   rw[cN]
   show bf (bQ (jV 3)) (gN 4) pw [some (.al,.lst (rs.map Row.d)),some (.bo,.lst (aF (a9 rs i))),some (.fr,.int (i:Int)),some (.fr,.lst ((cv rs i).map D.int)),o4]=_
   simp -implicitDefEqProofs only [bf,bQ,jV,gz,gy,id_eq,oq,b8,oy]
   exact q)
 subst he
 have hE:(cI (oK rs)).length=rs.length:=by simp[cI,oK]
 rw[hE]at l1
 unfold pN fn Dy
 simp only[cg,a7,bD]
 rw[aw (e':=[some (.al,.lst (rs.map Row.d)),some (.bo,.lst (aF (a9 rs 0))),none,none,none]) rfl]
 rw[aw (e':=[some (.al,.lst (rs.map Row.d)),some (.bo,.lst (aF (a9 rs rs.length))),o2,o3,o4]) (by
  simp -implicitDefEqProofs only [bf,jo,ae,jV,ah,ay,gz,gy,oq,id_eq,mq,mn,af,b8,oy]
  exact l1)]
 rfl
theorem xP{xs:List D}(h:xs.length≤5000):c9 (xs.map fun x=>(M.fr,x))=some (.un,.lst xs):=by
 unfold c9
 rw[if_pos (by rw[ln];exact bP h (by decide)),if_pos (by rw[List.all_map];exact List.all_eq_true.mpr fun _ _=>rfl),List.map_map]
 congr 3
 exact List.map_id xs
theorem Nw{m:M}(ws:List Int):gp m (ws.map .int)=some (.un,.lst (ws.map .int)):=by
 unfold gp
 rw[if_pos (xC ws),if_pos (xC ws),ite_self,ite_self]
theorem PV(ws:List Int)(lo hi:Option Int):J.cut (ws.map D.int) lo hi=(J.cut ws lo hi).map D.int:=by
 unfold J.cut
 rw[ln,List.map_take,List.map_drop]
theorem yd{m:M}(ws:List Int)(lo hi:Option Int):gq (m,.lst (ws.map .int)) lo hi=some (.un,.lst ((J.cut ws lo hi).map .int)):=by
 unfold gq qu zA
 simp only[PV,Nw]
theorem C7:∀xs:List Int,nQ (xs.map .int)=some xs
 |[]=>rfl
 |x::xs=>by rw[mq,nQ,C7 xs];rfl
theorem pI(ns:List Int)(k:Int)(h:0≤k):∃x,j8 [.lst (ns.map .int),.int k]=some (.fr,.int x):=by
 obtain⟨b,hb⟩:=x9 ns
 obtain⟨c,hc⟩:=ke ns k h
 obtain⟨x,hx⟩:=kc (J.cut ns none (some 4)).sum k
 unfold j8 fn BQ
 simp only[cg,a7,bD]
 cases b with
 |true =>
  refine⟨c,?_⟩
  rw[dJ (e':=[some (.al,.lst (ns.map .int)),some (.al,.int k)]) (m:=.fr) (d:=.int c) (by
   rw[bA (by walk_at "ev"; rw[hb];rfl)]
   walk_at "ev"
   rw[hc]
   rfl)]
  rfl
 |false =>
  refine⟨x,?_⟩
  rw[eW (by walk_at "ev"; rw[hb];rfl)]
  walk_at "ev"
  rw[yd]
  walk_at "ev"
  simp -implicitDefEqProofs only [qw,C7,oq]
  walk_at "ev"
  rw[hx]
  walk_at "ev"
theorem ip{rs:List Row}{n:Nat}{r:Row}(h:rs[n]?=some r):L2.bB (rs.map Row.d) (n:Int)=some r.d:=by
 have aU:n<rs.length:=(bO.mp h).1
 rw[lD (by rw[ln];exact aU),List.getElem_map]
 rw[eU aU]at h
 rw[Option.some.inj h]
theorem S0{r:Row}:Row.dZ r=true↔r=.en:=by cases r<;>simp[Row.dZ]
theorem yE{r:Row}:Row.cA r=true↔∃t,r=.go t:=by cases r<;>simp[Row.cA]
noncomputable def pick(rs:List Row)(p:Row→Bool)(n:Nat):Bool:=match rs[n]? with
 |some r=>p r
 |none=>false
theorem uF(es:List Nat):i3 (.lst (aj es)) (.lst [])=true∧PyData.eqv (toPy (.lst (aj es))) (toPy (.lst []))=es.isEmpty:=by
 have p1:J.dC (aj es)=true:=mY fun d hd=>by
  obtain⟨q,_,rfl⟩:=bu.mp hd;simp[J.plain]
 refine⟨?_,?_⟩
 ·simp only[i3,J.plain,p1,J.dC,lN,Bool.and_self,Bool.true_and]
  exact cV (by simp[toPy,cu,PyData.depth,PyData.depthAll])
 ·cases es<;>simp[aj,toPy,cu,PyData.eqv,PyData.eqvAll]
theorem Eg{m n:M}(es:List Nat):gG (m,.lst (aj es)) (n,.lst [])=some (.fr,.bl es.isEmpty):=by
 simp only[gG,(uF es).1,if_true,(uF es).2]
theorem Eh{m n:M}(es:List Nat):eR (m,.lst (aj es)) (n,.lst [])=some (.fr,.bl (!es.isEmpty)):=by
 simp only[eR,(uF es).1,if_true,(uF es).2]
theorem F4{α:Type}{a:α}{l:List α}:L2.bB (a::l) 0=some a:=by
 have:=lD (l:=a::l) (k:=0) (by simp)
 simpa using this
theorem PX(rs:List Row)(n:Int)(hl:rs.length≤100)(h0:rs[0]?≠some .en):∃r:Row,tH [.lst (rs.map Row.d),.int n]=some (.fr,r.d)∧(r=.en∨(0<rs.length∧∃t,r=.go t)):=by
 have b0:-4611686018427387904≤(rs.length:Int)∧(rs.length:Int)<4611686018427387904:=by omega
 have ht:(rs.length:Int).toNat=rs.length:=by omega
 have ex:=oZ (fc:=jB (ag aL (ag ao (ag ao (jV 1) (jV 0)) (jC (.int 0))) (jC (.str "end")))) (fe:=jV 0) (m:=.fr) (fr:=[some (.al,.lst (rs.map Row.d))]) (p:=pick rs Row.dZ) (List.range rs.length) (fun k hk=>by
  have hk:=List.mem_range.mp hk
  have hr:rs[k]?=some (rs[k]'hk):=by simp
  have e:=ip hr
  refine⟨?_,rfl⟩
  walk_at "ev"
  rw[e]
  walk_at "ev"
  simp -implicitDefEqProofs only [cX,oq,dn,cS,bh,g9,pick,hr])
 generalize he:(List.range rs.length).filter (pick rs Row.dZ)=es at ex
 have Ax:es.length≤100:=by rw[←he];have:=List.length_filter_le (pick rs Row.dZ) (List.range rs.length);simp at this;omega
 have X6:av 2 (cC (bN (ae (aI bx (ae (jV 0) ah)) ah)) [0] (jB (ag aL (ag ao (ag ao (jV 1) (jV 0)) (jC (.int 0))) (jC (.str "end")))) (jV 0)) [some (.al,.lst (rs.map Row.d)),some (.al,.int n),none]=some (.nx [some (.al,.lst (rs.map Row.d)),some (.al,.int n),some (.bo,.lst (aj es))]):=by
  simp -implicitDefEqProofs only [av,cC,bN,aI,ae,ah,jV,gz,gy,id_eq,oq,cT,ln,b0,and_self,if_true,ht]
  rw[show dB [some (M.al,D.lst (rs.map Row.d)),some (M.al,D.int n),none] [0]=[some (.al,.lst (rs.map Row.d))] from rfl,yc,ex,oq,lE (by rw[cR];omega),oq]
  rfl
 unfold tH fn Cv
 simp only[cg,a7,bD]
 rw[aw X6]
 have hq:=Eg (m:=.bo) (n:=.un) es
 generalize jN:es.isEmpty=b at hq
 have hb:b=false→es≠[]:=fun z e=>by subst e;rw[←jN]at z;cases z
 have hc:∀c,(cW (jB (ag gG (jV 2) (bp ah))) (jB (ag gR (ag aR (jV 1) (jC (.int 3))) (jC (.int 0))))) [some (.al,.lst (rs.map Row.d)),some (.al,.int n),some (.bo,.lst (aj es))]=some c→(c=false→b=false):=fun c h hf=>by
  subst hf
  revert h
  walk_at "go"
  rw[hq]
  walk_at "ev"
  cases b with
  |true=>intro h;cases h
  |false=>intro _;rfl
 have gn:∃c,(cW (jB (ag gG (jV 2) (bp ah))) (jB (ag gR (ag aR (jV 1) (jC (.int 3))) (jC (.int 0))))) [some (.al,.lst (rs.map Row.d)),some (.al,.int n),some (.bo,.lst (aj es))]=some c:=by
  walk_at "go"
  rw[hq]
  walk_at "ev"
  cases b<;>exact⟨_,rfl⟩
 obtain⟨c,gn⟩:=gn
 cases c with
 |true =>
  refine⟨.en,?_,.inl rfl⟩
  rw[dJ (e':=[some (.al,.lst (rs.map Row.d)),some (.al,.int n),some (.bo,.lst (aj es))]) (m:=.fr) (d:=Row.d .en) (by rw[bA gn];rfl)]
  rfl
 |false =>
  have eD:=hb (hc false gn rfl)
  obtain⟨a,l,rfl⟩:=List.exists_cons_of_ne_nil eD
  have hm:a∈(List.range rs.length).filter (pick rs Row.dZ):=by rw[he];exact bV
  obtain⟨h1,h2⟩:=List.mem_filter.mp hm
  have h1:=List.mem_range.mp h1
  have ha:a≠0:=fun z=>by
   subst z
   unfold pick at h2
   split at h2
   ·rename_i r hr;rw[S0.mp h2]at hr;exact h0 hr
   ·cases h2
  refine⟨.go (n/3%(a:Int)),?_,.inr ⟨by omega,_,rfl⟩⟩
  rw[aw (e':=[some (.al,.lst (rs.map Row.d)),some (.al,.int n),some (.bo,.lst (aj (a::l)))]) (by rw[bL gn];rfl)]
  walk_at "go"
  rw[show aj (a::l)=.int (a:Int)::aj l from rfl,F4]
  walk_at "ev"
  rw[iV (by omega)]
  walk_at "ev"
  rfl
structure RG (rs:List Row):Prop where
 r0:∀r,rs[0]?=some r→Row.dZ r=false∧Row.cA r=false
 pt:∀(i:Nat) a t,rs[i]?=some (.pt a t)→(t=-1∧i+1<rs.length)∨0≤t
theorem RG.nil:RG []:=⟨fun r h=>by simp at h,fun i a t h=>by simp at h⟩
theorem gA{rs:List Row}{x r:Row}{i:Nat}(h:(rs++[x])[i]?=some r):rs[i]?=some r∨(i=rs.length∧r=x):=by
 rw[List.getElem?_append]at h
 split at h
 ·exact .inl h
 ·rename_i hi
  have:i-rs.length=0:=by
   rcases Nat.eq_zero_or_pos (i-rs.length)with z|z
   ·exact z
   ·rw[List.getElem?_eq_none (by simp;omega)]at h;cases h
  rw[this]at h
  simp at h
  exact .inr ⟨by omega,h.symm⟩
theorem RG.one{rs:List Row}{r:Row}(h:RG rs)(e:Row.dZ r=false)(g:Row.cA r=false)(p:∀a t,r=.pt a t→0≤t):RG (rs++[r]):=by
 refine⟨fun x hx=>?_,fun i a t hx=>?_⟩
 ·rcases gA hx with z|⟨_,rfl⟩
  ·exact h.r0 x z
  ·exact⟨e,g⟩
 ·rcases gA hx with z|⟨_,z⟩
  ·rcases h.pt i a t z with⟨w,y⟩|w
   ·exact .inl ⟨w,by simp;omega⟩
   ·exact .inr w
  ·exact .inr (p a t z.symm)
theorem RG.two{rs:List Row}{a:Ko}{y:Row}(h:RG rs)(hy:∀b t,y≠.pt b t):RG (rs++[.pt a (-1)]++[y]):=by
 refine⟨fun x hx=>?_,fun i b t hx=>?_⟩
 ·rcases gA hx with z|⟨z,_⟩
  ·rcases gA z with z|⟨_,rfl⟩
   ·exact h.r0 x z
   ·exact⟨rfl,rfl⟩
  ·simp at z
 ·rcases gA hx with z|⟨_,z⟩
  ·rcases gA z with z|⟨z,w⟩
   ·rcases h.pt i b t z with⟨w,y⟩|w
    ·exact .inl ⟨w,by simp;omega⟩
    ·exact .inr w
   ·cases w;exact .inl ⟨rfl,by simp;omega⟩
  ·exact absurd z.symm (hy b t)
theorem nF{e:Ev}{k:Nat}{rs:List Row}{r:Row}{f:Ev→Option (M×D)}(he:e[k]?=some (some (.bo,.lst (rs.map Row.d))))(hf:f e=some (.fr,r.d))(hl:rs.length≤1000):cF k f e=some (.nx (e.set k (some (.bo,.lst ((rs++[r]).map Row.d))))):=by
 have s:rs.length<sizeLine:=dz hl (by decide)
 simp -implicitDefEqProofs only [cF,hf,oq,fJ,if_true,dW,he,own,ln,s,List.map_append,mq,mn]
theorem PY(A0 A1:Option (M×D))(fs:List Str)(hf:0<fs.length)(ds:List De)(hd:0<ds.length)(rs:List Row)(h:RG rs)(hl:rs.length≤200)(k c:Int)(o7:Option (M×D)) :
  ∃bE bZ,sH [A0,A1,some (.bo,.lst (fs.map .str)),some (.bo,.lst (ds.map ak)),some (.bo,.lst (rs.map Row.d)),some (.al,.int k),some (.al,.int c),o7]=some (.nx [A0,A1,some (.bo,.lst (fs.map .str)),some (.bo,.lst (ds.map ak)),some (.bo,.lst (bE.map Row.d)),some (.al,.int k),some (.al,.int c),bZ])∧RG bE∧bE.length≤rs.length+2:=by
 obtain⟨x,hx⟩:=kc c k
 obtain⟨r,hr,p1,p2,p3⟩:=Fe c x fs hf ds hd
 unfold sH
 rw[aw (e':=[A0,A1,some (.bo,.lst (fs.map .str)),some (.bo,.lst (ds.map ak)),some (.bo,.lst (rs.map Row.d)),some (.al,.int k),some (.al,.int c),some (.fr,.int x)]) (by walk_at "ev"; rw[hx];walk_at "ev")]
 rw[aw (nF (rs:=rs) (r:=r) rfl (by walk_at "ev"; rw[hr]) (by omega))]
 simp -implicitDefEqProofs only [tz,tq]
 by_cases q1:c%11=9
 ·obtain⟨a,rfl⟩:=p3 (by omega)
  rw[aw (e':=[A0,A1,some (.bo,.lst (fs.map .str)),some (.bo,.lst (ds.map ak)),some (.bo,.lst ((rs++[Row.pt a (-1)]++[Row.en]).map Row.d)),some (.al,.int k),some (.al,.int c),some (.fr,.int x)]) (by
   rw[bA (by walk_at "go"; simp only[q1,decide_true])]
   exact nF (r:=.en) rfl rfl (by simp;omega))]
  rw[bL (by walk_at "go"; simp only[q1];rfl)]
  exact⟨_,_,rfl,h.two (fun _ _ z=>nomatch z),by simp⟩
 rw[aw (e':=[A0,A1,some (.bo,.lst (fs.map .str)),some (.bo,.lst (ds.map ak)),some (.bo,.lst ((rs++[r]).map Row.d)),some (.al,.int k),some (.al,.int c),some (.fr,.int x)]) (by
  rw[bL (by walk_at "go"; simp only[q1,decide_false])];rfl)]
 by_cases q2:c%11=10
 ·obtain⟨a,rfl⟩:=p3 (by omega)
  rw[bA (by walk_at "go"; simp only[q2,decide_true])]
  exact⟨_,_,nF (r:=.go (x/720%60)) rfl (by walk_at "go"; rfl) (by simp;omega),h.two (fun _ _ z=>nomatch z),by simp⟩
 ·rw[bL (by walk_at "go"; simp only[q2,decide_false])]
  refine⟨_,_,rfl,?_,by simp⟩
  by_cases q3:c%11<7
  ·have:=p1 q3
   refine h.one ?_ ?_ ?_<;>cases r<;>simp_all [Row.flat,Row.dZ,Row.cA]
  ·obtain⟨a,t,rfl,ht⟩:=p2 (by omega) (by omega)
   exact h.one rfl rfl fun b s e=>by cases e;exact ht
theorem Nx{cs:List Int}{i:Nat}{d:D}(h:(cI (cs.map D.int))[i]?=some d):∃c:Int,d=.tup [.int i,.int c]:=by
 unfold cI at h
 rw[List.getElem?_mapIdx,dG]at h
 cases e:cs[i]? with
 |none=>rw[e]at h;cases h
 |some r=>rw[e]at h;cases h;exact⟨r,rfl⟩
structure RF (rs:List Row):Prop where
 pos:0<rs.length
 r0:∀t,rs[0]?≠some (.go t)
 pt:∀(i:Nat) a t,rs[i]?=some (.pt a t)→i+1<rs.length∧((t=-1∧i+2<rs.length)∨0≤t)
 fl:∀(i:Nat) r,rs[i]?=some r→Row.flat r=true→i+1<rs.length
theorem RG.rf{rs:List Row}{x:Row}(h:RG rs)(hx:x=.en∨(0<rs.length∧∃t,x=.go t)):RF (rs++[x]):=by
 have lt:∀{i:Nat}{r:Row},rs[i]?=some r→i<rs.length:=fun z=>(bO.mp z).1
 refine⟨by simp,fun t ht=>?_,fun i a t ht=>?_,fun i r hr hf=>?_⟩
 ·rcases gA ht with z|⟨z,w⟩
  ·have:=(h.r0 _ z).2;simp[Row.cA]at this
  ·rcases hx with rfl|⟨hp,_⟩
   ·cases w
   ·omega
 ·rcases gA ht with z|⟨z,w⟩
  ·have:=lt z
   refine⟨by simp;omega,?_⟩
   rcases h.pt i a t z with⟨w,y⟩|w
   ·exact .inl ⟨w,by simp;omega⟩
   ·exact .inr w
  ·rcases hx with rfl|⟨_,t,rfl⟩<;>cases w
 ·rcases gA hr with z|⟨z,rfl⟩
  ·have:=lt z;simp;omega
  ·rcases hx with rfl|⟨_,t,rfl⟩<;>cases hf
theorem Ny(ns cs:List Int)(hc:cs.length≤40):∃rs,tD [.lst (ns.map .int),.lst (cs.map .int)]=some (.un,.lst (rs.map Row.d))∧RF rs∧rs.length≤100:=by
 obtain⟨c0,h0⟩:=ke ns 0 (by omega)
 obtain⟨fs,jt,rP⟩:=xK c0
 obtain⟨ds,Bf,iI⟩:=xM ns fs (by omega)
 obtain⟨nu,Bg⟩:=pI ns 58 (by omega)
 obtain⟨e',l1,rs,o5,o6,o7,he,hg,hl⟩:=dI (g:=gT 2 (cq (gN 5) (cq (gN 6) fL))) (b:=sH) (m:=.al) (ds:=cI (cs.map D.int)) (e:=[some (.al,.lst (ns.map .int)),some (.al,.lst (cs.map .int)),some (.bo,.lst (fs.map .str)),some (.bo,.lst (ds.map ak)),some (.bo,.lst ([].map Row.d)),none,none,none])
  (fun i e=>∃(rs:List Row) (o5 o6 o7:Option (M×D)),e=[some (.al,.lst (ns.map .int)),some (.al,.lst (cs.map .int)),some (.bo,.lst (fs.map .str)),some (.bo,.lst (ds.map ak)),some (.bo,.lst (rs.map Row.d)),o5,o6,o7]∧RG rs∧(i≤cs.length→rs.length≤2*i))
  ⟨[],none,none,none,rfl,RG.nil,fun _=>a6 _⟩
  (fun i d e hd bz=>by
   obtain⟨rs,o5,o6,o7,he,hg,hl⟩:=bz
   subst he
   have hi:i<cs.length:=by
    have:=(bO.mp hd).1
    simpa[cI]using this
   obtain⟨c,rfl⟩:=Nx hd
   have hl:=hl (by omega)
   obtain⟨bE,bZ,q1,q2,q3⟩:=PY (some (.al,.lst (ns.map .int))) (some (.al,.lst (cs.map .int))) fs (by omega) ds (by omega) rs hg (by omega) (i:Int) c o7
   exact⟨_,_,rfl,q1,bE,_,_,bZ,rfl,q2,fun _=>by omega⟩)
 subst he
 have hl:rs.length≤80:=by
  have:=hl (by simp[cI])
  simp[cI]at this;omega
 obtain⟨x,hx,X7⟩:=PX rs nu (by omega) (fun z=>by have:=(hg.r0 _ z).1;simp[Row.dZ]at this)
 refine⟨rs++[x],?_,hg.rf X7,by simp;omega⟩
 unfold tD fn B8
 simp only[cg,a7,bD]
 rw[aw (e':=[some (.al,.lst (ns.map .int)),some (.al,.lst (cs.map .int)),some (.bo,.lst (fs.map .str)),none,none,none,none,none]) (by walk_at "ev"; rw[h0];walk_at "ev"; rw[rP];walk_at "ev")]
 rw[aw (e':=[some (.al,.lst (ns.map .int)),some (.al,.lst (cs.map .int)),some (.bo,.lst (fs.map .str)),some (.bo,.lst (ds.map ak)),none,none,none,none]) (by walk_at "ev"; rw[iI];walk_at "ev")]
 rw[aw (e':=[some (.al,.lst (ns.map .int)),some (.al,.lst (cs.map .int)),some (.bo,.lst (fs.map .str)),some (.bo,.lst (ds.map ak)),some (.bo,.lst ([].map Row.d)),none,none,none]) rfl]
 rw[aw (e':=[some (.al,.lst (ns.map .int)),some (.al,.lst (cs.map .int)),some (.bo,.lst (fs.map .str)),some (.bo,.lst (ds.map ak)),some (.bo,.lst (rs.map Row.d)),o5,o6,o7]) (by
  rw[cN,show cw 1 [some (.al,.lst (ns.map .int)),some (.al,.lst (cs.map .int)),some (.bo,.lst (fs.map .str)),some (.bo,.lst (ds.map ak)),some (.bo,.lst ([].map Row.d)),none,none,none]=[some (.al,.lst (ns.map .int)),some (.al,.lst (cs.map .int)),some (.bo,.lst (fs.map .str)),some (.bo,.lst (ds.map ak)),some (.bo,.lst ([].map Row.d)),none,none,none] from rfl]
  simp -implicitDefEqProofs only [bf,jo,ae,jV,ah,gz,gy,oq,id_eq,b8,oy]
  exact l1)]
 walk_at "ev"
 rw[Bg]
 walk_at "ev"
 rw[hx]
 walk_at "ev"
 rw[yp (by decide) (by decide) (by simp only[ln,List.length_cons,List.length_nil];exact bP (show rs.length+(0+1)≤200 by omega) (by decide))]
 rw[show mJ .bo .un=.fr from rfl,yv]
 walk_at "ev"
 rw[List.map_append];rfl
noncomputable def intAt(k:Nat)(e:Ev):Nat:=match e[k]? with
 |some (some (_,.int g))=>g.toNat
 |_=>0
theorem PZ{rs:List Row}(h:RF rs)(hl:rs.length≤200)(t:Int):∃g:Int,tI [.lst (rs.map Row.d),.int t]=some (.fr,.int g)∧0≤g∧g<rs.length:=by
 have hp:=h.pos
 obtain⟨e',l1,⟨g,he,hg⟩,_⟩:=xD (c:=sW) (b:=xn) (e:=[some (.al,.lst (rs.map Row.d)),some (.fr,.int (t%rs.length))])
  (fun e=>∃g:Nat,e=[some (.al,.lst (rs.map Row.d)),some (.fr,.int (g:Int))]∧g<rs.length)
  (intAt 1)
  ⟨(t%rs.length).toNat,by rw[Int.toNat_of_nonneg (Int.emod_nonneg _ (by omega))],by have:=Int.emod_lt_of_pos t (show(0:Int)<rs.length by omega);have:=Int.emod_nonneg t (show(rs.length:Int)≠0 by omega);omega⟩
  (fun e bz=>by
   obtain⟨g,he,hg⟩:=bz
   subst he
   have hr:rs[g]?=some (rs[g]'hg):=by simp
   generalize rs[g]'hg=r at hr
   have e1:=ip hr
   have hC:sW [some (.al,.lst (rs.map Row.d)),some (.fr,.int (g:Int))]=some (Row.cA r):=by
    unfold sW
    walk_at "ev"
    rw[e1]
    walk_at "ev"
    simp -implicitDefEqProofs only [cX,oq,dn,cS,bh,gj]
   cases jv:Row.cA r with
   |false=>exact .inl (by rw[hC,jv])
   |true =>
    obtain⟨t',rfl⟩:=yE.mp jv
    have h0:g≠0:=fun z=>by subst z;exact h.r0 t' hr
    refine .inr ⟨by rw[hC,jv],[some (.al,.lst (rs.map Row.d)),some (.fr,.int ((g-1:Nat):Int))],?_,⟨g-1,rfl,by omega⟩,?_⟩
    ·unfold xn
     walk_at "ev"
     rw[show(g:Int)-1=((g-1:Nat):Int) by omega]
    ·simp only[intAt,gz,gy];omega)
 subst he
 refine⟨g,?_,by omega,by omega⟩
 unfold tI fn Cw
 simp only[cg,a7,bD]
 rw[aw (e':=[some (.al,.lst (rs.map Row.d)),some (.fr,.int (t%rs.length))]) (by walk_at "go")]
 rw[aw l1]
 rfl
theorem S1{r:Row}:Row.fA r=true↔∃a t,r=.pt a t:=by cases r<;>simp[Row.fA]
theorem Bh(m n:M)(a:Ko)(t:Int):ao (m,Row.d (.pt a t)) (n,.int 1)=some (aQ m,kD a):=rfl
theorem jm(m n:M)(a:Ko)(t:Int):ao (m,Row.d (.pt a t)) (n,.int 2)=some (aQ m,.int t):=rfl
theorem X8(m n:M)(t:Int):ao (m,Row.d (.go t)) (n,.int 1)=some (aQ m,.int t):=rfl
theorem Bi(a:Ko)(t:Int):iY [(M.fr,D.str "part"),(.fr,kD a),(.fr,.int t)]=some (.fr,Row.d (.pt a t)):=rfl
theorem X9(t:Int):iY [(M.fr,D.str "go"),(.fr,.int t)]=some (.fr,Row.d (.go t)):=rfl
theorem S2{ro:List Row}(h:RF ro)(hl:ro.length≤200)(A0 A1 A2:Option (M×D))(rs:List Row)(hr:rs.length≤200){i:Nat}{r:Row}(hi:ro[i]?=some r) :
  ∃r' o6,sg [A0,A1,A2,some (.fr,.lst (ro.map Row.d)),some (.bo,.lst (rs.map Row.d)),some (.fr,.int (i:Int)),some (.fr,r.d)]=some (.nx [A0,A1,A2,some (.fr,.lst (ro.map Row.d)),some (.bo,.lst ((rs++[r']).map Row.d)),some (.fr,.int (i:Int)),o6])∧∀m∈bj i r',0≤m∧m<ro.length:=by
 have hp:=h.pos
 have aU:i<ro.length:=(bO.mp hi).1
 have fin:∀r':Row,(∀m∈bj i r',0≤m∧m<ro.length)→∀f,f [A0,A1,A2,some (.fr,.lst (ro.map Row.d)),some (.bo,.lst (rs.map Row.d)),some (.fr,.int (i:Int)),some (.fr,r.d)]=some (.nx [A0,A1,A2,some (.fr,.lst (ro.map Row.d)),some (.bo,.lst (rs.map Row.d)),some (.fr,.int (i:Int)),some (.fr,r'.d)]) →
   ∃r' o6,aq f (cF 4 (jV 6)) [A0,A1,A2,some (.fr,.lst (ro.map Row.d)),some (.bo,.lst (rs.map Row.d)),some (.fr,.int (i:Int)),some (.fr,r.d)]=some (.nx [A0,A1,A2,some (.fr,.lst (ro.map Row.d)),some (.bo,.lst ((rs++[r']).map Row.d)),some (.fr,.int (i:Int)),o6])∧∀m∈bj i r',0≤m∧m<ro.length:=fun r' h1 f h2=>by
  refine⟨r',some (.fr,r'.d),?_,h1⟩
  rw[aw h2]
  exact nF (r:=r') rfl rfl (by omega)
 have w1:∀e:Ev,e[6]?=some (some (.fr,r.d))→(jB (ag aL (ag ao (jV 6) (jC (.int 0))) (jC (.str "part")))) e=some (Row.fA r):=fun e he=>by
  simp -implicitDefEqProofs only [jB,ag,jV,jC,he,id_eq,oq,cX,kj,cS,bh,iD]
 have w2:∀e:Ev,e[6]?=some (some (.fr,r.d))→(jB (ag aL (ag ao (jV 6) (jC (.int 0))) (jC (.str "go")))) e=some (Row.cA r):=fun e he=>by
  simp -implicitDefEqProofs only [jB,ag,jV,jC,he,id_eq,oq,cX,kj,cS,bh,gj]
 have vv:∀{a b:Ev→Option Bool}{e:Ev},a e=some false→bX a b e=some false:=fun {a b e} h=>by simp[bX,h]
 have qB:∀{a b:Ev→Option Bool}{e:Ev},a e=some true→bX a b e=b e:=fun {a b e} h=>by simp[bX,h]
 unfold sg
 by_cases fG:Row.fA r=true
 ·obtain⟨a,t,rfl⟩:=S1.mp fG
  obtain⟨n1,n2⟩:=h.pt i a t hi
  by_cases q1:t=-1
  ·refine fin (.pt a ((i:Int)+2)) (fun m hm=>?_) _ ?_
   ·have:m=(i:Int)+1∨m=(i:Int)+2:=by simpa[aN.bj]using hm
    rcases n2 with⟨_,z⟩|z<;>omega
   ·rw[bA (by rw[qB (by rw[w1 _ rfl,fG])];simp -implicitDefEqProofs only [jB,ag,cB,jV,jC,gz,gy,id_eq,oq,jm,lL,lK,bh,q1,decide_true])]
    simp -implicitDefEqProofs only [av,aM,ae,ah,ag,jV,jC,gz,gy,id_eq,oq,Bh,kj,ny,Bi,fI,tz,tq]
  ·have n3:0≤t:=by rcases n2 with⟨z,_⟩|z<;>omega
   have m0:=Int.emod_nonneg t (show(ro.length:Int)≠0 by omega)
   have m1:=Int.emod_lt_of_pos t (show(0:Int)<ro.length by omega)
   by_cases q2:t%ro.length=(i:Int)+1
   ·refine fin (.pt a (i:Int)) (fun m hm=>?_) _ ?_
    ·have:m=(i:Int)+1∨m=(i:Int):=by simpa[aN.bj]using hm
     omega
    ·rw[bL (by rw[qB (by rw[w1 _ rfl,fG])];simp -implicitDefEqProofs only [jB,ag,cB,jV,jC,gz,gy,id_eq,oq,jm,lL,lK,bh,q1,decide_false])]
     rw[bA (by rw[qB (by rw[w1 _ rfl,fG])];simp -implicitDefEqProofs only [jB,ag,cB,jV,jC,aI,ae,ah,gz,gy,id_eq,oq,jm,cT,ln,ny];rw[iV (by omega)];simp -implicitDefEqProofs only [oq,lK,bh,q2,decide_true])]
     simp -implicitDefEqProofs only [av,aM,ae,ah,ag,jV,jC,gz,gy,id_eq,oq,Bh,kj,ny,Bi,fI,tz,tq]
   ·refine fin (.pt a (t%ro.length)) (fun m hm=>?_) _ ?_
    ·have:m=(i:Int)+1∨m=t%ro.length:=by simpa[aN.bj]using hm
     omega
    ·rw[bL (by rw[qB (by rw[w1 _ rfl,fG])];simp -implicitDefEqProofs only [jB,ag,cB,jV,jC,gz,gy,id_eq,oq,jm,lL,lK,bh,q1,decide_false])]
     rw[bL (by rw[qB (by rw[w1 _ rfl,fG])];simp -implicitDefEqProofs only [jB,ag,cB,jV,jC,aI,ae,ah,gz,gy,id_eq,oq,jm,cT,ln,ny];rw[iV (by omega)];simp -implicitDefEqProofs only [oq,lK,bh,q2,decide_false])]
     rw[bA (by rw[w1 _ rfl,fG])]
     simp -implicitDefEqProofs only [av,aM,ae,ah,ag,jV,jC,aI,gz,gy,id_eq,oq,Bh,jm,kj,cT,ln]
     rw[iV (by omega)]
     simp -implicitDefEqProofs only [oq,Bi,fI,tz,tq]
 ·have fG:Row.fA r=false:=by simpa using fG
  by_cases jv:Row.cA r=true
  ·obtain⟨t,rfl⟩:=yE.mp jv
   obtain⟨g,eg,g0,g1⟩:=PZ h hl t
   refine fin (.go g) (fun m hm=>?_) _ ?_
   ·have:m=g:=by simpa[aN.bj]using hm
    omega
   ·rw[bL (vv (by rw[w1 _ rfl,fG])),bL (vv (by rw[w1 _ rfl,fG])),bL (by rw[w1 _ rfl,fG]),bA (by rw[w2 _ rfl,jv])]
    simp -implicitDefEqProofs only [av,aM,ae,ah,ag,jV,jC,ay,gz,gy,id_eq,oq,X8,kj,mq,mn,eg,X9,fI,tz,tq]
  ·have jv:Row.cA r=false:=by simpa using jv
   refine fin r (fun m hm=>?_) _ ?_
   ·cases r with
    |en=>simp[aN.bj]at hm
    |go t=>cases jv
    |pt a t=>cases fG
    |rk x s a b =>
     have:=h.fl i _ hi rfl;have:m=(i:Int)+1:=by simpa[aN.bj]using hm
     omega
    |cp x a =>
     have:=h.fl i _ hi rfl;have:m=(i:Int)+1:=by simpa[aN.bj]using hm
     omega
    |sy a =>
     have:=h.fl i _ hi rfl;have:m=(i:Int)+1:=by simpa[aN.bj]using hm
     omega
   ·rw[bL (vv (by rw[w1 _ rfl,fG])),bL (vv (by rw[w1 _ rfl,fG])),bL (by rw[w1 _ rfl,fG]),bL (by rw[w2 _ rfl,jv])]
    rfl
theorem Good.set{rs:List Row}{j:Nat}{r:Row}(h:Good rs)(hj:∀m∈aN.bj j r,0≤m∧m<rs.length):Good (rs.set j r):=by
 refine⟨by rw[List.length_set];exact h.pos,fun n x hx m hm=>?_⟩
 rw[List.length_set]
 rw[List.getElem?_set]at hx
 split at hx
 ·rename_i e;subst e
  split at hx
  ·cases hx;exact hj m hm
  ·cases hx
 ·exact h.bj n x hx m hm
theorem jy{e:Ev}{k j:Nat}{mo m':M}{rs:List Row}{r:Row}{f g:Ev→Option (M×D)}(ho:own mo=true)(he:e[k]?=some (some (mo,.lst (rs.map Row.d))))(hf:f e=some (.fr,r.d))(hg:g e=some (m',.int (j:Int)))(hj:j<rs.length) :
  fq k g f e=some (.nx (e.set k (some (mo,.lst ((rs.set j r).map Row.d))))):=by
 have rN:dP (rs.map Row.d).length (j:Int)=some j:=by
  unfold dP
  rw[ln,if_pos (by omega),if_pos (by omega)];simp
 simp -implicitDefEqProofs only [fq,hf,hg,oq,jD,fJ,if_true,dW,he,ho,rN,List.map_set]
theorem S3(r:Row):dQ (.str r.word) [.str "reckon",.str "copy",.str "say"]=Row.flat r:=by
 cases r with
 |rk x s a b=>exact(by decide +kernel:dQ (.str ("reckon" : Str)) [.str "reckon",.str "copy",.str "say"]=true)
 |cp x a=>exact(by decide +kernel:dQ (.str ("copy" : Str)) [.str "reckon",.str "copy",.str "say"]=true)
 |sy a=>exact(by decide +kernel:dQ (.str ("say" : Str)) [.str "reckon",.str "copy",.str "say"]=true)
 |go t=>exact(by decide +kernel:dQ (.str ("go" : Str)) [.str "reckon",.str "copy",.str "say"]=false)
 |pt a t=>exact(by decide +kernel:dQ (.str ("part" : Str)) [.str "reckon",.str "copy",.str "say"]=false)
 |en=>exact(by decide +kernel:dQ (.str ("end" : Str)) [.str "reckon",.str "copy",.str "say"]=false)
theorem Ei(m n:M)(r:Row)(neg:Bool):dY neg (m,.str r.word) (n,.tup [.str "reckon",.str "copy",.str "say"])=some (.fr,.bl (if neg then !Row.flat r else Row.flat r)):=by
 rw[←S3 r];rfl
theorem F5{r:Row}(h:Row.flat r=true):∃a:Ko,∀m n:M,ao (m,r.d) (n,.int 1)=some (aQ m,kD a):=by
 cases r with
 |rk x s a b=>exact⟨.inr x,fun _ _=>rfl⟩
 |cp x a=>exact⟨.inr x,fun _ _=>rfl⟩
 |sy a=>exact⟨a,fun _ _=>rfl⟩
 |go t=>cases h
 |pt a t=>cases h
 |en=>cases h
theorem ye{rs:List Row}(h:Good rs){i:Nat}{r:Row}(hi:rs[i]?=some r)(hf:Row.flat r=true):i+1<rs.length:=by
 have:=h.bj i r hi ((i:Int)+1) (by cases r<;>simp_all [Row.flat,aN.bj])
 omega
theorem Ej{rs:List Row}{p:Row→Bool}{n:Nat}(h:pick rs p n=true):∃r,rs[n]?=some r∧p r=true:=by
 unfold pick at h
 split at h
 ·rename_i r hr;exact⟨r,hr,h⟩
 ·cases h
theorem C8{rs:List Row}{mo:M}(he:aQ mo=.fr)(hn:∀d:D,¬(mo=.nb)){ks:List Nat}(hk:∀k∈ks,k<rs.length) :
  fh (jB (ag (dY false) (ag ao (ag ao (jV 1) (jV 0)) (jC (.int 0))) (aM (ae (jC (.str "reckon")) (ae (jC (.str "copy")) (ae (jC (.str "say")) ah)))))) (jV 0) .fr [some (mo,.lst (rs.map Row.d))] (aj ks)=some ((aj (ks.filter (pick rs Row.flat))).map fun x=>(M.fr,x)):=by
 refine oZ ks fun k Ya=>?_
 have aU:=hk k Ya
 have hr:rs[k]?=some (rs[k]'aU):=by simp
 have e:=ip hr
 refine⟨?_,rfl⟩
 simp -implicitDefEqProofs only [jB,ag,jV,jC,aM,ae,ah,gz,gy,id_eq,oq,dq,e,oy,he,cX,kj]
 rw[show iY [(M.fr,D.str "reckon"),(.fr,.str "copy"),(.fr,.str "say")]=some (.fr,.tup [.str "reckon",.str "copy",.str "say"])from rfl,oq,Ei,oq,if_neg aZ]
 simp only[bh,pick,hr]
theorem Nz(N:Nat):bY 2 N=aj ((List.range N).map fun k=>k+2):=by
 unfold bY aj
 rw[List.map_map]
 exact List.map_congr_left fun k _=>by show D.int (2+(k:Int))=D.int ((k+2:Nat):Int);congr 1;omega
theorem NB{rs:List Row}(h:Good rs)(hl:rs.length≤200)(c:Int):∃bE:List Row,rX [.lst (rs.map Row.d),.int c]=some (.lst (bE.map Row.d))∧Good bE∧bE.length=rs.length:=by
 have hp:=h.pos
 have b0:-4611686018427387904≤(2:Int)∧(2:Int)<4611686018427387904∧-4611686018427387904≤(rs.length:Int)∧(rs.length:Int)<4611686018427387904:=by omega
 have fin:∀{bE:List Row}{e:Ev},ky (.rt e .bi (.lst (bE.map Row.d)))=some (.lst (bE.map Row.d)):=fun {bE e}=>by
  simp only[ky,own,gS,lB,and_self,if_true]
 have ex:=C8 (rs:=rs) (mo:=.bi) rfl (fun _ z=>nomatch z) (ks:=(List.range ((rs.length:Int)-2).toNat).map fun k=>k+2) (fun k hk=>by
  obtain⟨j,hj,rfl⟩:=bu.mp hk
  have:=List.mem_range.mp hj;omega)
 generalize jt:((List.range ((rs.length:Int)-2).toNat).map fun k=>k+2).filter (pick rs Row.flat)=fl at ex
 have zQ:fl.length≤1000:=by
  rw[←jt]
  have:=List.length_filter_le (pick rs Row.flat) ((List.range ((rs.length:Int)-2).toNat).map fun k=>k+2)
  simp at this;simp;omega
 have s1:av 2 (cC (qt (ae (jC (.int 2)) (ae (aI bx (ae (jV 0) ah)) ah))) [0] (jB (ag (dY false) (ag ao (ag ao (jV 1) (jV 0)) (jC (.int 0))) (aM (ae (jC (.str "reckon")) (ae (jC (.str "copy")) (ae (jC (.str "say")) ah)))))) (jV 0)) [some (.bi,.lst (rs.map Row.d)),some (.al,.int c),none,none]=some (.nx [some (.bi,.lst (rs.map Row.d)),some (.al,.int c),some (.bo,.lst (aj fl)),none]):=by
  simp -implicitDefEqProofs only [av,cC,qt,aI,ae,ah,jV,jC,gz,gy,id_eq,oq,cT,ln,b0,and_self,if_true]
  rw[show dB [some (M.bi,D.lst (rs.map Row.d)),some (M.al,D.int c),none,none] [0]=[some (.bi,.lst (rs.map Row.d))] from rfl,Nz,ex,oq,lE (by rw[cR];exact zQ),oq]
  rfl
 unfold rX i6 Bx
 rw[show(iU [0] [D.lst (rs.map Row.d),.int c]++List.replicate (4 - [D.lst (rs.map Row.d),.int c].length) none:Ev)=[some (.bi,.lst (rs.map Row.d)),some (.al,.int c),none,none] from rfl]
 rw[aw s1]
 have JF:rs[0]?=some (rs[0]'hp):=by simp
 generalize Y8:rs[0]'hp=x0 at JF
 have a0:=ip JF
 have hb:(cW (jB (ag gG (jV 2) (bp ah))) (jB (ag (dY true) (ag ao (ag ao (jV 0) (jC (.int 0))) (jC (.int 0))) (aM (ae (jC (.str "reckon")) (ae (jC (.str "copy")) (ae (jC (.str "say")) ah))))))) [some (.bi,.lst (rs.map Row.d)),some (.al,.int c),some (.bo,.lst (aj fl)),none]=some (fl.isEmpty||!Row.flat x0):=by
  have e2:(jB (ag (dY true) (ag ao (ag ao (jV 0) (jC (.int 0))) (jC (.int 0))) (aM (ae (jC (.str "reckon")) (ae (jC (.str "copy")) (ae (jC (.str "say")) ah)))))) [some (.bi,.lst (rs.map Row.d)),some (.al,.int c),some (.bo,.lst (aj fl)),none]=some (!Row.flat x0):=by
   simp -implicitDefEqProofs only [jB,ag,jV,jC,aM,ae,ah,gz,gy,id_eq,oq,dq]
   rw[show(0:Int)=((0:Nat):Int)from rfl,a0]
   simp -implicitDefEqProofs only [oy,oq,Int.natCast_zero,cX]
   rw[show iY [(M.fr,D.str "reckon"),(.fr,.str "copy"),(.fr,.str "say")]=some (.fr,.tup [.str "reckon",.str "copy",.str "say"])from rfl,oq,Ei,oq,if_pos rfl]
   rfl
  have e1:(jB (ag gG (jV 2) (bp ah))) [some (.bi,.lst (rs.map Row.d)),some (.al,.int c),some (.bo,.lst (aj fl)),none]=some fl.isEmpty:=by
   simp -implicitDefEqProofs only [jB,ag,jV,bp,ah,gz,gy,id_eq,oq]
   rw[show c9 []=some (.un,.lst [])from rfl,oq,Eg]
   rfl
  unfold cW
  rw[e1,oq]
  cases fl.isEmpty with
  |true=>rfl
  |false=>rw[e2];rfl
 cases jW:(fl.isEmpty||!Row.flat x0) with
 |true =>
  rw[dJ (e':=[some (.bi,.lst (rs.map Row.d)),some (.al,.int c),some (.bo,.lst (aj fl)),none]) (m:=.bi) (d:=.lst (rs.map Row.d)) (by rw[bA (by rw[hb,jW])];rfl)]
  exact⟨rs,by rw[oq];exact fin,h,rfl⟩
 |false =>
  obtain⟨Yb,hx⟩:fl.isEmpty=false∧Row.flat x0=true:=by simpa using jW
  rw[eW (by rw[hb,jW])]
  have Y9:0<fl.length:=by
   cases fl with
   |nil=>cases Yb
   |cons a l=>simp
  obtain⟨la,j0,Bj⟩:=lF (f:=fun(n:Nat)=>D.int (n:Int)) (l:=fl) (k:=c/4%fl.length) (Int.emod_nonneg _ (by omega)) (Int.emod_lt_of_pos _ (by omega))
  rw[←jt]at j0
  obtain⟨rQ,rR⟩:=List.mem_filter.mp j0
  obtain⟨r,hr,lj⟩:=Ej rR
  have Hn:2≤la:=by obtain⟨j,_,rfl⟩:=bu.mp rQ;omega
  have Za:=ye h hr lj
  obtain⟨a,ha⟩:=F5 lj
  have ar:=ip hr
  rw[aw (e':=[some (.bi,.lst (rs.map Row.d)),some (.al,.int c),some (.bo,.lst (aj fl)),some (.fr,.int (la:Int))]) (by
   simp -implicitDefEqProofs only [av,ag,jV,jC,aI,ae,ah,gz,gy,id_eq,oq,cT,cR]
   rw[div_ii (by omega),oq,iV (by omega),oq,dq,show aj fl=fl.map (fun(n:Nat)=>D.int (n:Int))from rfl,Bj]
   rfl)]
  rw[aw (jy (j:=la) (r:=.pt a 1) (mo:=.bi) (m':=.fr) rfl rfl (by
   simp -implicitDefEqProofs only [aM,ae,ah,ag,jV,jC,gz,gy,id_eq,oq,dq,ar,oy,ha]
   rfl) rfl (by omega))]
  simp -implicitDefEqProofs only [tz,tq]
  rw[aw (jy (rs:=rs.set la (.pt a 1)) (j:=0) (r:=.go (la:Int)) (mo:=.bi) (m':=.fr) rfl rfl rfl rfl (by rw[List.length_set];omega))]
  refine⟨(rs.set la (.pt a 1)).set 0 (.go (la:Int)),by rw[show(aK (jV 0)) _=some (.rt _ .bi (.lst (((rs.set la (.pt a 1)).set 0 (.go (la:Int))).map Row.d)))from rfl,oq];exact fin,?_,by simp⟩
  refine(h.set fun m hm=>?_).set fun m hm=>?_
  ·have:m=(la:Int)+1∨m=1:=by simpa[aN.bj]using hm
   omega
  ·have:m=(la:Int):=by simpa[aN.bj]using hm
   rw[List.length_set];omega
theorem P0{R:List D}{c:Int}(h1:D.bS R=true):j3 [0] [0] [(0,0),(1,1)] [(.bi,.lst R),(.al,.int c)]=true:=by
 simp[j3,List.range_succ,own,gS,fC,h1]
theorem NC{m:M}{f:Int}:∀ks:List Nat,fh (jB (ag gR (jV 0) (jV 1))) (jV 0) .fr [some (m,.int f)] (aj ks)=some ((aj (ks.filter fun k=>decide (f<(k:Int)))).map fun x=>(M.fr,x)):=fun ks =>
 oZ ks fun k _=>⟨by
  simp -implicitDefEqProofs only [jB,ag,jV,gz,gy,id_eq,oq,nM,bh],rfl⟩
theorem Ma{fl:List Nat}(hs:fl.Pairwise (· < ·)){i:Nat}(hi:i+1<fl.length):∃f∈fl,fl[i]?=some f∧∃l∈fl,f<l:=by
 have h1:fl[i]?=some (fl[i]'(by omega)):=by simp
 refine⟨fl[i]'(by omega),List.getElem_mem _,h1,fl[i+1]'hi,List.getElem_mem _,?_⟩
 exact(List.pairwise_iff_getElem.mp hs) i (i+1) (by omega) hi (by omega)
theorem P1{rs:List Row}(h:Good rs)(hl:rs.length≤200)(c:Int):∃bE:List Row,sf [.lst (rs.map Row.d),.int c]=some (.lst (bE.map Row.d))∧Good bE∧bE.length=rs.length:=by
 have hp:=h.pos
 have b0:-4611686018427387904≤(rs.length:Int)∧(rs.length:Int)<4611686018427387904:=by omega
 have ht:(rs.length:Int).toNat=rs.length:=by omega
 have fin:∀{bE:List Row}{e:Ev},ky (.rt e .bi (.lst (bE.map Row.d)))=some (.lst (bE.map Row.d)):=fun {bE e}=>by
  simp only[ky,own,gS,lB,and_self,if_true]
 have ex:=C8 (rs:=rs) (mo:=.bi) rfl (fun _ z=>nomatch z) (ks:=List.range rs.length) (fun k hk=>List.mem_range.mp hk)
 generalize jt:(List.range rs.length).filter (pick rs Row.flat)=fl at ex
 have zQ:fl.length≤1000:=by
  rw[←jt]
  have:=List.length_filter_le (pick rs Row.flat) (List.range rs.length)
  simp at this;simp;omega
 have U3:fl.Pairwise (· < ·):=by rw[←jt];exact List.Pairwise.filter _ List.pairwise_lt_range
 have JH:∀n∈fl,∃r,rs[n]?=some r∧Row.flat r=true:=fun n hn=>by
  rw[←jt]at hn
  exact Ej (List.mem_filter.mp hn).2
 have s1:av 2 (cC (bN (ae (aI bx (ae (jV 0) ah)) ah)) [0] (jB (ag (dY false) (ag ao (ag ao (jV 1) (jV 0)) (jC (.int 0))) (aM (ae (jC (.str "reckon")) (ae (jC (.str "copy")) (ae (jC (.str "say")) ah)))))) (jV 0)) [some (.bi,.lst (rs.map Row.d)),some (.al,.int c),none,none,none,none,none]=some (.nx [some (.bi,.lst (rs.map Row.d)),some (.al,.int c),some (.bo,.lst (aj fl)),none,none,none,none]):=by
  simp -implicitDefEqProofs only [av,cC,bN,aI,ae,ah,jV,jC,gz,gy,id_eq,oq,cT,ln,b0,and_self,if_true,ht]
  rw[show dB [some (M.bi,D.lst (rs.map Row.d)),some (M.al,D.int c),none,none,none,none,none] [0]=[some (.bi,.lst (rs.map Row.d))] from rfl,yc,ex,oq,lE (by rw[cR];exact zQ),oq]
  rfl
 unfold sf i6 BD
 rw[show(iU [0] [D.lst (rs.map Row.d),.int c]++List.replicate (7 - [D.lst (rs.map Row.d),.int c].length) none:Ev)=[some (.bi,.lst (rs.map Row.d)),some (.al,.int c),none,none,none,none,none] from rfl]
 rw[aw s1]
 by_cases q1:c%4=3
 ·obtain⟨bE,e1,g1,l1⟩:=NB h hl c
  rw[dJ (e':=[none,none,none,none,none,none,none]) (m:=.bi) (d:=.lst (bE.map Row.d)) (by
   rw[bA (by walk_at "go"; simp only[q1,decide_true])]
   simp -implicitDefEqProofs only [jF,ae,ah,jV,gz,gy,id_eq,oq,P0 (lB rs),if_true,mq,mn,e1])]
  exact⟨bE,by rw[oq];exact fin,g1,l1⟩
 rw[eW (by walk_at "go"; simp only[q1,decide_false])]
 have hb:(cW (jB (ag fD (aI bx (ae (jV 2) ah)) (jC (.int 2)))) (jB (ag aL (ag aR (jV 1) (jC (.int 2))) (jC (.int 0))))) [some (.bi,.lst (rs.map Row.d)),some (.al,.int c),some (.bo,.lst (aj fl)),none,none,none,none]=some (decide ((fl.length:Int)<2)||decide (c%2=0)):=by
  walk_at "go"
  rw[cR]
  cases decide ((fl.length:Int)<2)<;>rfl
 cases jW:(decide ((fl.length:Int)<2)||decide (c%2=0)) with
 |true =>
  rw[dJ (e':=[some (.bi,.lst (rs.map Row.d)),some (.al,.int c),some (.bo,.lst (aj fl)),none,none,none,none]) (m:=.bi) (d:=.lst (rs.map Row.d)) (by rw[bA (by rw[hb,jW])];rfl)]
  exact⟨rs,by rw[oq];exact fin,h,rfl⟩
 |false =>
  have h2:2≤fl.length:=by
   have:¬((fl.length:Int)<2):=by
    intro z;simp[z]at jW
   omega
  rw[eW (by rw[hb,jW])]
  have k0:=Int.emod_nonneg (c/4) (show((fl.length:Int)-1)≠0 by omega)
  have k1:=Int.emod_lt_of_pos (c/4) (show(0:Int)<(fl.length:Int)-1 by omega)
  obtain⟨f,hf,Yc,l0,Yd,V3⟩:=Ma U3 (i:=(c/4%((fl.length:Int)-1)).toNat) (by omega)
  have ef:L2.bB (aj fl) (c/4%((fl.length:Int)-1))=some (.int (f:Int)):=by
   rw[gW k0 (by rw[cR];omega)]
   have:=(bO.mp Yc).2
   simp only[aj,List.getElem_map,this]
  rw[aw (e':=[some (.bi,.lst (rs.map Row.d)),some (.al,.int c),some (.bo,.lst (aj fl)),some (.fr,.int (f:Int)),none,none,none]) (by
   simp -implicitDefEqProofs only [av,ag,jV,jC,aI,ae,ah,gz,gy,id_eq,oq,cT,cR,yq]
   rw[div_ii (by omega),oq,iV (by omega),oq,dq,ef]
   rfl)]
  generalize aU:fl.filter (fun(k:Nat)=>decide ((f:Int)<(k:Int)))=lt
  have YL:0<lt.length:=by
   rw[←aU]
   exact List.length_pos_of_mem (List.mem_filter.mpr ⟨Yd,by simpa using V3⟩)
  have V4:lt.length≤1000:=by
   rw[←aU]
   have:=List.length_filter_le (fun k=>decide ((f:Int)<((k:Nat):Int))) fl
   omega
  rw[aw (e':=[some (.bi,.lst (rs.map Row.d)),some (.al,.int c),some (.fr,.lst (aj fl)),some (.fr,.int (f:Int)),some (.bo,.lst (aj lt)),none,none]) (by
   rw[cN,show cw 2 [some (.bi,.lst (rs.map Row.d)),some (.al,.int c),some (.bo,.lst (aj fl)),some (.fr,.int (f:Int)),none,none,none]=[some (.bi,.lst (rs.map Row.d)),some (.al,.int c),some (.fr,.lst (aj fl)),some (.fr,.int (f:Int)),none,none,none] from rfl]
   simp -implicitDefEqProofs only [av,cC,bQ,jV,gz,gy,id_eq,oq,b8,oy]
   rw[show dB [some (M.bi,D.lst (rs.map Row.d)),some (M.al,D.int c),some (.fr,.lst (aj fl)),some (M.fr,D.int (f:Int)),none,none,none] [3]=[some (.fr,.int (f:Int))] from rfl,NC,aU,oq,lE (by rw[cR];exact V4),oq]
   rfl)]
  obtain⟨la,j0,Bj⟩:=lF (f:=fun(n:Nat)=>D.int (n:Int)) (l:=lt) (k:=c/256%lt.length) (Int.emod_nonneg _ (by omega)) (Int.emod_lt_of_pos _ (by omega))
  rw[aw (e':=[some (.bi,.lst (rs.map Row.d)),some (.al,.int c),some (.fr,.lst (aj fl)),some (.fr,.int (f:Int)),some (.bo,.lst (aj lt)),some (.fr,.int (la:Int)),none]) (by
   simp -implicitDefEqProofs only [av,ag,jV,jC,aI,ae,ah,gz,gy,id_eq,oq,cT,cR]
   rw[div_ii (by omega),oq,iV (by omega),oq,dq,show aj lt=lt.map (fun(n:Nat)=>D.int (n:Int))from rfl,Bj]
   rfl)]
  rw[←aU]at j0
  obtain⟨V5,Hn⟩:=List.mem_filter.mp j0
  have YM:f<la:=by simpa using Hn
  obtain⟨rf,lj,JK⟩:=JH f hf
  obtain⟨rl,JL,Ye⟩:=JH la V5
  have nf:=ye h lj JK
  have nl:=ye h JL Ye
  obtain⟨a,ha⟩:=F5 JK
  have Yf:=ip lj
  have t0:=Int.emod_nonneg (c/16384) (show(rs.length:Int)≠0 by omega)
  have t1:=Int.emod_lt_of_pos (c/16384) (show(0:Int)<rs.length by omega)
  rw[aw (e':=[some (.bi,.lst (rs.map Row.d)),some (.al,.int c),some (.fr,.lst (aj fl)),some (.fr,.int (f:Int)),some (.bo,.lst (aj lt)),some (.fr,.int (la:Int)),some (.fr,.int (c/16384%rs.length))]) (by walk_at "go")]
  generalize c/16384%(rs.length:Int)=t at t0 t1 ⊢
  have lQ:rs[rs.length-1]?=some (rs[rs.length-1]'(by omega)):=by simp
  generalize rs[rs.length-1]'(by omega)=rz at lQ
  have az:L2.bB (rs.map Row.d) (-1)=some rz.d:=by
   unfold L2.bB L2.dP
   rw[if_neg (by decide),ln,if_pos (by omega),oq,show(-1+(rs.length:Int)).toNat=rs.length-1 by omega,dG,lQ]
   rfl
  have T1:∃t':Int,(0≤t'∧t'<rs.length)∧aO (jB (ag aL (ag ao (ag ao (jV 0) (cB dX (jC (.int 1)))) (jC (.int 0))) (jC (.str "go")))) (av 6 (ag aR (jV 6) (ag bC (jV 3) (jC (.int 1))))) aY [some (.bi,.lst (rs.map Row.d)),some (.al,.int c),some (.fr,.lst (aj fl)),some (.fr,.int (f:Int)),some (.bo,.lst (aj lt)),some (.fr,.int (la:Int)),some (.fr,.int t)]=some (.nx [some (.bi,.lst (rs.map Row.d)),some (.al,.int c),some (.fr,.lst (aj fl)),some (.fr,.int (f:Int)),some (.bo,.lst (aj lt)),some (.fr,.int (la:Int)),some (.fr,.int t')]):=by
   have hc:(jB (ag aL (ag ao (ag ao (jV 0) (cB dX (jC (.int 1)))) (jC (.int 0))) (jC (.str "go")))) [some (.bi,.lst (rs.map Row.d)),some (.al,.int c),some (.fr,.lst (aj fl)),some (.fr,.int (f:Int)),some (.bo,.lst (aj lt)),some (.fr,.int (la:Int)),some (.fr,.int t)]=some (Row.cA rz):=by
    simp -implicitDefEqProofs only [jB,ag,cB,jV,jC,gz,gy,id_eq,oq,lL,dq,az,oy,cX,cS,bh,gj]
   cases hg:Row.cA rz with
   |true =>
    have m0:=Int.emod_nonneg t (show((f:Int)+1)≠0 by omega)
    have m1:=Int.emod_lt_of_pos t (show(0:Int)<(f:Int)+1 by omega)
    exact⟨t%((f:Int)+1),by omega,by rw[bA (by rw[hc,hg])];walk_at "go"⟩
   |false=>exact⟨t,⟨t0,t1⟩,by rw[bL (by rw[hc,hg])];rfl⟩
  obtain⟨t',b1,e1⟩:=T1
  rw[aw e1]
  have T2:∃t2:Int,(0≤t2∧t2<rs.length)∧aO (jB (nh fD oB (jV 3) (jV 6) (jV 5))) (av 6 (ag bC (jV 5) (jC (.int 1)))) aY [some (.bi,.lst (rs.map Row.d)),some (.al,.int c),some (.fr,.lst (aj fl)),some (.fr,.int (f:Int)),some (.bo,.lst (aj lt)),some (.fr,.int (la:Int)),some (.fr,.int t')]=some (.nx [some (.bi,.lst (rs.map Row.d)),some (.al,.int c),some (.fr,.lst (aj fl)),some (.fr,.int (f:Int)),some (.bo,.lst (aj lt)),some (.fr,.int (la:Int)),some (.fr,.int t2)]):=by
   have hc:∃b,(jB (nh fD oB (jV 3) (jV 6) (jV 5))) [some (.bi,.lst (rs.map Row.d)),some (.al,.int c),some (.fr,.lst (aj fl)),some (.fr,.int (f:Int)),some (.bo,.lst (aj lt)),some (.fr,.int (la:Int)),some (.fr,.int t')]=some b:=by
    walk_at "ev"
    cases decide ((f:Int)<t')<;>exact⟨_,rfl⟩
   obtain⟨b,hc⟩:=hc
   cases b with
   |true=>exact⟨(la:Int)+1,by omega,by rw[bA hc];walk_at "ev"⟩
   |false=>exact⟨t',b1,by rw[bL hc];rfl⟩
  obtain⟨t2,b2,e2⟩:=T2
  rw[aw e2]
  have T3:∃t3:Int,(0≤t3∧t3<rs.length)∧aO (jB (ag aL (ag ao (ag ao (jV 0) (jV 6)) (jC (.int 0))) (jC (.str "go")))) (av 6 (jC (.int 0))) aY [some (.bi,.lst (rs.map Row.d)),some (.al,.int c),some (.fr,.lst (aj fl)),some (.fr,.int (f:Int)),some (.bo,.lst (aj lt)),some (.fr,.int (la:Int)),some (.fr,.int t2)]=some (.nx [some (.bi,.lst (rs.map Row.d)),some (.al,.int c),some (.fr,.lst (aj fl)),some (.fr,.int (f:Int)),some (.bo,.lst (aj lt)),some (.fr,.int (la:Int)),some (.fr,.int t3)]):=by
   have at2:=Nb (rs:=rs) b2.1 b2.2
   have hc:∃b,(jB (ag aL (ag ao (ag ao (jV 0) (jV 6)) (jC (.int 0))) (jC (.str "go")))) [some (.bi,.lst (rs.map Row.d)),some (.al,.int c),some (.fr,.lst (aj fl)),some (.fr,.int (f:Int)),some (.bo,.lst (aj lt)),some (.fr,.int (la:Int)),some (.fr,.int t2)]=some b:=by
    simp -implicitDefEqProofs only [jB,ag,jV,jC,gz,gy,id_eq,oq,dq,at2,oy,cX,cS,bh]
    exact⟨_,rfl⟩
   obtain⟨b,hc⟩:=hc
   cases b with
   |true=>exact⟨0,by omega,by rw[bA hc];rfl⟩
   |false=>exact⟨t2,b2,by rw[bL hc];rfl⟩
  obtain⟨t3,b3,e3⟩:=T3
  rw[aw e3]
  rw[aw (jy (j:=f) (r:=.pt a ((la:Int)+1)) (mo:=.bi) (m':=.fr) rfl rfl (by
   simp -implicitDefEqProofs only [aM,ae,ah,ag,jV,jC,gz,gy,id_eq,oq,dq,Yf,oy,ha,ny]
   rfl) rfl (by omega))]
  simp -implicitDefEqProofs only [tz,tq]
  rw[aw (jy (rs:=rs.set f (.pt a ((la:Int)+1))) (j:=la) (r:=.go t3) (mo:=.bi) (m':=.fr) rfl rfl rfl rfl (by rw[List.length_set];omega))]
  refine⟨(rs.set f (.pt a ((la:Int)+1))).set la (.go t3),by rw[show(aK (jV 0)) _=some (.rt _ .bi (.lst (((rs.set f (.pt a ((la:Int)+1))).set la (.go t3)).map Row.d)))from rfl,oq];exact fin,?_,by simp⟩
  refine(h.set fun m hm=>?_).set fun m hm=>?_
  ·have:m=(f:Int)+1∨m=(la:Int)+1:=by simpa[aN.bj]using hm
   omega
  ·have:m=t3:=by simpa[aN.bj]using hm
   rw[List.length_set];omega
theorem NF(ns:List Int)(A1:Option (M×D))(fs:List Str)(hf:0<fs.length)(ds:List De)(hd:0<ds.length)(rs:List Row)(hl:rs.length≤200)(i:Nat)(o6:Option (M×D)) :
  ∃(r:Row) (cQ:Option (M×D)),sr [some (.al,.lst (ns.map .int)),A1,some (.bo,.lst (fs.map .str)),some (.bo,.lst (ds.map ak)),some (.bo,.lst (rs.map Row.d)),some (.fr,.int (i:Int)),o6]=some (.nx [some (.al,.lst (ns.map .int)),A1,some (.bo,.lst (fs.map .str)),some (.bo,.lst (ds.map ak)),some (.bo,.lst ((rs++[r]++[Row.go (2*(i:Int)-1)]).map Row.d)),some (.fr,.int (i:Int)),cQ])∧Row.flat r=true:=by
 obtain⟨c,hc⟩:=ke ns (2+(i:Int)) (by omega)
 obtain⟨x,hx⟩:=kc c (i:Int)
 obtain⟨r,hr,p1,_,_⟩:=Fe (c/11*11+c%7) x fs hf ds hd
 refine⟨r,some (.fr,.int c),?_,p1 (by omega)⟩
 unfold sr
 rw[aw (e':=[some (.al,.lst (ns.map .int)),A1,some (.bo,.lst (fs.map .str)),some (.bo,.lst (ds.map ak)),some (.bo,.lst (rs.map Row.d)),some (.fr,.int (i:Int)),some (.fr,.int c)]) (by walk_at "ev"; rw[hc];walk_at "ev")]
 rw[aw (nF (rs:=rs) (r:=r) rfl (by walk_at "go"; rw[hx];walk_at "go"; rw[hr]) (by omega))]
 simp -implicitDefEqProofs only [tz,tq]
 exact nF (rs:=rs++[r]) (r:=.go (2*(i:Int)-1)) rfl (by walk_at "go"; rfl) (by simp;omega)
theorem Mb(ns:List Int)(many:Int)(h1:1≤many)(h2:many≤28):∃rs:List Row,sY [.lst (ns.map .int),.int many]=some (.un,.lst (rs.map Row.d))∧Good rs∧rs.length≤100:=by
  obtain⟨c0,h0⟩:=ke ns 0 (by omega)
  obtain⟨fs,jt,rP⟩:=xK c0
  obtain⟨ds,Bf,iI⟩:=xM ns fs (by omega)
  obtain⟨e',l1,rs,o5,o6,he,hl,hP⟩:=dI (g:=gN 5) (b:=sr) (m:=.fr) (ds:=bY 0 many.toNat) (e:=[some (.al,.lst (ns.map .int)),some (.al,.int many),some (.bo,.lst (fs.map .str)),some (.bo,.lst (ds.map ak)),some (.bo,.lst ([Row.go (2*many-1)].map Row.d)),none,none])
    (fun i e=>∃(rs:List Row) (o5 o6:Option (M×D)),e=[some (.al,.lst (ns.map .int)),some (.al,.int many),some (.bo,.lst (fs.map .str)),some (.bo,.lst (ds.map ak)),some (.bo,.lst (rs.map Row.d)),o5,o6]∧rs.length=2*i+1∧((i:Int)≤many→∀(n:Nat) r,rs[n]?=some r→Row.flat r=true∨∃t,r=.go t∧(0≤t∨n=2)∧t<2*many+2))
    ⟨[Row.go (2*many-1)],none,none,rfl,rfl,fun _ n r hr=>by
      cases n with
      |zero=>simp at hr;subst hr;exact .inr ⟨_,rfl,.inl (by omega),by omega⟩
      |succ n=>simp at hr⟩
    (fun i d e hd bz=>by
      obtain⟨rs,o5,o6,he,hl,hP⟩:=bz
      subst he
      obtain⟨hi,rfl⟩:=jE hd
      rw[show(0:Int)+(i:Int)=(i:Int) by omega]
      obtain⟨r,cQ,q,hr⟩:=NF ns (some (.al,.int many)) fs (by omega) ds (by omega) rs (by omega) i o6
      refine⟨_,_,rfl,q,_,_,cQ,rfl,by simp;omega,fun Xg n x hx=>?_⟩
      rcases gA hx with z|⟨z,rfl⟩
      · rcases gA z with z|⟨z,rfl⟩
        · exact hP (by omega) n x z
        · exact .inl hr
      · refine .inr ⟨_,rfl,?_,by omega⟩
        simp at z
        omega)
  subst he
  rw[ik]at hl
  have hP:=hP (by rw[ik];omega)
  unfold sY fn BR
  simp only[cg,a7,bD]
  rw[aw (e':=[some (.al,.lst (ns.map .int)),some (.al,.int many),some (.bo,.lst (fs.map .str)),none,none,none,none]) (by walk_at "ev"; rw[h0];walk_at "ev"; rw[rP];walk_at "ev")]
  rw[aw (e':=[some (.al,.lst (ns.map .int)),some (.al,.int many),some (.bo,.lst (fs.map .str)),some (.bo,.lst (ds.map ak)),none,none,none]) (by walk_at "ev"; rw[iI];walk_at "ev")]
  rw[aw (e':=[some (.al,.lst (ns.map .int)),some (.al,.int many),some (.bo,.lst (fs.map .str)),some (.bo,.lst (ds.map ak)),some (.bo,.lst ([Row.go (2*many-1)].map Row.d)),none,none]) (by walk_at "go"; rfl)]
  rw[aw (e':=[some (.al,.lst (ns.map .int)),some (.al,.int many),some (.bo,.lst (fs.map .str)),some (.bo,.lst (ds.map ak)),some (.bo,.lst (rs.map Row.d)),o5,o6]) (by
    have b0:-4611686018427387904≤many∧many<4611686018427387904:=by omega
    simp -implicitDefEqProofs only [bf,bN,ae,ah,jV,gz,gy,id_eq,oq,b0,and_self,if_true]
    exact l1)]
  rw[aw (jy (j:=2) (r:=.go (2*many+1)) (mo:=.bo) (m':=.fr) rfl rfl (by walk_at "go"; rfl) rfl (by omega))]
  simp -implicitDefEqProofs only [tz,tq]
  refine⟨rs.set 2 (.go (2*many+1))++[.en],?_,⟨by simp,fun n r hr m hm=>?_⟩,by simp;omega⟩
  · walk_at "ev"
    rw[yp (by decide) (by decide) (by simp only[ln,List.length_set,List.length_cons,List.length_nil];exact bP (show rs.length+(0+1)≤200 by omega) (by decide))]
    rw[show mJ .bo .un=.fr from rfl,yv]
    walk_at "ev"
    rw[List.map_append];rfl
  · have hlen:((rs.set 2 (.go (2*many+1))++[Row.en]).length:Int)=2*many+2:=by simp;omega
    rw[hlen]
    rcases gA hr with z|⟨_,rfl⟩
    · rw[List.getElem?_set]at z
      split at z
      · split at z
        · cases z
          have:m=2*many+1:=by simpa[aN.bj]using hm
          omega
        · cases z
      · rename_i n2
        have hn:n<rs.length:=(bO.mp z).1
        rcases hP n r z with w|⟨t,rfl,w,y⟩
        · have:m=(n:Int)+1:=by cases r<;>simp_all [Row.flat,aN.bj]
          omega
        · have:m=t:=by simpa[aN.bj]using hm
          rcases w with w|w<;>omega
    · simp[aN.bj]at hm
def Tg(many:Int)(r:Row):Prop:=(∀t,r=.go t→0≤t∧t<many)∧∀a t,r=.pt a t→0≤t∧t<many
theorem K5(c n many:Int)(hm:1≤many∧many≤100)(fs:List Str)(hf:0<fs.length∧fs.length≤100)(ds:List De)(hd:0<ds.length):∃r:Row,oV [.int c,.int n,.int many,.lst (fs.map .str),.lst (ds.map ak)]=some (.fr,r.d)∧Tg many r:=by
 obtain⟨nm,_,hn⟩:=lF (f:=D.str) (l:=fs) (k:=c/14%fs.length) (Int.emod_nonneg _ (by omega)) (Int.emod_lt_of_pos _ (by omega))
 obtain⟨q,_,hq⟩:=lF (f:=ak) (l:=ds) (k:=c/14/fs.length%ds.length) (Int.emod_nonneg _ (by omega)) (Int.emod_lt_of_pos _ (by omega))
 obtain⟨JM,Yg⟩:=mX (c/14/fs.length) fs hf.1
 obtain⟨JN,hU⟩:=mX (c/14) fs hf.1
 obtain⟨JQ,Yh⟩:=mX (c/14/(many-1)) fs hf.1
 have np:∀{r:Row},Row.cA r=false→Row.fA r=false→Tg many r:=fun {r} h1 h2=>⟨fun t e=>(by subst e;cases h1),fun a t e=>(by subst e;cases h2)⟩
 unfold oV fn BL
 simp only[cg,a7,bD]
 rw[aw (e':=[some (.al,.int c),some (.al,.int n),some (.al,.int many),some (.al,.lst (fs.map .str)),some (.al,.lst (ds.map ak)),some (.fr,.int (c%14)),none,none,none,none]) (by walk_at "go")]
 rw[aw (e':=[some (.al,.int c),some (.al,.int n),some (.al,.int many),some (.al,.lst (fs.map .str)),some (.al,.lst (ds.map ak)),some (.fr,.int (c%14)),some (.fr,.int (c/14)),none,none,none]) (by walk_at "go")]
 by_cases q1:c%14<6
 ·refine⟨.rk nm q.1 q.2.1 q.2.2,?_,np rfl rfl⟩
  rw[dJ (e':=[some (.al,.int c),some (.al,.int n),some (.al,.int many),some (.al,.lst (fs.map .str)),some (.al,.lst (ds.map ak)),some (.fr,.int (c%14)),some (.fr,.int (c/14)),some (.al,.str q.1),some (.al,kD q.2.1),some (.al,kD q.2.2)]) (m:=.fr) (d:=Row.d (.rk nm q.1 q.2.1 q.2.2)) (by
   rw[bA (by walk_at "go"; simp only[q1,decide_true])]
   rw[aw (e':=[some (.al,.int c),some (.al,.int n),some (.al,.int many),some (.al,.lst (fs.map .str)),some (.al,.lst (ds.map ak)),some (.fr,.int (c%14)),some (.fr,.int (c/14)),some (.al,.str q.1),some (.al,kD q.2.1),some (.al,kD q.2.2)]) (by
    walk_at "go"
    rw[hq]
    rfl)]
   walk_at "go"
   rw[hn]
   walk_at "ev"
   simp -implicitDefEqProofs only [pV,Bool.and_self,if_true]
   rfl)]
  rfl
 rw[eW (by walk_at "go"; simp only[q1,decide_false])]
 by_cases q2:c%14<8
 ·refine⟨.cp nm JM,?_,np rfl rfl⟩
  rw[dJ (e':=[some (.al,.int c),some (.al,.int n),some (.al,.int many),some (.al,.lst (fs.map .str)),some (.al,.lst (ds.map ak)),some (.fr,.int (c%14)),some (.fr,.int (c/14)),none,none,none]) (m:=.fr) (d:=Row.d (.cp nm JM)) (by
   rw[bA (by walk_at "go"; simp only[q2,decide_true])]
   walk_at "go"
   rw[hn]
   walk_at "go"
   rw[Yg]
   walk_at "ev"
   rfl)]
  rfl
 rw[eW (by walk_at "go"; simp only[q2,decide_false])]
 by_cases q3:c%14<10
 ·refine⟨.sy JN,?_,np rfl rfl⟩
  rw[dJ (e':=[some (.al,.int c),some (.al,.int n),some (.al,.int many),some (.al,.lst (fs.map .str)),some (.al,.lst (ds.map ak)),some (.fr,.int (c%14)),some (.fr,.int (c/14)),none,none,none]) (m:=.fr) (d:=Row.d (.sy JN)) (by
   rw[bA (by walk_at "go"; simp only[q3,decide_true])]
   walk_at "go"
   rw[hU]
   walk_at "ev"
   rfl)]
  rfl
 rw[eW (by walk_at "go"; simp only[q3,decide_false])]
 have JV:(bX (jB (ag fD (jV 5) (jC (.int 12)))) (jB (ag gR (jV 2) (jC (.int 1))))) [some (.al,.int c),some (.al,.int n),some (.al,.int many),some (.al,.lst (fs.map .str)),some (.al,.lst (ds.map ak)),some (.fr,.int (c%14)),some (.fr,.int (c/14)),none,none,none]=some (decide (c%14<12)&&decide (1<many)):=by
  walk_at "ev"
  cases decide (c%14<12)<;>rfl
 cases q4:(decide (c%14<12)&&decide (1<many)) with
 |true =>
  have Zb:1<many:=by simp at q4;exact q4.2
  have m0:=Int.emod_nonneg (n+2+c/14%(many-1)) (show many≠0 by omega)
  have m1:=Int.emod_lt_of_pos (n+2+c/14%(many-1)) (show 0<many by omega)
  refine⟨.pt JQ ((n+2+c/14%(many-1))%many),?_,(fun t e=>nomatch e),fun a t e=>(by cases e;exact⟨m0,m1⟩)⟩
  rw[dJ (e':=[some (.al,.int c),some (.al,.int n),some (.al,.int many),some (.al,.lst (fs.map .str)),some (.al,.lst (ds.map ak)),some (.fr,.int (c%14)),some (.fr,.int (c/14)),none,none,none]) (m:=.fr) (d:=Row.d (.pt JQ ((n+2+c/14%(many-1))%many))) (by
   rw[bA (by rw[JV,q4])]
   walk_at "go"
   rw[Yh]
   walk_at "go"
   rfl)]
  rfl
 |false =>
  rw[eW (by rw[JV,q4])]
  by_cases q5:c%14=12
  ·have m0:=Int.emod_nonneg (c/14) (show many≠0 by omega)
   have m1:=Int.emod_lt_of_pos (c/14) (show 0<many by omega)
   refine⟨.go (c/14%many),?_,(fun t e=>by cases e;exact⟨m0,m1⟩),(fun a t e=>nomatch e)⟩
   rw[dJ (e':=[some (.al,.int c),some (.al,.int n),some (.al,.int many),some (.al,.lst (fs.map .str)),some (.al,.lst (ds.map ak)),some (.fr,.int (c%14)),some (.fr,.int (c/14)),none,none,none]) (m:=.fr) (d:=Row.d (.go (c/14%many))) (by
    rw[bA (by walk_at "ev"; simp only[q5,decide_true])]
    walk_at "go"
    rfl)]
   rfl
  ·refine⟨.en,?_,np rfl rfl⟩
   rw[eW (by walk_at "ev"; simp only[q5,decide_false])]
   rfl
noncomputable def zR(k:Nat)(e:Ev):Nat:=match e[k]? with
 |some (some (_,.bl true))=>1
 |_=>0
theorem yf{ks:List Nat}{x N:Nat}(h1:ks.Nodup)(h2:∀y∈ks,y<N)(hx:x∉ks)(hN:x<N):(ks++[x]).Nodup∧∀y∈ks++[x],y<N:=by
 refine⟨?_,fun y hy=>?_⟩
 ·rw[List.nodup_append]
  refine⟨h1,by simp,fun a ha b hb=>?_⟩
  have:b=x:=by simpa using hb
  subst this
  exact fun z=>hx (z▸ha)
 ·rcases cU.mp hy with z|z
  ·exact h2 y z
  ·have:y=x:=by simpa using z
   omega
structure Gr (N:Nat)(ks:List Nat)(mo:Bool)(cK:List Nat)(dh:Bool):Prop where
 nd:cK.Nodup
 lt:∀x∈cK,x<N
 sub:∀x∈ks,x∈cK
 le:ks.length≤cK.length
 more:dh=true→mo=true∨ks.length<cK.length
theorem Gr.refl{N:Nat}{ks:List Nat}{mo:Bool}(h1:ks.Nodup)(h2:∀x∈ks,x<N):Gr N ks mo ks mo:=⟨h1,h2,fun _ h=>h,a6 _,fun h=>.inl h⟩
theorem Gr.trans{N:Nat}{ks xi oM:List Nat}{mo oN oO:Bool}(a:Gr N ks mo xi oN)(b:Gr N xi oN oM oO):Gr N ks mo oM oO:=by
 have h1:=a.le
 have h2:=b.le
 refine⟨b.nd,b.lt,fun x h=>b.sub x (a.sub x h),by omega,fun h=>?_⟩
 rcases b.more h with z|z
 ·rcases a.more z with w|w
  ·exact .inl w
  ·exact .inr (by omega)
 ·exact .inr (by omega)
theorem U4{N:Nat}(hN:N≤800)(A0:Option (M×D))(b:Bool){ks:List Nat}{mo:Bool}(h1:ks.Nodup)(h2:∀x∈ks,x<N){n m:Nat}(hn:n<N)(hm:m<N)(o6 o7:Option (M×D)) :
  ∃cK dh cQ bZ,rY [A0,some (.al,.bl b),some (.bo,.dk (aD ks)),some (.fr,.int (n:Int)),some (.fr,.bl mo),some (.fr,.int (m:Int)),o6,o7]=some (.nx [A0,some (.al,.bl b),some (.bo,.dk (aD cK)),some (.fr,.int (n:Int)),some (.fr,.bl dh),some (.fr,.int (m:Int)),cQ,bZ])∧Gr N ks mo cK dh:=by
 have oP:=gx N ks h1 h2
 have s1:ks.length<sizeLine:=dz (show ks.length≤800 by omega) (by decide)
 obtain⟨x,y,hx,hy,e⟩:∃x y:Nat,x<N∧y<N∧lX (gT 2 (cq (gN 6) (cq (gN 7) fL))) (ag ao (bp (ae (aM (ae (jV 5) (ae (jV 3) ah))) (ae (aM (ae (jV 3) (ae (jV 5) ah))) ah))) (aI kQ (ae (jV 1) ah))) [A0,some (.al,.bl b),some (.bo,.dk (aD ks)),some (.fr,.int (n:Int)),some (.fr,.bl mo),some (.fr,.int (m:Int)),o6,o7]=some (.nx [A0,some (.al,.bl b),some (.bo,.dk (aD ks)),some (.fr,.int (n:Int)),some (.fr,.bl mo),some (.fr,.int (m:Int)),some (.fr,.int (x:Int)),some (.fr,.int (y:Int))]):=by
  cases b with
  |true=>exact⟨n,m,hn,hm,rfl⟩
  |false=>exact⟨m,n,hm,hn,rfl⟩
 unfold rY
 rw[aw e]
 have hc:(bX (jB (du false (jV 6) (jV 2))) (jB (du true (jV 7) (jV 2)))) [A0,some (.al,.bl b),some (.bo,.dk (aD ks)),some (.fr,.int (n:Int)),some (.fr,.bl mo),some (.fr,.int (m:Int)),some (.fr,.int (x:Int)),some (.fr,.int (y:Int))]=some (decide (x∈ks)&&!decide (y∈ks)):=by
  simp -implicitDefEqProofs only [bX,jB,du,jV,gH,keyOf,gz,gy,id_eq,oq,lP,bh,if_true,Bool.false_eq_true,if_false]
  cases decide (x∈ks)<;>rfl
 cases hb:(decide (x∈ks)&&!decide (y∈ks)) with
 |false =>
  rw[bL (by rw[hc,hb])]
  exact⟨ks,mo,_,_,rfl,.refl h1 h2⟩
 |true =>
  have JW:y∉ks:=by
   intro z;simp[z]at hb
  rw[bA (by rw[hc,hb])]
  obtain⟨n1,n2⟩:=yf h1 h2 JW hy
  refine⟨ks++[y],true,some (.fr,.int (x:Int)),some (.fr,.int (y:Int)),?_,n1,n2,(fun z hz=>dN _ hz),by simp,fun _=>.inr (by simp)⟩
  simp -implicitDefEqProofs only [aq,gZ,av,jV,jC,keyOf,gz,gy,id_eq,oq,fJ,if_true,i5,own,km,s1,qa JW,tz,tq,fI]
theorem U5{rs:List Row}(g:Good rs)(hN:rs.length≤800)(b:Bool){ks:List Nat}{mo:Bool}(h1:ks.Nodup)(h2:∀x∈ks,x<rs.length){n:Nat}(hn:n<rs.length)(o5 o6 o7:Option (M×D)) :
  ∃cK dh di cQ bZ,rZ [some (.al,.lst (rs.map Row.d)),some (.al,.bl b),some (.bo,.dk (aD ks)),some (.fr,.int (n:Int)),some (.fr,.bl mo),o5,o6,o7]=some (.nx [some (.al,.lst (rs.map Row.d)),some (.al,.bl b),some (.bo,.dk (aD cK)),some (.fr,.int (n:Int)),some (.fr,.bl dh),di,cQ,bZ])∧Gr rs.length ks mo cK dh:=by
 have hr:rs[n]?=some (rs[n]'hn):=by simp
 have ef:=ya rs n _ hr
 have er:bj n (rs[n]'hn)=cv rs n:=by unfold cv;rw[hr]
 rw[er,Fg g]at ef
 have hm:∀m∈gk rs n,m<rs.length:=fun m h=>by obtain⟨_,_,_,z⟩:=xO g h;exact z
 generalize gk rs n=ms at ef hm
 obtain⟨e',l1,cK,dh,di,cQ,bZ,he,hg⟩:=dI (g:=gN 5) (b:=rY) (m:=.fr) (ds:=aj ms) (e:=[some (.al,.lst (rs.map Row.d)),some (.al,.bl b),some (.bo,.dk (aD ks)),some (.fr,.int (n:Int)),some (.fr,.bl mo),o5,o6,o7])
  (fun _ e=>∃(cK:List Nat) (dh:Bool) (o5 o6 o7:Option (M×D)),e=[some (.al,.lst (rs.map Row.d)),some (.al,.bl b),some (.bo,.dk (aD cK)),some (.fr,.int (n:Int)),some (.fr,.bl dh),o5,o6,o7]∧Gr rs.length ks mo cK dh)
  ⟨ks,mo,o5,o6,o7,rfl,.refl h1 h2⟩
  (fun i d e hd bz=>by
   obtain⟨xi,oN,o5,o6,o7,he,hg⟩:=bz
   subst he
   obtain⟨m,iR,rfl⟩:∃m∈ms,d=.int (m:Int):=by
    obtain⟨x,hx,rfl⟩:=bu.mp (fm hd);exact⟨x,hx,rfl⟩
   obtain⟨oM,oO,cQ,bZ,q,Bl⟩:=U4 hN (some (.al,.lst (rs.map Row.d))) b (mo:=oN) hg.nd hg.lt hn (hm m iR) o6 o7
   exact⟨_,_,rfl,q,oM,oO,_,cQ,bZ,rfl,hg.trans Bl⟩)
 subst he
 refine⟨cK,dh,di,cQ,bZ,?_,hg⟩
 unfold rZ
 simp -implicitDefEqProofs only [bf,bQ,ay,ae,ah,jV,gz,gy,id_eq,oq,mq,mn,ef,b8,oy]
 exact l1
theorem U6{rs:List Row}(g:Good rs)(hN:rs.length≤800)(b:Bool){ks:List Nat}(h1:ks.Nodup)(h2:∀x∈ks,x<rs.length)(o3 o4 o5 o6 o7:Option (M×D)) :
  ∃cK dh eE di cQ bZ,r6 [some (.al,.lst (rs.map Row.d)),some (.al,.bl b),some (.bo,.dk (aD ks)),o3,o4,o5,o6,o7]=some (.nx [some (.al,.lst (rs.map Row.d)),some (.al,.bl b),some (.bo,.dk (aD cK)),eE,some (.fr,.bl dh),di,cQ,bZ])∧Gr rs.length ks false cK dh:=by
 obtain⟨e',l1,cK,dh,eE,di,cQ,bZ,he,hg⟩:=dI (g:=gN 3) (b:=rZ) (m:=.fr) (ds:=bY 0 rs.length) (e:=[some (.al,.lst (rs.map Row.d)),some (.al,.bl b),some (.bo,.dk (aD ks)),o3,some (.fr,.bl false),o5,o6,o7])
  (fun _ e=>∃(cK:List Nat) (dh:Bool) (o3 o5 o6 o7:Option (M×D)),e=[some (.al,.lst (rs.map Row.d)),some (.al,.bl b),some (.bo,.dk (aD cK)),o3,some (.fr,.bl dh),o5,o6,o7]∧Gr rs.length ks false cK dh)
  ⟨ks,false,o3,o5,o6,o7,rfl,.refl h1 h2⟩
  (fun i d e hd bz=>by
   obtain⟨xi,oN,o3,o5,o6,o7,he,hg⟩:=bz
   subst he
   obtain⟨hi,rfl⟩:=jE hd
   rw[show(0:Int)+(i:Int)=(i:Int) by omega]
   obtain⟨oM,oO,di,cQ,bZ,q,Bl⟩:=U5 g hN b (mo:=oN) hg.nd hg.lt hi o5 o6 o7
   exact⟨_,_,rfl,q,oM,oO,_,di,cQ,bZ,rfl,hg.trans Bl⟩)
 subst he
 refine⟨cK,dh,eE,di,cQ,bZ,?_,hg⟩
 have b0:-4611686018427387904≤(rs.length:Int)∧(rs.length:Int)<4611686018427387904:=by omega
 have ht:(rs.length:Int).toNat=rs.length:=by omega
 unfold r6
 rw[aw (e':=[some (.al,.lst (rs.map Row.d)),some (.al,.bl b),some (.bo,.dk (aD ks)),o3,some (.fr,.bl false),o5,o6,o7]) rfl]
 simp -implicitDefEqProofs only [bf,bN,aI,ae,ah,jV,gz,gy,id_eq,oq,cT,ln,b0,and_self,if_true,ht]
 exact l1
theorem F6{rs:List Row}(g:Good rs)(hN:rs.length≤800)(b:Bool):∃ks,oS [.lst (rs.map Row.d),.bl b]=some (.un,.dk (aD ks))∧ks.Nodup∧(∀x∈ks,x<rs.length)∧(b=true→0∈ks):=by
 have b0:-4611686018427387904≤(rs.length:Int)∧(rs.length:Int)<4611686018427387904:=by omega
 have ht:(rs.length:Int).toNat=rs.length:=by omega
 have hp:=g.pos
 unfold oS fn BF
 simp only[cg,a7,bD]
 rw[aw (e':=[some (.al,.lst (rs.map Row.d)),some (.al,.bl b),some (.bo,.dk (aD [0])),none,none,none,none,none]) rfl]
 have S:∃ks o3,(aO (g7 (jB (jV 1))) (aq (av 2 nz) (bf (bN (ae (aI bx (ae (jV 0) ah)) ah)) (gN 3) oQ)) aY) [some (.al,.lst (rs.map Row.d)),some (.al,.bl b),some (.bo,.dk (aD [0])),none,none,none,none,none]=some (.nx [some (.al,.lst (rs.map Row.d)),some (.al,.bl b),some (.bo,.dk (aD ks)),o3,none,none,none,none])∧ks.Nodup∧(∀x∈ks,x<rs.length)∧(b=true→0∈ks):=by
  cases b with
  |true =>
   exact⟨[0],none,rfl,by simp,fun x h=>by simp at h;omega,fun _=>by simp⟩
  |false =>
   obtain⟨e',l1,ks,o3,he,h1,h2⟩:=dI (g:=gN 3) (b:=oQ) (m:=.fr) (ds:=bY 0 rs.length) (e:=[some (.al,.lst (rs.map Row.d)),some (.al,.bl false),some (.bo,.dk (aD [])),none,none,none,none,none])
    (fun i e=>∃(ks:List Nat) (o3:Option (M×D)),e=[some (.al,.lst (rs.map Row.d)),some (.al,.bl false),some (.bo,.dk (aD ks)),o3,none,none,none,none]∧ks.Nodup∧∀x∈ks,x<i)
    ⟨[],none,rfl,List.nodup_nil,fun x h=>nomatch h⟩
    (fun i d e hd bz=>by
     obtain⟨ks,o3,he,h1,h2⟩:=bz
     subst he
     obtain⟨hi,rfl⟩:=jE hd
     rw[show(0:Int)+(i:Int)=(i:Int) by omega]
     have oP:=gx i ks h1 h2
     have s1:ks.length<sizeLine:=dz (show ks.length≤800 by omega) (by decide)
     have hr:rs[i]?=some (rs[i]'hi):=by simp
     generalize rs[i]'hi=r at hr
     have ar:=ip hr
     have hc:(jB (ag aL (ag ao (ag ao (jV 0) (jV 3)) (jC (.int 0))) (jC (.str "end")))) [some (.al,.lst (rs.map Row.d)),some (.al,.bl false),some (.bo,.dk (aD ks)),some (.fr,.int (i:Int)),none,none,none,none]=some (Row.dZ r):=by
      simp -implicitDefEqProofs only [jB,ag,jV,jC,gz,gy,id_eq,oq,dq,ar,oy,cX,cS,bh,g9]
     have JX:i∉ks:=fun z=>by have:=h2 i z;omega
     cases hb:Row.dZ r with
     |false =>
      refine⟨_,[some (.al,.lst (rs.map Row.d)),some (.al,.bl false),some (.bo,.dk (aD ks)),some (.fr,.int (i:Int)),none,none,none,none],rfl,?_,ks,_,rfl,h1,fun x hx=>by have:=h2 x hx;omega⟩
      unfold oQ
      exact(bL (hc.trans (by rw[hb]))).trans rfl
     |true =>
      obtain⟨n1,n2⟩:=yf (N:=i+1) h1 (fun x hx=>by have:=h2 x hx;omega) JX (by omega)
      refine⟨_,[some (.al,.lst (rs.map Row.d)),some (.al,.bl false),some (.bo,.dk (aD (ks++[i]))),some (.fr,.int (i:Int)),none,none,none,none],rfl,?_,ks++[i],_,rfl,n1,n2⟩
      unfold oQ
      refine(bA (by exact hc.trans (by rw[hb]))).trans ?_
      simp -implicitDefEqProofs only [gZ,jV,jC,keyOf,gz,gy,id_eq,oq,fJ,if_true,i5,own,km,s1,qa JX,tz,tq])
   subst he
   rw[ik]at h2
   refine⟨ks,o3,?_,h1,h2,fun z=>nomatch z⟩
   rw[bA rfl,aw (e':=[some (.al,.lst (rs.map Row.d)),some (.al,.bl false),some (.bo,.dk (aD [])),none,none,none,none,none]) rfl]
   simp -implicitDefEqProofs only [bf,bN,aI,ae,ah,jV,gz,gy,id_eq,oq,cT,ln,b0,and_self,if_true,ht]
   exact l1
 obtain⟨Bm,Bn,e0,a1,a2,a3⟩:=S
 rw[aw e0]
 rw[aw (e':=[some (.al,.lst (rs.map Row.d)),some (.al,.bl b),some (.bo,.dk (aD Bm)),Bn,some (.fr,.bl true),none,none,none]) rfl]
 obtain⟨e',l1,⟨ks,mo,o3,o5,o6,o7,he,h1,h2,h3⟩,_⟩:=xD (c:=xm) (b:=r6) (e:=[some (.al,.lst (rs.map Row.d)),some (.al,.bl b),some (.bo,.dk (aD Bm)),Bn,some (.fr,.bl true),none,none,none])
  (fun e=>∃(ks:List Nat) (mo:Bool) (o3 o5 o6 o7:Option (M×D)),e=[some (.al,.lst (rs.map Row.d)),some (.al,.bl b),some (.bo,.dk (aD ks)),o3,some (.fr,.bl mo),o5,o6,o7]∧ks.Nodup∧(∀x∈ks,x<rs.length)∧(b=true→0∈ks))
  (fun e=>rs.length-rM 2 e+zR 4 e)
  ⟨Bm,true,Bn,none,none,none,rfl,a1,a2,a3⟩
  (fun e bz=>by
   obtain⟨ks,mo,o3,o5,o6,o7,he,h1,h2,h3⟩:=bz
   subst he
   have hC:xm [some (.al,.lst (rs.map Row.d)),some (.al,.bl b),some (.bo,.dk (aD ks)),o3,some (.fr,.bl mo),o5,o6,o7]=some mo:=rfl
   cases mo with
   |false=>exact .inl hC
   |true =>
    obtain⟨cK,dh,eE,di,cQ,bZ,q,hg⟩:=U6 g hN b h1 h2 o3 (some (.fr,.bl true)) o5 o6 o7
    refine .inr ⟨hC,_,q,⟨cK,dh,eE,di,cQ,bZ,rfl,hg.nd,hg.lt,fun z=>hg.sub 0 (h3 z)⟩,?_⟩
    have b1:=gx _ _ h1 h2
    have b2:=gx _ _ hg.nd hg.lt
    have b3:=hg.le
    cases dh with
    |false=>simp only[rM,zR,gz,gy,km];omega
    |true =>
     have:=hg.more rfl
     simp only[rM,zR,gz,gy,km]
     rcases this with z|z
     ·cases z
     ·omega)
 subst he
 rw[aw l1]
 exact⟨ks,rfl,h1,h2,h3⟩
theorem Ek{g:M×D→Ev→Option Ev}{b:Ev→Option Fl}{m:M}(Iv:Ev→Prop)(Rt:M→D→Prop):∀{ds:List D}{e:Ev},Iv e →
  (∀d∈ds,∀e,Iv e→∃e1,g (m,d) e=some e1∧((∃e2,b e1=some (.nx e2)∧Iv e2)∨∃e2 m' d',b e1=some (.rt e2 m' d')∧Rt m' d')) →
  (∃e',forL g b m ds e=some (.nx e')∧Iv e')∨∃e' m' d',forL g b m ds e=some (.rt e' m' d')∧Rt m' d'
 |[],e,h0,_=>.inl ⟨e,rfl,h0⟩
 |d::ds,e,h0,hs=>by
  obtain⟨e1,h1,⟨e2,h2,h3⟩|⟨e2,m',d',h2,h3⟩⟩:=hs d bV e h0
  ·simp only[forL,h1,h2,oq]
   exact Ek Iv Rt h3 fun x hx=>hs x (b9 _ hx)
  ·exact .inr ⟨e2,m',d',by simp only[forL,h1,h2,oq],h3⟩
noncomputable def fZ(N:Nat)(ks:List Nat):List Nat:=(List.range N).filter fun n=>!decide (n∈ks)
theorem DG{mo:M}{N:Nat}{ks:List Nat}:fh (jB (du true (jV 0) (jV 1))) (jV 0) .fr [some (mo,.dk (aD ks))] (bY 0 N)=some ((aj (fZ N ks)).map fun x=>(M.fr,x)):=by
 rw[yc]
 refine oZ _ fun k _=>⟨?_,rfl⟩
 simp -implicitDefEqProofs only [jB,du,jV,gH,keyOf,gz,gy,id_eq,oq,lP,bh,if_true]
theorem El(N:Nat)(ks:List Nat):(fZ N ks).length≤N:=by
 have:=List.length_filter_le (fun n=>!decide (n∈ks)) (List.range N)
 rw[List.length_range]at this;exact this
theorem Em{N:Nat}{ks:List Nat}{n:Nat}(h:n∈fZ N ks):n<N∧n∉ks:=by
 obtain⟨h1,h2⟩:=List.mem_filter.mp h
 exact⟨List.mem_range.mp h1,by simpa using h2⟩
theorem S4{l:List Nat}(h:l≠[]):∃x∈l,L2.bB (aj l) (-1)=some (.int (x:Int)):=by
 have hp:0<l.length:=List.length_pos_iff.mpr h
 refine⟨l[l.length-1]'(by omega),List.getElem_mem _,?_⟩
 unfold L2.bB L2.dP
 rw[if_neg (by decide),cR,if_pos (by omega),oq,show(-1+(l.length:Int)).toNat=l.length-1 by omega,aj,dG,eU (by omega)]
 rfl
theorem Fj(t:Int):iY [(M.fr,D.str "say"),(.fr,.int t)]=some (.fr,Row.d (.sy (.inl t))):=rfl
theorem S5{rs:List Row}(g:Good rs)(hN:rs.length≤200)(t:Int)(o3 o4 o5 o6:Option (M×D)) :
  (∃bE eE fY di cQ,oT [some (.bi,.lst (rs.map Row.d)),some (.fr,.int ((rs.length:Int)-1)),some (.fr,.int t),o3,o4,o5,o6]=some (.nx [some (.bi,.lst (bE.map Row.d)),some (.fr,.int ((rs.length:Int)-1)),some (.fr,.int t),eE,fY,di,cQ])∧Good bE∧bE.length=rs.length) ∨
  ∃e',oT [some (.bi,.lst (rs.map Row.d)),some (.fr,.int ((rs.length:Int)-1)),some (.fr,.int t),o3,o4,o5,o6]=some (.rt e' .bi (.lst (rs.map Row.d))):=by
 have b0:-4611686018427387904≤(rs.length:Int)∧(rs.length:Int)<4611686018427387904:=by omega
 have ht:(rs.length:Int).toNat=rs.length:=by omega
 have hp:=g.pos
 obtain⟨k1,e1,n1,b1,z1⟩:=F6 g (by omega) true
 obtain⟨k2,e2,n2,b2,_⟩:=F6 g (by omega) false
 have Zc:=El rs.length k1
 have Zd:=El rs.length k2
 unfold oT
 rw[aw (e':=[some (.bi,.lst (rs.map Row.d)),some (.fr,.int ((rs.length:Int)-1)),some (.fr,.int t),some (.bo,.dk (aD k1)),o4,o5,o6]) (by
  simp -implicitDefEqProofs only [av,ay,ae,ah,jV,jC,gz,gy,id_eq,oq,mq,mn,e1,gb,tz,tq])]
 rw[aw (e':=[some (.bi,.lst (rs.map Row.d)),some (.fr,.int ((rs.length:Int)-1)),some (.fr,.int t),some (.bo,.dk (aD k1)),some (.bo,.dk (aD k2)),o5,o6]) (by
  simp -implicitDefEqProofs only [av,ay,ae,ah,jV,jC,gz,gy,id_eq,oq,mq,mn,e2,gb,tz,tq])]
 rw[aw (e':=[some (.bi,.lst (rs.map Row.d)),some (.fr,.int ((rs.length:Int)-1)),some (.fr,.int t),some (.bo,.dk (aD k1)),some (.bo,.dk (aD k2)),some (.bo,.lst (aj (fZ rs.length k1))),o6]) (by
  simp -implicitDefEqProofs only [av,cC,bN,aI,ae,ah,jV,gz,gy,id_eq,oq,cT,ln,b0,and_self,if_true,ht]
  rw[show dB [some (.bi,.lst (rs.map Row.d)),some (.fr,.int ((rs.length:Int)-1)),some (.fr,.int t),some (.bo,.dk (aD k1)),some (.bo,.dk (aD k2)),o5,o6] [3]=[some (.bo,.dk (aD k1))] from rfl,DG,oq,lE (by rw[cR];omega),oq]
  rfl)]
 rw[aw (e':=[some (.bi,.lst (rs.map Row.d)),some (.fr,.int ((rs.length:Int)-1)),some (.fr,.int t),some (.bo,.dk (aD k1)),some (.bo,.dk (aD k2)),some (.bo,.lst (aj (fZ rs.length k1))),some (.bo,.lst (aj (fZ rs.length k2)))]) (by
  simp -implicitDefEqProofs only [av,cC,bN,aI,ae,ah,jV,gz,gy,id_eq,oq,cT,ln,b0,and_self,if_true,ht]
  rw[show dB [some (.bi,.lst (rs.map Row.d)),some (.fr,.int ((rs.length:Int)-1)),some (.fr,.int t),some (.bo,.dk (aD k1)),some (.bo,.dk (aD k2)),some (.bo,.lst (aj (fZ rs.length k1))),o6] [4]=[some (.bo,.dk (aD k2))] from rfl,DG,oq,lE (by rw[cR];omega),oq]
  rfl)]
 have c5:(jB (ag eR (jV 5) (bp ah))) [some (.bi,.lst (rs.map Row.d)),some (.fr,.int ((rs.length:Int)-1)),some (.fr,.int t),some (.bo,.dk (aD k1)),some (.bo,.dk (aD k2)),some (.bo,.lst (aj (fZ rs.length k1))),some (.bo,.lst (aj (fZ rs.length k2)))]=some (!(fZ rs.length k1).isEmpty):=by
  simp -implicitDefEqProofs only [jB,ag,jV,bp,ah,gz,gy,id_eq,oq]
  rw[show c9 []=some (.un,.lst [])from rfl,oq,Eh]
  rfl
 have c6:(jB (ag eR (jV 6) (bp ah))) [some (.bi,.lst (rs.map Row.d)),some (.fr,.int ((rs.length:Int)-1)),some (.fr,.int t),some (.bo,.dk (aD k1)),some (.bo,.dk (aD k2)),some (.bo,.lst (aj (fZ rs.length k1))),some (.bo,.lst (aj (fZ rs.length k2)))]=some (!(fZ rs.length k2).isEmpty):=by
  simp -implicitDefEqProofs only [jB,ag,jV,bp,ah,gz,gy,id_eq,oq]
  rw[show c9 []=some (.un,.lst [])from rfl,oq,Eh]
  rfl
 cases rQ:fZ rs.length k1 with
 |cons l0 lr =>
  rw[rQ]at c5 c6
  obtain⟨q1,q2⟩:=Em (N:=rs.length) (ks:=k1) (n:=l0) (by rw[rQ];exact bV)
  have h0:l0≠0:=fun z=>q2 (z▸z1 rfl)
  rw[bA (by rw[c5];rfl)]
  refine .inl ⟨rs.set (l0-1) (.sy (.inl t)),_,_,_,_,jy (j:=l0-1) (r:=.sy (.inl t)) (mo:=.bi) (m':=.fr) rfl rfl ?_ ?_ (by omega),g.set fun m hm=>?_,by simp⟩
  ·simp -implicitDefEqProofs only [aM,ae,ah,jV,jC,gz,gy,id_eq,oq,Fj]
  ·simp -implicitDefEqProofs only [ag,jV,jC,gz,gy,id_eq,oq,dq]
   rw[show aj (l0::lr)=.int (l0:Int)::aj lr from rfl,F4]
   simp -implicitDefEqProofs only [oy,oq,yq]
   rw[show(l0:Int)-1=((l0-1:Nat):Int) by omega]
  ·have:m=((l0-1:Nat):Int)+1:=by simpa[aN.bj]using hm
   omega
 |nil =>
  rw[rQ]at c5 c6
  rw[bL (by rw[c5];rfl)]
  cases rR:fZ rs.length k2 with
  |nil =>
   rw[rR]at c6
   right
   rw[bL (by unfold bX;rw[c6];rfl),bL (by rw[c6];rfl)]
   exact⟨_,rfl⟩
  |cons d0 dr =>
   rw[rR]at c6
   left
   obtain⟨x,hx,ex⟩:=S4 (l:=d0::dr) (List.cons_ne_nil _ _)
   obtain⟨q1,_⟩:=Em (N:=rs.length) (ks:=k2) (n:=x) (by rw[rR];exact hx)
   have ix:(ag ao (jV 6) (cB dX (jC (.int 1)))) [some (.bi,.lst (rs.map Row.d)),some (.fr,.int ((rs.length:Int)-1)),some (.fr,.int t),some (.bo,.dk (aD k1)),some (.bo,.dk (aD k2)),some (.bo,.lst (aj [])),some (.bo,.lst (aj (d0::dr)))]=some (.fr,.int (x:Int)):=by
    simp -implicitDefEqProofs only [ag,cB,jV,jC,gz,gy,id_eq,oq,lL,dq,ex,oy,yu]
   have c7:(bX (jB (ag eR (jV 6) (bp ah))) (jB (ag aL (ag ao (jV 6) (cB dX (jC (.int 1)))) (jV 1)))) [some (.bi,.lst (rs.map Row.d)),some (.fr,.int ((rs.length:Int)-1)),some (.fr,.int t),some (.bo,.dk (aD k1)),some (.bo,.dk (aD k2)),some (.bo,.lst (aj [])),some (.bo,.lst (aj (d0::dr)))]=some (decide ((x:Int)=(rs.length:Int)-1)):=by
    unfold bX
    rw[c6,show(some (!(d0::dr).isEmpty):Option Bool)=some true from rfl,oq,if_pos rfl]
    unfold jB ag
    rw[show(((jV 6) [some (.bi,.lst (rs.map Row.d)),some (.fr,.int ((rs.length:Int)-1)),some (.fr,.int t),some (.bo,.dk (aD k1)),some (.bo,.dk (aD k2)),some (.bo,.lst (aj [])),some (.bo,.lst (aj (d0::dr)))]).bind fun Yi=>((cB dX (jC (.int 1))) [some (.bi,.lst (rs.map Row.d)),some (.fr,.int ((rs.length:Int)-1)),some (.fr,.int t),some (.bo,.dk (aD k1)),some (.bo,.dk (aD k2)),some (.bo,.lst (aj [])),some (.bo,.lst (aj (d0::dr)))]).bind fun y=>ao Yi y)=some (.fr,.int (x:Int))from ix]
    simp -implicitDefEqProofs only [jV,gz,gy,id_eq,oq,lK,bh]
   by_cases q2:(x:Int)=(rs.length:Int)-1
   ·rw[bA (by rw[c7,cV q2])]
    refine⟨rs.set (rs.length-1) .en,_,_,_,_,jy (j:=rs.length-1) (r:=.en) (mo:=.bi) (m':=.fr) rfl rfl rfl ?_ (by omega),g.set fun m hm=>by simp[aN.bj]at hm,by simp⟩
    simp -implicitDefEqProofs only [jV,gz,gy,id_eq,oq]
    rw[show(rs.length:Int)-1=((rs.length-1:Nat):Int) by omega]
   ·rw[bL (by rw[c7,df q2]),bA (by rw[c6];rfl)]
    refine⟨rs.set x (.sy (.inl t)),_,_,_,_,jy (j:=x) (r:=.sy (.inl t)) (mo:=.bi) (m':=.fr) rfl rfl ?_ ix (by omega),g.set fun m hm=>?_,by simp⟩
    ·simp -implicitDefEqProofs only [aM,ae,ah,jV,jC,gz,gy,id_eq,oq,Fj]
    ·have:m=(x:Int)+1:=by simpa[aN.bj]using hm
     omega
theorem P2{rs:List Row}(hp:0<rs.length)(hN:rs.length≤200)(hT:∀r∈rs,Tg rs.length r):∃bE:List Row,oW [.lst (rs.map Row.d)]=some (.lst (bE.map Row.d))∧Good bE∧bE.length=rs.length:=by
 have fin:∀{bE:List Row}{e:Ev},ky (.rt e .bi (.lst (bE.map Row.d)))=some (.lst (bE.map Row.d)):=fun {bE e}=>by
  simp only[ky,own,gS,lB,and_self,if_true]
 unfold oW i6 BU
 rw[show(iU [0] [D.lst (rs.map Row.d)]++List.replicate (7 - [D.lst (rs.map Row.d)].length) none:Ev)=[some (.bi,.lst (rs.map Row.d)),none,none,none,none,none,none] from rfl]
 rw[aw (e':=[some (.bi,.lst (rs.map Row.d)),some (.fr,.int ((rs.length:Int)-1)),none,none,none,none,none]) (by walk_at "ev")]
 have lQ:rs[rs.length-1]?=some (rs[rs.length-1]'(by omega)):=by simp
 generalize rs[rs.length-1]'(by omega)=rz at lQ
 have az:=ip lQ
 rw[show((rs.length-1:Nat):Int)=(rs.length:Int)-1 by omega]at az
 have S:∃r1:List Row,Good r1∧r1.length=rs.length∧aO (jB (ag dS (ag ao (ag ao (jV 0) (jV 1)) (jC (.int 0))) (jC (.str "go")))) (fq 0 (jV 1) (aM (ae (jC (.str "end")) ah))) aY [some (.bi,.lst (rs.map Row.d)),some (.fr,.int ((rs.length:Int)-1)),none,none,none,none,none]=some (.nx [some (.bi,.lst (r1.map Row.d)),some (.fr,.int ((rs.length:Int)-1)),none,none,none,none,none]):=by
  have hc:(jB (ag dS (ag ao (ag ao (jV 0) (jV 1)) (jC (.int 0))) (jC (.str "go")))) [some (.bi,.lst (rs.map Row.d)),some (.fr,.int ((rs.length:Int)-1)),none,none,none,none,none]=some (!Row.cA rz):=by
   simp -implicitDefEqProofs only [jB,ag,jV,jC,gz,gy,id_eq,oq,dq,az,oy,cX,yT,bh,gj]
  have JY:∀(n:Nat) r,rs[n]?=some r→n+1<rs.length→∀m∈bj n r,0≤m∧m<rs.length:=fun n r hr hn m hm=>by
   obtain⟨t1,t2⟩:=hT r (fm hr)
   cases r with
   |en=>simp[aN.bj]at hm
   |go t =>
    have:m=t:=by simpa[aN.bj]using hm
    have:=t1 t rfl;omega
   |pt a t =>
    have:m=(n:Int)+1∨m=t:=by simpa[aN.bj]using hm
    have:=t2 a t rfl;omega
   |rk x s a b =>
    have:m=(n:Int)+1:=by simpa[aN.bj]using hm
    omega
   |cp x a =>
    have:m=(n:Int)+1:=by simpa[aN.bj]using hm
    omega
   |sy a =>
    have:m=(n:Int)+1:=by simpa[aN.bj]using hm
    omega
  cases hg:Row.cA rz with
  |true =>
   refine⟨rs,⟨hp,fun n r hr m hm=>?_⟩,rfl,by rw[bL (by rw[hc,hg];rfl)];rfl⟩
   by_cases hn:n+1<rs.length
   ·exact JY n r hr hn m hm
   ·have aU:n<rs.length:=(bO.mp hr).1
    have:n=rs.length-1:=by omega
    subst this
    rw[lQ]at hr;cases hr
    obtain⟨t,rfl⟩:=yE.mp hg
    have:m=t:=by simpa[aN.bj]using hm
    have:=(hT _ (fm lQ)).1 t rfl;omega
  |false =>
   refine⟨rs.set (rs.length-1) .en,⟨by simpa using hp,fun n r hr m hm=>?_⟩,by simp,by
    rw[bA (by rw[hc,hg];rfl)]
    refine jy (j:=rs.length-1) (r:=.en) (mo:=.bi) (m':=.fr) rfl rfl rfl ?_ (by omega)
    simp -implicitDefEqProofs only [jV,gz,gy,id_eq,oq]
    rw[show(rs.length:Int)-1=((rs.length-1:Nat):Int) by omega]⟩
   rw[List.length_set]
   rw[List.getElem?_set]at hr
   split at hr
   ·split at hr
    ·cases hr;simp[aN.bj]at hm
    ·cases hr
   ·rename_i eD
    have aU:n<rs.length:=(bO.mp hr).1
    exact JY n r hr (by omega) m hm
 obtain⟨r1,g1,l1,e1⟩:=S
 rw[aw e1]
 have b0:-4611686018427387904≤2*(rs.length:Int)∧2*(rs.length:Int)<4611686018427387904:=by omega
 have L:=Ek (g:=gN 2) (b:=oT) (m:=.fr) (ds:=bY 0 (2*(rs.length:Int)).toNat) (e:=[some (.bi,.lst (r1.map Row.d)),some (.fr,.int ((rs.length:Int)-1)),none,none,none,none,none])
  (fun e=>∃(r2:List Row) (o2 o3 o4 o5 o6:Option (M×D)),e=[some (.bi,.lst (r2.map Row.d)),some (.fr,.int ((rs.length:Int)-1)),o2,o3,o4,o5,o6]∧Good r2∧r2.length=rs.length)
  (fun m d=>m=.bi∧∃r2:List Row,d=.lst (r2.map Row.d)∧Good r2∧r2.length=rs.length)
  ⟨r1,none,none,none,none,none,rfl,g1,l1⟩
  (fun d hd e bz=>by
   obtain⟨r2,o2,o3,o4,o5,o6,he,g2,l2⟩:=bz
   subst he
   obtain⟨t,rfl⟩:∃t:Int,d=.int t:=by
    obtain⟨k,_,rfl⟩:=bu.mp hd;exact⟨_,rfl⟩
   refine⟨_,rfl,?_⟩
   rcases S5 g2 (by omega) t o3 o4 o5 o6 with⟨r3,eE,fY,di,cQ,q,g3,l3⟩|⟨e',q⟩
   ·rw[l2]at q
    exact .inl ⟨_,q,r3,_,eE,fY,di,cQ,rfl,g3,by omega⟩
   ·rw[l2]at q
    exact .inr ⟨e',.bi,_,q,rfl,r2,rfl,g2,l2⟩)
 have it:(bN (ae (ag eQ (jC (.int 2)) (aI bx (ae (jV 0) ah))) ah)) [some (.bi,.lst (r1.map Row.d)),some (.fr,.int ((rs.length:Int)-1)),none,none,none,none,none]=some (.fr,bY 0 (2*(rs.length:Int)).toNat):=by
  simp -implicitDefEqProofs only [bN,aI,ag,jC,ae,ah,jV,gz,gy,id_eq,oq,cT,ln,l1]
  rw[FX (by omega)]
  simp -implicitDefEqProofs only [oq,b0,and_self,if_true]
 rcases L with⟨e',q,r2,o2,o3,o4,o5,o6,rfl,g2,l2⟩|⟨e',m',d',q,rfl,r2,rfl,g2,l2⟩
 ·refine⟨r2,?_,g2,l2⟩
  rw[aw (e':=[some (.bi,.lst (r2.map Row.d)),some (.fr,.int ((rs.length:Int)-1)),o2,o3,o4,o5,o6]) (by unfold bf;rw[it,oq];exact q)]
  rw[show(aK (jV 0)) [some (.bi,.lst (r2.map Row.d)),some (.fr,.int ((rs.length:Int)-1)),o2,o3,o4,o5,o6]=some (.rt _ .bi (.lst (r2.map Row.d)))from rfl,oq]
  exact fin
 ·refine⟨r2,?_,g2,l2⟩
  rw[dJ (e':=e') (m:=.bi) (d:=.lst (r2.map Row.d)) (by unfold bf;rw[it,oq];exact q),oq]
  exact fin
theorem En{P:Row→Prop}:∀{xs:List D},(∀x∈xs,∃r:Row,x=r.d∧P r)→∃rs:List Row,xs=rs.map Row.d∧∀r∈rs,P r
 |[],_=>⟨[],rfl,fun _ h=>nomatch h⟩
 |x::xs,h=>by
  obtain⟨r,rfl,hr⟩:=h x bV
  obtain⟨rs,rfl,hs⟩:=En fun y hy=>h y (b9 _ hy)
  exact⟨r::rs,rfl,fun y hy=>by
   rcases cJ.mp hy with rfl|hy
   ·exact hr
   ·exact hs y hy⟩
theorem S6{k:Nat}{R:List D}(h1:D.bS R=true):j3 [0] [k] [(0,k)] [(.bo,.lst R)]=true:=by
 simp[j3,List.range_succ,own,gS,h1]
theorem S7(ns cs:List Int)(hc:cs.length≤40):∃rs:List Row,rW [.lst (ns.map .int),.lst (cs.map .int)]=some (.un,.lst (rs.map Row.d))∧Good rs∧rs.length≤100:=by
 obtain⟨c0,h0⟩:=ke ns 0 (by omega)
 obtain⟨fs,jt,rP⟩:=xK c0
 obtain⟨ds,Bf,iI⟩:=xM ns fs (by omega)
 generalize Bd:(if (cs.length:Int)>1 then (cs.length:Int)else 1)=many
 have hm:1≤many∧many≤40∧(0<cs.length→many=cs.length):=by rw[←Bd];split<;>omega
 have fin:∀rs:List Row,0<rs.length→rs.length≤40→(∀r∈rs,Tg rs.length r)→∃bE:List Row,(jF [5] [(0,5)] oW (ae (jV 5) ah) [some (.al,.lst (ns.map .int)),some (.al,.lst (cs.map .int)),some (.bo,.lst (fs.map .str)),some (.bo,.lst (ds.map ak)),some (.fr,.int many),some (.bo,.lst (rs.map Row.d))]).bind out=some (.un,.lst (bE.map Row.d))∧Good bE∧bE.length≤100:=fun rs h1 h2 h3=>by
  obtain⟨bE,e,g,l⟩:=P2 h1 (by omega) h3
  refine⟨bE,?_,g,by omega⟩
  simp -implicitDefEqProofs only [jF,ae,ah,jV,gz,gy,id_eq,oq,S6 (lB rs),if_true,mq,mn,e,yt]
 unfold rW fn Bv
 simp only[cg,a7,bD]
 rw[aw (e':=[some (.al,.lst (ns.map .int)),some (.al,.lst (cs.map .int)),some (.bo,.lst (fs.map .str)),none,none,none]) (by walk_at "ev"; rw[h0];walk_at "ev"; rw[rP];walk_at "ev")]
 rw[aw (e':=[some (.al,.lst (ns.map .int)),some (.al,.lst (cs.map .int)),some (.bo,.lst (fs.map .str)),some (.bo,.lst (ds.map ak)),none,none]) (by walk_at "ev"; rw[iI];walk_at "ev")]
 rw[aw (e':=[some (.al,.lst (ns.map .int)),some (.al,.lst (cs.map .int)),some (.bo,.lst (fs.map .str)),some (.bo,.lst (ds.map ak)),some (.fr,.int many),none]) (by
  walk_at "ev"
  simp -implicitDefEqProofs only [lV,oq,fI,Bd])]
 rw[aw (e':=[some (.al,.lst (ns.map .int)),some (.al,.lst (cs.map .int)),some (.bo,.lst (fs.map .str)),some (.bo,.lst (ds.map ak)),some (.fr,.int many),some (.bo,.lst ([Row.en].map Row.d))]) rfl]
 by_cases q:0<cs.length
 ·have b0:-4611686018427387904≤many∧many<4611686018427387904:=by omega
  have AU:=hm.2.2 q
  obtain⟨xs,ex,xl,xp⟩:=J.CP (fc:=kW) (fe:=ay oV (ae (ag ao (jV 4) (jV 0)) (ae (jV 0) (ae (jV 1) (ae (jV 2) (ae (jV 3) ah)))))) (m:=.fr) (fr:=[some (.fr,.int many),some (.bo,.lst (fs.map .str)),some (.bo,.lst (ds.map ak)),some (.al,.lst (cs.map .int))]) (P:=fun x=>∃r:Row,x=r.d∧Tg many r) (ds:=bY 0 many.toNat) (fun d hd=>by
   obtain⟨k,hk,rfl⟩:=bu.mp hd
   have hk:=List.mem_range.mp hk
   obtain⟨c,vB⟩:=Dq (ns:=cs) (k:=0+(k:Int)) (by omega) (by omega)
   obtain⟨r,er,hr⟩:=K5 c (0+(k:Int)) many (by omega) fs (by omega) ds (by omega)
   refine⟨rfl,r.d,?_,r,rfl,hr⟩
   simp -implicitDefEqProofs only [ay,ae,ah,ag,jV,gz,gy,id_eq,oq,dq,vB,oy,mq,mn,er])
  obtain⟨rs,rfl,hT⟩:=En xp
  rw[ik,ln]at xl
  rw[aw (e':=[some (.al,.lst (ns.map .int)),some (.al,.lst (cs.map .int)),some (.bo,.lst (fs.map .str)),some (.bo,.lst (ds.map ak)),some (.fr,.int many),some (.bo,.lst (rs.map Row.d))]) (by
   rw[bA (by walk_at "ev"; rw[cV (show(0:Int)<cs.length by omega)])]
   simp -implicitDefEqProofs only [av,cC,bN,ae,ah,jV,gz,gy,id_eq,oq,b0,and_self,if_true]
   rw[show dB [some (.al,.lst (ns.map .int)),some (.al,.lst (cs.map .int)),some (.bo,.lst (fs.map .str)),some (.bo,.lst (ds.map ak)),some (.fr,.int many),some (.bo,.lst ([Row.en].map Row.d))] [4,2,3,1]=[some (.fr,.int many),some (.bo,.lst (fs.map .str)),some (.bo,.lst (ds.map ak)),some (.al,.lst (cs.map .int))] from rfl,ex,oq,lE (by rw[ln];omega),oq]
   rfl)]
  exact fin rs (by omega) (by omega) fun r hr=>by
   have:=hT r hr
   rw[show(rs.length:Int)=many by omega]
   exact this
 ·rw[aw (e':=[some (.al,.lst (ns.map .int)),some (.al,.lst (cs.map .int)),some (.bo,.lst (fs.map .str)),some (.bo,.lst (ds.map ak)),some (.fr,.int many),some (.bo,.lst ([Row.en].map Row.d))]) (by
   rw[bL (by walk_at "ev"; rw[df (show ¬(0:Int)<cs.length by omega)])];rfl)]
  exact fin [.en] (by simp) (by simp) fun r hr=>by
   have:r=.en:=by simpa using hr
   subst this
   exact⟨(fun t e=>nomatch e),fun a t e=>nomatch e⟩
theorem K6(ns cs:List Int)(hc:cs.length≤40):∃rs:List Row,sJ [.lst (ns.map .int),.lst (cs.map .int)]=some (.un,.lst (rs.map Row.d))∧Good rs∧rs.length≤100:=by
 obtain⟨b,hb⟩:=x9 ns
 obtain⟨nu,Bg⟩:=pI ns 57 (by omega)
 unfold sJ fn BM
 simp only[cg,a7,bD]
 cases b with
 |true =>
  obtain⟨rs,e,g,l⟩:=S7 ns cs hc
  refine⟨rs,?_,g,l⟩
  rw[dJ (e':=[some (.al,.lst (ns.map .int)),some (.al,.lst (cs.map .int)),none,none,none,none,none]) (m:=.un) (d:=.lst (rs.map Row.d)) (by
   rw[bA (by walk_at "ev"; rw[hb];rfl)]
   walk_at "ev"
   rw[e]
   rfl)]
  rfl
 |false =>
  rw[eW (by walk_at "ev"; rw[hb];rfl)]
  rw[aw (e':=[some (.al,.lst (ns.map .int)),some (.al,.lst (cs.map .int)),some (.fr,.int nu),none,none,none,none]) (by walk_at "ev"; rw[Bg];walk_at "ev")]
  by_cases q:nu%8=1
  ·obtain⟨rs,e,g,l⟩:=Mb ns (1+nu/8%28) (by omega) (by omega)
   refine⟨rs,?_,g,l⟩
   rw[dJ (e':=[some (.al,.lst (ns.map .int)),some (.al,.lst (cs.map .int)),some (.fr,.int nu),none,none,none,none]) (m:=.un) (d:=.lst (rs.map Row.d)) (by
    rw[bA (by walk_at "go"; simp only[q,decide_true])]
    walk_at "go"
    rw[e]
    rfl)]
   rfl
  rw[eW (by walk_at "go"; simp only[q,decide_false])]
  obtain⟨ro,er,lj,JL⟩:=Ny ns cs hc
  obtain⟨n2,ou⟩:=pI ns 59 (by omega)
  rw[aw (e':=[some (.al,.lst (ns.map .int)),some (.al,.lst (cs.map .int)),some (.fr,.int nu),some (.bo,.lst (ro.map Row.d)),none,none,none]) (by walk_at "ev"; rw[er];walk_at "ev")]
  rw[aw (e':=[some (.al,.lst (ns.map .int)),some (.al,.lst (cs.map .int)),some (.fr,.int nu),some (.bo,.lst (ro.map Row.d)),some (.bo,.lst ([].map Row.d)),none,none]) rfl]
  obtain⟨e',l1,rs,o5,o6,he,hl,hP⟩:=dI (g:=gT 2 (cq (gN 5) (cq (gN 6) fL))) (b:=sg) (m:=.fr) (ds:=cI (ro.map Row.d)) (e:=[some (.al,.lst (ns.map .int)),some (.al,.lst (cs.map .int)),some (.fr,.int nu),some (.fr,.lst (ro.map Row.d)),some (.bo,.lst ([].map Row.d)),none,none])
   (fun i e=>∃(rs:List Row) (o5 o6:Option (M×D)),e=[some (.al,.lst (ns.map .int)),some (.al,.lst (cs.map .int)),some (.fr,.int nu),some (.fr,.lst (ro.map Row.d)),some (.bo,.lst (rs.map Row.d)),o5,o6]∧rs.length=i∧∀(n:Nat) r,rs[n]?=some r→∀m∈bj n r,0≤m∧m<ro.length)
   ⟨[],none,none,rfl,rfl,fun n r h=>by simp at h⟩
   (fun i d e hd bz=>by
    obtain⟨rs,o5,o6,he,hl,hP⟩:=bz
    subst he
    obtain⟨r,hr,rfl⟩:=PN hd
    have hi:i<ro.length:=(bO.mp hr).1
    obtain⟨r',cQ,q,hm⟩:=S2 lj (by omega) (some (.al,.lst (ns.map .int))) (some (.al,.lst (cs.map .int))) (some (.fr,.int nu)) rs (by omega) hr
    refine⟨_,_,rfl,q,rs++[r'],_,cQ,rfl,by simp[hl],fun n x hx m Bp=>?_⟩
    rcases gA hx with z|⟨z,rfl⟩
    ·exact hP n x z m Bp
    ·rw[z,hl]at Bp;exact hm m Bp)
  subst he
  have hE:(cI (ro.map Row.d)).length=ro.length:=by simp[cI]
  rw[hE]at hl
  rw[aw (e':=[some (.al,.lst (ns.map .int)),some (.al,.lst (cs.map .int)),some (.fr,.int nu),some (.fr,.lst (ro.map Row.d)),some (.bo,.lst (rs.map Row.d)),o5,o6]) (by
   rw[cN,show cw 3 [some (.al,.lst (ns.map .int)),some (.al,.lst (cs.map .int)),some (.fr,.int nu),some (.bo,.lst (ro.map Row.d)),some (.bo,.lst ([].map Row.d)),none,none]=[some (.al,.lst (ns.map .int)),some (.al,.lst (cs.map .int)),some (.fr,.int nu),some (.fr,.lst (ro.map Row.d)),some (.bo,.lst ([].map Row.d)),none,none] from rfl]
   simp -implicitDefEqProofs only [bf,jo,ae,jV,ah,gz,gy,oq,id_eq,b8,oy]
   exact l1)]
  have g:Good rs:=⟨by have:=lj.pos;omega,fun n r hr m hm=>by rw[hl];exact hP n r hr m hm⟩
  obtain⟨bE,e2,g2,l2⟩:=P1 g (by omega) n2
  refine⟨bE,?_,g2,by omega⟩
  have io:j3 [0] [4] [(0,4)] [(.bo,.lst (rs.map Row.d)),(.fr,.int n2)]=true:=by
   simp[j3,List.range_succ,own,gS,fC,lB]
  simp -implicitDefEqProofs only [jF,ae,ah,jV,jC,ay,gz,gy,id_eq,oq,mq,mn,ou,io,if_true,e2,yt]
section
variable {κ:Type}[DecidableEq κ]
theorem P4{ks:List (κ×D)}{k:κ}{d:D}(h:∀kv∈ks,kv.1=k→kv.2=d)(hi:∃kv∈ks,kv.1=k):putD ks k d=ks:=by
 unfold putD
 rw[if_pos (by rw[List.any_eq_true];obtain⟨kv,h1,h2⟩:=hi;exact⟨kv,h1,cV h2⟩)]
 conv=>rhs;rw[←List.map_id ks]
 refine List.map_congr_left fun kv cH=>?_
 by_cases e:kv.1=k
 ·rw[if_pos e,←h kv cH e];rfl
 ·rw[if_neg e];rfl
theorem DH{ks:List (κ×D)}{k:κ}{d:D}(h:∀kv∈ks,kv.1≠k):putD ks k d=ks++[(k,d)]:=by
 unfold putD
 rw[if_neg]
 intro z
 obtain⟨kv,h1,h2⟩:=List.any_eq_true.mp z
 exact h kv h1 (bt h2)
theorem Md{ks:List (κ×D)}{k:κ}{d:D}(h:∀kv∈ks,kv.1=k→kv.2=d)(hi:∃kv∈ks,kv.1=k):cO ks k=some d:=by
 unfold cO
 cases f:ks.find? fun kv=>decide (kv.1=k) with
 |none =>
  obtain⟨kv,h1,h2⟩:=hi
  have:=List.find?_eq_none.mp f kv h1
  exact absurd (cV h2) this
 |some kv =>
  have h1:=List.mem_of_find?_eq_some f
  have h2:kv.1=k:=bt (List.find?_some (p:=fun(kv:κ×D)=>decide (kv.1=k)) f)
  rw[oy,h kv h1 h2]
theorem KC{ks:List (κ×D)}{k:κ}:(cO ks k).isSome=true↔∃kv∈ks,kv.1=k:=by
 unfold cO
 rw[Option.isSome_map,List.find?_isSome]
 constructor
 ·rintro⟨kv,h1,h2⟩;exact⟨kv,h1,bt h2⟩
 ·rintro⟨kv,h1,h2⟩;exact⟨kv,h1,cV h2⟩
theorem NK(ks:List (κ×D))(k:κ)(d:D):(putD ks k d).length≤ks.length+1:=by
 unfold putD
 split
 ·rw[ln];omega
 ·simp
theorem DI{ks:List (κ×D)}{k:κ}{d:D}{kv:κ×D}(h:kv∈putD ks k d):(kv∈ks∧kv.1≠k)∨kv=(k,d):=by
 unfold putD at h
 split at h
 ·obtain⟨x,hx,e⟩:=bu.mp h
  by_cases z:x.1=k
  ·rw[if_pos z]at e;exact .inr (by rw[←e,z])
  ·rw[if_neg z]at e;exact .inl (by rw[←e];exact⟨hx,z⟩)
 ·rename_i hn
  rcases cU.mp h with z|z
  ·by_cases e:kv.1=k
   ·exact absurd (List.any_eq_true.mpr ⟨kv,z,cV e⟩) hn
   ·exact .inl ⟨z,e⟩
  ·exact .inr (by simpa using z)
end
noncomputable def fM:Row→Option De
 |.rk _ s a b=>some (s,a,b)
 |_=>none
noncomputable def sets:Row→Option Str
 |.rk x _ _ _=>some x
 |.cp x _=>some x
 |_=>none
noncomputable def dd:Option De→D
 |some q=>ak q
 |none=>.non
noncomputable def gP:Option Str→D
 |some q=>.str q
 |none=>.non
theorem zS(r:Row):decide (r.word=("reckon" : Str))=(fM r).isSome:=by
 cases r with
 |rk x s a b=>exact(by decide +kernel:decide (("reckon" : Str) = "reckon")=true)
 |cp x a=>exact(by decide +kernel:decide (("copy" : Str) = "reckon")=false)
 |sy a=>exact(by decide +kernel:decide (("say" : Str) = "reckon")=false)
 |go t=>exact(by decide +kernel:decide (("go" : Str) = "reckon")=false)
 |pt a t=>exact(by decide +kernel:decide (("part" : Str) = "reckon")=false)
 |en=>exact(by decide +kernel:decide (("end" : Str) = "reckon")=false)
theorem P5(r:Row):sj [r.d]=some (.fr,dd (fM r)):=by
 unfold sj fn BE
 walk_at "ev"
 simp -implicitDefEqProofs only [cX,oq,dn,cS,bh,zS]
 cases r with
 |rk x s a b =>
  simp -implicitDefEqProofs only [fM,Option.isSome_some,if_true]
  rw[show ao (.al,Row.d (.rk x s a b)) (.fr,.int 2)=some (.al,.str s)from rfl,show ao (.al,Row.d (.rk x s a b)) (.fr,.int 3)=some (.al,kD a)from rfl,show ao (.al,Row.d (.rk x s a b)) (.fr,.int 4)=some (.al,kD b)from rfl]
  walk_at "ev"
  simp -implicitDefEqProofs only [pV,Bool.and_self,if_true]
  rfl
 |_=>rfl
theorem P6(r:Row):yC [r.d]=some (.fr,gP (sets r)):=by
 cases r<;>rfl
noncomputable def rS:Ko→Key
 |.inl i=>.inl i
 |.inr x=>.inr x
noncomputable def ll(q:De):List Key:=[.inr q.1,rS q.2.1,rS q.2.2]
theorem Eo{a b:Ko}(h:rS a=rS b):a=b:=by
 cases a<;>cases b<;>simp[rS]at h<;>rw[h]
theorem P7{p q:De}(h:ll p=ll q):p=q:=by
 obtain⟨s,a,b⟩:=p;obtain⟨s',a',b'⟩:=q
 simp only[ll,List.cons.injEq,and_true,Key.inr.injEq]at h
 rw[h.1,Eo h.2.1,Eo h.2.2]
theorem P8(q:De):n9 (ak q)=some (ll q):=by
 obtain⟨s,a,b⟩:=q
 cases a<;>cases b<;>rfl
theorem P9(q:De):zK (ll q)=ak q:=by
 obtain⟨s,a,b⟩:=q
 cases a<;>cases b<;>rfl
noncomputable def f6(l:List De):List (List Key×D):=l.map fun q=>(ll q,.bl true)
noncomputable instance YD (q:De) (l:List De):Decidable (q∈l):=@List.instDecidableMemOfLawfulBEq De instBEqOfDecidableEq inferInstance q l
noncomputable def lq(acc:List De)(r:Row):List De:=match fM r with
 |some q=>if q∈acc then acc else acc++[q]
 |none=>acc
noncomputable def kn(rs:List Row):List De:=rs.foldl lq []
theorem Qa(acc:List De)(r:Row):(lq acc r).length≤acc.length+1:=by
 unfold lq
 split
 ·split<;>simp
 ·omega
theorem yg(rs:List Row)(i:Nat)(r:Row)(h:rs[i]?=some r):kn (rs.take (i+1))=lq (kn (rs.take i)) r:=by
 unfold kn
 rw[List.take_add_one,h,List.foldl_append]
 rfl
theorem yF(rs:List Row):∀i,(kn (rs.take i)).length≤i
 |0=>by simp[kn]
 |i+1=>by
  have:=yF rs i
  cases h:rs[i]? with
  |none =>
   have e:rs.take (i+1)=rs.take i:=by rw[List.take_add_one,h];simp
   rw[e];omega
  |some r =>
   rw[yg rs i r h]
   have:=Qa (kn (rs.take i)) r
   omega
theorem JZ{rs:List Row}:kn (rs.take rs.length)=kn rs:=by rw[List.take_length]
theorem U7{r:Row}{l:List De}(hl:l.length≤500)(A0 o3:Option (M×D)):∃eE,sk [A0,some (.bo,.dt (f6 l)),some (.al,r.d),o3]=some (.nx [A0,some (.bo,.dt (f6 (lq l r))),some (.al,r.d),eE]):=by
 have s1:(f6 l).length<sizeLine:=by simp only[f6,ln];exact dz hl (by decide)
 unfold sk
 rw[aw (e':=[A0,some (.bo,.dt (f6 l)),some (.al,r.d),some (.fr,dd (fM r))]) (by
  simp -implicitDefEqProofs only [av,ay,ae,ah,jV,gz,gy,id_eq,oq,mq,mn,P5,fI,tz,tq])]
 unfold lq
 cases hd:fM r with
 |none =>
  rw[bL rfl]
  exact⟨_,rfl⟩
 |some q =>
  rw[bA rfl]
  refine⟨some (.fr,ak q),?_⟩
  have hp:putD (f6 l) (ll q) (.bl true)=f6 (if q∈l then l else l++[q]):=by
   by_cases hq:q∈l
   ·rw[if_pos hq]
    exact P4 (fun kv cH _=>by obtain⟨x,_,rfl⟩:=bu.mp cH;rfl) ⟨(ll q,.bl true),bu.mpr ⟨q,hq,rfl⟩,rfl⟩
   ·rw[if_neg hq,DH (fun kv cH=>by obtain⟨x,hx,rfl⟩:=bu.mp cH;exact fun z=>hq (P7 z▸hx))]
    simp[f6]
  simp -implicitDefEqProofs only [nR,jV,jC,gz,gy,id_eq,oq,dd,P8,fJ,if_true,mh,own,s1,hp,tz,tq]
theorem Ep{rs:List Row}{i:Nat}{d:D}(h:(rs.map Row.d)[i]?=some d):∃r,rs[i]?=some r∧d=r.d:=by
 rw[dG]at h
 cases e:rs[i]? with
 |none=>rw[e]at h;cases h
 |some r=>rw[e]at h;cases h;exact⟨r,rfl,rfl⟩
theorem Qb{rs:List Row}(hl:rs.length≤400):sU [.lst (rs.map Row.d)]=some (.un,.lst ((kn rs).map ak)):=by
 obtain⟨e',l1,o2,o3,he⟩:=dI (g:=gN 2) (b:=sk) (m:=.al) (ds:=rs.map Row.d) (e:=[some (.al,.lst (rs.map Row.d)),some (.bo,.dt (f6 [])),none,none])
  (fun i e=>∃o2 o3,e=[some (.al,.lst (rs.map Row.d)),some (.bo,.dt (f6 (kn (rs.take i)))),o2,o3]) ⟨none,none,rfl⟩
  (fun i d e hd bz=>by
   obtain⟨o2,o3,he⟩:=bz
   subst he
   obtain⟨r,hr,rfl⟩:=Ep hd
   have hi:i<rs.length:=(bO.mp hr).1
   have oP:=yF rs i
   obtain⟨eE,q⟩:=U7 (r:=r) (l:=kn (rs.take i)) (by omega) (some (.al,.lst (rs.map Row.d))) o3
   rw[←yg rs i r hr]at q
   exact⟨_,_,rfl,q,_,eE,rfl⟩)
 subst he
 rw[ln,JZ]at l1
 unfold sU fn BP
 simp only[cg,a7,bD]
 rw[aw (e':=[some (.al,.lst (rs.map Row.d)),some (.bo,.dt (f6 [])),none,none]) rfl]
 rw[aw (e':=[some (.al,.lst (rs.map Row.d)),some (.bo,.dt (f6 (kn rs))),o2,o3]) (by
  rw[cN,show cw 0 [some (.al,.lst (rs.map Row.d)),some (.bo,.dt (f6 [])),none,none]=[some (.al,.lst (rs.map Row.d)),some (.bo,.dt (f6 [])),none,none] from rfl]
  simp -implicitDefEqProofs only [bf,bQ,jV,gz,gy,id_eq,oq,b8,oy]
  exact l1)]
 simp -implicitDefEqProofs only [aK,aI,ae,ah,jV,gz,gy,id_eq,oq,pX,own,true_or,if_true,ux]
 congr 3
 unfold f6
 rw[List.map_map]
 exact List.map_congr_left fun q _=>P9 q
theorem Cb{a:Option (M×D)}:∀(l ks:List Nat) (o:Option (M×D)),(ks++l).Nodup→(ks++l).length≤900→∃o',forL (gN 2) sx .al (aj l) [a,some (.bo,.dk (aD ks)),o]=some (.nx [a,some (.bo,.dk (aD (ks++l))),o'])
 |[],ks,o,_,_=>⟨o,by simp[aj,forL]⟩
 |x::l,ks,o,hn,hl=>by
  have hx:x∉ks:=fun z=>by
   rw[List.nodup_append]at hn
   exact hn.2.2 x z x bV rfl
  have e1:ks++x::l=(ks++[x])++l:=by simp
  rw[e1]at hn hl ⊢
  obtain⟨o',q⟩:=Cb (a:=a) l (ks++[x]) (some (.al,.int (x:Int))) hn hl
  have s1:ks.length<sizeLine:=by
   have:ks.length≤900:=by simp at hl;omega
   exact dz this (by decide)
  refine⟨o',?_⟩
  rw[show aj (x::l)=D.int (x:Int)::aj l from rfl,forL,show gN 2 (M.al,D.int (x:Int)) [a,some (.bo,.dk (aD ks)),o]=some [a,some (.bo,.dk (aD ks)),some (.al,.int (x:Int))] from rfl,oq]
  have hb:sx [a,some (.bo,.dk (aD ks)),some (.al,.int (x:Int))]=some (.nx [a,some (.bo,.dk (aD (ks++[x]))),some (.al,.int (x:Int))]):=by
   unfold sx
   simp -implicitDefEqProofs only [gZ,jV,jC,keyOf,gz,gy,id_eq,oq,fJ,if_true,i5,own,km,s1,qa hx,tz,tq]
  rw[hb,oq]
  exact q
theorem Mf{l:List Nat}(hn:l.Nodup)(hl:l.length≤900):tf [.lst (aj l)]=some (.un,.dk (aD l)):=by
 obtain⟨o',q⟩:=Cb (a:=some (.al,.lst (aj l))) l [] none (by simpa using hn) (by simpa using hl)
 unfold tf fn B3
 simp only[cg,a7,bD]
 rw[aw (e':=[some (.al,.lst (aj l)),some (.bo,.dk (aD [])),none]) rfl]
 rw[aw (e':=[some (.al,.lst (aj l)),some (.bo,.dk (aD l)),o']) (by
  rw[cN,show cw 0 [some (.al,.lst (aj l)),some (.bo,.dk (aD [])),none]=[some (.al,.lst (aj l)),some (.bo,.dk (aD [])),none] from rfl]
  simp -implicitDefEqProofs only [bf,bQ,jV,gz,gy,id_eq,oq,b8,oy]
  simpa using q)]
 rfl
theorem xt{A0 A1:Option (M×D)}{N:Nat}(hN:N≤800):∀(ms ks ws:List Nat) (o4 o5:Option (M×D)),(∀m∈ms,m<N)→ks.Nodup→(∀x∈ks,x<N)→ws.length≤ks.length →
  ∃new di,forL (gN 5) mU .al (aj ms) [A0,A1,some (.bo,.dk (aD ks)),some (.bo,.lst (aj ws)),o4,o5]=some (.nx [A0,A1,some (.bo,.dk (aD (ks++new))),some (.bo,.lst (aj (ws++new))),o4,di])∧(ks++new).Nodup∧(∀x∈ks++new,x<N)∧(∀m∈ms,m∈ks++new)∧∀x∈new,x∈ms
 |[],ks,ws,o4,o5,_,h1,h2,_=>⟨[],o5,by simp[aj,forL],by simpa using h1,by simpa using h2,(fun m hm=>nomatch hm),fun x hx=>nomatch hx⟩
 |m::ms,ks,ws,o4,o5,hm,h1,h2,h3=>by
  have oP:=gx N ks h1 h2
  rw[show aj (m::ms)=D.int (m:Int)::aj ms from rfl,forL,show gN 5 (M.al,D.int (m:Int)) [A0,A1,some (.bo,.dk (aD ks)),some (.bo,.lst (aj ws)),o4,o5]=some [A0,A1,some (.bo,.dk (aD ks)),some (.bo,.lst (aj ws)),o4,some (.al,.int (m:Int))] from rfl,oq]
  by_cases hk:m∈ks
  ·obtain⟨new,di,q1,q2,q3,q4,q5⟩:=xt (A0:=A0) (A1:=A1) hN ms ks ws o4 (some (.al,.int (m:Int))) (fun x hx=>hm x (b9 _ hx)) h1 h2 h3
   refine⟨new,di,?_,q2,q3,fun x hx=>?_,fun x hx=>b9 _ (q5 x hx)⟩
   ·have hb:mU [A0,A1,some (.bo,.dk (aD ks)),some (.bo,.lst (aj ws)),o4,some (.al,.int (m:Int))]=some (.nx [A0,A1,some (.bo,.dk (aD ks)),some (.bo,.lst (aj ws)),o4,some (.al,.int (m:Int))]):=by
     unfold mU
     simp -implicitDefEqProofs only [aO,jB,du,jV,gH,keyOf,gz,gy,id_eq,oq,lP,decide_eq_true hk,Bool.not_true,if_true,bh,Bool.false_eq_true,if_false,aY]
    rw[hb,oq]
    exact q1
   ·rcases cJ.mp hx with rfl|hx
    ·exact dN _ hk
    ·exact q4 x hx
  ·have iQ:=hm m bV
   have Yj:(ks++[m]).Nodup:=by
    rw[List.nodup_append]
    refine⟨h1,by simp,fun a ha b hb=>?_⟩
    have:b=m:=by simpa using hb
    subst this
    exact fun z=>hk (z▸ha)
   have Yk:∀x∈ks++[m],x<N:=fun x hx=>by
    rcases cU.mp hx with z|z
    ·exact h2 x z
    ·have:x=m:=by simpa using z
     omega
   obtain⟨new,di,q1,q2,q3,q4,q5⟩:=xt (A0:=A0) (A1:=A1) hN ms (ks++[m]) (ws++[m]) o4 (some (.al,.int (m:Int))) (fun x hx=>hm x (b9 _ hx)) Yj Yk (by simp;omega)
   have s1:ks.length<sizeLine:=dz (show ks.length≤800 by omega) (by decide)
   have s2:ws.length<sizeLine:=dz (show ws.length≤800 by omega) (by decide)
   simp only[List.append_assoc,List.singleton_append]at q1 q2 q3 q4
   refine⟨m::new,di,?_,q2,q3,fun x hx=>?_,fun x hx=>(cJ.mp hx).elim (fun z=>z▸bV) fun z=>b9 _ (q5 x z)⟩
   ·have hb:mU [A0,A1,some (.bo,.dk (aD ks)),some (.bo,.lst (aj ws)),o4,some (.al,.int (m:Int))]=some (.nx [A0,A1,some (.bo,.dk (aD (ks++[m]))),some (.bo,.lst (aj (ws++[m]))),o4,some (.al,.int (m:Int))]):=by
     unfold mU
     simp -implicitDefEqProofs only [aO,jB,du,jV,jC,gH,keyOf,gz,gy,id_eq,oq,lP,decide_eq_false hk,Bool.not_false,if_true,bh,aq,gZ,fJ,i5,own,km,s1,qa hk,tz,tq,cF,uz,vk,dW,cR,s2,xN]
    rw[hb,oq]
    exact q1
   ·rcases cJ.mp hx with rfl|hx
    ·simp
    ·exact q4 x hx
theorem K7{S:List (List Nat)}(hN:S.length≤800)(hS:∀l∈S,∀m∈l,m<S.length){st:List Nat}(hn:st.Nodup)(jR:∀x∈st,x<S.length) :
  ∃ks:List Nat,tM [.lst (b5 S),.lst (aj st)]=some (.un,.dk (aD ks))∧(∀x∈st,x∈ks)∧(∀(n:Nat) l m,n∈ks→S[n]?=some l→m∈l→m∈ks)∧∀Q:Nat→Prop,(∀x∈st,Q x)→(∀(n:Nat) l m,Q n→S[n]?=some l→m∈l→Q m)→∀x∈ks,Q x:=by
 have hsl:=gx S.length st hn jR
 have et:=Mf hn (by omega)
 obtain⟨e',l1,⟨ks,ws,o4,o5,he,h1,h2,h3,h4,h5,h6,h7⟩,hc⟩:=xD (c:=pj) (b:=xr) (e:=[some (.al,.lst (b5 S)),some (.al,.lst (aj st)),some (.bo,.dk (aD st)),some (.bo,.lst (aj st)),none,none])
  (fun e=>∃(ks ws:List Nat) (o4 o5:Option (M×D)),e=[some (.al,.lst (b5 S)),some (.al,.lst (aj st)),some (.bo,.dk (aD ks)),some (.bo,.lst (aj ws)),o4,o5]∧ks.Nodup∧(∀x∈ks,x<S.length)∧ws.length≤ks.length∧(∀x∈ws,x∈ks)∧(∀x∈st,x∈ks)∧(∀(n:Nat) l m,n∈ks→n∉ws→S[n]?=some l→m∈l→m∈ks)∧∀Q:Nat→Prop,(∀x∈st,Q x)→(∀(n:Nat) l m,Q n→S[n]?=some l→m∈l→Q m)→∀x∈ks,Q x)
  (fun e=>2*(S.length-rM 2 e)+F3 3 e)
  ⟨st,st,none,none,rfl,hn,jR,a6 _,(fun x h=>h),(fun x h=>h),(fun n l m a b=>absurd a b),fun Q h _=>h⟩
  (fun e bz=>by
   obtain⟨ks,ws,o4,o5,he,h1,h2,h3,h4,h5,h6,h7⟩:=bz
   subst he
   have oP:=gx S.length ks h1 h2
   have hC:pj [some (.al,.lst (b5 S)),some (.al,.lst (aj st)),some (.bo,.dk (aD ks)),some (.bo,.lst (aj ws)),o4,o5]=some (decide ((0:Int)<(ws.length:Int))):=by
    unfold pj
    simp -implicitDefEqProofs only [jB,ag,aI,ae,ah,jV,jC,gz,gy,id_eq,oq,cT,cR,nM,bh]
   rw[hC]
   rcases List.eq_nil_or_concat ws with rfl|⟨cj,n,rfl⟩
   ·exact .inl rfl
   rw[List.concat_eq_append]at *
   have rT:n∈ks:=h4 n (by simp)
   have Bq:=h2 n rT
   have xj:S[n]?=some (S[n]'Bq):=by simp
   generalize mr:S[n]'Bq=l at xj
   refine .inr ⟨by rw[cV (by rw[dO];simp only[List.length_cons,List.length_nil];omega)],?_⟩
   obtain⟨new,di,q1,q2,q3,q4,q5⟩:=xt (A0:=some (.al,.lst (b5 S))) (A1:=some (.al,.lst (aj st))) hN l ks cj (some (.fr,.int (n:Int))) o5 (hS l (fm xj)) h1 h2 (by simp at h3;omega)
   refine⟨_,?_,⟨ks++new,cj++new,some (.fr,.int (n:Int)),di,rfl,q2,q3,by simp at h3 ⊢;omega,fun x hx=>?_,fun x hx=>dN _ (h5 x hx),fun x lx m hx J0 Br rV=>?_,fun Q mC qU x hx=>(cU.mp hx).elim (fun z=>h7 Q mC qU x z) fun z=>qU n l x (h7 Q mC qU n rT) xj (q5 x z)⟩,?_⟩
   ·unfold xr
    have zT:kR 4 3 [some (.al,.lst (b5 S)),some (.al,.lst (aj st)),some (.bo,.dk (aD ks)),some (.bo,.lst (aj (cj++[n]))),o4,o5]=some (.nx [some (.al,.lst (b5 S)),some (.al,.lst (aj st)),some (.bo,.dk (aD ks)),some (.bo,.lst (aj cj)),some (.fr,.int (n:Int)),o5]):=by
     have e1:(aj (cj++[n]))[(aj (cj++[n])).length-1]?=some (.int (n:Int)):=by simp[aj]
     have e2:(aj (cj++[n])).dropLast=aj cj:=by simp[aj]
     simp -implicitDefEqProofs only [kR,dW,own,if_true,gz,gy,oq,e1,e2,tz,tq]
    rw[aw zT]
    have oJ:L2.bB (b5 S) (n:Int)=some (.lst (aj l)):=by
     rw[J.lD (by simpa[b5]using Bq)]
     simp only[b5,List.getElem_map,mr]
    simp -implicitDefEqProofs only [bf,bQ,ag,jV,gz,gy,id_eq,oq,dq,oJ,oy,dn,b8]
    exact q1
   ·rcases cU.mp hx with z|z
    ·exact dN _ (h4 x (dN _ z))
    ·exact fj _ z
   ·rcases cU.mp hx with z|z
    ·by_cases J1:x=n
     ·subst J1
      rw[xj]at Br;cases Br
      exact q4 m rV
     ·refine dN _ (h6 x lx m z (fun hw=>?_) Br rV)
      rcases cU.mp hw with y|y
      ·exact J0 (dN _ y)
      ·exact J1 (by simpa using y)
    ·exact absurd (fj _ z) J0
   ·have vw:=gx S.length (ks++new) q2 q3
    simp only[rM,F3,gz,gy,km,cR,List.length_append,List.length_cons,List.length_nil]at vw ⊢
    omega)
 subst he
 have hz:ws=[]:=by
  unfold pj at hc
  simp -implicitDefEqProofs only [jB,ag,aI,ae,ah,jV,jC,gz,gy,id_eq,oq,cT,cR,nM,bh]at hc
  have:=Option.some.inj hc
  rw[decide_eq_false_iff_not]at this
  exact List.length_eq_zero_iff.mp (by omega)
 subst hz
 refine⟨ks,?_,h5,(fun n l m a b c=>h6 n l m a (fun z=>nomatch z) b c),h7⟩
 unfold tM fn CY
 simp only[cg,a7,bD]
 rw[aw (e':=[some (.al,.lst (b5 S)),some (.al,.lst (aj st)),some (.bo,.dk (aD st)),none,none,none]) (by
  simp -implicitDefEqProofs only [av,ay,ae,ah,jV,gz,gy,id_eq,oq,mq,mn,et,gb,tz,tq])]
 rw[aw (e':=[some (.al,.lst (b5 S)),some (.al,.lst (aj st)),some (.bo,.dk (aD st)),some (.bo,.lst (aj st)),none,none]) (by
  simp -implicitDefEqProofs only [av,aI,ae,ah,jV,qh,PQ,gz,gy,id_eq,oq,gb,tz,tq])]
 rw[aw l1]
 rfl
noncomputable def isNm(a:Ko)(x:Str):Bool:=match a with
 |.inr y=>decide (x=y)
 |.inl _=>false
noncomputable def gw(o:Option Str)(q:De):Bool:=match o with
 |some x=>isNm q.2.1 x||isNm q.2.2 x
 |none=>false
theorem V6{m n:M}{x:Str}(a:Ko):aL (m,.str x) (n,kD a)=some (.fr,.bl (isNm a x)):=by
 cases a with
 |inl i=>exact T6
 |inr y=>exact cS
theorem K8(r:Row)(q:De):lA [r.d,ak q]=some (.fr,.bl (gw (sets r) q)):=by
 unfold lA fn CW
 simp only[cg,a7,bD]
 rw[aw (e':=[some (.al,r.d),some (.al,ak q),some (.fr,gP (sets r))]) (by
  simp -implicitDefEqProofs only [av,ay,ae,ah,jV,gz,gy,id_eq,oq,mq,mn,P6,fI,tz,tq])]
 cases sets r with
 |none=>rfl
 |some x =>
  have e1:ao (.al,ak q) (.fr,.int 1)=some (.al,kD q.2.1):=rfl
  have e2:ao (.al,ak q) (.fr,.int 2)=some (.al,kD q.2.2):=rfl
  simp -implicitDefEqProofs only [aK,kO,qW,ag,jV,jC,gz,gy,id_eq,oq,gP,e1,e2,V6]
  rw[show qf (.fr,.str x) (.fr,.non)=some (.fr,.bl true)from rfl]
  simp -implicitDefEqProofs only [oq,bh,if_true,gw]
  cases isNm q.2.1 x<;>rfl
theorem NP{c:Ev→Option Bool}{b:Ev→Option Fl}(Iv:Nat→Ev→Prop)(Rt:M→D→Prop)
    (hs:∀n e,Iv n e→c e=some false∨(c e=some true∧((∃e2 n2,(b e=some (.nx e2)∨b e=some (.ct e2))∧Iv n2 e2∧n2<n)∨∃e2 m d,b e=some (.rt e2 m d)∧Rt m d))) {n:Nat}{e:Ev} (h0:Iv n e) :
    (∃e' n',gB c b e=some (.nx e')∧Iv n' e'∧c e'=some false)∨∃e' m d,gB c b e=some (.rt e' m d)∧Rt m d:=by
  have:∀(k n:Nat) e,n≤k→Iv n e→(∃e' n',cL c b (k+1) e=some (.nx e')∧Iv n' e'∧c e'=some false)∨∃e' m d,cL c b (k+1) e=some (.rt e' m d)∧Rt m d:=by
    intro k
    induction k with
    |zero =>
      intro n e hn hi
      rcases hs n e hi with h|⟨h,⟨e2,n2,_,_,z⟩|⟨e2,m,d,h1,h2⟩⟩
      · exact .inl ⟨e,n,by simp[cL,h],hi,h⟩
      · omega
      · exact .inr ⟨e2,m,d,by rw[cL,h,oq,if_pos rfl,h1,oq],h2⟩
    |succ k ih =>
      intro n e hn hi
      rcases hs n e hi with h|⟨h,⟨e2,n2,h1,h2,h3⟩|⟨e2,m,d,h1,h2⟩⟩
      · exact .inl ⟨e,n,by simp[cL,h],hi,h⟩
      · have w:cL c b (k+1+1) e=cL c b (k+1) e2:=by
          rw[cL,h,oq,if_pos rfl]
          rcases h1 with h1|h1<;>rw[h1,oq]
        rw[w]
        exact ih n2 e2 (by omega) h2
      · exact .inr ⟨e2,m,d,by rw[cL,h,oq,if_pos rfl,h1,oq],h2⟩
  rcases this n n e (a6 _) h0 with⟨e',n',h1,h2,h3⟩|⟨e',m,d,h1,h2⟩
  · exact .inl ⟨e',n',xB h1,h2,h3⟩
  · exact .inr ⟨e',m,d,xB h1,h2⟩
noncomputable def pK(q:Int×Int):List Key:=[.inl q.1,.inl q.2]
theorem Fm(q:Int×Int):n9 (bq q)=some (pK q):=rfl
noncomputable def cY(l:List (Int×Int))(f:Int×Int→D):List (List Key×D):=l.foldl (fun d q=>putD d (pK q) (f q)) []
theorem DJ(l:List (Int×Int))(q:Int×Int)(f:Int×Int→D):cY (l++[q]) f=putD (cY l f) (pK q) (f q):=by
 unfold cY;rw[List.foldl_append];rfl
theorem Er(f:Int×Int→D)(l:List (Int×Int)):∀i,(cY (l.take i) f).length≤i
 |0=>by simp[cY]
 |i+1=>by
  have ih:=Er f l i
  cases h:l[i]? with
  |none=>rw[List.take_add_one,h];simp;omega
  |some q =>
   rw[List.take_add_one,h,Option.toList_some,DJ]
   have:=NK (cY (l.take i) f) (pK q) (f q)
   omega
noncomputable def mN:List Key→Int×Int
 |[.inl n,.inl m]=>(n,m)
 |_=>(0,0)
theorem Qc{f:Int×Int→D}(l:List (Int×Int)):∀kv∈cY l f,kv.2=f (mN kv.1):=by
 have go:∀(l:List (Int×Int)) (acc:List (List Key×D)),(∀kv∈acc,kv.2=f (mN kv.1))→∀kv∈l.foldl (fun d q=>putD d (pK q) (f q)) acc,kv.2=f (mN kv.1):=by
  intro l
  induction l with
  |nil=>intro acc h;exact h
  |cons q l ih =>
   intro acc h
   rw[List.foldl_cons]
   refine ih _ fun kv cH=>?_
   rcases DI cH with⟨z,_⟩|rfl
   ·exact h kv z
   ·rfl
 exact go l [] (fun kv h=>nomatch h)
theorem Es{κ:Type}[DecidableEq κ](ks:List (κ×D))(k:κ)(d:D){k':κ}(h:k'=k∨∃kv∈ks,kv.1=k'):∃kv∈putD ks k d,kv.1=k':=by
 unfold putD
 split
 ·rename_i hk
  rw[List.any_eq_true]at hk
  obtain⟨x,hx,e⟩:=hk
  have e:=bt e
  rcases h with rfl|⟨kv,cH,rfl⟩
  ·exact⟨(x.1,d),bu.mpr ⟨x,hx,if_pos e⟩,e⟩
  ·by_cases z:kv.1=k
   ·exact⟨(kv.1,d),bu.mpr ⟨kv,cH,if_pos z⟩,rfl⟩
   ·exact⟨kv,bu.mpr ⟨kv,cH,if_neg z⟩,rfl⟩
 ·rcases h with rfl|⟨kv,cH,rfl⟩
  ·exact⟨(k',d),by simp,rfl⟩
  ·exact⟨kv,dN _ cH,rfl⟩
theorem Qe{f:Int×Int→D}{l:List (Int×Int)}{q:Int×Int}(h:q∈l):∃kv∈cY l f,kv.1=pK q:=by
 have go:∀(l:List (Int×Int)) (acc:List (List Key×D)),(q∈l∨∃kv∈acc,kv.1=pK q)→∃kv∈l.foldl (fun d q=>putD d (pK q) (f q)) acc,kv.1=pK q:=by
  intro l
  induction l with
  |nil=>intro acc h;exact h.resolve_left (fun z=>nomatch z)
  |cons x l ih =>
   intro acc h
   rw[List.foldl_cons]
   refine ih _ ?_
   rcases h with h|h
   ·rcases cJ.mp h with rfl|h
    ·exact .inr (Es _ _ _ (.inl rfl))
    ·exact .inl h
   ·exact .inr (Es _ _ _ (.inr h))
 exact go l [] (.inl h)
theorem Fn(q:Int×Int):mN (pK q)=q:=rfl
theorem Qf{f:Int×Int→D}{l:List (Int×Int)}{q:Int×Int}(h:q∈l):cO (cY l f) (pK q)=some (f q) :=
 Md (fun kv cH e=>by rw[Qc l kv cH,e,Fn]) (Qe h)
theorem Fo{rs:List Row}(g:Good rs){k:Nat}{q:Int×Int}(h:q∈a9 rs k):0≤q.2∧q.2<rs.length:=by
 have:=g.pos
 unfold a9 at h
 rcases cJ.mp h with rfl|h
 ·simp;omega
 ·obtain⟨n,_,hm⟩:=List.mem_flatMap.mp h
  obtain⟨m,iR,rfl⟩:=bu.mp hm
  exact tV g iR
theorem yG{l:List (Int×Int)}{i:Nat}{d:D}(h:(aF l)[i]?=some d):∃q,l[i]?=some q∧d=bq q:=by
 unfold aF at h
 rw[dG]at h
 cases e:l[i]? with
 |none=>rw[e]at h;cases h
 |some r=>rw[e]at h;cases h;exact⟨r,rfl,rfl⟩
theorem p1(m n:M)(q:Int×Int):ao (m,bq q) (n,.int 1)=some (aQ m,.int q.2):=rfl
theorem S8(a b:Ko):PyData.eqv (toPy (kD a)) (toPy (kD b))=decide (a=b):=by
 cases a<;>cases b<;>simp[kD,toPy,PyData.eqv]<;>(rw[Bool.eq_iff_iff];simp)
theorem yH(p q:De):PyData.eqv (toPy (ak p)) (toPy (ak q))=decide (p=q):=by
 obtain⟨s,a,b⟩:=p;obtain⟨s',a',b'⟩:=q
 simp only[ak,toPy,cu,PyData.eqv,PyData.eqvAll,S8]
 by_cases h1:s=s'<;>by_cases h2:a=a'<;>by_cases h3:b=b'<;>simp[h1,h2,h3]
theorem xQ(q:De):J.plain (ak q)=true:=by
 have k:∀a:Ko,J.plain (kD a)=true:=fun a=>by cases a<;>simp[kD,J.plain]
 simp[ak,J.plain,J.dC,k]
theorem xR(q:De):(toPy (ak q)).depth≤10:=by
 have k:∀a:Ko,(toPy (kD a)).depth=0:=fun a=>by cases a<;>simp[kD,toPy,PyData.depth]
 simp[ak,toPy,cu,PyData.depth,PyData.depthAll,k]
theorem pE:∀ds:List D,cu ds=ds.map toPy
 |[]=>rfl
 |d::ds=>by rw[cu,pE ds];rfl
theorem y0(m:M)(x s:Str)(a b:Ko):gq (m,Row.d (.rk x s a b)) (some 2) none=some (aQ m,ak (s,a,b)):=rfl
theorem S9(r:Row)(q:De):pG [r.d,ak q]=some (.fr,.bl (decide (fM r=some q))):=by
 unfold pG fn C0
 walk_at "ev"
 simp -implicitDefEqProofs only [cX,oq,dn,cS,bh,zS]
 cases r with
 |rk x s a b =>
  have ok:i3 (ak (s,a,b)) (ak q)=true:=by
   have h1:=xR q
   have h2:=xR (s,a,b)
   have hl:lN (ak (s,a,b)) (ak q)=true:=rfl
   simp only[i3,xQ,hl,Bool.and_self,Bool.true_and]
   exact cV (by omega)
  simp -implicitDefEqProofs only [fM,Option.isSome_some,if_true,y0,dn,oq,gG,ok,yH,uw,Option.some.injEq]
 |_=>simp[fM,out]
theorem V7(r:Row):dQ (.str r.word) [.str "reckon",.str "copy"]=(sets r).isSome:=by
 cases r with
 |rk x s a b=>exact(by decide +kernel:dQ (.str ("reckon" : Str)) [.str "reckon",.str "copy"]=true)
 |cp x a=>exact(by decide +kernel:dQ (.str ("copy" : Str)) [.str "reckon",.str "copy"]=true)
 |sy a=>exact(by decide +kernel:dQ (.str ("say" : Str)) [.str "reckon",.str "copy"]=false)
 |go t=>exact(by decide +kernel:dQ (.str ("go" : Str)) [.str "reckon",.str "copy"]=false)
 |pt a t=>exact(by decide +kernel:dQ (.str ("part" : Str)) [.str "reckon",.str "copy"]=false)
 |en=>exact(by decide +kernel:dQ (.str ("end" : Str)) [.str "reckon",.str "copy"]=false)
theorem U8(m n:M)(r:Row):dY false (m,.str r.word) (n,.tup [.str "reckon",.str "copy"])=some (.fr,.bl (sets r).isSome):=by
 rw[←V7 r];rfl
theorem V8(x y:Str):(y==x)=decide (x=y):=by
 rw[Bool.eq_iff_iff,decide_eq_true_eq,beq_iff_eq]
 exact eq_comm
theorem F7(m n:M)(x:Str)(a b:Ko):dY false (m,.str x) (n,.tup [kD a,kD b])=some (.fr,.bl (isNm a x||isNm b x)):=by
 cases a<;>cases b<;>simp[dY,dH,vj,vi,kD,dQ,isNm,jT,V8]
theorem zU(m:M)(q:De):gq (m,ak q) (some 1) none=some (aQ m,.tup [kD q.2.1,kD q.2.2]):=rfl
theorem Qg(r:Row)(q:De):mS [r.d,ak q]=some (.fr,.bl (gw (sets r) q)):=by
 unfold mS fn BO
 simp -implicitDefEqProofs only [aK,kO,ag,aM,ae,ah,fE,eZ,gi,jV,jC,mq,mn,List.length_cons,List.length_nil,List.replicate,List.cons_append,List.nil_append,Nat.reduceAdd,Nat.sub_self,List.append_nil,gz,gy,id_eq,oq,cX,dn]
 rw[show iY [(M.fr,D.str "reckon"),(.fr,.str "copy")]=some (.fr,.tup [.str "reckon",.str "copy"])from rfl,oq,U8,oq]
 simp -implicitDefEqProofs only [bh,jD,oq,zU,dn]
 cases r with
 |rk x s a b =>
  rw[show ao (.al,Row.d (.rk x s a b)) (.fr,.int 1)=some (.al,.str x)from rfl]
  simp -implicitDefEqProofs only [sets,Option.isSome_some,if_true,oq,oy,zU,dn,F7,uw,gw]
 |cp x a =>
  rw[show ao (.al,Row.d (.cp x a)) (.fr,.int 1)=some (.al,.str x)from rfl]
  simp -implicitDefEqProofs only [sets,Option.isSome_some,if_true,oq,oy,zU,dn,F7,uw,gw]
 |_=>simp[sets,out,gw]
theorem Ta{m n:M}(q:De)(l:List De):iC true (m,ak q) (n,.lst (l.map ak))=some (.fr,.bl (!decide (q∈l))):=by
 have h1:J.dC (l.map ak)=true:=mY fun d hd=>by obtain⟨x,_,rfl⟩:=bu.mp hd;exact xQ x
 have h2:=xR q
 have h3:(toPy (ak q)).depth≤50:=by omega
 simp only[iC,xQ,h1,h3,and_self,if_true,pE,List.any_map]
 congr 4
 rw[Bool.eq_iff_iff,List.any_eq_true,decide_eq_true_eq]
 constructor
 ·rintro⟨y,hy,e⟩
  have e':PyData.eqv (toPy (ak y)) (toPy (ak q))=true:=e
  rw[yH,decide_eq_true_eq]at e'
  rw[←e'];exact hy
 ·intro hq
  exact⟨q,hq,by show PyData.eqv (toPy (ak q)) (toPy (ak q))=true;rw[yH];simp⟩
theorem Qh{r:Row}{l:List De}(hl:l.length≤500)(A0:Option (M×D)):sM [A0,some (.bo,.lst (l.map ak)),some (.al,r.d)]=some (.nx [A0,some (.bo,.lst ((lq l r).map ak)),some (.al,r.d)]):=by
 have s1:l.length<sizeLine:=dz hl (by decide)
 have c1:(jB (ag aL (ag ao (jV 2) (jC (.int 0))) (jC (.str "reckon")))) [A0,some (.bo,.lst (l.map ak)),some (.al,r.d)]=some (fM r).isSome:=by
  simp -implicitDefEqProofs only [jB,ag,jV,jC,gz,gy,id_eq,oq,cX,cS,bh,zS]
 unfold sM
 unfold lq
 cases r with
 |rk x s a b =>
  have c2:(bX (jB (ag aL (ag ao (jV 2) (jC (.int 0))) (jC (.str "reckon")))) (jB (ag (iC true) (fE gq (jV 2) (eZ (jC (.int 2))) gi) (jV 1)))) [A0,some (.bo,.lst (l.map ak)),some (.al,Row.d (.rk x s a b))]=some (!decide ((s,a,b)∈l)):=by
   unfold bX
   rw[c1,show(some (fM (.rk x s a b)).isSome:Option Bool)=some true from rfl,oq,if_pos rfl]
   simp -implicitDefEqProofs only [jB,ag,fE,eZ,gi,jV,jC,gz,gy,id_eq,oq,jD,oy,y0,Ta,bh]
  by_cases hm:(s,a,b)∈l
  ·rw[bL (by rw[c2,cV hm];rfl)]
   simp only[fM,if_pos hm]
   rfl
  ·rw[bA (by rw[c2,df hm];rfl)]
   simp only[fM,if_neg hm]
   simp -implicitDefEqProofs only [cF,fE,eZ,gi,jV,jC,gz,gy,id_eq,oq,jD,oy,y0,dn,uz,SW,if_true,dW,own,ln,s1,tz,tq,List.map_append,mq,mn]
 |_ =>
  rw[bL (by unfold bX;rw[c1];rfl)]
  rfl
theorem NQ{rs:List Row}(hl:rs.length≤400):tE [.lst (rs.map Row.d)]=some (.un,.lst ((kn rs).map ak)):=by
 obtain⟨e',l1,o2,he⟩:=dI (g:=gN 2) (b:=sM) (m:=.al) (ds:=rs.map Row.d) (e:=[some (.al,.lst (rs.map Row.d)),some (.bo,.lst ([].map ak)),none])
  (fun i e=>∃o2,e=[some (.al,.lst (rs.map Row.d)),some (.bo,.lst ((kn (rs.take i)).map ak)),o2]) ⟨none,rfl⟩
  (fun i d e hd bz=>by
   obtain⟨o2,he⟩:=bz
   subst he
   obtain⟨r,hr,rfl⟩:=Ep hd
   have hi:i<rs.length:=(bO.mp hr).1
   have oP:=yF rs i
   have q:=Qh (r:=r) (l:=kn (rs.take i)) (by omega) (some (.al,.lst (rs.map Row.d)))
   rw[←yg rs i r hr]at q
   exact⟨_,_,rfl,q,_,rfl⟩)
 subst he
 rw[ln,JZ]at l1
 unfold tE fn B9
 simp only[cg,a7,bD]
 rw[aw (e':=[some (.al,.lst (rs.map Row.d)),some (.bo,.lst ([].map ak)),none]) rfl]
 rw[aw (e':=[some (.al,.lst (rs.map Row.d)),some (.bo,.lst ((kn rs).map ak)),o2]) (by
  rw[cN,show cw 0 [some (.al,.lst (rs.map Row.d)),some (.bo,.lst ([].map ak)),none]=[some (.al,.lst (rs.map Row.d)),some (.bo,.lst ([].map ak)),none] from rfl]
  simp -implicitDefEqProofs only [bf,bQ,jV,gz,gy,id_eq,oq,b8,oy]
  exact l1)]
 rfl
theorem Fp{A0:Option (M×D)}{n:Int}:∀(ms:List Int) (l:List (Int×Int)) (o3:Option (M×D)),l.length+ms.length≤5000→∃eE,forL (gN 3) su .fr (ms.map D.int) [A0,some (.bo,.lst (aF l)),some (.fr,.int n),o3]=some (.nx [A0,some (.bo,.lst (aF (l++ms.map fun m=>(n,m)))),some (.fr,.int n),eE])
 |[],l,o3,_=>⟨o3,by simp[forL]⟩
 |m::ms,l,o3,hl=>by
  rw[List.length_cons]at hl
  obtain⟨eE,q⟩:=Fp (A0:=A0) (n:=n) ms (l++[(n,m)]) (some (.fr,.int m)) (by rw[dO];simp only[List.length_cons,List.length_nil];omega)
  refine⟨eE,?_⟩
  have hs:l.length<sizeLine:=dz (show l.length≤5000 by omega) (by decide)
  rw[mq,forL,show gN 3 (M.fr,D.int m) [A0,some (.bo,.lst (aF l)),some (.fr,.int n),o3]=some [A0,some (.bo,.lst (aF l)),some (.fr,.int n),some (.fr,.int m)] from rfl,oq]
  have hb:su [A0,some (.bo,.lst (aF l)),some (.fr,.int n),some (.fr,.int m)]=some (.nx [A0,some (.bo,.lst (aF (l++[(n,m)]))),some (.fr,.int n),some (.fr,.int m)]):=by
   unfold su
   walk_at "ev"
   rw[kf,if_pos hs,DF]
  rw[hb,oq]
  simpa using q
theorem Fq{rs:List Row}(hl:rs.length≤800):oX [.lst (rs.map Row.d)]=some (.un,.lst (aF (a9 rs rs.length))):=by
 have b0:-4611686018427387904≤(rs.length:Int)∧(rs.length:Int)<4611686018427387904:=by omega
 have ht:(rs.length:Int).toNat=rs.length:=by omega
 obtain⟨e',l1,o2,o3,he⟩:=dI (g:=gN 2) (b:=sv) (m:=.fr) (ds:=bY 0 rs.length) (e:=[some (.al,.lst (rs.map Row.d)),some (.bo,.lst (aF (a9 rs 0))),none,none])
  (fun i e=>∃(o2 o3:Option (M×D)),e=[some (.al,.lst (rs.map Row.d)),some (.bo,.lst (aF (a9 rs i))),o2,o3])
  ⟨none,none,rfl⟩
  (fun i d e hd bz=>by
   obtain⟨o2,o3,he⟩:=bz
   subst he
   obtain⟨hi,rfl⟩:=jE hd
   rw[show(0:Int)+(i:Int)=(i:Int) by omega]
   have h1:=lG rs i
   have h2:=tX rs i
   have hr:rs[i]?=some (rs[i]'hi):=by simp
   have ef:=ya rs i _ hr
   have er:bj i (rs[i]'hi)=cv rs i:=by unfold cv;rw[hr]
   rw[er]at ef
   obtain⟨eE,q⟩:=Fp (A0:=some (.al,.lst (rs.map Row.d))) (n:=(i:Int)) (cv rs i) (a9 rs i) o3 (by omega)
   refine⟨_,[some (.al,.lst (rs.map Row.d)),some (.bo,.lst (aF (a9 rs (i+1)))),some (.fr,.int (i:Int)),eE],rfl,?_,_,_,rfl⟩
   show sv [some (.al,.lst (rs.map Row.d)),some (.bo,.lst (aF (a9 rs i))),some (.fr,.int (i:Int)),o3]=_
   unfold sv
   simp -implicitDefEqProofs only [bf,bQ,ay,ae,ah,jV,gz,gy,id_eq,oq,mq,mn,ef,b8,oy]
   rw[tW]
   exact q)
 subst he
 rw[ik]at l1
 unfold oX fn BV
 simp only[cg,a7,bD]
 rw[aw (e':=[some (.al,.lst (rs.map Row.d)),some (.bo,.lst (aF (a9 rs 0))),none,none]) rfl]
 rw[aw (e':=[some (.al,.lst (rs.map Row.d)),some (.bo,.lst (aF (a9 rs rs.length))),o2,o3]) (by
  simp -implicitDefEqProofs only [bf,bN,aI,ae,ah,jV,gz,gy,id_eq,oq,cT,ln,b0,and_self,if_true,ht]
  exact l1)]
 rfl
theorem Qi{rs:List Row}(g:Good rs){q:Int×Int}(h:q∈a9 rs rs.length)(hq:q.1≠-1):∃n m:Nat,q=((n:Int),(m:Int))∧aV rs n m:=by
 unfold a9 at h
 rcases cJ.mp h with rfl|h
 ·exact absurd rfl hq
 ·obtain⟨n,hn,hm⟩:=List.mem_flatMap.mp h
  obtain⟨m,iR,rfl⟩:=bu.mp hm
  obtain⟨m0,m1⟩:=tV g iR
  exact⟨n,m.toNat,by rw[Int.toNat_of_nonneg m0],xO g (bu.mpr ⟨m,iR,rfl⟩)⟩
theorem Qj{rs:List Row}{n m:Nat}(h:aV rs n m):((n:Int),(m:Int))∈a9 rs rs.length:=by
 obtain⟨r,hr,hm,_⟩:=h
 unfold a9
 refine b9 _ (List.mem_flatMap.mpr ⟨n,List.mem_range.mpr (bO.mp hr).1,bu.mpr ⟨(m:Int),?_,rfl⟩⟩)
 unfold cv;rw[hr];exact hm
noncomputable def ck(hs:List (Nat×Str)):List D:=hs.map fun p=>.tup [.int (p.1:Int),.str p.2]
noncomputable def aX(kp:List (Int×Int))(hs:List (Nat×Str)):D:=.tup [.tup (aF kp),.tup (ck hs)]
noncomputable def how(hs:List (Nat×Str))(n:Nat):Option Str:=(hs.find? fun p=>decide (p.1=n)).map (·.2)
noncomputable def bJ(hs:List (Nat×Str)):List (Key×D):=hs.map fun p=>(.inl (p.1:Int),.str p.2)
theorem C9:∀hs:List (Nat×Str),nA (ck hs)=some (bJ hs)
 |[]=>rfl
 |p::hs=>by
  show(uS (.tup [.int (p.1:Int),.str p.2])).bind _=_
  rw[show uS (.tup [.int (p.1:Int),.str p.2])=some (.inl (p.1:Int),.str p.2)from rfl,oq]
  show(nA (ck hs)).bind _=_
  rw[C9 hs];rfl
theorem Dc:∀(ps acc:List (Key×D)),((acc++ps).map (·.1)).Nodup→ps.foldl (fun m kv=>putD m kv.1 kv.2) acc=acc++ps
 |[],acc,_=>by simp
 |p::ps,acc,h=>by
  rw[List.foldl_cons,DH (fun kv cH e=>?_)]
  ·rw[Dc ps (acc++[(p.1,p.2)]) (by simpa using h)];simp
  ·rw[List.map_append,List.nodup_append]at h
   exact h.2.2 kv.1 (bu.mpr ⟨kv,cH,rfl⟩) p.1 (by simp) e
theorem Mg{hs:List (Nat×Str)}(h:(hs.map (·.1)).Nodup):putAll (bJ hs)=bJ hs:=by
 unfold putAll
 rw[Dc]
 ·rfl
 ·rw[List.nil_append]
  unfold bJ
  rw[List.map_map]
  have:(hs.map ((·.1)∘fun(p:Nat×Str)=>((Key.inl (p.1:Int),D.str p.2):Key×D)))=(hs.map (·.1)).map fun n:Nat=>Key.inl (n:Int):=by rw[List.map_map];rfl
  rw[this]
  exact h.map _ fun a b Yl e=>Yl (by injection e with e;omega)
theorem yI:∀(hs:List (Nat×Str)) (n:Nat),cO (bJ hs) (.inl (n:Int))=(how hs n).map D.str
 |[],n=>rfl
 |p::hs,n=>by
  have ih:=yI hs n
  unfold cO how bJ at *
  rw[mq,List.find?_cons,List.find?_cons]
  by_cases h:p.1=n
  ·have:decide (Key.inl (p.1:Int)=Key.inl (n:Int))=true:=cV (by rw[h])
   simp only[this,decide_eq_true h];rfl
  ·have:decide (Key.inl (p.1:Int)=Key.inl (n:Int))=false:=df (fun e=>h (by injection e with e;omega))
   simp only[this,decide_eq_false h]
   exact ih
theorem DK{m:M}{hs:List (Nat×Str)}(h:(hs.map (·.1)).Nodup):nB [(m,.tup (ck hs))]=some (.un,.dk (bJ hs)):=by
 show(nA (ck hs)).bind _=_
 rw[C9,oq,Mg h]
theorem Qk{f:Int×Int→D}(l:List (Int×Int)):∀kv∈cY l f,mN kv.1∈l:=by
 have go:∀(l:List (Int×Int)) (acc:List (List Key×D)) (P:Int×Int→Prop),(∀kv∈acc,P (mN kv.1))→(∀q∈l,P q)→∀kv∈l.foldl (fun d q=>putD d (pK q) (f q)) acc,P (mN kv.1):=by
  intro l
  induction l with
  |nil=>intro acc P h _;exact h
  |cons q l ih =>
   intro acc P h h2
   rw[List.foldl_cons]
   refine ih _ P (fun kv cH=>?_) fun x hx=>h2 x (b9 _ hx)
   rcases DI cH with⟨z,_⟩|rfl
   ·exact h kv z
   ·exact h2 q bV
 exact go l [] (·∈l) (fun kv h=>nomatch h) fun q h=>h
theorem K9{f:Int×Int→D}(l:List (Int×Int))(q:Int×Int):(cO (cY l f) (pK q)).isSome=decide (q∈l):=by
 by_cases h:q∈l
 ·rw[Qf h,cV h];rfl
 ·rw[df h]
  cases e:(cO (cY l f) (pK q)).isSome with
  |false=>rfl
  |true =>
   obtain⟨kv,cH,ek⟩:=KC.mp e
   have:=Qk l kv cH
   rw[ek,Fn]at this
   exact absurd this h
theorem La{l:List (Int×Int)}(hl:l.length≤900):sC [.tup (aF l)]=some (.un,.dt (cY l fun _=>.bl true)):=by
 obtain⟨e',l1,o2,he⟩:=dI (g:=gN 2) (b:=sd) (m:=.al) (ds:=aF l) (e:=[some (.al,.tup (aF l)),some (.bo,.dt (cY (l.take 0) fun _=>.bl true)),none])
  (fun i e=>∃o2,e=[some (.al,.tup (aF l)),some (.bo,.dt (cY (l.take i) fun _=>.bl true)),o2]) ⟨none,rfl⟩
  (fun i d e hd bz=>by
   obtain⟨o2,he⟩:=bz
   subst he
   obtain⟨q,hq,rfl⟩:=yG hd
   have hi:i<l.length:=(bO.mp hq).1
   have Bf:=Er (fun _=>.bl true) l i
   have s1:(cY (l.take i) fun _=>D.bl true).length<sizeLine:=dz (show _≤900 by omega) (by decide)
   refine⟨_,[some (.al,.tup (aF l)),some (.bo,.dt (cY (l.take (i+1)) fun _=>.bl true)),some (.al,bq q)],rfl,?_,_,rfl⟩
   show sd [some (.al,.tup (aF l)),some (.bo,.dt (cY (l.take i) fun _=>.bl true)),some (.al,bq q)]=_
   unfold sd
   simp -implicitDefEqProofs only [nR,jV,jC,gz,gy,id_eq,oq,Fm,fJ,if_true,mh,own,s1,tz,tq]
   rw[List.take_add_one,hq,Option.toList_some,DJ])
 subst he
 rw[kf,List.take_length]at l1
 unfold sC fn BH
 simp only[cg,a7,bD]
 rw[aw (e':=[some (.al,.tup (aF l)),some (.bo,.dt (cY (l.take 0) fun _=>.bl true)),none]) rfl]
 rw[aw (e':=[some (.al,.tup (aF l)),some (.bo,.dt (cY l fun _=>.bl true)),o2]) (by
  rw[cN,show cw 0 [some (.al,.tup (aF l)),some (.bo,.dt (cY (l.take 0) fun _=>.bl true)),none]=[some (.al,.tup (aF l)),some (.bo,.dt (cY (l.take 0) fun _=>.bl true)),none] from rfl]
  simp -implicitDefEqProofs only [bf,oC,jV,gz,gy,id_eq,oq,b8,oy]
  exact l1)]
 rfl
theorem U9{m n:M}(o:Option Str)(y:Str):dS (m,gP o) (n,.str y)=some (.fr,.bl (!decide (o=some y))):=by
 cases o with
 |none=>rfl
 |some x=>rw[show dS (m,gP (some x)) (n,.str y)=some (.fr,.bl (!decide (x=y)))from yT];simp
theorem Et(rs:List Row)(n:Nat):∀k,((a9 rs k).filter fun q=>decide (q.1=(n:Int))).length≤(if k≤n then 0 else 2)
 |0=>by
  have:¬((-1:Int)=(n:Int)):=by omega
  simp[a9,this]
 |k+1=>by
  have ih:=Et rs n k
  have hf:=tX rs k
  rw[tW,List.filter_append,dO]
  by_cases h:k=n
  ·subst h
   have:(((cv rs k).map fun m=>((k:Int),m)).filter fun q=>decide (q.1=(k:Int))).length≤2:=bP (List.length_filter_le _ _) (by rw[ln];exact hf)
   rw[if_pos (a6 k)]at ih
   rw[if_neg (by omega)]
   omega
  ·have:((cv rs k).map fun m=>((k:Int),m)).filter (fun q=>decide (q.1=(n:Int)))=[]:=by
    rw[List.filter_eq_nil_iff]
    intro q hq
    obtain⟨m,_,rfl⟩:=bu.mp hq
    simp;omega
   rw[this,List.length_nil]
   by_cases h2:k+1≤n
   ·rw[if_pos (by omega)]at ih;rw[if_pos h2];omega
   ·by_cases h3:k≤n
    ·omega
    ·rw[if_neg h3]at ih;rw[if_neg h2];omega
def iS(rs:List Row)(q:De)(kp:List (Int×Int))(hs:List (Nat×Str))(n m:Nat):Prop:=aV rs n m∧((n:Int),(m:Int))∉kp∧how hs n≠some ("keep" : Str)∧∃r,rs[n]?=some r∧gw (sets r) q=false
theorem Va{A0 A1 A2 A3 A4 A5:Option (M×D)}{Bk:List (List Nat)}{n m:Nat}(hm:n<Bk.length)(hl:(Bk.getD n []).length≤5000) :
  kx 6 (jV 8) (ag ao (jV 7) (jC (.int 1))) [A0,A1,A2,A3,A4,A5,some (.nb,bR Bk),some (.fr,bq ((n:Int),(m:Int))),some (.fr,.int (n:Int))]=some (.nx [A0,A1,A2,A3,A4,A5,some (.nb,bR (Bk.set n (Bk.getD n []++[m]))),some (.fr,bq ((n:Int),(m:Int))),some (.fr,.int (n:Int))]):=by
 have rN:dP (Bk.map aj).length (n:Int)=some n:=by
  unfold dP
  rw[ln,if_pos (by omega),if_pos (by omega)];simp
 have hd:(Bk.map aj)[n]?=some (aj (Bk.getD n [])):=by
  rw[dG,eU hm,List.getD_eq_getElem?_getD,eU hm];rfl
 have hs:(aj (Bk.getD n [])).length<sizeLine:=by rw[cR];exact dz hl (by decide)
 have e1:(Bk.map aj).set n (aj (Bk.getD n []++[m]))=(Bk.set n (Bk.getD n []++[m])).map aj:=by rw[List.map_set]
 have mO:ao (.fr,bq ((n:Int),(m:Int))) (.fr,.int 1)=some (.fr,.int (m:Int)):=rfl
 unfold bR
 simp -implicitDefEqProofs only [kx,jV,jC,ag,mO,gz,gy,id_eq,oq,jD,fJ,if_true,rA,xI,rN,hd,hs,xN,e1,tz,tq]
theorem NR{rs:List Row}(g:Good rs)(hl:rs.length≤300){k:Nat}{q:De}(hq:(kn rs)[k]?=some q){kp:List (Int×Int)}(mP:kp.length≤900){hs:List (Nat×Str)}(dg:(hs.map (·.1)).Nodup) :
  ∃T:List (List Nat),sD [.lst (rs.map Row.d),.int (k:Int),aX kp hs]=some (.fr,.lst (b5 T))∧T.length=rs.length∧(∀n,(T.getD n []).length≤2)∧∀n m,m∈T.getD n []↔iS rs q kp hs n m:=by
 have r0:∀j,(List.replicate rs.length ([]:List Nat)).getD j []=[]:=fun j=>by
  rw[List.getD_eq_getElem?_getD,List.getElem?_replicate];split<;>rfl
 have i7:=lG rs rs.length
 have e1:=Qb (rs:=rs) (by omega)
 have e2:=La (l:=kp) mP
 have e3:=C6 (rs:=rs) (by omega)
 have Ym:k<(kn rs).length:=(bO.mp hq).1
 have Bs:L2.bB ((kn rs).map ak) (k:Int)=some (ak q):=by
  rw[J.lD (by simpa using Ym),List.getElem_map,(bO.mp hq).2]
 have jY:∀x:Int×Int,(cO (cY kp fun _=>.bl true) (pK x)).isSome=decide (x∈kp):=fun x=>K9 kp x
 generalize (cY kp fun _=>D.bl true)=kd at e2 jY
 obtain⟨e',l1,T,o7,o8,he,b1,b2,b3,b4⟩:=dI (g:=gN 7) (b:=se) (m:=.fr) (ds:=aF (a9 rs rs.length)) (e:=[some (.al,.lst (rs.map Row.d)),some (.al,.int (k:Int)),some (.al,aX kp hs),some (.fr,ak q),some (.bo,.dt kd),some (.bo,.dk (bJ hs)),some (.nb,bR (List.replicate rs.length [])),none,none])
  (fun i e=>∃(T:List (List Nat)) (o7 o8:Option (M×D)),e=[some (.al,.lst (rs.map Row.d)),some (.al,.int (k:Int)),some (.al,aX kp hs),some (.fr,ak q),some (.bo,.dt kd),some (.bo,.dk (bJ hs)),some (.nb,bR T),o7,o8]∧T.length=rs.length∧(∀n,(T.getD n []).length≤(((a9 rs rs.length).take i).filter fun x=>decide (x.1=(n:Int))).length) ∧
   (∀n m:Nat,((n:Int),(m:Int))∈(a9 rs rs.length).take i→iS rs q kp hs n m→m∈T.getD n [])∧∀n m,m∈T.getD n []→iS rs q kp hs n m)
  ⟨List.replicate rs.length [],none,none,rfl,by simp,fun j=>by rw[r0];simp,fun n m h=>by simp at h,fun n m h=>by rw[r0]at h;cases h⟩
  (fun i d e hd bz=>by
   obtain⟨T,o7,o8,he,b1,b2,b3,b4⟩:=bz
   subst he
   obtain⟨x,hx,rfl⟩:=yG hd
   have hi:i<(a9 rs rs.length).length:=(bO.mp hx).1
   have tk:∀n m:Nat,((n:Int),(m:Int))∈(a9 rs rs.length).take (i+1)→((n:Int),(m:Int))∈(a9 rs rs.length).take i∨((n:Int),(m:Int))=x:=fun n m h=>by
    rw[List.take_add_one,hx,Option.toList_some,cU]at h
    rcases h with h|h
    ·exact .inl h
    ·exact .inr (by simpa using h)
   have fl:∀n:Nat,(((a9 rs rs.length).take i).filter fun x=>decide (x.1=(n:Int))).length≤(((a9 rs rs.length).take (i+1)).filter fun x=>decide (x.1=(n:Int))).length:=fun n=>by
    rw[List.take_add_one,List.filter_append,dO];omega
   have hb:∀e':Ev,se [some (.al,.lst (rs.map Row.d)),some (.al,.int (k:Int)),some (.al,aX kp hs),some (.fr,ak q),some (.bo,.dt kd),some (.bo,.dk (bJ hs)),some (.nb,bR T),some (.fr,bq x),o8]=some (.nx e')↔(aO (bX (jB (ag dS (jV 8) (cB dX (jC (.int 1))))) (bX (jB (kY true (jV 7) (jV 4))) (bX (jB (ag dS (kl (jV 5) (jV 8)) (jC (.str "keep")))) (g7 (jB (ay lA (ae (ag ao (jV 0) (jV 8)) (ae (jV 3) ah))))))))
     (kx 6 (jV 8) (ag ao (jV 7) (jC (.int 1)))) aY) [some (.al,.lst (rs.map Row.d)),some (.al,.int (k:Int)),some (.al,aX kp hs),some (.fr,ak q),some (.bo,.dt kd),some (.bo,.dk (bJ hs)),some (.nb,bR T),some (.fr,bq x),some (.fr,.int x.1)]=some (.nx e'):=fun e'=>by
    unfold se
    rw[aw (e':=[some (.al,.lst (rs.map Row.d)),some (.al,.int (k:Int)),some (.al,aX kp hs),some (.fr,ak q),some (.bo,.dt kd),some (.bo,.dk (bJ hs)),some (.nb,bR T),some (.fr,bq x),some (.fr,.int x.1)]) rfl]
   have c1:(jB (ag dS (jV 8) (cB dX (jC (.int 1))))) [some (.al,.lst (rs.map Row.d)),some (.al,.int (k:Int)),some (.al,aX kp hs),some (.fr,ak q),some (.bo,.dt kd),some (.bo,.dk (bJ hs)),some (.nb,bR T),some (.fr,bq x),some (.fr,.int x.1)]=some (!decide (x.1=-1)):=by
    simp -implicitDefEqProofs only [jB,ag,cB,jV,jC,gz,gy,id_eq,oq,lL,FW,bh]
   by_cases z:x.1=-1
   ·refine⟨_,[some (.al,.lst (rs.map Row.d)),some (.al,.int (k:Int)),some (.al,aX kp hs),some (.fr,ak q),some (.bo,.dt kd),some (.bo,.dk (bJ hs)),some (.nb,bR T),some (.fr,bq x),some (.fr,.int x.1)],rfl,(hb _).mpr ?_,T,_,_,rfl,b1,fun n=>bP (b2 n) (fl n),fun n m h h2=>?_,b4⟩
    ·rw[bL (by unfold bX;rw[c1,cV z];rfl)];rfl
    ·rcases tk n m h with h|h
     ·exact b3 n m h h2
     ·rw[←h]at z
      exact absurd z (by show ¬((n:Int)=-1);omega)
   ·obtain⟨n,m,rfl,jR⟩:=Qi g (fm hx) z
    obtain⟨r,hr,_,hm⟩:=id jR
    have hn:n<rs.length:=(bO.mp hr).1
    have ar:=ip hr
    have c2:(bX (jB (ag dS (jV 8) (cB dX (jC (.int 1))))) (bX (jB (kY true (jV 7) (jV 4))) (bX (jB (ag dS (kl (jV 5) (jV 8)) (jC (.str "keep")))) (g7 (jB (ay lA (ae (ag ao (jV 0) (jV 8)) (ae (jV 3) ah)))))))) [some (.al,.lst (rs.map Row.d)),some (.al,.int (k:Int)),some (.al,aX kp hs),some (.fr,ak q),some (.bo,.dt kd),some (.bo,.dk (bJ hs)),some (.nb,bR T),some (.fr,bq ((n:Int),(m:Int))),some (.fr,.int (n:Int))]=some (!decide (((n:Int),(m:Int))∈kp)&&(!decide (how hs n=some ("keep" : Str))&&!gw (sets r) q)):=by
     have d1:(jB (kY true (jV 7) (jV 4))) [some (.al,.lst (rs.map Row.d)),some (.al,.int (k:Int)),some (.al,aX kp hs),some (.fr,ak q),some (.bo,.dt kd),some (.bo,.dk (bJ hs)),some (.nb,bR T),some (.fr,bq ((n:Int),(m:Int))),some (.fr,.int (n:Int))]=some (!decide (((n:Int),(m:Int))∈kp)):=by
      simp -implicitDefEqProofs only [jB,kY,jV,vo,Fm,gz,gy,id_eq,oq,jY,bh,if_true]
     have d2:(jB (ag dS (kl (jV 5) (jV 8)) (jC (.str "keep")))) [some (.al,.lst (rs.map Row.d)),some (.al,.int (k:Int)),some (.al,aX kp hs),some (.fr,ak q),some (.bo,.dt kd),some (.bo,.dk (bJ hs)),some (.nb,bR T),some (.fr,bq ((n:Int),(m:Int))),some (.fr,.int (n:Int))]=some (!decide (how hs n=some ("keep" : Str))):=by
      have hg:(kl (jV 5) (jV 8)) [some (.al,.lst (rs.map Row.d)),some (.al,.int (k:Int)),some (.al,aX kp hs),some (.fr,ak q),some (.bo,.dt kd),some (.bo,.dk (bJ hs)),some (.nb,bR T),some (.fr,bq ((n:Int),(m:Int))),some (.fr,.int (n:Int))]=some (.fr,gP (how hs n)):=by
       simp -implicitDefEqProofs only [kl,jV,gH,keyOf,gz,gy,id_eq,oq,yI]
       cases how hs n<;>rfl
      simp -implicitDefEqProofs only [jB,ag,hg,jC,oq,U9,bh]
     have d3:(g7 (jB (ay lA (ae (ag ao (jV 0) (jV 8)) (ae (jV 3) ah))))) [some (.al,.lst (rs.map Row.d)),some (.al,.int (k:Int)),some (.al,aX kp hs),some (.fr,ak q),some (.bo,.dt kd),some (.bo,.dk (bJ hs)),some (.nb,bR T),some (.fr,bq ((n:Int),(m:Int))),some (.fr,.int (n:Int))]=some (!gw (sets r) q):=by
      simp -implicitDefEqProofs only [g7,jB,ay,ae,ah,ag,jV,gz,gy,id_eq,oq,dq,ar,oy,mq,mn,K8,bh]
     unfold bX
     rw[c1,df z,d1,d2,d3]
     cases decide (((n:Int),(m:Int))∈kp)<;>cases decide (how hs n=some ("keep" : Str))<;>rfl
    have iQ:n<T.length:=by omega
    have Ze:=b2 n
    have vA:(((a9 rs rs.length).take i).filter fun x=>decide (x.1=(n:Int))).length≤i:=bP (List.length_filter_le _ _) (by rw[List.length_take];omega)
    cases hc:(!decide (((n:Int),(m:Int))∈kp)&&(!decide (how hs n=some ("keep" : Str))&&!gw (sets r) q)) with
    |false =>
     refine⟨_,[some (.al,.lst (rs.map Row.d)),some (.al,.int (k:Int)),some (.al,aX kp hs),some (.fr,ak q),some (.bo,.dt kd),some (.bo,.dk (bJ hs)),some (.nb,bR T),some (.fr,bq ((n:Int),(m:Int))),some (.fr,.int (n:Int))],rfl,(hb _).mpr ?_,T,_,_,rfl,b1,fun n=>bP (b2 n) (fl n),fun n' m' h h2=>?_,b4⟩
     ·rw[bL (by rw[c2,hc])];rfl
     ·rcases tk n' m' h with h|h
      ·exact b3 n' m' h h2
      ·have h3:(n':Int)=n:=congrArg Prod.fst h
       have h4:(m':Int)=m:=congrArg Prod.snd h
       obtain rfl:n'=n:=by omega
       obtain rfl:m'=m:=by omega
       obtain⟨_,k1,k2,r',mE,k3⟩:=h2
       rw[hr]at mE;cases mE
       rw[df k1,df k2,k3]at hc
       cases hc
    |true =>
     have aH:iS rs q kp hs n m:=by
      simp only[Bool.and_eq_true,Bool.not_eq_true',decide_eq_false_iff_not]at hc
      exact⟨jR,hc.1,hc.2.1,r,hr,hc.2.2⟩
     refine⟨_,[some (.al,.lst (rs.map Row.d)),some (.al,.int (k:Int)),some (.al,aX kp hs),some (.fr,ak q),some (.bo,.dt kd),some (.bo,.dk (bJ hs)),some (.nb,bR (T.set n (T.getD n []++[m]))),some (.fr,bq ((n:Int),(m:Int))),some (.fr,.int (n:Int))],rfl,(hb _).mpr ?_,T.set n (T.getD n []++[m]),_,_,rfl,by rw[List.length_set];exact b1,fun j=>?_,fun n' m' h h2=>?_,fun n' m' iR=>?_⟩
     ·rw[bA (by rw[c2,hc])]
      exact Va iQ (by omega)
     ·rw[lC iQ]
      split
      ·rename_i e
       subst e
       rw[List.take_add_one,hx,Option.toList_some,List.filter_append,dO,dO]
       simp only[List.length_cons,List.length_nil,List.filter_cons,decide_true,if_true,List.filter_nil]
       omega
      ·exact bP (b2 j) (fl j)
     ·rw[lC iQ]
      rcases tk n' m' h with h|h
      ·split
       ·rename_i y;subst y;exact dN _ (b3 _ m' h h2)
       ·exact b3 n' m' h h2
      ·have h3:(n':Int)=n:=congrArg Prod.fst h
       have h4:(m':Int)=m:=congrArg Prod.snd h
       rw[if_pos (by omega)]
       obtain rfl:m'=m:=by omega
       simp
     ·rw[lC iQ]at iR
      split at iR
      ·rename_i y;subst y
       rcases cU.mp iR with y|y
       ·exact b4 _ _ y
       ·obtain rfl:m'=m:=by simpa using y
        exact aH
      ·exact b4 _ _ iR)
 subst he
 rw[kf,List.take_length]at b2 b3
 refine⟨T,?_,b1,fun n=>bP (b2 n) (bP (Et rs n rs.length) (by split<;>omega)),fun n m=>⟨b4 n m,fun h=>b3 n m (Qj h.1) h⟩⟩
 have n0:((rs.map Row.d).map fun _=>([]:List D))=(List.replicate rs.length ([]:List Nat)).map aj:=List.ext_getElem (by simp) fun i h1 h2=>by simp[aj]
 have Be:vn 6 [some (.al,.lst (rs.map Row.d)),some (.al,.int (k:Int)),some (.al,aX kp hs),some (.fr,ak q),some (.bo,.dt kd),some (.bo,.dk (bJ hs)),none,none,none]=true:=rfl
 have hsz:(rs.map Row.d).length<sizeLine:=by rw[ln];exact dz hl (by decide)
 have Bt:ao (.al,aX kp hs) (.fr,.int 0)=some (.al,.tup (aF kp)):=rfl
 have mO:ao (.al,aX kp hs) (.fr,.int 1)=some (.al,.tup (ck hs)):=rfl
 unfold sD fn BI
 simp only[cg,a7,bD]
 rw[aw (e':=[some (.al,.lst (rs.map Row.d)),some (.al,.int (k:Int)),some (.al,aX kp hs),some (.fr,ak q),none,none,none,none,none]) (by
  simp -implicitDefEqProofs only [av,ag,ay,ae,ah,jV,gz,gy,id_eq,oq,mq,mn,e1,dq,Bs,oy]
  rfl)]
 rw[aw (e':=[some (.al,.lst (rs.map Row.d)),some (.al,.int (k:Int)),some (.al,aX kp hs),some (.fr,ak q),some (.bo,.dt kd),none,none,none,none]) (by
  simp -implicitDefEqProofs only [av,ag,ay,ae,ah,jV,jC,gz,gy,id_eq,oq,mq,mn,Bt,e2,gb,tz,tq])]
 rw[aw (e':=[some (.al,.lst (rs.map Row.d)),some (.al,.int (k:Int)),some (.al,aX kp hs),some (.fr,ak q),some (.bo,.dt kd),some (.bo,.dk (bJ hs)),none,none,none]) (by
  simp -implicitDefEqProofs only [av,ag,aI,ae,ah,jV,jC,gz,gy,id_eq,oq,mO,DK dg,gb,tz,tq])]
 rw[aw (e':=[some (.al,.lst (rs.map Row.d)),some (.al,.int (k:Int)),some (.al,aX kp hs),some (.fr,ak q),some (.bo,.dt kd),some (.bo,.dk (bJ hs)),some (.nb,bR (List.replicate rs.length [])),none,none]) (by
  rw[cN,show cw 0 [some (.al,.lst (rs.map Row.d)),some (.al,.int (k:Int)),some (.al,aX kp hs),some (.fr,ak q),some (.bo,.dt kd),some (.bo,.dk (bJ hs)),none,none,none]=[some (.al,.lst (rs.map Row.d)),some (.al,.int (k:Int)),some (.al,aX kp hs),some (.fr,ak q),some (.bo,.dt kd),some (.bo,.dk (bJ hs)),none,none,none] from rfl]
  simp -implicitDefEqProofs only [nP,bQ,jV,gz,id_eq,oq,b8,oy,Be,hsz,and_self,if_true,n0,tz,tq,bR])]
 rw[aw (e':=[some (.al,.lst (rs.map Row.d)),some (.al,.int (k:Int)),some (.al,aX kp hs),some (.fr,ak q),some (.bo,.dt kd),some (.bo,.dk (bJ hs)),some (.nb,bR T),o7,o8]) (by
  simp -implicitDefEqProofs only [bf,bQ,ay,ae,jV,ah,gz,gy,oq,id_eq,mq,mn,e3,b8,oy]
  exact l1)]
 rw[←Ef]
 rfl
noncomputable def j7(hs:List (Nat×Str)):List Nat:=(hs.filter fun p=>decide (p.2=("read" : Str))).map (·.1)
theorem DL{m:M}:∀hs:List (Nat×Str),jG (jB (ag aL (jV 1) (jC (.str "read")))) (jV 0) m [] (ck hs)=some ((aj (j7 hs)).map fun d=>(aQ m,d))
 |[]=>rfl
 |p::hs=>by
  have ih:=DL (m:=m) hs
  show jG _ _ m [] (.tup [.int (p.1:Int),.str p.2]::ck hs)=_
  rw[jG,show uR (.tup [.int (p.1:Int),.str p.2])=some (.int (p.1:Int),.str p.2)from rfl,oq]
  have hc:(jB (ag aL (jV 1) (jC (.str "read")))) [some (aQ m,.int (p.1:Int)),some (aQ m,.str p.2)]=some (decide (p.2=("read" : Str))):=by
   simp -implicitDefEqProofs only [jB,ag,jV,jC,gz,gy,id_eq,oq,cS,bh]
  rw[hc,oq]
  unfold j7 at ih ⊢
  by_cases h:p.2=("read" : Str)
  ·rw[cV h,if_pos rfl,ih,List.filter_cons,if_pos (cV h)]
   rfl
  ·rw[df h,if_neg aZ,ih,List.filter_cons,if_neg (by rw[df h];exact aZ)]
theorem NS{l:List Nat}(h:l.length≤5000):c9 ((aj l).map fun d=>(M.al,d))=some (.un,.lst (aj l)):=by
 unfold c9
 have h1:((aj l).map fun d=>(M.al,d)).length≤sizeLine:=by rw[ln,cR];exact bP h (by decide)
 have h2:(((aj l).map fun d=>(M.al,d)).all fun x=>cf x.1 x.2)=true:=by
  rw[List.all_eq_true]
  intro x hx
  obtain⟨d,hd,rfl⟩:=bu.mp hx
  unfold aj at hd
  obtain⟨n,_,rfl⟩:=bu.mp hd
  rfl
 rw[if_pos h1,if_pos h2,List.map_map]
 congr 3
 exact List.map_id _
theorem Eu{hs:List (Nat×Str)}(h:(hs.map (·.1)).Nodup){n:Nat}{x:Str}:how hs n=some x↔(n,x)∈hs:=by
 induction hs with
 |nil=>simp[how]
 |cons p hs ih =>
  rw[mq,List.nodup_cons]at h
  have ih:=ih h.2
  unfold how at ih ⊢
  rw[List.find?_cons]
  by_cases e:p.1=n
  ·rw[cV e]
   constructor
   ·intro z
    have z:p.2=x:=Option.some.inj z
    rw[←e,←z];exact bV
   ·intro z
    rcases cJ.mp z with z|z
    ·rw[←z];rfl
    ·exact absurd (bu.mpr ⟨_,z,rfl⟩) (e▸h.1)
  ·rw[df e]
   constructor
   ·intro z;exact b9 _ (ih.mp z)
   ·intro z
    rcases cJ.mp z with z|z
    ·exact absurd (by rw[←z]) e
    ·exact ih.mpr z
theorem yh{hs:List (Nat×Str)}(h:(hs.map (·.1)).Nodup){n:Nat}:n∈j7 hs↔how hs n=some ("read" : Str):=by
 rw[Eu h]
 unfold j7
 constructor
 ·intro z
  obtain⟨p,hp,rfl⟩:=bu.mp z
  obtain⟨h1,h2⟩:=List.mem_filter.mp hp
  rw[←bt h2];exact h1
 ·intro z
  exact bu.mpr ⟨_,List.mem_filter.mpr ⟨z,cV rfl⟩,rfl⟩
inductive Lv (rs:List Row)(q:De)(kp:List (Int×Int))(hs:List (Nat×Str)):Nat→Prop
 |read {n:Nat}:how hs n=some ("read" : Str)→Lv rs q kp hs n
 |step {n m:Nat}:iS rs q kp hs n m→Lv rs q kp hs m→Lv rs q kp hs n
theorem NT{rs:List Row}(g:Good rs)(hl:rs.length≤300){k:Nat}{q:De}(hq:(kn rs)[k]?=some q){kp:List (Int×Int)}(mP:kp.length≤900){hs:List (Nat×Str)}(dg:(hs.map (·.1)).Nodup)(aU:∀p∈hs,p.1<rs.length) :
  ∃ks:List Nat,tm [.lst (rs.map Row.d),.int (k:Int),aX kp hs]=some (.un,.dk (aD ks))∧∀n,n∈ks↔Lv rs q kp hs n:=by
 obtain⟨T,e1,t1,t2,t3⟩:=NR g hl hq mP dg
 have hT:∀n,∀m∈T.getD n [],m<T.length:=fun n m h=>by
  obtain⟨⟨_,_,_,z⟩,_⟩:=(t3 n m).mp h;omega
 obtain⟨Bk,e2,b1,b2,b3⟩:=K4 (T:=T) (by omega) hT t2
 have J2:(j7 hs).Nodup:=by
  unfold j7
  exact List.Nodup.sublist (List.Sublist.map (fun p:Nat×Str=>p.1) List.filter_sublist) dg
 have J3:∀x∈j7 hs,x<Bk.length:=fun x hx=>by
  have:=aU _ ((Eu dg).mp ((yh dg).mp hx))
  rw[b1,t1];exact this
 have rl:(j7 hs).length≤Bk.length:=gx _ _ J2 J3
 have hB:∀l∈Bk,∀m∈l,m<Bk.length:=fun l mr m hm=>by
  obtain⟨i,hi,rfl⟩:=List.mem_iff_getElem.mp mr
  have h1:m∈Bk.getD i []:=by rw[List.getD_eq_getElem?_getD,eU hi];exact hm
  obtain⟨⟨r,hr,_⟩,_⟩:=(t3 m i).mp (b3 m i h1)
  have:=(bO.mp hr).1
  omega
 obtain⟨ks,e3,k1,k2,k3⟩:=K7 (S:=Bk) (by omega) hB J2 J3
 refine⟨ks,?_,fun n=>⟨fun h=>?_,fun h=>?_⟩⟩
 ·have mO:ao (.al,aX kp hs) (.fr,.int 1)=some (.al,.tup (ck hs)):=rfl
  unfold tm fn B4
  simp only[cg,a7,bD]
  rw[aw (e':=[some (.al,.lst (rs.map Row.d)),some (.al,.int (k:Int)),some (.al,aX kp hs),some (.bo,.lst (aj (j7 hs)))]) (by
   simp -implicitDefEqProofs only [av,uB,oC,ag,jV,jC,gz,gy,id_eq,oq,mO,b8,oy]
   rw[show dB [some (.al,.lst (rs.map Row.d)),some (.al,.int (k:Int)),some (.al,aX kp hs),none] []=[] from rfl,DL,oq,show aQ .al=.al from rfl,NS (by omega),oq]
   rfl)]
  simp -implicitDefEqProofs only [aK,ay,ae,ah,jV,gz,gy,id_eq,oq,mq,mn,e1,e2,e3,ux]
 ·refine k3 (Lv rs q kp hs) (fun x hx=>.read ((yh dg).mp hx)) (fun n l m hn mr hm=>?_) n h
  have h1:m∈Bk.getD n []:=by rw[List.getD_eq_getElem?_getD,mr];exact hm
  exact .step ((t3 m n).mp (b3 m n h1)) hn
 ·induction h with
  |read h=>exact k1 _ ((yh dg).mpr h)
  |@step n m ho _ ih =>
   have h1:=b2 n m ((t3 n m).mpr ho)
   have hm:m<Bk.length:=by
    obtain⟨⟨_,_,_,z⟩,_⟩:=ho;omega
   rw[List.getD_eq_getElem?_getD,eU hm]at h1
   exact k2 m _ n ih (eU hm) h1
theorem tN{α:Type}{fc:Ev→Option Bool}{fe:Ev→Option (M×D)}{m m':M}{fr:Ev}{g:α→D}{p:α→Bool}:∀l:List α,(∀x∈l,fc (some (m,g x)::fr)=some (p x))→(∀x∈l,fe (some (m,g x)::fr)=some (m',g x))→fh fc fe m fr (l.map g)=some (((l.filter p).map g).map fun y=>(m',y))
 |[],_,_=>rfl
 |x::l,h1,h2=>by
  have ih:=tN (fc:=fc) (fe:=fe) (m:=m) (m':=m') (fr:=fr) (g:=g) (p:=p) l (fun y hy=>h1 y (b9 _ hy)) (fun y hy=>h2 y (b9 _ hy))
  rw[mq,fh,h1 x bV,oq,List.filter_cons]
  cases hp:p x with
  |true =>
   rw[if_pos rfl,if_pos rfl,h2 x bV,oq,ih];rfl
  |false =>
   rw[if_neg aZ,if_neg aZ,ih]
noncomputable def fH(rs:List Row)(q:De)(kp:List (Int×Int))(hs:List (Nat×Str))(x:Int×Int):Bool:=@decide (Lv rs q kp hs x.2.toNat) (Classical.propDecidable _)
theorem Ew{rs:List Row}(g:Good rs)(hl:rs.length≤300){k:Nat}{q:De}(hq:(kn rs)[k]?=some q){kp:List (Int×Int)}(mP:kp.length≤900){hs:List (Nat×Str)}(dg:(hs.map (·.1)).Nodup)(aU:∀p∈hs,p.1<rs.length) :
  nE [.lst (rs.map Row.d),.int (k:Int),aX kp hs]=some (.un,.lst (aF ((a9 rs rs.length).filter (fH rs q kp hs)))):=by
 obtain⟨ks,e1,hk⟩:=NT g hl hq mP dg aU
 have e3:=C6 (rs:=rs) (by omega)
 have i7:=lG rs rs.length
 have ex:=tN (fc:=jB (du false (ag ao (jV 0) (jC (.int 1))) (jV 1))) (fe:=jV 0) (m:=.fr) (m':=.fr) (fr:=[some (.bo,.dk (aD ks))]) (g:=bq) (p:=fH rs q kp hs) (a9 rs rs.length) (fun x hx=>by
   obtain⟨x0,x1⟩:=Fo g hx
   have jY:(cO (aD ks) (.inl x.2)).isSome=decide (x.2.toNat∈ks):=by
    have:=lP ks x.2.toNat
    rw[Int.toNat_of_nonneg x0]at this;exact this
   simp -implicitDefEqProofs only [jB,du,ag,jV,jC,gz,gy,id_eq,oq,p1,gH,keyOf,jY,bh,Bool.false_eq_true,if_false]
   refine congrArg some ?_
   unfold fH
   rw[Bool.eq_iff_iff]
   simp only[decide_eq_true_eq]
   exact hk _) (fun x _=>rfl)
 unfold nE fn Fd
 simp only[cg,a7,bD]
 rw[aw (e':=[some (.al,.lst (rs.map Row.d)),some (.al,.int (k:Int)),some (.al,aX kp hs),some (.bo,.dk (aD ks))]) (by
  simp -implicitDefEqProofs only [av,ay,ae,ah,jV,gz,gy,id_eq,oq,mq,mn,e1,gb,tz,tq])]
 simp -implicitDefEqProofs only [aK,cC,bQ,ay,ae,ah,jV,gz,gy,id_eq,oq,mq,mn,e3,b8,oy]
 have hz:(aF ((a9 rs rs.length).filter (fH rs q kp hs))).length≤5000:=by
  rw[kf];have:=List.length_filter_le (fH rs q kp hs) (a9 rs rs.length);omega
 rw[show dB [some (.al,.lst (rs.map Row.d)),some (.al,.int (k:Int)),some (.al,aX kp hs),some (.bo,.dk (aD ks))] [3]=[some (.bo,.dk (aD ks))] from rfl,show aF (a9 rs rs.length)=(a9 rs rs.length).map bq from rfl,ex,oq,show((a9 rs rs.length).filter (fH rs q kp hs)).map bq=aF ((a9 rs rs.length).filter (fH rs q kp hs))from rfl,xP hz,oq]
 rfl
theorem Fs(a b:Int×Int):PyData.eqv (toPy (bq a)) (toPy (bq b))=decide (a=b):=by
 obtain⟨a1,a2⟩:=a;obtain⟨b1,b2⟩:=b
 simp only[bq,toPy,cu,PyData.eqv,PyData.eqvAll]
 by_cases h1:a1=b1<;>by_cases h2:a2=b2<;>simp[h1,h2]
theorem DM(x:Int×Int):J.plain (bq x)=true:=by simp[bq,J.plain,J.dC]
theorem NV(x:Int×Int):(toPy (bq x)).depth≤10:=by simp[bq,toPy,cu,PyData.depth,PyData.depthAll]
theorem Ql{m n:M}(x:Int×Int)(l:List (Int×Int)):iC true (m,bq x) (n,.tup (aF l))=some (.fr,.bl (!decide (x∈l))):=by
 have h1:J.dC (aF l)=true:=mY fun d hd=>by obtain⟨y,_,rfl⟩:=bu.mp hd;exact DM y
 have h2:=NV x
 have h3:(toPy (bq x)).depth≤50:=by omega
 simp only[iC,DM,h1,h3,and_self,if_true,pE]
 congr 4
 rw[show aF l=l.map bq from rfl,List.map_map,List.any_map,Bool.eq_iff_iff,List.any_eq_true,decide_eq_true_eq]
 constructor
 ·rintro⟨y,hy,e⟩
  have e':PyData.eqv (toPy (bq y)) (toPy (bq x))=true:=e
  rw[Fs,decide_eq_true_eq]at e'
  rw[←e'];exact hy
 ·intro hq
  exact⟨x,hq,by show PyData.eqv (toPy (bq x)) (toPy (bq x))=true;rw[Fs];simp⟩
theorem Vb(a b:Int):iY [(M.fr,D.int a),(M.fr,D.int b)]=some (.fr,bq (a,b)):=rfl
noncomputable def lu(rs:List Row)(kp:List (Int×Int))(n:Nat):List Nat:=(gk rs n).filter fun f=>!decide (((n:Int),(f:Int))∈kp)
theorem Qm{rs:List Row}(g:Good rs)(hl:rs.length≤300)(q:De){kp:List (Int×Int)}{hs:List (Nat×Str)}(dg:(hs.map (·.1)).Nodup){m:Nat}(hm:m<rs.length) :
    ∃b,pB [.lst (rs.map Row.d),ak q,aX kp hs,.int (m:Int)]=some (.fr,.bl b)∧(b=true↔Lv rs q kp hs m):=by
  have Bt:ao (.al,aX kp hs) (.fr,.int 0)=some (.al,.tup (aF kp)):=rfl
  have mO:ao (.al,aX kp hs) (.fr,.int 1)=some (.al,.tup (ck hs)):=rfl
  have W:=NP (c:=oY) (b:=xo)
    (fun mu e=>∃(ks ws:List Nat) (o7 o8:Option (M×D)),e=[some (.al,.lst (rs.map Row.d)),some (.al,ak q),some (.al,aX kp hs),some (.al,.int (m:Int)),some (.bo,.dk (bJ hs)),some (.bo,.dk (aD ks)),some (.bo,.lst (aj ws)),o7,o8]∧ks.Nodup∧(∀x∈ks,x<rs.length)∧(∀x∈ws,x<rs.length)∧(3*(rs.length-ks.length)+ws.length=mu∧mu≤1000) ∧
      (∀x∈ks,how hs x≠some ("read" : Str)∧∀f,iS rs q kp hs x f→f∈ks∨f∈ws∨(how hs f≠some ("read" : Str)∧∀g,¬iS rs q kp hs f g)) ∧
      (m∈ks∨m∈ws∨(how hs m≠some ("read" : Str)∧∀g,¬iS rs q kp hs m g))∧∀x∈ws,Lv rs q kp hs x→Lv rs q kp hs m)
    (fun m' d=>m'=.fr∧d=.bl true∧Lv rs q kp hs m)
    (fun mu e bz=>by
      obtain⟨ks,ws,o7,o8,he,h1,h2,h3,h4,h5,h6,h7⟩:=bz
      subst he
      have oP:=gx _ _ h1 h2
      have hC:oY [some (.al,.lst (rs.map Row.d)),some (.al,ak q),some (.al,aX kp hs),some (.al,.int (m:Int)),some (.bo,.dk (bJ hs)),some (.bo,.dk (aD ks)),some (.bo,.lst (aj ws)),o7,o8]=some (decide ((0:Int)<(ws.length:Int))):=by
        unfold oY
        simp -implicitDefEqProofs only [jB,ag,aI,ae,ah,jV,jC,gz,gy,id_eq,oq,cT,cR,nM,bh]
      rw[hC]
      rcases List.eq_nil_or_concat ws with rfl|⟨cj,n,rfl⟩
      · exact .inl rfl
      rw[List.concat_eq_append]at *
      have qM:(cj++[n]).length=cj.length+1:=by simp
      have Bu:n<rs.length:=h3 n (by simp)
      have hr:rs[n]?=some (rs[n]'Bu):=by simp
      generalize rs[n]'Bu=r at hr
      have ar:=ip hr
      refine .inr ⟨by rw[cV (by rw[qM];omega)],?_⟩
      have zT:kR 7 6 [some (.al,.lst (rs.map Row.d)),some (.al,ak q),some (.al,aX kp hs),some (.al,.int (m:Int)),some (.bo,.dk (bJ hs)),some (.bo,.dk (aD ks)),some (.bo,.lst (aj (cj++[n]))),o7,o8]=some (.nx [some (.al,.lst (rs.map Row.d)),some (.al,ak q),some (.al,aX kp hs),some (.al,.int (m:Int)),some (.bo,.dk (bJ hs)),some (.bo,.dk (aD ks)),some (.bo,.lst (aj cj)),some (.fr,.int (n:Int)),o8]):=by
        have e1:(aj (cj++[n]))[(aj (cj++[n])).length-1]?=some (.int (n:Int)):=by simp[aj]
        have e2:(aj (cj++[n])).dropLast=aj cj:=by simp[aj]
        simp -implicitDefEqProofs only [kR,dW,own,if_true,gz,gy,oq,e1,e2,tz,tq]
      unfold xo
      rw[aw zT]
      rw[aw (e':=[some (.al,.lst (rs.map Row.d)),some (.al,ak q),some (.al,aX kp hs),some (.al,.int (m:Int)),some (.bo,.dk (bJ hs)),some (.bo,.dk (aD ks)),some (.bo,.lst (aj cj)),some (.fr,.int (n:Int)),some (.fr,.str ((how hs n).getD ""))]) (by
        have hg:(pW (jV 4) (jV 7) (jC (.str ""))) [some (.al,.lst (rs.map Row.d)),some (.al,ak q),some (.al,aX kp hs),some (.al,.int (m:Int)),some (.bo,.dk (bJ hs)),some (.bo,.dk (aD ks)),some (.bo,.lst (aj cj)),some (.fr,.int (n:Int)),o8]=some (.fr,.str ((how hs n).getD "")):=by
          simp -implicitDefEqProofs only [pW,jV,jC,gH,keyOf,gz,gy,id_eq,oq,yI]
          cases how hs n<;>rfl
        simp -implicitDefEqProofs only [av,hg,oq,fI,tz,tq])]
      generalize hE:[some (.al,.lst (rs.map Row.d)),some (.al,ak q),some (.al,aX kp hs),some (.al,.int (m:Int)),some (.bo,.dk (bJ hs)),some (.bo,.dk (aD ks)),some (.bo,.lst (aj cj)),some (M.fr,D.int (n:Int)),some (.fr,.str ((how hs n).getD ""))]=E
      have gd:∀x:Str,x ≠ "" → ((how hs n).getD "" = x↔how hs n=some x):=fun x hx=>by
        cases how hs n with
        |none=>exact⟨fun z=>absurd z.symm hx,fun z=>nomatch z⟩
        |some y=>simp
      have d1:∀x:Str,(jB (ag aL (jV 8) (jC (.str x)))) E=some (decide ((how hs n).getD "" = x)):=fun x=>by
        rw[←hE]
        simp -implicitDefEqProofs only [jB,ag,jV,jC,gz,gy,id_eq,oq,cS,bh]
      by_cases mz:how hs n=some ("read" : Str)
      · exact .inr ⟨E,.fr,.bl true,dJ (by rw[bA (by rw[d1,cV ((gd "read" (by decide)).mpr mz)])];rfl),rfl,rfl,h7 n (by simp) (.read mz)⟩
      rw[eW (by rw[d1,df (fun z=>mz ((gd "read" (by decide)).mp z))])]
      have d2:(cW (jB (du false (jV 7) (jV 5))) (cW (jB (ag aL (jV 8) (jC (.str "keep")))) (jB (ay mS (ae (ag ao (jV 0) (jV 7)) (ae (jV 1) ah)))))) E=some (decide (n∈ks)||(decide ((how hs n).getD "" = ("keep" : Str))||gw (sets r) q)):=by
        unfold cW
        rw[d1,show(jB (du false (jV 7) (jV 5))) E=some (decide (n∈ks)) by
          rw[←hE]
          simp -implicitDefEqProofs only [jB,du,jV,gH,keyOf,gz,gy,id_eq,oq,lP,bh,Bool.false_eq_true,if_false],
          show(jB (ay mS (ae (ag ao (jV 0) (jV 7)) (ae (jV 1) ah)))) E=some (gw (sets r) q) by
          rw[←hE]
          simp -implicitDefEqProofs only [jB,ay,ae,ah,ag,jV,gz,gy,id_eq,oq,dq,ar,oy,mq,mn,Qg,bh]]
        cases decide (n∈ks)<;>cases decide ((how hs n).getD "" = ("keep" : Str))<;>rfl
      cases ly:(decide (n∈ks)||(decide ((how hs n).getD "" = ("keep" : Str))||gw (sets r) q)) with
      |true =>
        have sub:∀f,f∈cj++[n]→f∈ks∨f∈cj∨(how hs f≠some ("read" : Str)∧∀g,¬iS rs q kp hs f g):=fun f hf=>by
          rcases cU.mp hf with z|z
          · exact .inr (.inl z)
          · obtain rfl:f=n:=by simpa using z
            simp only[Bool.or_eq_true,decide_eq_true_eq]at ly
            rcases ly with z|z|z
            · exact .inl z
            · exact .inr (.inr ⟨mz,fun g ho=>ho.2.2.1 ((gd "keep" (by decide)).mp z)⟩)
            · refine .inr (.inr ⟨mz,fun g ho=>?_⟩)
              obtain⟨r',mE,qG⟩:=ho.2.2.2
              rw[hr]at mE;cases mE
              rw[z]at qG;cases qG
        refine .inl ⟨E,3*(rs.length-ks.length)+cj.length,.inr ?_,⟨ks,cj,_,_,hE.symm,h1,h2,fun x hx=>h3 x (dN _ hx),⟨rfl,by omega⟩,fun x hx=>?_,?_,fun x hx=>h7 x (dN _ hx)⟩,by omega⟩
        · unfold aq
          rw[bA (by rw[d2,ly])];rfl
        · obtain⟨a1,a2⟩:=h5 x hx
          refine⟨a1,fun f hf=>?_⟩
          rcases a2 f hf with z|z|z
          · exact .inl z
          · exact sub f z
          · exact .inr (.inr z)
        · rcases h6 with z|z|z
          · exact .inl z
          · exact sub m z
          · exact .inr (.inr z)
      |false =>
      obtain⟨rT,Yn,hJ⟩:n∉ks∧how hs n≠some ("keep" : Str)∧gw (sets r) q=false:=by
        simp only[Bool.or_eq_false_iff,decide_eq_false_iff_not]at ly
        exact⟨ly.1,fun z=>ly.2.1 ((gd "keep" (by decide)).mpr z),ly.2.2⟩
      rw[eW (by rw[d2,ly])]
      have s1:ks.length<sizeLine:=dz (show ks.length≤300 by omega) (by decide)
      rw[aw (e':=[some (.al,.lst (rs.map Row.d)),some (.al,ak q),some (.al,aX kp hs),some (.al,.int (m:Int)),some (.bo,.dk (bJ hs)),some (.bo,.dk (aD (ks++[n]))),some (.bo,.lst (aj cj)),some (.fr,.int (n:Int)),some (.fr,.str ((how hs n).getD ""))]) (by
        rw[←hE]
        simp -implicitDefEqProofs only [gZ,jV,jC,keyOf,gz,gy,id_eq,oq,fJ,if_true,i5,own,km,s1,qa rT,tz,tq])]
      have ef:=ya rs n _ hr
      have er:bj n r=cv rs n:=by unfold cv;rw[hr]
      rw[er,Fg g]at ef
      have fl:=DB rs n
      have Zf:(lu rs kp n).length≤2:=bP (List.length_filter_le _ _) fl
      obtain⟨n1,n2⟩:=yf h1 h2 rT Bu
      have vw:=gx _ _ n1 n2
      rw[dO]at vw
      simp only[List.length_cons,List.length_nil]at vw
      have nx:∀x,x∈lu rs kp n↔iS rs q kp hs n x:=fun x=>by
        unfold lu
        rw[List.mem_filter]
        constructor
        · rintro⟨z1,z2⟩
          exact⟨xO g z1,by simpa using z2,Yn,r,hr,hJ⟩
        · intro ho
          exact⟨Nr ho.1,by simpa using ho.2.1⟩
      refine .inl ⟨[some (.al,.lst (rs.map Row.d)),some (.al,ak q),some (.al,aX kp hs),some (.al,.int (m:Int)),some (.bo,.dk (bJ hs)),some (.bo,.dk (aD (ks++[n]))),some (.bo,.lst (aj (cj++lu rs kp n))),some (.fr,.int (n:Int)),some (.fr,.str ((how hs n).getD ""))],3*(rs.length-(ks++[n]).length)+(cj++lu rs kp n).length,.inl ?_,⟨ks++[n],cj++lu rs kp n,_,_,rfl,n1,n2,fun x hx=>?_,⟨rfl,by simp only[List.length_append,List.length_cons,List.length_nil];omega⟩,fun x hx=>?_,?_,fun x hx mQ=>?_⟩,by simp only[List.length_append,List.length_cons,List.length_nil];omega⟩
      · have ex:=tN (fc:=jB (ag (iC true) (aM (ae (jV 1) (ae (jV 0) ah))) (ag ao (jV 2) (jC (.int 0))))) (fe:=jV 0) (m:=.fr) (m':=.fr) (fr:=[some (.fr,.int (n:Int)),some (.al,aX kp hs)]) (g:=fun f:Nat=>D.int (f:Int)) (p:=fun f=>!decide (((n:Int),(f:Int))∈kp)) (gk rs n) (fun f _=>by
            simp -implicitDefEqProofs only [jB,ag,aM,ae,ah,jV,jC,gz,gy,id_eq,oq,Vb,Bt,Ql,bh]) (fun f _=>rfl)
        simp -implicitDefEqProofs only [av,ag,cC,bQ,ay,ae,ah,jV,gz,gy,id_eq,oq,mq,mn,ef,b8,oy]
        rw[show dB [some (.al,.lst (rs.map Row.d)),some (.al,ak q),some (.al,aX kp hs),some (.al,.int (m:Int)),some (.bo,.dk (bJ hs)),some (.bo,.dk (aD (ks++[n]))),some (.bo,.lst (aj cj)),some (.fr,.int (n:Int)),some (.fr,.str ((how hs n).getD ""))] [7,2]=[some (.fr,.int (n:Int)),some (.al,aX kp hs)] from rfl,show aj (gk rs n)=(gk rs n).map (fun f:Nat=>D.int (f:Int))from rfl,ex,oq,show((gk rs n).filter fun f:Nat=>!decide (((n:Int),(f:Int))∈kp)).map (fun f:Nat=>D.int (f:Int))=aj (lu rs kp n)from rfl,xP (by rw[cR];omega),oq]
        rw[yp (by decide) (by decide) (by rw[cR,cR];exact bP (show cj.length+(lu rs kp n).length≤2000 by omega) (by decide)),show mJ .bo .un=.fr from rfl,yv,oq,gb,oq]
        simp -implicitDefEqProofs only [aj,List.map_append,tz,tq]
      · rcases cU.mp hx with z|z
        · exact h3 x (dN _ z)
        · obtain⟨⟨_,_,_,y⟩,_⟩:=(nx x).mp z;exact y
      · rcases cU.mp hx with z|z
        · obtain⟨a1,a2⟩:=h5 x z
          refine⟨a1,fun f hf=>?_⟩
          rcases a2 f hf with y|y|y
          · exact .inl (dN _ y)
          · rcases cU.mp y with w|w
            · exact .inr (.inl (dN _ w))
            · exact .inl (fj _ w)
          · exact .inr (.inr y)
        · obtain rfl:x=n:=by simpa using z
          exact⟨mz,fun f hf=>.inr (.inl (fj _ ((nx f).mpr hf)))⟩
      · rcases h6 with z|z|z
        · exact .inl (dN _ z)
        · rcases cU.mp z with w|w
          · exact .inr (.inl (dN _ w))
          · exact .inl (fj _ w)
        · exact .inr (.inr z)
      · rcases cU.mp hx with z|z
        · exact h7 x (dN _ z) mQ
        · exact h7 n (by simp) (.step ((nx x).mp z) mQ))
    (n:=3*rs.length+1) (e:=[some (.al,.lst (rs.map Row.d)),some (.al,ak q),some (.al,aX kp hs),some (.al,.int (m:Int)),some (.bo,.dk (bJ hs)),some (.bo,.dk (aD [])),some (.bo,.lst (aj [m])),none,none])
    ⟨[],[m],none,none,rfl,List.nodup_nil,(fun x h=>nomatch h),(fun x h=>(show x=m by simpa using h)▸hm),⟨by simp,by omega⟩,(fun x h=>nomatch h),.inr (.inl (by simp)),fun x hx h=>by
      have:x=m:=by simpa using hx
      exact this▸h⟩
  unfold pB fn Cz
  simp only[cg,a7,bD]
  rw[aw (e':=[some (.al,.lst (rs.map Row.d)),some (.al,ak q),some (.al,aX kp hs),some (.al,.int (m:Int)),some (.bo,.dk (bJ hs)),none,none,none,none]) (by
    simp -implicitDefEqProofs only [av,ag,aI,ae,ah,jV,jC,gz,gy,id_eq,oq,mO,DK dg,gb,tz,tq])]
  rw[aw (e':=[some (.al,.lst (rs.map Row.d)),some (.al,ak q),some (.al,aX kp hs),some (.al,.int (m:Int)),some (.bo,.dk (bJ hs)),some (.bo,.dk (aD [])),none,none,none]) rfl]
  rw[aw (e':=[some (.al,.lst (rs.map Row.d)),some (.al,ak q),some (.al,aX kp hs),some (.al,.int (m:Int)),some (.bo,.dk (bJ hs)),some (.bo,.dk (aD [])),some (.bo,.lst (aj [m])),none,none]) (by
    simp -implicitDefEqProofs only [av,bp,ae,ah,jV,gz,gy,id_eq,oq]
    rw[show c9 [(M.al,D.int (m:Int))]=some (.un,.lst (aj [m]))from by simp[c9,cf,D.bU,aj,vV]]
    rfl)]
  rcases W with⟨e',n',l1,⟨ks,ws,o7,o8,he,h1,h2,h3,h4,h5,h6,h7⟩,hc⟩|⟨e',m',d,l1,rfl,rfl,mQ⟩
  · subst he
    have hz:ws=[]:=by
      unfold oY at hc
      simp -implicitDefEqProofs only [jB,ag,aI,ae,ah,jV,jC,gz,gy,id_eq,oq,cT,cR,nM,bh]at hc
      have:=Option.some.inj hc
      rw[decide_eq_false_iff_not]at this
      exact List.length_eq_zero_iff.mp (by omega)
    subst hz
    refine⟨false,by rw[aw l1];rfl,(fun z=>nomatch z),fun mQ=>?_⟩
    have key:∀n,Lv rs q kp hs n→n∉ks∧¬(how hs n≠some ("read" : Str)∧∀g,¬iS rs q kp hs n g):=fun n hn=>by
      induction hn with
      |read h=>exact⟨fun hk=>(h5 _ hk).1 h,fun z=>z.1 h⟩
      |@step n f ho _ ih =>
        refine⟨fun hk=>?_,fun z=>z.2 f ho⟩
        rcases (h5 n hk).2 f ho with z|z|z
        · exact ih.1 z
        · cases z
        · exact ih.2 z
    rcases h6 with z|z|z
    · exact absurd z (key m mQ).1
    · cases z
    · exact absurd z (key m mQ).2
  · exact⟨true,by rw[dJ l1];rfl,fun _=>mQ,fun _=>rfl⟩
theorem Ft{rs:List Row}(g:Good rs)(hl:rs.length≤300)(q:De){kp:List (Int×Int)}{hs:List (Nat×Str)}(dg:(hs.map (·.1)).Nodup) :
  pH [.lst (rs.map Row.d),ak q,aX kp hs]=some (.un,.lst (aF ((a9 rs rs.length).filter (fH rs q kp hs)))):=by
 have e3:=Fq (rs:=rs) (by omega)
 have i7:=lG rs rs.length
 have ex:=tN (fc:=jB (ay pB (ae (jV 1) (ae (jV 2) (ae (jV 3) (ae (ag ao (jV 0) (jC (.int 1))) ah)))))) (fe:=jV 0) (m:=.fr) (m':=.fr) (fr:=[some (.al,.lst (rs.map Row.d)),some (.al,ak q),some (.al,aX kp hs)]) (g:=bq) (p:=fH rs q kp hs) (a9 rs rs.length) (fun x hx=>by
   obtain⟨x0,x1⟩:=Fo g hx
   obtain⟨b,eb,hb⟩:=Qm g hl q (kp:=kp) dg (m:=x.2.toNat) (by omega)
   rw[Int.toNat_of_nonneg x0]at eb
   simp -implicitDefEqProofs only [jB,ay,ae,ah,ag,jV,jC,gz,gy,id_eq,oq,p1,mq,mn,eb,bh]
   refine congrArg some ?_
   unfold fH
   rw[Bool.eq_iff_iff,hb]
   simp only[decide_eq_true_eq]) (fun x _=>rfl)
 unfold pH fn C1
 simp only[cg,a7,bD]
 simp -implicitDefEqProofs only [aK,cC,bQ,ay,ae,ah,jV,gz,gy,id_eq,oq,mq,mn,e3,b8,oy]
 have hz:(aF ((a9 rs rs.length).filter (fH rs q kp hs))).length≤5000:=by
  rw[kf];have:=List.length_filter_le (fH rs q kp hs) (a9 rs rs.length);omega
 rw[show dB [some (.al,.lst (rs.map Row.d)),some (.al,ak q),some (.al,aX kp hs)] [0,1,2]=[some (.al,.lst (rs.map Row.d)),some (.al,ak q),some (.al,aX kp hs)] from rfl,show aF (a9 rs rs.length)=(a9 rs rs.length).map bq from rfl,ex,oq,show((a9 rs rs.length).filter (fH rs q kp hs)).map bq=aF ((a9 rs rs.length).filter (fH rs q kp hs))from rfl,xP hz,oq]
 rfl
theorem Qn{A0 A1 A2:Option (M×D)}(rest:Int)(kp:List (Int×Int))(hk:kp.length≤900)(x:Int×Int):∃(lR:Int) (xk:List (Int×Int)),xk.length≤kp.length+1 ∧
  sN [A0,A1,A2,some (.fr,.int rest),some (.bo,.lst (aF kp)),some (.fr,bq x),none,none]=some (.nx [A0,A1,A2,some (.fr,.int lR),some (.bo,.lst (aF xk)),some (.fr,bq x),none,none]):=by
 have s1:(aF kp).length<sizeLine:=by rw[kf];exact dz hk (by decide)
 have hc:(jB (ag aL (ag aR (jV 3) (jC (.int 2))) (jC (.int 1)))) [A0,A1,A2,some (.fr,.int rest),some (.bo,.lst (aF kp)),some (.fr,bq x),none,none]=some (decide (rest%2=1)):=by walk_at "go"
 unfold sN
 cases h:decide (rest%2=1) with
 |true =>
  refine⟨rest/2,kp++[x],by simp,?_⟩
  rw[aw (e':=[A0,A1,A2,some (.fr,.int rest),some (.bo,.lst (aF (kp++[x]))),some (.fr,bq x),none,none]) (by
   rw[bA (by rw[hc,h])]
   simp -implicitDefEqProofs only [cF,jV,gz,gy,id_eq,oq,fJ,if_true,dW,own,s1,tz,tq]
   rw[show aF kp++[bq x]=aF (kp++[x]) by simp[aF]])]
  walk_at "go"
 |false =>
  refine⟨rest/2,kp,by omega,?_⟩
  rw[aw (e':=[A0,A1,A2,some (.fr,.int rest),some (.bo,.lst (aF kp)),some (.fr,bq x),none,none]) (by
   rw[bL (by rw[hc,h])];rfl)]
  walk_at "go"
theorem Qo{A0 A4 A5:Option (M×D)}{rs:List Row}{r:Row}{n:Nat}(hr:rs[n]?=some r)(q:De)(rest:Int)(hs:List (Nat×Str))(hk:hs.length≤900):∃(lR:Int) (hV:List (Nat×Str)),(hV=hs∨∃c,hV=hs++[(n,c)]) ∧
  sO [A0,some (.al,.lst (rs.map Row.d)),some (.al,ak q),some (.fr,.int rest),A4,A5,some (.bo,.lst (ck hs)),some (.fr,.int (n:Int))]=some (.nx [A0,some (.al,.lst (rs.map Row.d)),some (.al,ak q),some (.fr,.int lR),A4,A5,some (.bo,.lst (ck hV)),some (.fr,.int (n:Int))]):=by
 have s1:(ck hs).length<sizeLine:=by simp only[ck,ln];exact dz hk (by decide)
 have ar:=ip hr
 have hc:(jB (ay pG (ae (ag ao (jV 1) (jV 7)) (ae (jV 2) ah)))) [A0,some (.al,.lst (rs.map Row.d)),some (.al,ak q),some (.fr,.int rest),A4,A5,some (.bo,.lst (ck hs)),some (.fr,.int (n:Int))]=some (decide (fM r=some q)):=by
  simp -implicitDefEqProofs only [jB,ay,ae,ah,ag,jV,gz,gy,id_eq,oq,dq,ar,oy,mq,mn,S9,bh]
 unfold sO
 cases h:decide (fM r=some q) with
 |true =>
  obtain⟨c,_,oJ⟩:=lF (f:=D.str) (l:=["own", "keep", "read"]) (k:=rest%3) (Int.emod_nonneg _ (by omega)) (by have:=Int.emod_lt_of_pos rest (show(0:Int)<3 by omega);simpa using this)
  refine⟨rest/3,hs++[(n,c)],.inr ⟨c,rfl⟩,?_⟩
  rw[bA (by rw[hc,h])]
  rw[aw (e':=[A0,some (.al,.lst (rs.map Row.d)),some (.al,ak q),some (.fr,.int rest),A4,A5,some (.bo,.lst (ck (hs++[(n,c)]))),some (.fr,.int (n:Int))]) (by
   have hx:(aM (ae (jV 7) (ae (ag ao (bp (ae (jC (.str "own")) (ae (jC (.str "keep")) (ae (jC (.str "read")) ah)))) (ag aR (jV 3) (jC (.int 3)))) ah))) [A0,some (.al,.lst (rs.map Row.d)),some (.al,ak q),some (.fr,.int rest),A4,A5,some (.bo,.lst (ck hs)),some (.fr,.int (n:Int))]=some (.fr,.tup [.int (n:Int),.str c]):=by
    have e1:(ag ao (bp (ae (jC (.str "own")) (ae (jC (.str "keep")) (ae (jC (.str "read")) ah)))) (ag aR (jV 3) (jC (.int 3)))) [A0,some (.al,.lst (rs.map Row.d)),some (.al,ak q),some (.fr,.int rest),A4,A5,some (.bo,.lst (ck hs)),some (.fr,.int (n:Int))]=some (.fr,.str c):=by
     have e0:(bp (ae (jC (.str "own")) (ae (jC (.str "keep")) (ae (jC (.str "read")) ah)))) [A0,some (.al,.lst (rs.map Row.d)),some (.al,ak q),some (.fr,.int rest),A4,A5,some (.bo,.lst (ck hs)),some (.fr,.int (n:Int))]=some (.un,.lst ((["own", "keep", "read"]:List Str).map D.str)):=by
      simp[bp,ae,ah,jC,c9,cf,vV]
     have e2:(ag aR (jV 3) (jC (.int 3))) [A0,some (.al,.lst (rs.map Row.d)),some (.al,ak q),some (.fr,.int rest),A4,A5,some (.bo,.lst (ck hs)),some (.fr,.int (n:Int))]=some (.fr,.int (rest%3)):=by walk_at "go"
     rw[show(ag ao (bp (ae (jC (.str "own")) (ae (jC (.str "keep")) (ae (jC (.str "read")) ah)))) (ag aR (jV 3) (jC (.int 3)))) [A0,some (.al,.lst (rs.map Row.d)),some (.al,ak q),some (.fr,.int rest),A4,A5,some (.bo,.lst (ck hs)),some (.fr,.int (n:Int))]=((bp (ae (jC (.str "own")) (ae (jC (.str "keep")) (ae (jC (.str "read")) ah)))) [A0,some (.al,.lst (rs.map Row.d)),some (.al,ak q),some (.fr,.int rest),A4,A5,some (.bo,.lst (ck hs)),some (.fr,.int (n:Int))]).bind fun x=>((ag aR (jV 3) (jC (.int 3))) [A0,some (.al,.lst (rs.map Row.d)),some (.al,ak q),some (.fr,.int rest),A4,A5,some (.bo,.lst (ck hs)),some (.fr,.int (n:Int))]).bind fun y=>ao x y from rfl,e0,e2,oq,oq,dq,oJ]
     rfl
    simp -implicitDefEqProofs only [aM,ae,ah,jV,gz,gy,id_eq,oq,e1]
    rfl
   simp -implicitDefEqProofs only [cF,hx,oq,fJ,if_true,dW,own,gz,gy,s1,tz,tq]
   rw[show ck hs++[.tup [.int (n:Int),.str c]]=ck (hs++[(n,c)]) by simp[ck]])]
  walk_at "go"
 |false =>
  refine⟨rest,hs,.inl rfl,?_⟩
  rw[bL (by rw[hc,h])]
  rfl
theorem NW{rs:List Row}(hl:rs.length≤300)(ns:List Int)(q:De):∃(kp:List (Int×Int)) (hs:List (Nat×Str)),tF [.lst (ns.map .int),.lst (rs.map Row.d),ak q]=some (.fr,aX kp hs)∧kp.length≤900∧(hs.map (·.1)).Nodup∧∀p∈hs,p.1<rs.length:=by
 have b0:-4611686018427387904≤(rs.length:Int)∧(rs.length:Int)<4611686018427387904:=by omega
 have ht:(rs.length:Int).toNat=rs.length:=by omega
 have e3:=Fq (rs:=rs) (by omega)
 have i7:=lG rs rs.length
 obtain⟨x1,e1⟩:=pI ns 60 (by omega)
 obtain⟨x2,e2⟩:=pI ns 61 (by omega)
 obtain⟨e',l1,rest,kp,o5,he,hk⟩:=dI (g:=gN 5) (b:=sN) (m:=.fr) (ds:=aF (a9 rs rs.length)) (e:=[some (.al,.lst (ns.map .int)),some (.al,.lst (rs.map Row.d)),some (.al,ak q),some (.fr,.int x1),some (.bo,.lst (aF [])),none,none,none])
  (fun i e=>∃(rest:Int) (kp:List (Int×Int)) (o5:Option (M×D)),e=[some (.al,.lst (ns.map .int)),some (.al,.lst (rs.map Row.d)),some (.al,ak q),some (.fr,.int rest),some (.bo,.lst (aF kp)),o5,none,none]∧kp.length≤i)
  ⟨x1,[],none,rfl,a6 _⟩
  (fun i d e hd bz=>by
   obtain⟨rest,kp,o5,he,hk⟩:=bz
   subst he
   obtain⟨x,hx,rfl⟩:=yG hd
   have hi:i<(a9 rs rs.length).length:=(bO.mp hx).1
   obtain⟨lR,xk,h1,h2⟩:=Qn (A0:=some (.al,.lst (ns.map .int))) (A1:=some (.al,.lst (rs.map Row.d))) (A2:=some (.al,ak q)) rest kp (by omega) x
   exact⟨_,_,rfl,h2,lR,xk,_,rfl,by omega⟩)
 subst he
 rw[kf]at hk
 obtain⟨Zg,l2,Vc,hs,o7,Ay,AI,ou⟩:=dI (g:=gN 7) (b:=sO) (m:=.fr) (ds:=bY 0 rs.length) (e:=[some (.al,.lst (ns.map .int)),some (.al,.lst (rs.map Row.d)),some (.al,ak q),some (.fr,.int x2),some (.bo,.lst (aF kp)),o5,some (.bo,.lst (ck [])),none])
  (fun i e=>∃(rest:Int) (hs:List (Nat×Str)) (o7:Option (M×D)),e=[some (.al,.lst (ns.map .int)),some (.al,.lst (rs.map Row.d)),some (.al,ak q),some (.fr,.int rest),some (.bo,.lst (aF kp)),o5,some (.bo,.lst (ck hs)),o7]∧(hs.map (·.1)).Nodup∧∀p∈hs,p.1<i)
  ⟨x2,[],none,rfl,List.nodup_nil,fun p h=>nomatch h⟩
  (fun i d e hd bz=>by
   obtain⟨rest,hs,o7,he,h1,h2⟩:=bz
   subst he
   obtain⟨hi,rfl⟩:=jE hd
   rw[show(0:Int)+(i:Int)=(i:Int) by omega]
   have hr:rs[i]?=some (rs[i]'hi):=by simp
   have hle:hs.length≤i:=by
    have:=gx i (hs.map (·.1)) h1 fun x hx=>by obtain⟨p,hp,rfl⟩:=bu.mp hx;exact h2 p hp
    simpa using this
   obtain⟨lR,hV,h3,h4⟩:=Qo (A0:=some (.al,.lst (ns.map .int))) (A4:=some (.bo,.lst (aF kp))) (A5:=o5) hr q rest hs (by omega)
   refine⟨_,_,rfl,h4,lR,hV,_,rfl,?_,?_⟩
   ·rcases h3 with rfl|⟨c,rfl⟩
    ·exact h1
    ·rw[List.map_append,List.nodup_append]
     refine⟨h1,by simp,fun a ha b hb=>?_⟩
     obtain⟨p,hp,rfl⟩:=bu.mp ha
     have:=h2 p hp
     have hb:b=i:=by simpa using hb
     omega
   ·rcases h3 with rfl|⟨c,rfl⟩
    ·exact fun p hp=>Nat.lt_succ_of_lt (h2 p hp)
    ·intro p hp
     rcases cU.mp hp with z|z
     ·exact Nat.lt_succ_of_lt (h2 p z)
     ·have:p=(i,c):=by simpa using z
      rw[this];exact Nat.lt_succ_self i)
 subst Ay
 rw[ik]at ou
 refine⟨kp,hs,?_,by omega,AI,ou⟩
 unfold tF fn Ca
 simp only[cg,a7,bD]
 rw[aw (e':=[some (.al,.lst (ns.map .int)),some (.al,.lst (rs.map Row.d)),some (.al,ak q),some (.fr,.int x1),none,none,none,none]) (by
  simp -implicitDefEqProofs only [av,ay,ae,ah,jV,jC,gz,gy,id_eq,oq,mq,mn,e1,fI,tz,tq])]
 rw[aw (e':=[some (.al,.lst (ns.map .int)),some (.al,.lst (rs.map Row.d)),some (.al,ak q),some (.fr,.int x1),some (.bo,.lst (aF [])),none,none,none]) rfl]
 rw[aw (e':=[some (.al,.lst (ns.map .int)),some (.al,.lst (rs.map Row.d)),some (.al,ak q),some (.fr,.int rest),some (.bo,.lst (aF kp)),o5,none,none]) (by
  simp -implicitDefEqProofs only [bf,bQ,ay,ae,ah,jV,gz,gy,id_eq,oq,mq,mn,e3,b8,oy]
  exact l1)]
 rw[aw (e':=[some (.al,.lst (ns.map .int)),some (.al,.lst (rs.map Row.d)),some (.al,ak q),some (.fr,.int x2),some (.bo,.lst (aF kp)),o5,none,none]) (by
  simp -implicitDefEqProofs only [av,ay,ae,ah,jV,jC,gz,gy,id_eq,oq,mq,mn,e2,fI,tz,tq])]
 rw[aw (e':=[some (.al,.lst (ns.map .int)),some (.al,.lst (rs.map Row.d)),some (.al,ak q),some (.fr,.int x2),some (.bo,.lst (aF kp)),o5,some (.bo,.lst (ck [])),none]) rfl]
 rw[aw (e':=[some (.al,.lst (ns.map .int)),some (.al,.lst (rs.map Row.d)),some (.al,ak q),some (.fr,.int Vc),some (.bo,.lst (aF kp)),o5,some (.bo,.lst (ck hs)),o7]) (by
  simp -implicitDefEqProofs only [bf,bN,aI,ae,ah,jV,gz,gy,id_eq,oq,cT,ln,b0,and_self,if_true,ht]
  exact l2)]
 rfl
theorem Vd(ns:List Int):(J.cut ns (some 2) (some 18)).length≤40:=by
 unfold J.cut
 rw[List.length_take]
 refine bP (Nat.min_le_left _ _) ?_
 have h1:HT.aW ns.length ns.length (some 18)≤18:=by
  unfold HT.aW;simp;omega
 omega
theorem Qp{v x:Int}{L:Nat}(h:x∈J.cut [v] none (some (L:Int))):x=v∧0<L:=by
 cases L with
 |zero =>
  exfalso
  unfold J.cut at h
  have:HT.aW ([v]:List Int).length ([v]:List Int).length (some ((0:Nat):Int))=0:=by unfold HT.aW;simp
  rw[this]at h
  simp at h
 |succ L =>
  refine⟨?_,Nat.succ_pos L⟩
  unfold J.cut at h
  have:=List.mem_of_mem_drop (List.mem_of_mem_take h)
  simpa using this
theorem Ve{rs:List Row}(g:Good rs)(hl:rs.length≤300)(ns:List Int){k:Nat}(hk:k<(kn rs).length)(o4 o5 o6 o7 o8:Option (M×D)) :
  ∃p4 p5 p6 p7 p8,ui [some (.al,.lst (ns.map .int)),some (.bo,.lst (rs.map Row.d)),some (.bo,.lst ((kn rs).map ak)),some (.fr,.int (k:Int)),o4,o5,o6,o7,o8]=some (.nx [some (.al,.lst (ns.map .int)),some (.bo,.lst (rs.map Row.d)),some (.bo,.lst ((kn rs).map ak)),some (.fr,.int (k:Int)),p4,p5,p6,p7,p8]):=by
 have hq:(kn rs)[k]?=some ((kn rs)[k]'hk):=by simp
 generalize (kn rs)[k]'hk=q at hq
 have Bs:L2.bB ((kn rs).map ak) (k:Int)=some (ak q):=by
  rw[J.lD (by simpa using hk),List.getElem_map,(bO.mp hq).2]
 obtain⟨kp,hs,e1,mP,dg,aU⟩:=NW hl ns q
 have e2:=Ft g hl q (kp:=kp) dg
 have e3:=Ew g hl hq mP dg aU
 have e4:=Ft g hl q (kp:=[]) dg
 have e5:=Ew g hl hq (kp:=[]) (by simp) dg aU
 generalize (a9 rs rs.length).filter (fH rs q kp hs)=A at e2 e3
 generalize (a9 rs rs.length).filter (fH rs q [] hs)=B at e4 e5
 have hA:∀m n:M,eR (m,.lst (aF A)) (n,.lst (aF A))=some (.fr,.bl false):=fun m n=>Fh (C4 A) (C5 A)
 have hB:∀m n:M,eR (m,.lst (aF B)) (n,.lst (aF B))=some (.fr,.bl false):=fun m n=>Fh (C4 B) (C5 B)
 have hi:lY [(M.bo,.lst (aF A)),(.fr,.ty "list")]=some (.fr,.bl true):=rfl
 refine⟨some (.fr,ak q),some (.fr,aX kp hs),some (.bo,.lst (aF A)),some (.bo,.lst []),some (.fr,aX [] hs),?_⟩
 unfold ui
 rw[aw (e':=[some (.al,.lst (ns.map .int)),some (.bo,.lst (rs.map Row.d)),some (.bo,.lst ((kn rs).map ak)),some (.fr,.int (k:Int)),some (.fr,ak q),o5,o6,o7,o8]) (by
  simp -implicitDefEqProofs only [av,ag,jV,gz,gy,id_eq,oq,dq,Bs,oy,yu,fI,tz,tq])]
 rw[aw (e':=[some (.al,.lst (ns.map .int)),some (.bo,.lst (rs.map Row.d)),some (.bo,.lst ((kn rs).map ak)),some (.fr,.int (k:Int)),some (.fr,ak q),some (.fr,aX kp hs),o6,o7,o8]) (by
  simp -implicitDefEqProofs only [av,ay,ae,ah,jV,gz,gy,id_eq,oq,mq,mn,e1,fI,tz,tq])]
 rw[aw (e':=[some (.al,.lst (ns.map .int)),some (.bo,.lst (rs.map Row.d)),some (.bo,.lst ((kn rs).map ak)),some (.fr,.int (k:Int)),some (.fr,ak q),some (.fr,aX kp hs),some (.bo,.lst (aF A)),o7,o8]) (by
  simp -implicitDefEqProofs only [av,ay,ae,ah,jV,gz,gy,id_eq,oq,mq,mn,e2,gb,tz,tq])]
 rw[aw (e':=[some (.al,.lst (ns.map .int)),some (.bo,.lst (rs.map Row.d)),some (.bo,.lst ((kn rs).map ak)),some (.fr,.int (k:Int)),some (.fr,ak q),some (.fr,aX kp hs),some (.bo,.lst (aF A)),some (.bo,.lst (aF A)),o8]) (by
  simp -implicitDefEqProofs only [av,ay,ae,ah,jV,gz,gy,id_eq,oq,mq,mn,e3,gb,tz,tq])]
 rw[aw (e':=[some (.al,.lst (ns.map .int)),some (.bo,.lst (rs.map Row.d)),some (.bo,.lst ((kn rs).map ak)),some (.fr,.int (k:Int)),some (.fr,ak q),some (.fr,aX kp hs),some (.bo,.lst (aF A)),some (.bo,.lst (aF A)),o8]) (by
  rw[bL (by
   simp -implicitDefEqProofs only [cW,g7,jB,aI,ae,ah,ag,jV,jC,gz,gy,id_eq,oq,hi,bh,oy,Bool.not_true,Bool.false_eq_true,if_false,hA])]
  rfl)]
 rw[aw (e':=[some (.al,.lst (ns.map .int)),some (.bo,.lst (rs.map Row.d)),some (.bo,.lst ((kn rs).map ak)),some (.fr,.int (k:Int)),some (.fr,ak q),some (.fr,aX kp hs),some (.bo,.lst (aF A)),some (.bo,.lst []),o8]) rfl]
 rw[aw (e':=[some (.al,.lst (ns.map .int)),some (.bo,.lst (rs.map Row.d)),some (.bo,.lst ((kn rs).map ak)),some (.fr,.int (k:Int)),some (.fr,ak q),some (.fr,aX kp hs),some (.bo,.lst (aF A)),some (.bo,.lst []),some (.fr,aX [] hs)]) rfl]
 rw[bL (by
  simp -implicitDefEqProofs only [cW,jB,ay,ae,ah,ag,jV,gz,gy,id_eq,oq,mq,mn,e5,e4,hB,e3,hA,bh,Bool.false_eq_true,if_false])]
 rfl
theorem NX(ns:List Int)(hn:ns.length≤63):∃m,uW [.lst (ns.map .int)]=some (m,.bl true):=by
 obtain⟨rs,e1,g,l1⟩:=K6 ns (J.cut ns (some 2) (some 18)) (Vd ns)
 have e2:=NQ (rs:=rs) (by omega)
 obtain⟨c,e3⟩:=ke ns 0 (by omega)
 obtain⟨x,e4⟩:=kc c 8
 have em:tJ [.lst (ns.map .int)]=some (.un,.lst (rs.map Row.d)):=by
  unfold tJ fn Cy
  simp only[cg,a7,bD]
  simp -implicitDefEqProofs only [aK,ay,ae,ah,fE,eZ,jV,jC,gz,gy,id_eq,oq,jD,oy,yd,mq,mn,e1,ux]
 have rV:(if ((kn rs).length:Int)>1 then ((kn rs).length:Int)else 1)>0:=by split<;>omega
 generalize hM:(if ((kn rs).length:Int)>1 then ((kn rs).length:Int)else 1)=M' at rV
 have J4:=Int.emod_nonneg x (show M'≠0 by omega)
 have Ic:=Int.emod_lt_of_pos x rV
 have aU:0<(kn rs).length→x%M'<(kn rs).length:=fun h=>by
  have:M'≤(kn rs).length:=by rw[←hM];split<;>omega
  omega
 generalize hv:x%M'=v at J4 aU
 obtain⟨e',l2,o3,o4,o5,o6,o7,o8,he⟩:=dI (g:=gN 3) (b:=ui) (m:=.fr) (ds:=(J.cut [v] none (some ((kn rs).length:Int))).map D.int) (e:=[some (.al,.lst (ns.map .int)),some (.bo,.lst (rs.map Row.d)),some (.bo,.lst ((kn rs).map ak)),none,none,none,none,none,none])
  (fun _ e=>∃o3 o4 o5 o6 o7 o8,e=[some (.al,.lst (ns.map .int)),some (.bo,.lst (rs.map Row.d)),some (.bo,.lst ((kn rs).map ak)),o3,o4,o5,o6,o7,o8]) ⟨none,none,none,none,none,none,rfl⟩
  (fun i d e hd bz=>by
   obtain⟨o3,o4,o5,o6,o7,o8,he⟩:=bz
   subst he
   obtain⟨y,hy,rfl⟩:=bu.mp (fm hd)
   obtain⟨rfl,hL⟩:=Qp hy
   have:=aU hL
   obtain⟨p4,p5,p6,p7,p8,hb⟩:=Ve g (by omega) ns (k:=y.toNat) (by omega) o4 o5 o6 o7 o8
   rw[Int.toNat_of_nonneg J4]at hb
   exact⟨_,_,rfl,hb,_,_,_,_,_,_,rfl⟩)
 subst he
 refine⟨.fr,?_⟩
 unfold uW fn F2
 simp only[cg,a7,bD]
 rw[aw (e':=[some (.al,.lst (ns.map .int)),some (.bo,.lst (rs.map Row.d)),none,none,none,none,none,none,none]) (by
  simp -implicitDefEqProofs only [av,ay,ae,ah,jV,gz,gy,id_eq,oq,mq,mn,em,gb,tz,tq])]
 rw[aw (e':=[some (.al,.lst (ns.map .int)),some (.bo,.lst (rs.map Row.d)),some (.bo,.lst ((kn rs).map ak)),none,none,none,none,none,none]) (by
  simp -implicitDefEqProofs only [av,ay,ae,ah,jV,gz,gy,id_eq,oq,mq,mn,e2,gb,tz,tq])]
 rw[aw (e':=[some (.al,.lst (ns.map .int)),some (.bo,.lst (rs.map Row.d)),some (.bo,.lst ((kn rs).map ak)),o3,o4,o5,o6,o7,o8]) (by
  have V9:lV [(M.fr,.int 1),(.fr,.int ((kn rs).length:Int))]=some (.fr,.int M'):=by rw[←hM];rfl
  have Yo:aR (M.fr,.int x) (.fr,.int M')=some (.fr,.int v):=by rw[←hv];exact iV (by omega)
  have Yp:c9 [(M.fr,D.int v)]=some (.un,.lst ([v].map D.int)):=by simp[c9,cf,vV]
  simp -implicitDefEqProofs only [bf,bQ,fE,bp,gi,eZ,ag,ay,aI,ae,ah,jV,jC,gz,gy,id_eq,oq,mq,mn,e3,e4,cT,ln,V9,Yo]
  rw[Yp,oq]
  simp -implicitDefEqProofs only [jD,oy,oq,yd,b8]
  exact l2)]
 rfl
end aN
namespace aN
open PySem PySem.Spec L2 My J
theorem walk {l:PySem.W.OpenLaw}{q:Program}{loose:List Str}{XP:(Str→Option Value)→Heap→Prop}{YP:World→Heap→Prop}{d:DefRec}{K:Params→PySem.W.Frag} (hn:l.most=some 63) (qN:d.params.defaults=[]) (hd:d.name = "law")
  (hY:∀(w:World) (h:Heap),YP w h→(K w.params).In h) (F:∀(w:World),C.wo (K w.params) vt∧C.wq (K w.params) bs∧C.wt (K w.params) gs) :
  PySem.W.WalkO q loose XP YP l.row.toRowW d [] (fun f vs=>PySem.call f vs) :=
 L2.Oo (n:=63) (k:=7) (x := "_law_script") (CX:=fun _=>jX) (sp:=fun w=>mD (K w.params) 1 uW) hn (by decide) qN ⟨rfl,by decide,by decide⟩ hY (fun w mg fa h X G Bb=>C.Um X G (hd▸Bb) (F w).2.1 (F w).2.2 (F w).1 ba ok X2 fun _ _ _ _ _ _ _ _=>.of_eq rfl) (fun _ _ a ns hl _ hS=>RW hS (NX ns hl)) fun _ _ _ _ _ z=>z
end aN
namespace PySem.W.Fast
def tw17200546337874439524:=0
def tw4556653433046499370:=0
def tw8579815296280995657:=0
def tw10590845683929063857:=0
def tw2419328002582058456:=0
def tw17917219145274181933:=0
def tw5003779391657661241:=0
def tw1621636063103593651:=0
def tw17484935886047469262:=0
def tw7380273716048390162:=0
def tw2659057544508496293:=0
def tw8209657226584347045:=0
def tw8581112936838924608:=0
def tw14608641247080834294:=0
def tw9778236169800862240:=0
def tw9483485275730416889:=0
def tw8918379583774701883:=0
def tw17246572511832924255:=0
def tw7744113587892278783:=0
def tw3570015653290153823:=0
def tw9561691956265872194:=0
def tw13333968094146637048:=0
def tw1312459373661395337:=0
def tw3989431410385494617:=0
def tw4914848946049321767:=0
def tw2491064371495179840:=0
def tw13417093831275521585:=0
def tw3450045571499431777:=0
def tw882962801002303384:=0
def tw17680481886166972391:=0
def tw3281184568496141060:=0
def tw4023486499981817648:=0
def tw8481652567217976802:=0
def tw2303439727575608825:=0
def tw10461202712687682682:=0
def tw8985707304881014571:=0
def tw2826683784065681032:=0
def tw10749749118630482056:=0
def tw10584321798861988883:=0
def tw4534629254764449958:=0
def tw9698819143324084872:=0
def tw17631742212457675294:=0
def tw13340857548032670894:=0
def tw1439035185366315206:=0
def tw18387171296607370329:=0
def tw17390007181259078758:=0
def tw5261044448566851691:=0
def tw17704113783166088256:=0
def tw992359559514253631:=0
def tw13514951866036452742:=0
def tw12751095369641139813:=0
def tw1472149928237154139:=0
def tw2163553642205518161:=0
def tw15637119531032460248:=0
def tw10753390423066741512:=0
def tw8409995407675398752:=0
def tw14149344449717641113:=0
def tw9505498801290880520:=0
def tw333160337446701134:=0
def tw14156973285296433976:=0
def tw4398305711578210113:=0
def tw11353883408095133092:=0
def tw11064829388817753209:=0
def tw733947545210572080:=0
def tw14760262104351403193:=0
def tw3530451960145135844:=0
def tw16314346490685926993:=0
def tw6735589462675213475:=0
def tw8683825121566811566:=0
def tw12709017134384818961:=0
def tw13039341448024424138:=0
def tw15402487142029256701:=0
def tw4495846099923115605:=0
def tw11752892755830384236:=0
def tw9822663259356899773:=0
def tw2710156108838854072:=0
def tw16852047659750587007:=0
def tw9704742296851054167:=0
def tw5513375154840033273:=0
def tw16777669975906176971:=0
def tw9178743410504816777:=0
def tw6713573590165529729:=0
def tw11902485702916763170:=0
def tw14870453427170613586:=0
def tw7952972878234646239:=0
def tw14469944122069401984:=0
def tw17845726894454605759:=0
def tw576838408740785487:=0
def tw13311042426405449818:=0
def tw10023052670913123380:=0
def tw11603524971468690065:=0
def tw10343402850500546268:=0
def tw481408069117342527:=0
def tw6314909074665594630:=0
def tw10393121601641957965:=0
def tw15481724928916760903:=0
def tw14239846764072365814:=0
def tw4206946764609300468:=0
def tw6663780436240735385:=0
def tw5232653797182970518:=0
def tw742704400487465507:=0
def tw6205228937895693866:=0
def tw11345789543272853964:=0
def tw17841380985801266299:=0
def tw9649362139265468757:=0
def tw3664790212771993918:=0
def tw16241716917048144556:=0
def tw13192936174131484724:=0
def tw1916598971079313404:=0
def tw6739076031858240286:=0
def tw7984710268485360261:=0
def tw14506227961121407312:=0
def tw9808413084283843262:=0
def tw844341920138879998:=0
def tw13545399690007152027:=0
def tw8989296389436136927:=0
def tw8076563910671668791:=0
def tw8400571495943628493:=0
def tw13384566650039579526:=0
def tw16280512248757699297:=0
def tw10930489423427756165:=0
def tw3320151826565598519:=0
def tw16385899068350848306:=0
def tw5219589373530750533:=0
def tw2968879944658573843:=0
def tw12842959305216469450:=0
def tw14473463309675526511:=0
def tw11208724312808283176:=0
def tw11433701176195828243:=0
def tw15245634920431816281:=0
def tw8027960181836767404:=0
def tw7412541305786768772:=0
def tw7075047442471269420:=0
def tw12341691075322784357:=0
def tw15731777408257118832:=0
def tw17883049812212722767:=0
def tw1903721427785884463:=0
def tw1684849400609219816:=0
def tw16725874590309683763:=0
def tw16687945599332374362:=0
def tw9503720619405082977:=0
def tw5228878823570607778:=0
def tw3202841912581663875:=0
def tw1946608223836190760:=0
def tw3939911503364103463:=0
def tw15761750797053778582:=0
def tw4887483009346641372:=0
def tw13615994140919319207:=0
def tw12942016551021190143:=0
def tw5469730716038772500:=0
def tw5195103358499538382:=0
def tw5309942266039470462:=0
def tw16904059626436544564:=0
def tw17056042079733950426:=0
def tw339811965899174211:=0
def tw16882583118328027547:=0
def tw10136363620152815677:=0
def tw6010703513358643192:=0
def tw17722906317800621849:=0
end PySem.W.Fast
open PySem PySem.W PyProof.Rows
set_option maxRecDepth 100000 in
set_option maxHeartbeats 0 in
theorem PySem.Challenge.cw_lazyhoist_k42_live_holds : PySem.Challenge.rw_lazyhoist_k42_live.Holds := by
  w_on; o_law; k_head; (case hw => w_witness2)
  k_fill
  refine aN.walk (l := PySem.Challenge.rw_lazyhoist_k42_live) rfl rfl rfl (fun w h Y => PySem.W.kIn_of Y) ?F
  case F =>
    intro w
    refine ⟨⟨(?_:C.DE _ "law" (aN.top 45)), (?_:C.DE _ "_law_due" (aN.top 44)), (?_:C.DE _ "_law_asks" (aN.top 43)), (?_:C.DE _ "_law_sheet" (aN.top 42)), (?_:C.DE _ "_law_made" (aN.top 41)), (?_:C.DE _ "_law_known" (aN.top 40)), (?_:C.DE _ "_law_changes" (aN.top 39)), (?_:C.DE _ "_law_has" (aN.top 38)), (?_:C.DE _ "_law_places" (aN.top 37)), (?_:C.DE _ "_law_program" (aN.top 35)), (?_:C.DE _ "_law_any_program" (aN.top 34)), (?_:C.DE _ "_law_mended" (aN.top 33)), (?_:C.DE _ "_law_comes_to" (aN.top 32)), (?_:C.DE _ "_law_followers" (aN.top 36)), (?_:C.DE _ "_law_any_row" (aN.top 31)), (?_:C.DE _ "_law_stairs" (aN.top 30)), (?_:C.DE _ "_law_with_else" (aN.top 29)), (?_:C.DE _ "_law_with_while" (aN.top 28)), (?_:C.DE _ "_law_goal" (aN.top 27)), (?_:C.DE _ "_law_rough" (aN.top 25)), (?_:C.DE _ "_law_number" (aN.top 26)), (?_:C.DE _ "_law_last" (aN.top 24)), (?_:C.DE _ "_law_row" (aN.top 23)), (?_:C.DE _ "_law_deeds" (aN.top 22)), (?_:C.DE _ "_law_operand" (aN.top 21)), (?_:C.DE _ "_law_names" (aN.top 20)), (?_:C.DE _ "_law_is_free" (aN.top 19)), (?_:C.DE _ "_law_mixed" (aN.top 18)), (?_:C.DE _ "_law_cell" (aN.top 17)), (?_:C.DE _ "live" (aN.top 13)), (?_:C.DE _ "live_rows" (aN.top 14)), (?_:C.DE _ "steps_unput" (aN.top 15)), (?_:C.DE _ "truths_of" (aN.top 10)), (?_:C.DE _ "turned" (aN.top 11)), (?_:C.DE _ "reached" (aN.top 9)), (?_:C.DE _ "truths_of" (aN.top 10)), (?_:C.DE _ "reckonings" (aN.top 8)), (?_:C.DE _ "places" (aN.top 7)), (?_:C.DE _ "all_followers" (aN.top 6)), (?_:C.DE _ "followers" (aN.top 5)), (?_:C.DE _ "changes" (aN.top 3)), (?_:C.DE _ "sets" (aN.top 2)), (?_:C.DE _ "reckoning_of" (aN.top 1)), trivial⟩, ⟨?Yq, ?Yr, ?Ys, ?Yt, ?Yu, ?Yv, ?Yw, ?Yx, ?Yy, ?Yz, trivial⟩, trivial⟩
    iterate 43 (refine' C.VP ?a ?l ?c ?k; (case a => k_is); (case l => k_is); (case c => k_is); (case k => k_is))
    case Yq => (show PySem.W.nsIn _ mainGlobals "dict" = some none); k_is
    case Yr => (show PySem.W.nsIn _ mainGlobals "enumerate" = some none); k_is
    case Ys => (show PySem.W.nsIn _ mainGlobals "int" = some none); k_is
    case Yt => (show PySem.W.nsIn _ mainGlobals "isinstance" = some none); k_is
    case Yu => (show PySem.W.nsIn _ mainGlobals "len" = some none); k_is
    case Yv => (show PySem.W.nsIn _ mainGlobals "list" = some none); k_is
    case Yw => (show PySem.W.nsIn _ mainGlobals "max" = some none); k_is
    case Yx => (show PySem.W.nsIn _ mainGlobals "range" = some none); k_is
    case Yy => (show PySem.W.nsIn _ mainGlobals "sum" = some none); k_is
    case Yz => (show PySem.W.nsIn _ mainGlobals "tuple" = some none); k_is
