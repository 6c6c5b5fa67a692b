import PyProof.Rows.All
import Wide.All
import OpenK.AllK
import Wide.FinOn
import Lean
import PyProof.EqAt
import PyProof.EqKinds
import PyProof.TupleCall
import PySem.Challenge.RW_lazyhoist_k15_texts_refused
set_option bootstrap.genMatcherCode false
set_option genSizeOf false
set_option tactic.hygienic false
set_option Elab.async false
set_option linter.all false
set_option maxRecDepth 100000
noncomputable section
def ak:=@PySem.wpAny_bind
def aA:=@of_decide_eq_true
def aH:=@PySem.wpAny_pure
def aQ:=@Nat.le_trans
def aU:=@Bool.false_ne_true
def aV:=@PySem.Heap.lt_size
def a7:=@Nat.le_refl
def bC:=@List.mem_cons_self
def bF:=@decide_eq_false
def bN:=@List.length_append
def bP:=@PySem.wpAny_mono
def bQ:=@PySem.Heap.get?_push_of_some
def bR:=@decide_eq_true
def bX:=@congrArg
def bY:=@List.all_eq_true
def b6:=@List.mem_cons_of_mem
def b7:=@List.length_cons
def cH:=@List.mem_cons
def cO:=@Nat.ne_of_lt
def cP:=@List.getElem?_set_ne
def cX:=@List.mem_map
def cY:=@Int.emod_nonneg
def dq:=@Ne.symm
def dr:=@Int.emod_lt_of_pos
def dF:=@Nat.lt_of_lt_of_le
def dG:=@PySem.W.kia_one
def dX:=@PySem.Heap.get?_push_size
def dY:=@List.size_toArray
def eR:=@Option.some.inj
def eU:=@List.lookup_cons
def fD:=@PySem.Paired.length
def fE:=@List.mem_of_getElem?
def fF:=@List.map_map
def gH:=@List.nodup_cons
def gJ:=@List.map_cons
def gK:=@List.isEmpty_iff
def ic:=@List.mem_append
def ig:=@List.getElem?_eq_some_iff
def ik:=@PySem.wpAny_holding
def il:=@List.mem_append_right
def ip:=@List.append_nil
def iq:=@List.length_map
def iP:=@Nat.lt_irrefl
def iQ:=@PySem.wpAny_truthy_bool
def iR:=@List.getElem?_eq_getElem
def jy:=@List.getElem?_map
def jz:=@PySem.wpAny_field
def jA:=@Bool.and_eq_true
def kg:=@List.length_take
def kh:=@PySem.mem_of_lookup
def kj:=@Nat.zero_le
def kl:=@List.map_append
def lM:=@List.mem_filter
def lN:=@List.mem_range
def lO:=@PySem.wpAny_standAt
def lP:=@List.all_cons
def lQ:=@Nat.lt_of_le_of_lt
def nI:=@PySem.wpAny_execs_nil
def nJ:=@PyProof.Rows.slot_tuple_getitem
def nK:=@PySem.wpAny_newObj_type
def nL:=@List.length_set
def nM:=@Nat.le_of_eq
def nP:=@PySem.W.mg_of
def qb:=@PySem.wpAny_passesOwn
def qc:=@PySem.sizeLine_eq
def qd:=@PySem.wpAny_Call_Name_kw
def qe:=@List.length_replicate
def qf:=@PySem.Heap.get?_update_self
def qg:=@List.replicate_succ
def qh:=@PySem.Obj.data_mapFields
def qi:=@List.eq_of_mem_replicate
def tU:=@PySem.typeIs_none
def tV:=@PySem.F.slot_NoneType_hash
def tW:=@List.filterMap_cons
def tX:=@Bool.false_and
def tY:=@Bool.eq_iff_iff
def tZ:=@List.getElem?_append_left
def t7:=@PySem.concat_meets
def t8:=@List.any_cons
def t9:=@List.flatten_cons
def ua:=@PySem.wpAny_getItem_str_slice
def ub:=@PySem.post_val_or_str
def uc:=@PySem.Txt.slice_le
def ud:=@Option.bind_some
def uf:=@List.any_eq_true
def ug:=@decide_eq_true_eq
def yy:=@PySem.wpAny_call_entry
def yz:=@List.mem_append_left
def yA:=@PyProof.Rows.callWith_type1
def yB:=@PySem.Calls.spliced_cons
def yC:=@List.of_mem_zip
def yD:=@List.getElem?_replicate
def yE:=@PySem.noFill_tuple_add
def yF:=@PySem.F.slot_tuple_add
def yG:=@PySem.F.entry_tuple_add
def yH:=@PySem.F.args_tuple_add_2
def yI:=@List.getD_eq_getElem?_getD
def yJ:=@Array.getElem?_eq_some_iff
def yK:=@List.cons_append
def yL:=@Nat.lt_or_ge
def yM:=@List.getElem?_eq_none
def yN:=@List.drop_length
def yO:=@List.cons.inj
def yP:=@List.map_congr_left
def yQ:=@List.length_filter_le
def F7:=@List.drop_eq_getElem_cons
namespace L2
open PySem PySem.Spec PyProof.Rows
inductive Key where|inl (i:Int)|inr (x:Str)|non
 deriving DecidableEq
noncomputable def D7:Value→Bool
 |.none=>true
 |_=>false
theorem Mq{v:Value}(h:D7 v=true):v=.none:=by cases v<;>first|rfl|cases h
def m5:Key→Value→Bool
 |.inl k,v=>Value.isInt k v
 |.inr x,v=>Value.isStrOf x v
 |.non,v=>D7 v
noncomputable def Ua(w:World):Key→Int
 |.inl k=>hashInt k
 |.inr x=>hashStr w x
 |.non=>4238894112
theorem jc:∀{k:Key}{v:Value},m5 k v=true→(∃i t,k=.inl i∧v=Value.int i t)∨(∃x t,k=.inr x∧v=Value.str x t)∨(k=.non∧v=.none)
 |.inl i,v,h=>by
  obtain⟨t,e⟩:=Value.isInt_shape (k:=i) (v:=v) h;exact .inl ⟨i,t,rfl,e⟩
 |.inr x,v,h=>by
  obtain⟨t,e⟩:=Value.isStrOf_shape (x:=x) (v:=v) h;exact .inr (.inl ⟨x,t,rfl,e⟩)
 |.non,v,h=>.inr (.inr ⟨rfl,Mq h⟩)
theorem K7(i:Int)(t:Tok):m5 (.inl i) (.int i t)=true:=by simp[m5,Value.isInt]
theorem K8(x:Str)(t:Tok):m5 (.inr x) (.str x t)=true:=by simp[m5,Value.isStrOf]
theorem PK(a b:Int):decide ((Key.inl a:Key)=.inl b)=(a==b):=by
 by_cases e:a=b
 ·subst e;simp
 ·rw[bF λq=>e (Key.inl.inj q)];exact(beq_eq_false_iff_ne.mpr e).symm
theorem PL(a b:Str):decide ((Key.inr a:Key)=.inr b)=decide (a=b):=by
 by_cases e:a=b
 ·subst e;simp
 ·rw[bF λq=>e (Key.inr.inj q),bF e]
theorem K9{prog:Program}{w:World}{A:Around}{E:Value→Shared→Prop}{s:Shared}{Q:Int→Shared→Prop}(h:Q 4238894112 { s with toks:=s.toks+1 }):wpAny (model prog w) A (PySem.pyHash .none) Q E s:=by
 unfold PySem.pyHash;have hv:[Value.none].any Value.onHeap=false:=rfl;refine ak ?_;rw[cRoomFor,if_neg (by rw[hv];exact aU)];refine aH ?_;refine ak (wpAny_specialOf (tU s) tV.lookup ?_);show wpAny _ _ (if (some (Value.builtin "NoneType.__hash__")==some Value.none)=true then _ else _) Q E s;rw[if_neg (by rw[beq_builtin_none];exact aU)];refine ak (wpAny_specialOf (tU s) tV.lookup ?_);show wpAny _ _ (callSpecialIfBoundUnlessNone? .none "__hash__" _ >>= _) Q E s;refine ak (wpAny_callSpecialIfBoundUnlessNone?_slot (tU s) tV
  (yy tV (tU s) PySem.F.entry_NoneType_hash
   (show wpAny _ _ (do ret (←mkInt 4238894112)) _ _ s from wpAny_ret_mkInt ?_) (PySem.F.args_NoneType_hash_1 _)))
 exact aH h
def gu(prog:Program)(w:World):PySem.KeyKind prog w Key where
 is:=m5
 hash:=Ua w
 inj:=λv a b ha hb=>by
  rcases jc ha with⟨i,t,rfl,rfl⟩|⟨x,t,rfl,rfl⟩|⟨rfl,rfl⟩<;>rcases jc hb with⟨j,u,rfl,e⟩|⟨y,u,rfl,e⟩|⟨rfl,e⟩<;>first|rfl | (injection e with e1 _;rw[e1];done) | (cases e;done)
 byValue:=λk v h=>by
  rcases jc h with⟨i,t,rfl,rfl⟩|⟨x,t,rfl,rfl⟩|⟨rfl,rfl⟩<;>rfl
 pyHash:=λhv h=>by
  rcases jc hv with⟨i,t,rfl,rfl⟩|⟨x,t,rfl,rfl⟩|⟨rfl,rfl⟩
  ·exact wpAny_pyHash_int h
  ·exact wpAny_pyHash_str h
  ·exact K9 h
 eqBool:=λhu hv h=>by
  rcases jc hu with⟨i,t,rfl,rfl⟩|⟨x,t,rfl,rfl⟩|⟨rfl,rfl⟩
  ·rcases jc hv with⟨j,u,rfl,rfl⟩|⟨y,u,rfl,rfl⟩|⟨rfl,rfl⟩
   ·rw[PK]at h;exact wpAny_eqBool_int h
   ·exact SeqAt.EqAt.int_str i t y u _ _ _ _ h
   ·exact SeqAt.EqAt.int_none i t _ _ _ _ h
  ·rcases jc hv with⟨j,u,rfl,rfl⟩|⟨y,u,rfl,rfl⟩|⟨rfl,rfl⟩
   ·exact SeqAt.EqAt.str_int x t j u _ _ _ _ h
   ·rw[PL]at h;exact wpAny_eqBool_str h
   ·exact SeqAt.EqAt.str_none x t _ _ _ _ h
  ·rcases jc hv with⟨j,u,rfl,rfl⟩|⟨y,u,rfl,rfl⟩|⟨rfl,rfl⟩
   ·exact SeqAt.EqAt.none_int j u _ _ _ _ h
   ·exact SeqAt.EqAt.none_str y u _ _ _ _ h
   ·exact SeqAt.EqAt.same .none _ _ _ _ h
 «strs»:=λk x t v h=>by
  rcases jc h with⟨i,u,rfl,e⟩|⟨y,u,rfl,e⟩|⟨rfl,e⟩
  ·exact nomatch e
  ·injection e with e1 _;subst e1;cases v<;>rfl
  ·exact nomatch e
theorem JH(prog:Program)(w:World)(i:Int)(t:Tok):(gu prog w).is (.inl i) (.int i t)=true:=K7 i t
theorem JM(prog:Program)(w:World)(x:Str)(t:Tok):(gu prog w).is (.inr x) (.str x t)=true:=K8 x t
theorem JN(prog:Program)(w:World):(gu prog w).is .non .none=true:=rfl
inductive V where
 |non|bl (b:Bool)|int (i:Int)|str (x:Str)|dZ (b:Array UInt8)|nQ (b:UInt64)|ref (a:Addr)|ty (n:String)
 deriving DecidableEq
noncomputable def RelV:V→Value→Prop
 |.non,u=>u=Value.none
 |.bl b,u=>u=Value.bool b
 |.int i,u=>∃t,u=Value.int i t
 |.str x,u=>∃t,u=Value.str x t
 |.dZ b,u=>∃t,u=Value.bytes b t
 |.nQ b,u=>∃t,u=Value.float b t
 |.ref a,u=>u=Value.ref a
 |.ty n,u=>u=Value.type n
abbrev Vals:List V→List Value→Prop:=Paired RelV
theorem Vals.length{xs:List V}{us:List Value}(r:Vals xs us):xs.length=us.length:=fD r
theorem Vals.get:∀{xs:List V}{us:List Value}{i:Nat}{x:V},Vals xs us→xs[i]?=some x→∃u,us[i]?=some u∧RelV x u
 |_,_,_,_,.nil,e=>by simp at e
 |_,_,0,_,.cons r _,e=>by simp at e;subst e;exact⟨_,rfl,r⟩
 |_,_,i+1,x,.cons _ t,e=>by
  obtain⟨u,h1,h2⟩:=Vals.get (i:=i) (x:=x) t (by simpa using e);exact⟨u,by simpa using h1,h2⟩
theorem Vals.set{x:V}{u:Value}(r:RelV x u):∀{xs:List V}{us:List Value} (i:Nat),Vals xs us→Vals (xs.set i x) (us.set i u)
 |_,_,_,.nil=>.nil
 |_,_,0,.cons _ t=>.cons r t
 |_,_,i+1,.cons q t=>.cons q (Vals.set r i t)
theorem Vals.append:∀{xs ys:List V}{us ws:List Value},Vals xs us→Vals ys ws→Vals (xs++ys) (us++ws)
 |_,_,_,_,.nil,s=>s
 |_,_,_,_,.cons r t,s=>.cons r (Vals.append t s)
theorem Vals.take:∀{xs:List V}{us:List Value} (n:Nat),Vals xs us→Vals (xs.take n) (us.take n)
 |_,_,0,_=>.nil
 |_,_,_+1,.nil=>.nil
 |_,_,n+1,.cons r t=>.cons r (Vals.take n t)
theorem Vals.drop:∀{xs:List V}{us:List Value} (n:Nat),Vals xs us→Vals (xs.drop n) (us.drop n)
 |_,_,0,r=>r
 |_,_,_+1,.nil=>.nil
 |_,_,n+1,.cons _ t=>Vals.drop n t
def dR:Option V→Option Value→Prop
 |some v,some u=>RelV v u
 |none,none=>True
 |_,_=>False
def KV{κ:Type}:List (κ×V)→List (κ×Value)→Prop:=Paired λ(p:κ×V) (q:κ×Value)=>p.1=q.1∧RelV p.2 q.2
noncomputable def kV:Key→V
 |.inl i=>.int i
 |.inr x=>.str x
 |.non=>.non
inductive HO where
 |lst (xs:List V)
 |tup (xs:List V)
 |dK (ai:List (Key×V))|dT (ai:List (List Key×V))
 |set (S:Int→Bool) (n:Nat)
 |ins (C dx:Addr) (fs:List (Str×V))
 |own (x:Addr)
 |xd (fs:List (Str×V))
 |met (f x:Addr)
 |cZ (lo hi:Int)
 |cQ (o:Obj) (u:HO)
 |lR (ps:Array Value)
 |ext (φ:Heap→Prop)
noncomputable abbrev Hp:=Addr→Option HO
noncomputable def upd(H:Hp)(a:Addr)(o:HO):Hp:=λb=>if b=a then some o else H b
theorem bD{H:Hp}{a:Addr}{o:HO}:upd H a o a=some o:=by unfold upd;rw[if_pos rfl]
theorem aK{H:Hp}{a b:Addr}{o:HO}(h:b≠a):upd H a o b=H b:=by unfold upd;rw[if_neg h]
theorem BP{H:Hp}{a:Addr}{o u:HO}:upd (upd H a o) a u=upd H a u:=by
 funext b;unfold upd;split<;>rfl
theorem cJ{H:Hp}{a b:Addr}{o:HO}(h:H a=some o)(h':H b=none):a≠b:=by
 intro e;subst e;rw[h]at h';cases h'
def lB(h:Heap)(a:Addr)(items:Array Value):Prop:=∃o,h.get? a=some o∧o.cls=.type "tuple" ∧ o.dict=none∧∃n,o.data=.seq items n
theorem lB.tup{h:Heap}{a:Addr}{items:Array Value}(q:lB h a items):IsTup h a items:=let ⟨o,h1,h2,_,h3⟩:=q;⟨o,h1,h2,h3⟩
theorem lB.new(h:Heap)(items:Array Value):lB (h.push { cls:=.type "tuple",data:=.seq items }) h.objs.size items:=⟨_,dX _ rfl,rfl,rfl,_,rfl⟩
section
variable (P:Program)(w:World)
def cL(H:Hp)(h:Heap)(a:Addr):HO→Prop
 |.lst xs=>xs.length≤sizeLine∧∃(its:List Value) (n:Nat),Vals xs its∧h.get? a=some { cls:=.type "list",data:=.seq its.toArray n }
 |.tup xs=>xs.length≤sizeLine∧∃its:List Value,Vals xs its∧lB h a its.toArray
 |.dK ai=>ai.length≤sizeLine∧(a==sysModules)=false∧∃vs,KV ai vs∧h.DictOf (gu P w) a vs
 |.dT ai=>ai.length≤sizeLine∧(a==sysModules)=false∧∃xs:List (List Key×Addr×Value),
  Paired (λ(p:List Key×V) (q:List Key×Addr×Value)=>p.1=q.1∧H q.2.1=some (.tup (p.1.map kV))∧RelV p.2 q.2.2) ai xs ∧
  ∃o es ep,h.get? a=some o∧o.ExactDict∧o.data=.dict es ep∧es.toList=xs.map (entryOfKey (tupleKind (gu P w)))∧(xs.map (·.1)).Nodup
 |.set S n=>h.SetOf (intKind P w) a S n
 |.ins C dx fs=>H dx=some (.own a)∧fs.length≤1000∧dx≠a∧h.get? a=some (PySem.W.instObj C dx) ∧
  ∃mA,h.Ns1 dx mA∧(∀f,dR (fs.lookup f) (mA f))∧PySem.Within mA (fs.map (·.1))
 |.own _=>∃o,h.get? a=some o
 |.xd fs=>∃mA,h.Ns1 a mA∧∀f,dR (fs.lookup f) (mA f)
 |.cZ lo hi=>∃t u v,h.get? a=some { cls:=.type "range",data:=.fields #[.int lo t,.int hi u,.int 1 v] }
 |.cQ o u=>h.get? a=some o∧cL H h a u
 |.lR ps=>h.get? a=some { cls:=.none,data:=.fields ps }
 |.met f x=>h.get? a=some (PySem.W.methodObj (.ref f) (.ref x))
 |.ext φ=>φ h∧(∃o,h.get? a=some o)∧∀h1 h2:Heap,φ h1→(∀o,h1.get? a=some o→h2.get? a=some o)→φ h2
def bK(H:Hp)(h:Heap):Prop:=∀a o,H a=some o→cL P w H h a o
end
section
variable {P:Program}{w:World}{H H':Hp}{h h':Heap}{a:Addr}{o:HO}
theorem cL.lt(x:cL P w H h a o):a<h.objs.size:=by
 cases o with
 |lst xs=>obtain⟨_,_,_,_,e⟩:=x;exact aV e
 |tup xs=>obtain⟨_,_,_,p⟩:=x;exact p.tup.lt
 |dK ai=>obtain⟨_,_,_,_,o,_,_,e,_⟩:=x;exact aV e
 |dT ai=>obtain⟨_,_,_,_,o,_,_,e,_⟩:=x;exact aV e
 |set S n=>obtain⟨o,_,_,_,e,_⟩:=x;exact aV e
 |ins C dx fs=>obtain⟨_,_,_,e,_⟩:=x;exact aV e
 |own y=>obtain⟨_,e⟩:=x;exact aV e
 |xd fs=>obtain⟨_,⟨_,_,_,e,_⟩,_⟩:=x;exact aV e
 |cZ lo hi=>obtain⟨_,_,_,e⟩:=x;exact aV e
 |cQ ob u=>obtain⟨e,_⟩:=x;exact aV e
 |lR ps=>exact aV (show h.get? a=some _ from x)
 |met f y=>exact aV (show h.get? a=some _ from x)
 |ext φ=>obtain⟨_,⟨_,e⟩,_⟩:=x;exact aV e
theorem Paired.nu{α β:Type}{F G:α→β→Prop}:∀{l₁:List α}{l₂:List β},Paired F l₁ l₂→(∀a b,F a b→G a b)→Paired G l₁ l₂
 |_,_,.nil,_=>.nil
 |_,_,.cons r t,f=>.cons (f _ _ r) (Paired.nu t f)
theorem cL.jt(x:cL P w H h a o)(k:∀b u,(b=a∨H b=some (.own a))→h.get? b=some u→h'.get? b=some u)
  (ho:∀b,H b=some (.own a)→H' b=some (.own a)) (ht:∀b xs,H b=some (.tup xs)→H' b=some (.tup xs)):cL P w H' h' a o:=by
 induction o with
 |lst xs=>obtain⟨z,its,n,r,e⟩:=x;exact⟨z,its,n,r,k _ _ (.inl rfl) e⟩
 |tup xs=>obtain⟨z,its,r,ob,e,c⟩:=x;exact⟨z,its,r,ob,k _ _ (.inl rfl) e,c⟩
 |dK ai=>obtain⟨z,y,vs,r,ob,es,ep,e,c⟩:=x;exact⟨z,y,vs,r,ob,es,ep,k _ _ (.inl rfl) e,c⟩
 |dT ai =>
  obtain⟨z,y,xs,r,ob,es,ep,e,c⟩:=x;exact⟨z,y,xs,Paired.nu r λp q z=>⟨z.1,ht _ _ z.2.1,z.2.2⟩,ob,es,ep,k _ _ (.inl rfl) e,c⟩
 |set S n=>obtain⟨ob,es,ep,t,e,c⟩:=x;exact⟨ob,es,ep,t,k _ _ (.inl rfl) e,c⟩
 |ins C dx fs =>
  obtain⟨d,z,ne,e,mA,⟨od,es,ep,e2,c⟩,r⟩:=x;exact⟨ho _ d,z,ne,k _ _ (.inl rfl) e,mA,⟨od,es,ep,k _ _ (.inr d) e2,c⟩,r⟩
 |own y=>obtain⟨ob,e⟩:=x;exact⟨ob,k _ _ (.inl rfl) e⟩
 |xd fs=>obtain⟨mA,⟨od,es,ep,e,c⟩,r⟩:=x;exact⟨mA,⟨od,es,ep,k _ _ (.inl rfl) e,c⟩,r⟩
 |cZ lo hi=>obtain⟨t,u,v,e⟩:=x;exact⟨t,u,v,k _ _ (.inl rfl) e⟩
 |cQ ob u ih=>obtain⟨e,q⟩:=x;exact⟨k _ _ (.inl rfl) e,ih q⟩
 |lR ps =>
  have e:h.get? a=some { cls:=.none,data:=.fields ps }:=x;show h'.get? a=some { cls:=.none,data:=.fields ps };exact k a _ (.inl rfl) e
 |met f y =>
  have e:h.get? a=some (PySem.W.methodObj (.ref f) (.ref y)):=x;show h'.get? a=some (PySem.W.methodObj (.ref f) (.ref y));exact k a _ (.inl rfl) e
 |ext φ=>obtain⟨p,⟨o,e⟩,st⟩:=x;exact⟨st _ _ p λo q=>k _ _ (.inl rfl) q,⟨o,k _ _ (.inl rfl) e⟩,st⟩
theorem bK.lt(x:bK P w H h)(e:H a=some o):a<h.objs.size:=(x a o e).lt
theorem bK.fresh(x:bK P w H h)(e:h.objs.size≤a):H a=none:=by
 cases q:H a with
 |none=>rfl
 |some u=>exact absurd (dF (x.lt q) e) (iP _)
theorem bK.kept(x:bK P w H h)(k:∀b u,h.get? b=some u→h'.get? b=some u):bK P w H h':=λa o e =>
 (x a o e).jt (λb u _ q=>k b u q) (λ_ q=>q) λ_ _ q=>q
theorem bK.laid(x:bK P w H h)(k:∀b u,h.get? b=some u→h'.get? b=some u)(hp:h.objs.size≤a)(new:cL P w (upd H a o) h' a o):bK P w (upd H a o) h':=λb u e=>by
 have hn:=x.fresh hp;by_cases hb:b=a
 ·subst hb;rw[bD]at e;cases e;exact new
 ·rw[aK hb]at e;exact(x b u e).jt (λc v _ q=>k c v q) (λc q=>by rw[aK (cJ q hn)];exact q) λc xs q=>by rw[aK (cJ q hn)];exact q
end
def Rd(H:Hp)(a:Addr)(u:HO):Prop:=H a=some u∨∃o,H a=some (.cQ o u)
theorem Rd.ok{P:Program}{w:World}{H:Hp}{h:Heap}{a:Addr}{u:HO}(r:Rd H a u)(x:bK P w H h):cL P w H h a u:=by
 rcases r with r|⟨o,r⟩
 ·exact x a u r
 ·obtain⟨_,q⟩:=x a _ r;exact q
noncomputable def uh:Option HO→Prop
 |some (.lst _)=>True
 |some (.dK _)=>True
 |some (.dT _)=>True
 |some (.set _ _)=>True
 |some (.ins _ _ _)=>True
 |some (.ext _)=>True
 |_=>False
section
variable {P:Program}{w:World}{H:Hp}{h h':Heap}{x e:Addr}{o':HO}
theorem bK.write(ok:bK P w H h)(mu:uh (H x))(he:e=x∨H e=some (.own x))(k:∀b u,b≠e→h.get? b=some u→h'.get? b=some u)(nR:∃u,h'.get? e=some u)
  (new:cL P w (upd H x o') h' x o'):bK P w (upd H x o') h':=λb u q=>by
 have E9:∀c y,H c=some (.own y)→c≠x:=λc y r z=>by subst z;rw[r]at mu;exact mu
 have Ub:∀c xs,H c=some (.tup xs)→c≠x:=λc xs r z=>by subst z;rw[r]at mu;exact mu
 by_cases hb:b=x
 ·subst hb;rw[bD]at q;cases q;exact new
 ·rw[aK hb]at q;by_cases lS:b=e
  ·have q':H b=some (.own x):=by
    rcases he with z|z
    ·exact absurd (lS.trans z) hb
    ·rw[lS];exact z
   rw[q]at q';cases q';obtain⟨v,hv⟩:=nR;exact⟨v,by rw[lS];exact hv⟩
  ·refine(ok b u q).jt (λc v hc r=>k c v ?_ r) (λc r=>by rw[aK (E9 c b r)];exact r) λc xs r=>by rw[aK (Ub c xs r)];exact r
   rcases hc with rfl|hc
   ·exact lS
   ·rintro rfl;rcases he with z|z
    ·exact E9 c b hc z
    ·rw[hc]at z;cases z;exact hb rfl
end
structure Un (fs ex:List Addr)(H H':Hp)(h h':Heap):Prop where
 keep:∀b o,h.get? b=some o→H b=none→b∉fs→b∉ex→h'.get? b=some o
 slot:∀b o,h.get? b=some o→H b=none→b∈fs→b∉ex→∃sl,h'.get? b=some { o with slots:=sl }
 free:∀b o,h.get? b=some o→H b=none→b∉ex→H' b=none
 there:∀b o,h.get? b=some o→b∉ex→∃o',h'.get? b=some o'
 gB:∀b xs,H b=some (.tup xs)→H' b=some (.tup xs)
 fO:∀b o u,H b=some (.cQ o u)→H' b=some (.cQ o u)
 gC:∀b ps,H b=some (.lR ps)→∃more,H' b=some (.lR (ps++more))
section
variable {fs U5 ex XC:List Addr}{H H1 H2:Hp}{h h1 h2 h':Heap}{a x e:Addr}{o:HO}
theorem Un.any(u:Un fs ex H H1 h h1){b:Addr}{ob:Obj}(q:h.get? b=some ob)(n:H b=none)(hx:b∉ex):∃sl,h1.get? b=some { ob with slots:=sl }:=by
 by_cases hb:b∈fs
 ·exact u.slot b ob q n hb hx
 ·exact⟨ob.slots,u.keep b ob q n hb hx⟩
theorem Un.trans(a:Un fs ex H H1 h h1)(b:Un fs ex H1 H2 h1 h2):Un fs ex H H2 h h2 where
 keep:=λc ob q n hc hx=>b.keep c ob (a.keep c ob q n hc hx) (a.free c ob q n hx) hc hx
 slot:=λc ob q n hc hx=>by
  obtain⟨sl,e1⟩:=a.slot c ob q n hc hx;obtain⟨ui,e2⟩:=b.slot c _ e1 (a.free c ob q n hx) hc hx;exact⟨ui,e2⟩
 free:=λc ob q n hx=>by
  obtain⟨o',e1⟩:=a.there c ob q hx;exact b.free c o' e1 (a.free c ob q n hx) hx
 there:=λc ob q hx=>by
  obtain⟨o',e1⟩:=a.there c ob q hx;exact b.there c o' e1 hx
 gB:=λc xs q=>b.gB c xs (a.gB c xs q)
 fO:=λc ob xs q=>b.fO c ob xs (a.fO c ob xs q)
 gC:=λc ps q=>by
  obtain⟨m1,e1⟩:=a.gC c ps q;obtain⟨m2,e2⟩:=b.gC c _ e1;exact⟨m1++m2,by rw[e2,Array.append_assoc]⟩
theorem Un.kept(k:∀b u,h.get? b=some u→h'.get? b=some u):Un fs ex H H h h' :=
 ⟨λb ob q _ _ _=>k b ob q,λb ob q _ _ _=>⟨ob.slots,k b ob q⟩,λ_ _ _ n _=>n,λb ob q _=>⟨ob,k b ob q⟩,λ_ _ q=>q,λ_ _ _ q=>q,λ_ ps q=>⟨#[],by rw[q];simp⟩⟩
theorem Un.refl:Un fs ex H H h h:=Un.kept λ_ _ q=>q
theorem Un.laid(k:∀b u,h.get? b=some u→h'.get? b=some u)(hp:h.objs.size≤a)(hn:H a=none):Un fs ex H (upd H a o) h h' where
 keep:=λb u q _ _ _=>k b u q
 slot:=λb u q _ _ _=>⟨u.slots,k b u q⟩
 free:=λb u q n _=>by rw[aK (cO (dF (aV q) hp))];exact n
 there:=λb u q _=>⟨u,k b u q⟩
 gB:=λb xs q=>by rw[aK (cJ q hn)];exact q
 fO:=λb u xs q=>by rw[aK (cJ q hn)];exact q
 gC:=λb ps q=>⟨#[],by rw[aK (cJ q hn),q];simp⟩
theorem Un.write(mu:uh (H x))(he:e=x∨H e=some (.own x))(k:∀b u,b≠e→h.get? b=some u→h'.get? b=some u)(nR:∃u,h'.get? e=some u):Un fs ex H (upd H x o) h h':=by
 have hx:∀b,H b=none→b≠x:=λb n z=>by subst z;rw[n]at mu;exact mu
 have hb:∀b,H b=none→b≠e:=λb n z=>by
  subst z;rcases he with r|r
  ·exact hx b n r
  ·rw[n]at r;cases r
 have hm:∀b u,H b=some u→¬uh (some u)→b≠x:=λb u q nm z=>by subst z;rw[q]at mu;exact nm mu
 refine⟨λb u q n _ _=>k b u (hb b n) q,λb u q n _ _=>⟨u.slots,k b u (hb b n) q⟩,λb u q n _=>by rw[aK (hx b n)];exact n,λb u q _=>?_,
  λb xs q=>by rw[aK (hm b _ q λz=>z)];exact q,λb u xs q=>by rw[aK (hm b _ q λz=>z)];exact q,λb ps q=>⟨#[],by rw[aK (hm b _ q λz=>z),q];simp⟩⟩
 by_cases lS:b=e
 ·subst lS;exact nR
 ·exact⟨u,k b u lS q⟩
end
noncomputable def uj(h:Heap)(H:Hp):List Addr:=(List.range h.objs.size).filter λa=>(H a).isSome
def jv(h:Heap)(H:Hp):Heap:=PySem.W.hideAll h (uj h H)
theorem La(h:Heap)(H:Hp):(jv h H).objs.size=h.objs.size:=PySem.W.hideAll_size _ _
theorem Mr{h:Heap}{H:Hp}{b:Addr}{o:Obj}(e:h.get? b=some o)(n:H b=none):(jv h H).get? b=some o :=
 PySem.W.hideAll_get _ e λhm=>by
  have q:(H b).isSome=true:=(lM.mp hm).2;rw[n]at q;simp at q
theorem NC{h:Heap}{H:Hp}{b:Addr}{o:Obj}(e:(jv h H).get? b=some o):h.get? b=some o∧H b=none:=by
 have e':h.get? b=some o:=PySem.W.of_hideAll (uj h H) e;refine⟨e',?_⟩;cases q:H b with
 |none=>rfl
 |some x =>
  have hm:b∈uj h H:=lM.mpr ⟨lN.mpr (aV e'),by simp[q]⟩;have z:(jv h H).get? b=none:=PySem.W.hideAll_none (uj h H) hm;rw[z]at e;cases e
noncomputable def NF(g h:Heap)(L:Addr):List (Addr×Obj):=(List.range h.objs.size).filterMap λa=>if a=L∨(g.get? a).isSome=true then none else (h.get? a).map λo=>(a,o)
def rest(g h:Heap)(L d:Addr):List (Addr×Obj):=(NF g h L).filter λp=>decide (p.1≠d)
structure Mod (K:PySem.W.Frag)(mg:Str→Option Value)(base:Heap):Prop where
 qj:K.In base
 glob:base.Ns mainGlobals mg
 blt:∃mb,base.Ns builtinsNs mb∧∀x:Str,x ≠ "__name__" → mb x=bootBuiltins x
 nolimit:base.NoLimit
structure Cx where
 prog:Program
 w:World
 K:PySem.W.Frag
 mg:Str→Option Value
 base:Heap
 A:Around
 N:List Str
 s₀:Shared
 H₀:Hp
 env:Env
 outer:List Env
 stack:List Env
 ex:List Addr
 fn:Str→Bool
 calm:Bool
 pn:List (Addr×Obj)
 xe:Value→Shared→Prop
noncomputable def bT(l:List Env):List Addr:=l.filterMap (·.frame)
abbrev Cx.fs(X:Cx):List Addr:=bT X.outer
def nS(sc:Scope)(x:Str):Prop:=sc.names.lookup x=some .local∨sc.names.lookup x=some .cell∨sc.names.lookup x=some .free
def Loc(sc:Scope)(x:Str):Prop:=sc.names.lookup x=some .local∨sc.names.lookup x=some .cell
def Look(env:Env)(h:Heap)(m:Str→Option Value)(x:Str)(u:Value):Prop :=
 (env.kindOf x=some .local∧m x=some u)∨((env.kindOf x=some .cell∨env.kindOf x=some .free)∧∃c,env.cells.lookup x=some c∧h.IsCell c (some u))
structure Cx.Ok (X:Cx):Prop where
 mod:Mod X.K X.mg X.base
 kind:X.env.scope.kind=.function
 glob:X.env.globals=mainGlobals
 blt:X.env.builtins=builtinsNs
 above:X.s₀.heap.objs.size≤X.env.locals
 inj:∀x y c,X.env.cells.lookup x=some c→X.env.cells.lookup y=some c→x=y
 has:∀x,(X.env.kindOf x=some .cell∨X.env.kindOf x=some .free)→∃c,X.env.cells.lookup x=some c
 nU:∀x c,X.fn x=true→X.env.cells.lookup x=some c→X.s₀.heap.objs.size≤c
 hd:X.calm=true→X.A.handled=none
 frames:X.A.frames=some X.stack
 nV:X.stack=X.outer∨(X.stack=X.env::X.outer∧X.env.frame=some X.env.locals)
 yR:∀b∈X.ex,b≠X.env.locals∧∀x c,X.env.cells.lookup x=some c→c≠b
 bs:∀b o,X.base.get? b=some o→X.s₀.heap.get? b=some o∧X.H₀ b=none
 iu:X.base.objs.size≤X.s₀.heap.objs.size
 nz:∀b o,X.base.get? b=some o→b∉X.ex
 pM:∀b∈X.ex,b∉X.fs
 fP:X.s₀.heap.FunFrames X.base X.outer
 km:∀b∈X.fs,X.H₀ b=none
structure Inv (X:Cx)(pins:List (Addr×Obj))(σ:List (Option V))(H:Hp)(s:Shared):Prop where
 ok:X.Ok
 os:s.os=X.s₀.os
 bare:AllBare s.gens
 base:Un X.fs X.ex X.H₀ H X.s₀.heap s.heap
 loc:∃m,s.heap.Ns X.env.locals m∧∀(i:Nat) (x:Str) (v:V),X.N[i]?=some x→σ[i]?=some (some v)→nS X.env.scope x→∃u,RelV v u∧Look X.env s.heap m x u
 cell:∀x c,X.env.cells.lookup x=some c→∃v,s.heap.IsCell c v
 free:H X.env.locals=none
 fw:∀x c,X.env.cells.lookup x=some c→H c=none
 pin:∀p∈X.pn++pins,s.heap.get? p.1=some p.2∧H p.1=none∧p.1≠X.env.locals∧p.1∉X.fs∧∀v,p.2.data≠.cell v
 ay:bK X.prog X.w H s.heap
 len:σ.length=X.N.length
section
variable {X:Cx}{pins:List (Addr×Obj)}{σ:List (Option V)}{H H':Hp}{s:Shared}{h':Heap}
theorem Cx.Ok.Uc(ok:X.Ok){b:Addr}{o:Obj}(e:X.base.get? b=some o):b∉X.fs:=λhb=>by
 have:=(ok.fP.mem hb).1;rw[e]at this;cases this
theorem Inv.bs(I:Inv X pins σ H s):∀b o,X.base.get? b=some o→s.heap.get? b=some o∧H b=none:=λb o e =>
 ⟨I.base.keep b o (I.ok.bs b o e).1 (I.ok.bs b o e).2 (I.ok.Uc e) (I.ok.nz b o e),I.base.free b o (I.ok.bs b o e).1 (I.ok.bs b o e).2 (I.ok.nz b o e)⟩
theorem Inv.bk(I:Inv X pins σ H s):∀b o,X.base.get? b=some o→s.heap.get? b=some o:=λb o e=>(I.bs b o e).1
theorem Inv.mod(I:Inv X pins σ H s):Mod X.K X.mg X.base:=I.ok.mod
theorem Inv.bz(I:Inv X pins σ H s):X.K.In s.heap:=I.ok.mod.qj.keeps I.bk
theorem Inv.fr(I:Inv X pins σ H s):∃m,Fr X.base X.env.locals s.heap m :=
 let ⟨m,hn,_⟩:=I.loc
 ⟨m,hn,I.bk,aQ I.ok.iu I.ok.above⟩
theorem Inv.lt(I:Inv X pins σ H s):X.env.locals<s.heap.objs.size:=let ⟨_,hn,_⟩:=I.loc;hn.lt
theorem Inv.sz(I:Inv X pins σ H s):X.s₀.heap.objs.size≤s.heap.objs.size:=aQ I.ok.above (Nat.le_of_lt I.lt)
theorem Inv.Ud(I:Inv X pins σ H s){a:Addr}(h:s.heap.objs.size≤a):a∉X.fs:=λhb=>by
 obtain⟨_,o,ho,_⟩:=I.ok.fP.mem hb;exact absurd (dF (aV ho) (aQ I.sz h)) (iP _)
theorem Inv.jD(I:Inv X pins σ H s):∀x c,X.env.cells.lookup x=some c→c≠X.env.locals:=λx c e z=>by
 obtain⟨v,o,ho,hd⟩:=I.cell x c e;obtain⟨m,⟨o',es,ep,iw,U6,_⟩,_⟩:=I.loc;rw[z,iw]at ho;cases ho;rw[U6]at hd;cases hd
theorem Inv.fP(I:Inv X pins σ H s):s.heap.FunFrames X.base X.outer:=by
 have all:∀(l:List Env),(∀b∈bT l,b∈X.fs)→X.s₀.heap.FunFrames X.base l→s.heap.FunFrames X.base l:=by
  intro l
  induction l with
  |nil=>intro _ _;trivial
  |cons env r ih =>
   intro hs hl;obtain⟨hk,⟨L,o,hf,hn,ho,hd⟩,hr⟩:=hl;have hL:L∈X.fs:=hs L (by unfold bT;rw[tW,hf];exact bC);obtain⟨sl,e⟩:=I.base.slot L o ho (I.ok.km L hL) hL λz=>I.ok.pM L z hL;exact⟨hk,⟨L,_,hf,hn,e,hd⟩,ih (λb hb=>hs b (by unfold bT;rw[tW,hf];exact b6 _ hb)) hr⟩
 exact all X.outer (λ_ hb=>hb) I.ok.fP
theorem Inv.stack(I:Inv X pins σ H s):s.heap.FunFrames X.base X.stack:=by
 rcases I.ok.nV with e|⟨e,hf⟩
 ·rw[e];exact I.fP
 ·rw[e];obtain⟨m,hn,_⟩:=I.loc;refine .cons (by rw[I.ok.kind];decide) hf hn ?_ I.fP;exact Heap.get?_none_of_le (aQ I.ok.iu I.ok.above)
theorem Inv.rM(I:Inv X pins σ H s):∀b∈bT X.stack,b∈X.env.locals::X.fs:=λb hb=>by
 rcases I.ok.nV with e|⟨e,hf⟩
 ·rw[e]at hb;exact b6 _ hb
 ·rw[e]at hb;unfold bT at hb;rw[tW,hf]at hb;exact hb
theorem Inv.vR(I:Inv X pins σ H s):∀b∈bT X.stack,H b=none:=λb hb=>by
 rcases cH.mp (I.rM b hb)with e|hb
 ·rw[e];exact I.free
 ·obtain⟨_,o,ho,_⟩:=I.ok.fP.mem hb;exact I.base.free b o ho (I.ok.km b hb) λz=>I.ok.pM b z hb
theorem Inv.step{g':Array GenState}{t':Nat}{d':Drawn}{ch:List Addr}(I:Inv X pins σ H s)
  (iS:∀b∈ch,(b∈X.ex∨X.s₀.heap.objs.size≤b)∧b≠X.env.locals∧(∀x c,X.env.cells.lookup x=some c→c≠b)∧∀p∈X.pn++pins,p.1≠b)
  (keep:∀b o,b≠X.env.locals→b∉X.fs→b∉ch→s.heap.get? b=some o→H b=none→h'.get? b=some o)
  (slot:∀b o,b≠X.env.locals→b∈X.fs→b∉ch→s.heap.get? b=some o→H b=none→∃sl,h'.get? b=some { o with slots:=sl }) (free:∀b o,b∉ch→s.heap.get? b=some o→H b=none→H' b=none)
  (there:∀b o,b∉ch→s.heap.get? b=some o→∃o',h'.get? b=some o')
  (gB:∀b xs,H b=some (.tup xs)→H' b=some (.tup xs)) (fO:∀b o u,H b=some (.cQ o u)→H' b=some (.cQ o u)) (gC:∀b ps,H b=some (.lR ps)→∃more,H' b=some (.lR (ps++more)))
  (ns:∀m,s.heap.Ns X.env.locals m→h'.Ns X.env.locals m) (ay:bK X.prog X.w H' h') (hg:AllBare g') :
  Inv X pins σ H' { s with heap:=h',gens:=g',drawn:=d',toks:=t' }:=by
 have lT:∀b o,X.s₀.heap.get? b=some o→b≠X.env.locals:=λb o e=>cO (dF (aV e) I.ok.above);have jE:∀b o,X.s₀.heap.get? b=some o→b∉X.ex→b∉ch:=λb o e hx hb=>by
  rcases (iS b hb).1 with z|z
  ·exact hx z
  ·exact absurd (dF (aV e) z) (iP _)
 have cellK:∀x c,X.env.cells.lookup x=some c→∀v,s.heap.IsCell c v→h'.IsCell c v:=λx c e v ⟨o,ho,hd⟩=>by
  have ql:c∉ch:=λz=>(iS c z).2.2.1 x c e rfl;by_cases hc:c∈X.fs
  ·obtain⟨sl,q⟩:=slot c o (I.jD x c e) hc ql ho (I.fw x c e);exact⟨_,q,hd⟩
  ·exact⟨o,keep c o (I.jD x c e) hc ql ho (I.fw x c e),hd⟩
 refine⟨I.ok,I.os,hg,⟨λb o e n hb hx=>?_,λb o e n hb hx=>?_,λb o e n hx=>?_,λb o e hx=>?_,λb xs e=>gB b xs (I.base.gB b xs e),λb o xs e=>fO b o xs (I.base.fO b o xs e),λb ps e=>?_⟩,?_,λx c e=>?_,?_,λx c e=>?_,λp hp=>?_,ay,I.len⟩
 ·exact keep b o (lT b o e) hb (jE b o e hx) (I.base.keep b o e n hb hx) (I.base.free b o e n hx)
 ·obtain⟨sl,e1⟩:=I.base.slot b o e n hb hx;obtain⟨ui,e2⟩:=slot b _ (lT b o e) hb (jE b o e hx) e1 (I.base.free b o e n hx);exact⟨ui,e2⟩
 ·obtain⟨o',e1⟩:=I.base.there b o e hx;exact free b o' (jE b o e hx) e1 (I.base.free b o e n hx)
 ·obtain⟨o',e1⟩:=I.base.there b o e hx;exact there b o' (jE b o e hx) e1
 ·obtain⟨m1,e1⟩:=I.base.gC b ps e;obtain⟨m2,e2⟩:=gC b _ e1;exact⟨m1++m2,by rw[e2,Array.append_assoc]⟩
 ·obtain⟨m,hn,hl⟩:=I.loc;refine⟨m,ns m hn,λi x v e1 e2 e3=>?_⟩;obtain⟨u,r,l⟩:=hl i x v e1 e2 e3;refine⟨u,r,?_⟩;rcases l with l|⟨k,c,e,z⟩
  ·exact .inl l
  ·exact .inr ⟨k,c,e,cellK x c e _ z⟩
 ·obtain⟨v,z⟩:=I.cell x c e;exact⟨v,cellK x c e v z⟩
 ·obtain⟨m,⟨o,_,_,ho,_⟩,_⟩:=I.loc;exact free _ o (λz=>(iS _ z).2.1 rfl) ho I.free
 ·obtain⟨v,o,ho,hd⟩:=I.cell x c e;exact free c o (λz=>(iS c z).2.2.1 x c e rfl) ho (I.fw x c e)
 ·obtain⟨e,n,ne,nf,d⟩:=I.pin p hp;have ql:p.1∉ch:=λz=>(iS p.1 z).2.2.2 p hp rfl;exact⟨keep p.1 p.2 ne nf ql e n,free p.1 p.2 ql e n,ne,nf,d⟩
theorem Inv.un{t':Nat}(I:Inv X pins σ H s)(u:Un X.fs [] H H' s.heap h')(ay:bK X.prog X.w H' h'):Inv X pins σ H' { s with heap:=h',toks:=t' }:=by
 obtain⟨m,⟨o,es,ep,ho,r⟩,_⟩:=id I.loc;obtain⟨sl,hL⟩:=u.any ho I.free (by simp);exact I.step (g':=s.gens) (d':=s.drawn) (ch:=[]) (λ_ z=>nomatch z) (λb o _ hb _ e n=>u.keep b o e n hb (by simp)) (λb o _ hb _ e n=>u.slot b o e n hb (by simp)) (λb o _ e n=>u.free b o e n (by simp)) (λb o _ e=>u.there b o e (by simp)) u.gB u.fO u.gC (λm' hm=>by
  obtain⟨o',yS,yT,iw,r'⟩:=hm;rw[ho]at iw;cases iw;exact⟨_,yS,yT,hL,r'⟩) ay I.bare
theorem Inv.call{g':Array GenState}{t':Nat}{d':Drawn}{ch:List Addr}(I:Inv X pins σ H s)(u:Un (bT X.stack) ch H H' s.heap h')(ay:bK X.prog X.w H' h')(hg:AllBare g')
  (iS:∀b∈ch,(b∈X.ex∨X.s₀.heap.objs.size≤b)∧b≠X.env.locals∧(∀x c,X.env.cells.lookup x=some c→c≠b)∧∀p∈X.pn++pins,p.1≠b) :
  Inv X pins σ H' { s with heap:=h',gens:=g',drawn:=d',toks:=t' }:=by
 obtain⟨m,⟨o,es,ep,ho,r⟩,_⟩:=id I.loc;obtain⟨sl,hL⟩:=u.any ho I.free λz=>(iS _ z).2.1 rfl;exact I.step (ch:=ch) iS (λb o hL hb hc e n=>u.keep b o e n (λz=>(cH.mp (I.rM b z)).elim hL hb) hc) (λb o _ _ hc e n=>u.any e n hc) (λb o hc e n=>u.free b o e n hc) (λb o hc e=>u.there b o e hc) u.gB u.fO u.gC (λm' hm=>by
  obtain⟨o',yS,yT,iw,r'⟩:=hm;rw[ho]at iw;cases iw;exact⟨_,yS,yT,hL,r'⟩) ay hg
theorem Inv.turned{t':Nat}{it:Addr}(I:Inv X pins σ H s)(k:∀b o,b≠it→s.heap.get? b=some o→h'.get? b=some o)(hn:H it=none)(hL:it≠X.env.locals)
  (h1:it∈X.ex∨X.s₀.heap.objs.size≤it) (h2:∀x c,X.env.cells.lookup x=some c→c≠it) (h3:∀p∈X.pn++pins,p.1≠it):Inv X pins σ H { s with heap:=h',toks:=t' }:=by
 have ko:∀b u,H b=some u→b≠it:=λb u e z=>by rw[z,hn]at e;cases e
 refine I.step (g':=s.gens) (d':=s.drawn) (ch:=[it]) (λb hb=>?_) (λb o _ _ hc e _=>k b o (λz=>hc (by simp[z])) e) (λb o _ _ hc e _=>⟨o.slots,k b o (λz=>hc (by simp[z])) e⟩) (λ_ _ _ _ n=>n)
  (λb o hc e=>⟨o,k b o (λz=>hc (by simp[z])) e⟩) (λ_ _ e=>e) (λ_ _ _ e=>e) (λb ps e=>⟨#[],by rw[e];simp⟩) (λm hm=>?_) (λb u e=>?_) I.bare
 ·have e:b=it:=by simpa using hb
  subst e;exact⟨h1,hL,h2,h3⟩
 ·obtain⟨o,es,ep,ho,r⟩:=hm;exact⟨o,es,ep,k _ o (dq hL) ho,r⟩
 ·refine(I.ay b u e).jt (λc v hc q=>k c v ?_ q) (λ_ q=>q) λ_ _ q=>q;rcases hc with z|z
  ·rw[z];exact ko b u e
  ·exact ko c _ z
theorem Inv.tok(I:Inv X pins σ H s)(t:Nat):Inv X pins σ H { s with toks:=t }:=I.un (h':=s.heap) (t':=t) Un.refl I.ay
theorem Inv.kept{t':Nat}(I:Inv X pins σ H s)(k:∀b u,s.heap.get? b=some u→h'.get? b=some u):Inv X pins σ H { s with heap:=h',toks:=t' }:=I.un (Un.kept k) (I.ay.kept k)
theorem Inv.laid{a:Addr}{o:HO}{t':Nat}(I:Inv X pins σ H s)(k:∀b u,s.heap.get? b=some u→h'.get? b=some u)(hp:s.heap.objs.size≤a)(new:cL X.prog X.w (upd H a o) h' a o) :
 Inv X pins σ (upd H a o) { s with heap:=h',toks:=t' }:=I.un (Un.laid k hp (I.ay.fresh hp)) (I.ay.laid k hp new)
theorem Inv.write{x e:Addr}{o:HO}{t':Nat}(I:Inv X pins σ H s)(mu:uh (H x))(he:e=x∨H e=some (.own x))(k:∀b u,b≠e→s.heap.get? b=some u→h'.get? b=some u)(nR:∃u,h'.get? e=some u)
 (new:cL X.prog X.w (upd H x o) h' x o):Inv X pins σ (upd H x o) { s with heap:=h',toks:=t' }:=I.un (Un.write mu he k nR) (I.ay.write mu he k nR new)
theorem Inv.weak{σ':List (Option V)}(I:Inv X pins σ H s)(hl:σ'.length=σ.length)(w:∀(i:Nat) v,σ'[i]?=some (some v)→σ[i]?=some (some v)):Inv X pins σ' H s :=
 ⟨I.ok,I.os,I.bare,I.base,let ⟨m,hn,kr⟩:=I.loc;⟨m,hn,λi x v e1 e2 e3=>kr i x v e1 (w i v e2) e3⟩,I.cell,I.free,I.fw,I.pin,I.ay,hl.trans I.len⟩
theorem Inv.BQ{D8:List (Addr×Obj)}(I:Inv X pins σ H s)(h:∀p∈D8,s.heap.get? p.1=some p.2∧H p.1=none∧p.1≠X.env.locals∧p.1∉X.fs∧∀v,p.2.data≠.cell v):Inv X D8 σ H s :=
 ⟨I.ok,I.os,I.bare,I.base,I.loc,I.cell,I.free,I.fw,λp hp=>(ic.mp hp).elim (λz=>I.pin p (yz _ z)) (h p),I.ay,I.len⟩
theorem mO{N:List Str}(hN:N.Nodup){i j:Nat}{x:Str}(a:N[i]?=some x)(b:N[j]?=some x):i=j:=by
 obtain⟨h1,e1⟩:=ig.mp a;obtain⟨h2,e2⟩:=ig.mp b;exact(List.getElem_inj hN).mp (e1.trans e2.symm)
theorem AV{M:Model}{A:Around}{E:Value→Shared→Prop}{i:Nat}{x:Str}{v:V}{u:Value}{Q:Unit→Shared→Prop}(I:Inv X pins σ H s)(hN:X.N.Nodup)(hi:X.N[i]?=some x)(hx:Loc X.env.scope x)(r:RelV v u)
  (h:∀s',Inv X pins (σ.set i (some v)) H s'→(∃a,Heap.SameBut a s.heap s'.heap∧(a=X.env.locals∨X.env.cells.lookup x=some a))→Q () s') (hf:X.fn x=true∨X.env.scope.names.lookup x=some .local:=by first|exact .inl rfl|exact .inr rfl|assumption):wpAny M A (storeName X.env x u) Q E s:=by
 obtain⟨m,hn,hl⟩:=id I.loc;have xM:(X.env.scope.kind==.class||(X.env.scope.kind==.module&&X.env.locals != X.env.globals))=false:=by rw[I.ok.kind];rfl
 have sW:i<σ.length:=by rw[I.len];exact(ig.mp hi).1
 have jD:=I.jD;have tracked:∀{a:Addr}{h':Heap},(∃o,s.heap.get? a=some o∧H a=none)→Heap.SameBut a s.heap h'→bK X.prog X.w H h':=λ{a h'} ha hs b ob e=>by
  obtain⟨_,_,rV⟩:=ha;refine(I.ay b ob e).jt (λc w' hc q=>(hs.2 c ?_).trans q) (λ_ q=>q) λ_ _ q=>q;rintro rfl;rcases hc with rfl|hc
  ·rw[rV]at e;cases e
  ·rw[rV]at hc;cases hc
 rcases hx with hk|hk
 ·refine wpAny_storeName_local hk hn (λh' yU hs=>?_) xM;obtain⟨oL,_,_,U7,_⟩:=id hn;refine h _ ⟨I.ok,I.os,I.bare,⟨λb o e n hb hx=>?_,λb o e n hb hx=>?_,I.base.free,λb o e hx=>?_,I.base.gB,I.base.fO,I.base.gC⟩,⟨_,yU,λj y v' e1 e2 e3=>?_⟩,λy c e=>?_,I.free,I.fw,λp hp=>?_,tracked ⟨oL,U7,I.free⟩ hs,by simpa using I.len⟩ ⟨_,hs,.inl rfl⟩
  ·exact(hs.2 b (cO (dF (aV e) I.ok.above))).trans (I.base.keep b o e n hb hx)
  ·obtain⟨sl,e1⟩:=I.base.slot b o e n hb hx;exact⟨sl,(hs.2 b (cO (dF (aV e) I.ok.above))).trans e1⟩
  ·obtain⟨o',e1⟩:=I.base.there b o e hx;exact⟨o',(hs.2 b (cO (dF (aV e) I.ok.above))).trans e1⟩
  ·by_cases hj:j=i
   ·subst hj;rw[hi]at e1;cases e1;rw[List.getElem?_set_self sW]at e2;cases e2;exact⟨u,r,.inl ⟨hk,by simp⟩⟩
   ·rw[cP (dq hj)]at e2;obtain⟨u',r',q⟩:=hl j y v' e1 e2 e3;refine⟨u',r',?_⟩;rcases q with⟨k,e⟩|⟨k,c,e,z⟩
    ·refine .inl ⟨k,?_⟩;have:y≠x:=λe=>hj (mO hN e1 (e▸hi));simp[this,e]
    ·exact .inr ⟨k,c,e,z.sameBut hs (jD y c e)⟩
  ·obtain⟨w',z⟩:=I.cell y c e;exact⟨w',z.sameBut hs (jD y c e)⟩
  ·obtain⟨e,n,ne,nf,d⟩:=I.pin p hp;exact⟨(hs.2 p.1 ne).trans e,n,ne,nf,d⟩
 ·have yV:X.fn x=true:=by
   rcases hf with z|z
   ·exact z
   ·rw[z]at hk;cases hk
  obtain⟨c,hc⟩:=I.ok.has x (.inl hk);obtain⟨w',z⟩:=I.cell x c hc;refine wpAny_storeName_cell I.ok.kind hk hc z (λh' lU hs=>?_);obtain⟨oc,F8,Ue⟩:=id z;refine h { s with heap:=h' } ⟨I.ok,I.os,I.bare,⟨λb o e n hb hx=>?_,λb o e n hb hx=>?_,I.base.free,λb o e hx=>?_,I.base.gB,I.base.fO,I.base.gC⟩,⟨m,hn.sameBut hs (dq (jD x c hc)),λj y v' e1 e2 e3=>?_⟩,λy c' e=>?_,I.free,I.fw,λp hp=>?_,tracked ⟨oc,F8,I.fw x c hc⟩ hs,by simpa using I.len⟩ ⟨c,hs,.inr hc⟩
  ·exact(hs.2 b (cO (dF (aV e) (I.ok.nU x c yV hc)))).trans (I.base.keep b o e n hb hx)
  ·obtain⟨sl,e1⟩:=I.base.slot b o e n hb hx;exact⟨sl,(hs.2 b (cO (dF (aV e) (I.ok.nU x c yV hc)))).trans e1⟩
  ·obtain⟨o',e1⟩:=I.base.there b o e hx;exact⟨o',(hs.2 b (cO (dF (aV e) (I.ok.nU x c yV hc)))).trans e1⟩
  ·by_cases hj:j=i
   ·subst hj;rw[hi]at e1;cases e1;rw[List.getElem?_set_self sW]at e2;cases e2;exact⟨u,r,.inr ⟨.inl hk,c,hc,lU⟩⟩
   ·rw[cP (dq hj)]at e2;obtain⟨u',r',q⟩:=hl j y v' e1 e2 e3;refine⟨u',r',?_⟩;rcases q with q|⟨k,c',e,z'⟩
    ·exact .inl q
    ·refine .inr ⟨k,c',e,z'.sameBut hs ?_⟩;rintro rfl;exact hj (mO hN e1 (I.ok.inj _ _ _ e hc▸hi))
  ·by_cases F9:c'=c
   ·subst F9;exact⟨_,lU⟩
   ·obtain⟨w2,z2⟩:=I.cell y c' e;exact⟨w2,z2.sameBut hs F9⟩
  ·obtain⟨e,n,ne,nf,d⟩:=I.pin p hp;refine⟨(hs.2 p.1 ?_).trans e,n,ne,nf,d⟩;intro q;rw[q,F8]at e;have q':oc=p.2:=eR e;exact d w' (by rw[←q'];exact Ue)
theorem rg{M:Model}{A:Around}{E:Value→Shared→Prop}{i:Nat}{x:Str}{v:V}{u:Value}{Q:Unit→Shared→Prop}(I:Inv X pins σ H s)(hN:X.N.Nodup)(hi:X.N[i]?=some x)(hx:Loc X.env.scope x)(r:RelV v u)
  (h:∀s',Inv X pins (σ.set i (some v)) H s'→Q () s') (hf:X.fn x=true∨X.env.scope.names.lookup x=some .local:=by first|exact .inl rfl|exact .inr rfl|assumption):wpAny M A (storeName X.env x u) Q E s :=
 AV I hN hi hx r (λs' I' _=>h s' I') hf
theorem Inv.D9{s':Shared}{ch:List Addr}(I:Inv X pins σ H s)(ho:s'.os=s.os)(u:Un (bT X.stack) ch H H' s.heap s'.heap)(ay:bK X.prog X.w H' s'.heap)(hg:AllBare s'.gens)
  (iS:∀b∈ch,(b∈X.ex∨X.s₀.heap.objs.size≤b)∧b≠X.env.locals∧(∀x c,X.env.cells.lookup x=some c→c≠b)∧∀p∈X.pn++pins,p.1≠b):Inv X pins σ H' s':=by
 obtain⟨h',g',d',t',o'⟩:=s';have e:o'=s.os:=ho;subst e;exact I.call (g':=g') (t':=t') (d':=d') u ay hg iS
end
noncomputable abbrev XK:=Value→Option Addr→Hp→Prop
noncomputable abbrev St:=List (Option V)
noncomputable abbrev VK:=V→Hp→Prop
noncomputable abbrev TE:=St→Hp→VK→Prop
noncomputable abbrev TT:=St→Hp→(Bool→Hp→Prop)→Prop
noncomputable abbrev TA:=St→Hp→(List V→Hp→Prop)→Prop
structure Ends where
 nx:St→Hp→Prop
 rt:VK
 bk:St→Hp→Prop:=λ_ _=>False
 ct:St→Hp→Prop:=λ_ _=>False
noncomputable abbrev TS:=Ends→St→Hp→Prop
def EP(X:Cx)(pins:List (Addr×Obj))(σ:St)(Q:VK)(u:Value)(s':Shared):Prop:=∃v H',Inv X pins σ H' s'∧RelV v u∧Q v H'
def TP(X:Cx)(pins:List (Addr×Obj))(σ:St)(Q:Bool→Hp→Prop)(b:Bool)(s':Shared):Prop:=∃H',Inv X pins σ H' s'∧Q b H'
def AP(X:Cx)(pins:List (Addr×Obj))(σ:St)(Q:List V→Hp→Prop)(us:List Value)(s':Shared):Prop:=∃vs H',Inv X pins σ H' s'∧Vals vs us∧Q vs H'
def SP(X:Cx)(pins:List (Addr×Obj))(D:Ends)(f:Flow)(s':Shared):Prop :=
 match f with
 |.next=>∃σ' H',Inv X pins σ' H' s'∧D.nx σ' H'
 |.brk=>∃σ' H',Inv X pins σ' H' s'∧D.bk σ' H'
 |.cont=>∃σ' H',Inv X pins σ' H' s'∧D.ct σ' H'
 |.ret u=>∃v σ' H',Inv X pins σ' H' s'∧RelV v u∧D.rt v H'
def PE(X:Cx)(e:Expr)(t:TE):Prop :=
 ∀(pins:List (Addr×Obj)) (s:Shared) (σ:St) (H:Hp) (Q:VK),Inv X pins σ H s→t σ H Q→wpAny (model X.prog X.w) X.A (eval e X.env) (EP X pins σ Q) X.xe s
def PT(X:Cx)(e:Expr)(t:TT):Prop :=
 ∀(pins:List (Addr×Obj)) (s:Shared) (σ:St) (H:Hp) (Q:Bool→Hp→Prop),Inv X pins σ H s→t σ H Q→wpAny (model X.prog X.w) X.A (isTrue e X.env (eval e X.env)) (TP X pins σ Q) X.xe s
def PW(X:Cx)(e:Expr)(t:TT):Prop :=
 ∀(whole:Sem Value) (pins:List (Addr×Obj)) (s:Shared) (σ:St) (H:Hp) (Q:Bool→Hp→Prop),Inv X pins σ H s→t σ H Q→wpAny (model X.prog X.w) X.A (isTrue e X.env whole) (TP X pins σ Q) X.xe s
theorem PW.pt{X:Cx}{e:Expr}{t:TT}(h:PW X e t):PT X e t:=h _
def PA(X:Cx)(es:List Expr)(t:TA):Prop :=
 ∀(pos:Pos) (pins:List (Addr×Obj)) (s:Shared) (σ:St) (H:Hp) (Q:List V→Hp→Prop),Inv X pins σ H s→t σ H Q→wpAny (model X.prog X.w) X.A (spliced (backTo pos (starEach es X.env))) (AP X pins σ Q) X.xe s
def PS(X:Cx)(st:Stmt)(t:TS):Prop :=
 ∀(pins:List (Addr×Obj)) (s:Shared) (σ:St) (H:Hp) (D:Ends),Inv X pins σ H s→t D σ H→wpAny (model X.prog X.w) X.A (exec st X.env) (SP X pins D) X.xe s
def cR(X:Cx)(st:List Stmt)(t:TS):Prop :=
 ∀(pins:List (Addr×Obj)) (s:Shared) (σ:St) (H:Hp) (D:Ends),Inv X pins σ H s→t D σ H→wpAny (model X.prog X.w) X.A (execs st X.env) (SP X pins D) X.xe s
theorem az{α:Type}{t:Sem α}{Q Q':α→Shared→Prop}{M:Model}{A:Around}{E:Value→Shared→Prop}{s:Shared}(h:wpAny M A t Q E s)(hQ:∀a s,Q a s→Q' a s):wpAny M A t Q' E s:=bP h hQ λ_ _ x=>x
section
variable {X:Cx}
noncomputable def pN(i:Nat):TE:=λσ H Q=>∃v,σ[i]?=some (some v)∧Q v H
noncomputable def tC(v:V):TE:=λ_ H Q=>Q v H
theorem lb {i:Nat}{x:Str}{pos:Pos} (hN:X.N[i]?=some x) (hv:nS X.env.scope x) (hd:(x==("__debug__" : Str))=false:=by decide) (eC:(x==("__classdict__" : Str))=false:=by decide):PE X (.Name x pos) (pN i):=by
 intro pins s σ H Q I h;obtain⟨v,e,h⟩:=h;obtain⟨m,hn,hl⟩:=I.loc;obtain⟨u,r,l⟩:=hl i x v hN e hv;have fin:EP X pins σ Q u s:=⟨v,H,I,r,h⟩;rcases l with⟨hk,hm⟩|⟨hk,c,hc,Ea⟩
 ·exact wpAny_Name (wpAny_loadName_local I.ok.kind hk hn hm fin) hd
 ·rcases hk with hk|hk
  ·exact wpAny_Name (wpAny_loadName_cell I.ok.kind hk hc Ea fin) hd
  ·exact wpAny_Name (wpAny_loadName_free I.ok.kind hk hc Ea fin eC) hd
theorem PN{i j pos}:PE X (.Constant (.int i) j pos) (tC (.int i)):=λ_ _ _ H _ I h=>wpAny_Constant_int ⟨.int i,H,I.tok _,⟨_,rfl⟩,h⟩
theorem Eb{b j pos}:PE X (.Constant (.bool b) j pos) (tC (.bl b)):=λ_ _ _ H _ I h=>Constant_bool ⟨.bl b,H,I,rfl,h⟩
theorem C4{j pos}:PE X (.Constant .none j pos) (tC .non):=λ_ _ _ H _ I h=>Constant_none ⟨.non,H,I,rfl,h⟩
theorem wy{x j pos}:PE X (.Constant (.str x) j pos) (tC (.str x)):=λ_ _ _ H _ I h=>Calls.Constant_str ⟨.str x,H,I.tok _,⟨_,rfl⟩,h⟩
def Gl(X:Cx)(x:Str):Prop:=X.env.kindOf x=some .globalImplicit
theorem oS{E:Value→Shared→Prop}{pins:List (Addr×Obj)}{s:Shared}{σ:St}{H:Hp}{x:Str}{u:Value}{pos:Pos}{Q:Value→Shared→Prop}(I:Inv X pins σ H s)(hg:Gl X x)(hm:X.mg x=some u)(h:Q u s)
  (hd:(x==("__debug__" : Str))=false:=by decide):wpAny (model X.prog X.w) X.A (eval (.Name x pos) X.env) Q E s :=
 Calls.Name_function_global I.ok.kind hg (Calls.loadGlobal_global (by rw[I.ok.glob];exact I.mod.glob.keeps I.bk) hm h) hd
theorem oX{E:Value→Shared→Prop}{pins:List (Addr×Obj)}{s:Shared}{σ:St}{H:Hp}{x:Str}{u:Value}{pos:Pos}{Q:Value→Shared→Prop}(I:Inv X pins σ H s)(hg:Gl X x)(hm:X.mg x=none)(hv:bootBuiltins x=some u)(h:Q u s)
  (hn:x ≠ "__name__" := by decide) (hd:(x==("__debug__" : Str))=false:=by decide):wpAny (model X.prog X.w) X.A (eval (.Name x pos) X.env) Q E s:=by
 obtain⟨mb,h1,h2⟩:=I.mod.blt;exact Calls.Name_function_global I.ok.kind hg (Calls.loadGlobal_builtin (by rw[I.ok.glob];exact I.mod.glob.keeps I.bk) hm (by rw[I.ok.blt];exact h1.keeps I.bk) ((h2 x hn).trans hv) h) hd
theorem vS {x:Str}{v:V}{u:Value}{pos:Pos} (hg:Gl X x) (hm:X.mg x=some u) (r:RelV v u) (hd:(x==("__debug__" : Str))=false:=by decide):PE X (.Name x pos) (tC v) :=
 λ_ _ _ H _ I h=>oS I hg hm ⟨v,H,I,r,h⟩ hd
theorem BR {x:Str}{v:V}{u:Value}{pos:Pos} (hg:Gl X x) (hm:X.mg x=none) (hv:bootBuiltins x=some u) (r:RelV v u) (hn:x ≠ "__name__" := by decide) (hd:(x==("__debug__" : Str))=false:=by decide):PE X (.Name x pos) (tC v) :=
 λ_ _ _ H _ I h=>oX I hg hm hv ⟨v,H,I,r,h⟩ hn hd
variable {a b:Expr}{ta tb:TE}{pos:Pos}
def PC(X:Cx)(op:CmpOp)(a b:Expr)(t:TE):Prop :=
 ∀(pins:List (Addr×Obj)) (s:Shared) (σ:St) (H:Hp) (Q:VK),Inv X pins σ H s→t σ H Q →
  wpAny (model X.prog X.w) X.A (eval a X.env) (λv s₁=>wpAny (model X.prog X.w) X.A (eval b X.env) (λu s₂=>wpAny (model X.prog X.w) X.A (compareOp op v u) (EP X pins σ Q) X.xe s₂) X.xe s₁) X.xe s
noncomputable def tB(t:TE):TT:=λσ H Q=>t σ H λx H1=>∃c,x=.bl c∧Q c H1
theorem rN{op:CmpOp}{t:TE}(h:PC X op a b t)(h1:behindInMarks op b=false:=by first|exact Xv _ (by decide) (by decide)|rfl):PT X (.Compare a [op] [b] pos) (tB t):=by
 intro pins s σ H Q I hw;refine wpAny_isTrue_Compare1 (az (h pins s σ H _ I hw) λv s1 h1=>az h1 λu s2 h2=>az h2 λc s3 ⟨x,H1,I1,r1,q1⟩=>?_) h1;obtain⟨d,rfl,q⟩:=q1;cases r1;exact iQ ⟨H1,I1,q⟩
variable {tA uk:TT}{rest:List Expr}
noncomputable def Fc(t u:TT):TT:=λσ H Q=>t σ H λc H1=>if c=true then u σ H1 Q else Q false H1
noncomputable def Ga(t u:TT):TT:=λσ H Q=>t σ H λc H1=>if c=true then Q true H1 else u σ H1 Q
noncomputable def Fd(t:TT):TT:=λσ H Q=>t σ H λc H1=>Q (!c) H1
theorem NK(ha:PT X a tA):PW X (.BoolOp .And [a] pos) tA:=by
 intro wh pins s σ H Q I h;refine isTrue_and (az (ha pins s σ H Q I h) λc s1 e=>?_);cases c with
 |true=>exact isTrue_and_nil e
 |false=>exact e
theorem PQ(ha:PT X a tA):PW X (.BoolOp .Or [a] pos) tA:=by
 intro wh pins s σ H Q I h;refine isTrue_or (az (ha pins s σ H Q I h) λc s1 e=>?_);cases c with
 |false=>exact isTrue_or_nil e
 |true=>exact e
theorem PR(ha:PT X a tA)(hb:PW X (.BoolOp .And (b::rest) pos) uk):PW X (.BoolOp .And (a::b::rest) pos) (Fc tA uk):=by
 intro wh pins s σ H Q I h;refine isTrue_and (az (ha pins s σ H _ I h) λc s1 ⟨H1,I1,q1⟩=>?_);cases c with
 |true=>exact hb wh pins s1 σ H1 Q I1 q1
 |false=>exact⟨H1,I1,q1⟩
theorem Sq(ha:PT X a tA)(hb:PW X (.BoolOp .Or (b::rest) pos) uk):PW X (.BoolOp .Or (a::b::rest) pos) (Ga tA uk):=by
 intro wh pins s σ H Q I h;refine isTrue_or (az (ha pins s σ H _ I h) λc s1 ⟨H1,I1,q1⟩=>?_);cases c with
 |true=>exact⟨H1,I1,q1⟩
 |false=>exact hb wh pins s1 σ H1 Q I1 q1
theorem PV(ha:PT X a tA):PT X (.UnaryOp .Not a pos) (Fd tA):=by
 intro pins s σ H Q I h;exact isTrue_not (ha pins s σ H (λc H1=>Q (!c) H1) I h)
noncomputable def Ec(ta tb:TE):TE:=λσ H Q=>ta σ H λx H1=>∃c,x=.bl c∧if c=true then tb σ H1 Q else Q (.bl false) H1
noncomputable def Fe(ta tb:TE):TE:=λσ H Q=>ta σ H λx H1=>∃c,x=.bl c∧if c=true then Q (.bl true) H1 else tb σ H1 Q
noncomputable def Ed(ta:TE):TE:=λσ H Q=>ta σ H λx H1=>∃c,x=.bl c∧Q (.bl (!c)) H1
theorem C5{op}{t:TE}(h:PE X a t):PE X (.BoolOp op [a] pos) t:=λpins s σ H Q I hw=>BoolOp_one (h pins s σ H Q I hw)
theorem PY(ha:PE X a ta)(hb:PE X (.BoolOp .And (b::rest) pos) tb):PE X (.BoolOp .And (a::b::rest) pos) (Ec ta tb):=by
 intro pins s σ H Q I h;refine BoolOp_and (az (ha pins s σ H _ I h) λv s1 ⟨x,H1,I1,r1,q1⟩=>?_);obtain⟨c,rfl,q1⟩:=q1;cases r1;refine iQ ?_;cases c with
 |true=>exact hb pins s1 σ H1 Q I1 q1
 |false=>exact⟨.bl false,H1,I1,rfl,q1⟩
theorem Sr(ha:PE X a ta)(hb:PE X (.BoolOp .Or (b::rest) pos) tb):PE X (.BoolOp .Or (a::b::rest) pos) (Fe ta tb):=by
 intro pins s σ H Q I h;refine BoolOp_or (az (ha pins s σ H _ I h) λv s1 ⟨x,H1,I1,r1,q1⟩=>?_);obtain⟨c,rfl,q1⟩:=q1;cases r1;refine iQ ?_;cases c with
 |false=>exact hb pins s1 σ H1 Q I1 q1
 |true=>exact⟨.bl true,H1,I1,rfl,q1⟩
theorem PZ(ha:PE X a ta):PE X (.UnaryOp .Not a pos) (Ed ta):=by
 intro pins s σ H Q I h;refine UnaryOp_ (az (ha pins s σ H _ I h) λv s1 ⟨x,H1,I1,r1,q1⟩=>?_);obtain⟨c,rfl,q1⟩:=q1;cases r1;exact not_of (iQ ⟨.bl (!c),H1,I1,rfl,q1⟩)
noncomputable def Gb(t:TT)(ta tb:TE):TE:=λσ H Q=>t σ H λc H1=>if c=true then ta σ H1 Q else tb σ H1 Q
theorem Mt{c:Expr}(hc:PT X c tA)(ha:PE X a ta)(hb:PE X b tb):PE X (.IfExp c a b pos) (Gb tA ta tb):=by
 intro pins s σ H Q I h;refine wpAny_IfExp (az (hc pins s σ H _ I h) λd s1 ⟨H1,I1,q1⟩=>?_);cases d with
 |true=>exact ha pins s1 σ H1 Q I1 q1
 |false=>exact hb pins s1 σ H1 Q I1 q1
end
def bj(K:PySem.W.Frag)(H:Hp)(a:Addr)(xs:List V):Prop :=
 Rd H a (.lst xs) ∨
  ∃(o:Obj) (its:Array Value) (n:Nat),K.lookup a=some o∧o.cls=.type "list" ∧ o.dict=none∧o.data=.seq its n∧its.size≤sizeLine∧Vals xs its.toList
def aZ(K:PySem.W.Frag)(H:Hp)(a:Addr)(xs:List V):Prop :=
 H a=some (.tup xs) ∨
  ∃(o:Obj) (its:Array Value) (n:Nat),K.lookup a=some o∧o.cls=.type "tuple" ∧ o.dict=none∧o.data=.seq its n∧its.size≤sizeLine∧4≤its.size∧Vals xs its.toList
theorem aZ.own{K:PySem.W.Frag}{H:Hp}{a:Addr}{xs:List V}(h:aZ K H a xs)(hl:xs.length<4):H a=some (.tup xs):=by
 rcases h with h|⟨_,its,_,_,_,_,_,_,h4,r⟩
 ·exact h
 ·have:=r.length;simp only[Array.length_toList]at this;omega
noncomputable def nA:Value→Option V
 |.none=>some .non
 |.bool b=>some (.bl b)
 |.int i _=>some (.int i)
 |.str x _=>some (.str x)
 |.bytes b _=>some (.dZ b)
 |.float b _=>some (.nQ b)
 |.ref a=>some (.ref a)
 |.type n=>some (.ty n)
 |_=>none
theorem RelV.abs{x:V}{u:Value}(r:RelV x u):nA u=some x:=by
 cases x with
 |non=>cases r;rfl
 |bl _=>cases r;rfl
 |int _=>obtain⟨t,rfl⟩:=r;rfl
 |str _=>obtain⟨t,rfl⟩:=r;rfl
 |dZ _=>obtain⟨t,rfl⟩:=r;rfl
 |nQ _=>obtain⟨t,rfl⟩:=r;rfl
 |ref _=>cases r;rfl
 |ty _=>cases r;rfl
theorem RelV.inj{x y:V}{u:Value}(r:RelV x u)(q:RelV y u):x=y:=eR (r.abs.symm.trans q.abs)
theorem Vals.inj:∀{xs ys:List V}{us:List Value},Vals xs us→Vals ys us→xs=ys
 |_,_,_,.nil,.nil=>rfl
 |_,_,_,.cons r t,.cons r' t'=>by rw[r.inj r',Vals.inj t t']
section
variable {X:Cx}{pins:List (Addr×Obj)}{σ:St}{H:Hp}{s:Shared}{a:Addr}{xs ys:List V}
theorem aZ.of{K:PySem.W.Frag}(h:H a=some (.tup xs)):aZ K H a xs:=.inl h
theorem Inv.list(I:Inv X pins σ H s)(h:bj X.K H a xs):∃its:List Value,Vals xs its∧PlainL s.heap a its.toArray∧xs.length≤sizeLine:=by
 rcases h with h|⟨o,its,n,hk,hc,hd,hs,hz,r⟩
 ·obtain⟨z,its,n,r,e⟩:=h.ok I.ay;exact⟨its,r,⟨_,n,e,rfl,rfl,rfl⟩,z⟩
 ·refine⟨its.toList,r,⟨o,n,I.bz a o hk,hc,hd,by simpa using hs⟩,?_⟩;have e:=r.length;simp only[Array.length_toList]at e;omega
theorem Inv.tuple(I:Inv X pins σ H s)(h:aZ X.K H a xs):∃its:List Value,Vals xs its∧IsTup s.heap a its.toArray∧xs.length≤sizeLine:=by
 rcases h with h|⟨o,its,n,hk,hc,_,hs,hz,_,r⟩
 ·obtain⟨z,its,r,p⟩:=I.ay _ _ h;exact⟨its,r,p.tup,z⟩
 ·refine⟨its.toList,r,⟨o,I.bz a o hk,hc,n,by simpa using hs⟩,?_⟩;have e:=r.length;simp only[Array.length_toList]at e;omega
theorem Inv.Bf(I:Inv X pins σ H s)(h:bj X.K H a xs)(h':bj X.K H a ys):xs=ys:=by
 obtain⟨its,r,⟨o,n,e,_,_,d⟩,_⟩:=I.list h;obtain⟨its',r',⟨o',n',e',_,_,d'⟩,_⟩:=I.list h';rw[e]at e';cases e';rw[d]at d';injection d' with d1 _;have:its=its':=by simpa using bX Array.toList d1
 subst this;exact r.inj r'
theorem Inv.Lb(I:Inv X pins σ H s)(h:aZ X.K H a xs)(h':aZ X.K H a ys):xs=ys:=by
 obtain⟨its,r,⟨o,e,_,n,d⟩,_⟩:=I.tuple h;obtain⟨its',r',⟨o',e',_,n',d'⟩,_⟩:=I.tuple h';rw[e]at e';cases e';rw[d]at d';injection d' with d1 _;have:its=its':=by simpa using bX Array.toList d1
 subst this;exact r.inj r'
end
noncomputable abbrev Cx.wish(X:Cx)(E:Value→Shared→Prop):Cx:={ X with xe:=E }
abbrev Cx.iT(X:Cx):Cx:=X.wish λ_ _=>False
theorem Cx.Ok.wish{X:Cx}(ok:X.Ok)(E:Value→Shared→Prop):(X.wish E).Ok :=
 ⟨ok.mod,ok.kind,ok.glob,ok.blt,ok.above,ok.inj,ok.has,ok.nU,ok.hd,ok.frames,ok.nV,ok.yR,ok.bs,ok.iu,ok.nz,ok.pM,ok.fP,ok.km⟩
theorem Cx.Ok.fL{X:Cx}{E:Value→Shared→Prop}(ok:(X.wish E).Ok):X.Ok :=
 ⟨ok.mod,ok.kind,ok.glob,ok.blt,ok.above,ok.inj,ok.has,ok.nU,ok.hd,ok.frames,ok.nV,ok.yR,ok.bs,ok.iu,ok.nz,ok.pM,ok.fP,ok.km⟩
section
variable {X:Cx}{pins:List (Addr×Obj)}{σ:St}{H:Hp}{s:Shared}{E:Value→Shared→Prop}
theorem Inv.wish(I:Inv X pins σ H s)(E:Value→Shared→Prop):Inv (X.wish E) pins σ H s:=⟨I.ok.wish E,I.os,I.bare,I.base,I.loc,I.cell,I.free,I.fw,I.pin,I.ay,I.len⟩
theorem Inv.fL(I:Inv (X.wish E) pins σ H s):Inv X pins σ H s:=⟨I.ok.fL,I.os,I.bare,I.base,I.loc,I.cell,I.free,I.fw,I.pin,I.ay,I.len⟩
theorem SP.fL{D:Ends}{f:Flow}{s':Shared}(h:SP (X.wish E) pins D f s'):SP X pins D f s':=by
 cases f with
 |next=>obtain⟨σ',H',I,q⟩:=h;exact⟨σ',H',I.fL,q⟩
 |brk=>obtain⟨σ',H',I,q⟩:=h;exact⟨σ',H',I.fL,q⟩
 |cont=>obtain⟨σ',H',I,q⟩:=h;exact⟨σ',H',I.fL,q⟩
 |ret u=>obtain⟨v,σ',H',I,r,q⟩:=h;exact⟨v,σ',H',I.fL,r,q⟩
theorem cR.iT{st:List Stmt}{t:TS}(h:cR X.iT st t):cR X st t:=λpins s σ H D I hw =>
 bP (h pins s σ H D (I.wish _) hw) (λ_ _ q=>q.fL) λ_ _ z=>False.elim z
end
section
variable {X:Cx}{st:Stmt}{rest:List Stmt}{t u:TS}{e:Expr}{te:TE}{pos:Pos}
noncomputable def wZ:TS:=λD σ H=>D.nx σ H
noncomputable def xN(t u:TS):TS:=λD σ H=>t { D with nx:=u D } σ H
theorem BU:cR X [] wZ:=λ_ _ σ H _ I h=>nI ⟨σ,H,I,h⟩
theorem Bg(h1:PS X st t)(h2:cR X rest u):cR X (st::rest) (xN t u):=by
 intro pins s σ H D I h;refine wpAny_execs_cons (az (h1 pins s σ H { D with nx:=u D } I h) λf s1 q=>?_);cases f with
 |next =>
  obtain⟨σ',H',I',q⟩:=q;exact h2 pins s1 σ' H' D I' q
 |ret v=>exact q
 |brk=>exact q
 |cont=>exact q
theorem NP(h1:PS X st t):cR X [st] t:=by
 intro pins s σ H D I h;refine wpAny_execs_cons (az (h1 pins s σ H D I h) λf s1 q=>?_);cases f with
 |next=>exact nI q
 |ret v=>exact q
 |brk=>exact q
 |cont=>exact q
theorem Inv.quiet{pins:List (Addr×Obj)}{σ:St}{H:Hp}{s:Shared}(I:Inv X pins σ H s):interactive X.env=false:=by simp[interactive,I.ok.kind]
noncomputable def w6(te:TE):TS:=λD σ H=>te σ H λ_ H1=>D.nx σ H1
theorem NQ(he:PE X e te)(hs:swapsWith e none pos.line X.env=pure false:=by rfl):PS X (.Expr e pos) (w6 te):=by
 intro pins s σ H D I h;exact wpAny_Expr_any (az (he pins s σ H _ I h) λv s1 ⟨x,H1,I1,r1,q1⟩=>⟨σ,H1,I1,q1⟩) I.quiet hs
noncomputable def xO(te:TE):TS:=λD σ H=>te σ H D.rt
theorem P0(he:PE X e te):PS X (.Return (some e) pos) (xO te):=by
 intro pins s σ H D I h;exact wpAny_Return_some (az (he pins s σ H _ I h) λv s1 ⟨x,H1,I1,r1,q1⟩=>⟨x,σ,H1,I1,r1,q1⟩)
noncomputable def xP(c:TT)(t u:TS):TS:=λD σ H=>c σ H λb H1=>if b=true then t D σ H1 else u D σ H1
theorem Ss{c:Expr}{a b:List Stmt}{tc:TT}(hc:PT X c tc)(ha:cR X a t)(hb:cR X b u):PS X (.If c a b pos) (xP tc t u):=by
 intro pins s σ H D I h;refine wpAny_If (az (hc pins s σ H _ I h) λd s1 ⟨H1,I1,q1⟩=>?_);cases d with
 |true=>exact ha pins s1 σ H1 D I1 q1
 |false=>exact hb pins s1 σ H1 D I1 q1
end
noncomputable abbrev TG:=V→St→Hp→(St→Hp→Prop)→Prop
noncomputable abbrev fW:=List V→St→Hp→(St→Hp→Prop)→Prop
def PG(X:Cx)(target:Expr)(t:TG):Prop :=
 ∀(pins:List (Addr×Obj)) (s:Shared) (σ:St) (H:Hp) (v:V) (u:Value) (Q:St→Hp→Prop),Inv X pins σ H s→RelV v u→t v σ H Q →
  wpAny (model X.prog X.w) X.A (assign target X.env u) (λ_ s'=>∃σ' H',Inv X pins σ' H' s'∧Q σ' H') X.xe s
def nW(X:Cx)(ts:List Expr)(t:fW):Prop :=
 ∀(pins:List (Addr×Obj)) (s:Shared) (σ:St) (H:Hp) (vs:List V) (us:List Value) (Q:St→Hp→Prop),Inv X pins σ H s→Vals vs us→t vs σ H Q →
  wpAny (model X.prog X.w) X.A (assignInOrder ((assignEach ts X.env).map (·.2)) us) (λ_ s'=>∃σ' H',Inv X pins σ' H' s'∧Q σ' H') X.xe s
noncomputable abbrev xQ:=V→V→V→Hp→(Hp→Prop)→Prop
def Ff(X:Cx)(t:xQ):Prop :=
 ∀(pins:List (Addr×Obj)) (s:Shared) (σ:St) (H:Hp) (o i v:V) (ov iv u:Value) (Q:Hp→Prop),Inv X pins σ H s→RelV o ov→RelV i iv→RelV v u→t o i v H Q →
  wpAny (model X.prog X.w) X.A (setItem ov iv u) (λ_ s'=>∃H',Inv X pins σ H' s'∧Q H') X.xe s
section
variable {X:Cx}{pos:Pos}
noncomputable def iL(i:Nat):TG:=λv σ H Q=>Q (σ.set i (some v)) H
theorem BV{i:Nat}{x:Str}(hN:X.N.Nodup)(hi:X.N[i]?=some x)(hx:Loc X.env.scope x)(hf:X.fn x=true∨X.env.scope.names.lookup x=some .local:=by first|exact .inl rfl|exact .inr rfl|assumption):PG X (.Name x pos) (iL i):=by
 intro pins s σ H v u Q I r h;exact wpAny_assign_Name (rg I hN hi hx r (λs' I'=>⟨_,H,I',h⟩) hf)
noncomputable def Fg:fW:=λvs σ H Q=>vs=[]∧Q σ H
noncomputable def Ee(t:TG)(u:fW):fW:=λvs σ H Q=>∃v r,vs=v::r∧t v σ H λσ' H'=>u r σ' H' Q
theorem NR:nW X [] Fg:=by
 intro pins s σ H vs us Q I r h;obtain⟨e,h⟩:=h;subst e;cases r;exact assignInOrder_nil ⟨σ,H,I,h⟩
theorem Mu{e:Expr}{es:List Expr}{t:TG}{u:fW}(h1:PG X e t)(h2:nW X es u)
  (hs:(assignEach (e::es) X.env).map (·.2)=assign e X.env::(assignEach es X.env).map (·.2):=by rfl):nW X (e::es) (Ee t u):=by
 intro pins s σ H vs us Q I r h;obtain⟨v,vr,e1,h⟩:=h;subst e1;cases r with
 |cons r rr =>
  rw[hs];refine assignInOrder_cons (az (h1 pins s σ H _ _ _ I r h) λ_ s1 ⟨σ1,H1,I1,q1⟩=>?_);exact h2 pins s1 σ1 H1 _ _ Q I1 rr q1
noncomputable def Fh(K:PySem.W.Frag)(n:Nat)(t:fW):TG:=λv σ H Q=>∃a xs,v=.ref a∧aZ K H a xs∧xs.length=n∧t xs σ H Q
theorem P1{es:List Expr}{k:Nat}{t:fW}{n:Nat}(hc:X.calm=true)(h:nW X es t)
  (hn:(assignEach es X.env).length=n:=by rfl) (dH:(assignEach es X.env).findIdx? (·.1)=none:=by rfl):PG X (.Tuple es k pos) (Fh X.K n t):=by
 intro pins s σ H v u Q I r hw;obtain⟨a,xs,e1,hq,hl,hw⟩:=hw;subst e1;cases r;obtain⟨its,rv,ht,hz⟩:=I.tuple hq;refine assign_Tuple_tuple (I.ok.hd hc) ht (by simp[hn,←hl,rv.length]) dH λh' hx=>?_;have I1:Inv X pins σ H { s with heap:=h' }:=I.kept (t':=s.toks) λb o e=>hx b o (cO (aV e)) e;exact h pins _ σ H xs _ Q I1 (by simpa using rv) hw
noncomputable def Fm(to ti:TE)(t:xQ):TG:=λv σ H Q=>to σ H λo H1=>ti σ H1 λi H2=>t o i v H2 λH3=>Q σ H3
theorem P2{o i:Expr}{to ti:TE}{t:xQ}(ho:PE X o to)(hi:PE X i ti)(hs:Ff X t)
  (ha:∀v,assign (.Subscript o i pos) X.env v=(do
   let ov ←holding [v] (eval o X.env)
   let iv ←holding [v,ov] (eval i X.env)
   standAt pos
   holding [v,ov,iv] (setItem ov iv v)
   release [v,ov,iv] []):=by intro _;rfl):PG X (.Subscript o i pos) (Fm to ti t):=by
 intro pins s σ H v u Q I r h;rw[ha];refine ak (ik (az (ho pins s σ H _ I h) λov s1 ⟨x,H1,I1,r1,q1⟩=>?_));refine ak (ik (az (hi pins s1 σ H1 _ I1 q1) λiv s2 ⟨y,H2,I2,r2,q2⟩=>?_));refine ak (lO (ak (ik (az (hs pins s2 σ H2 x y v ov iv u _ I2 r1 r2 r q2) λ_ s3 ⟨H3,I3,q3⟩=>?_))));exact wpAny_release ⟨σ,H3,I3,q3⟩
noncomputable def g8(te:TE)(g:TG):TS:=λD σ H=>te σ H λx H1=>g x σ H1 D.nx
theorem P4{tg e:Expr}{te:TE}{g:TG}(he:PE X e te)(hg:PG X tg g)(hs:swapsWithSole [tg] e pos.line X.env=pure false:=by rfl)(hw:swappedStores [tg] e X.env=pure none:=by rfl)
  (h1:(assignEach [tg] X.env).map (·.2)=[assign tg X.env]:=by rfl):PS X (.Assign [tg] e pos) (g8 te g):=by
 intro pins s σ H D I h;refine wpAny_Assign_stores (az (he pins s σ H _ I h) λv s1 ⟨x,H1,I1,r1,q1⟩=>?_) hs hw;rw[h1];exact az (hg pins s1 σ H1 x v _ I1 r1 q1) λ_ s2 q=>q
theorem C6{i:Nat}{x:Str}{e:Expr}{te:TE}{pos':Pos}(hN:X.N.Nodup)(hi:X.N[i]?=some x)(hx:Loc X.env.scope x)(he:PE X e te)(hs:swapsWith e (some (.Name x pos')) pos.line X.env=pure false:=by rfl)(hf:X.fn x=true∨X.env.scope.names.lookup x=some .local:=by first|exact .inl rfl|exact .inr rfl|assumption) :
  PS X (.Assign [.Name x pos'] e pos) (g8 te (iL i)):=by
 intro pins s σ H D I h;refine wpAny_Assign_Name (az (he pins s σ H _ I h) λv s1 ⟨y,H1,I1,r1,q1⟩=>?_) hs;exact rg I1 hN hi hx r1 (λs2 I2=>⟨_,H1,I2,q1⟩) hf
end
section
variable {X:Cx}{pos:Pos}
end
structure It where
 go:Nat→Hp→Prop
 iU:Nat→Hp→V→Hp→Prop
 stop:Nat→Hp→Prop
def g9(X:Cx)(pins:List (Addr×Obj))(H:Hp)(b:Addr):Prop :=
 H b=none∧b≠X.env.locals∧b∉X.fs∧(b∈X.ex∨X.s₀.heap.objs.size≤b)∧(∀x c,X.env.cells.lookup x=some c→c≠b)∧∀p∈X.pn++pins,p.1≠b
theorem Inv.pO{X:Cx}{pins:List (Addr×Obj)}{σ:St}{H H':Hp}{s:Shared}{b:Addr}(I:Inv X pins σ H s)(hb:s.heap.objs.size≤b)(hn:H' b=none):g9 X pins H' b:=by
 refine⟨hn,Nat.ne_of_gt (dF I.lt hb),I.Ud hb,.inr (aQ I.sz hb),λx c e z=>?_,λp hp z=>?_⟩
 ·obtain⟨v,q⟩:=I.cell x c e;exact absurd (dF q.lt (by rw[z];exact hb)) (iP _)
 ·exact absurd (dF (aV (I.pin p hp).1) (by rw[z];exact hb)) (iP _)
structure Turn (P:Program)(w:World)(K:PySem.W.Frag)(tg:Expr)(J:It)(fp:List Addr)(it:Addr)(tn:Nat→Heap→Prop):Prop where
 mem:it∈fp
 obj:∀i h,tn i h→∀b∈fp,∃o,h.get? b=some o∧∀v,o.data≠.cell v
 keep:∀i h h',tn i h→(∀b∈fp,∀o,h.get? b=some o→h'.get? b=some o)→tn i h'
 item:∀(X:Cx),X.prog=P→X.w=w→X.K=K→X.calm=true→∀(i:Nat) (pins:List (Addr×Obj)) (s:Shared) (σ:St) (H:Hp) (E:Value→Shared→Prop),Inv X pins σ H s→(∀b∈fp,g9 X pins H b)→tn i s.heap→J.go i H →
  wpAny (model P w) X.A (pyNext (.ref it)) (λr s1=>∃u,r=some u ∧
   wpAny (model P w) X.A (letOwnedTupleGo tg (.ref it) u) (λ_ s2=>∃x H',Inv X pins σ H' s2∧RelV x u∧J.iU i H x H'∧tn (i+1) s2.heap∧∀b∈fp,H' b=none) E s1) E s
 done:∀(X:Cx),X.prog=P→X.w=w→X.K=K→X.calm=true→∀(i:Nat) (pins:List (Addr×Obj)) (s:Shared) (σ:St) (H:Hp) (E:Value→Shared→Prop),Inv X pins σ H s→(∀b∈fp,g9 X pins H b)→tn i s.heap→J.stop i H →
  wpAny (model P w) X.A (pyNext (.ref it)) (λr s1=>r=none∧Inv X pins σ H s1) E s
 self:∀(A:Around) (i:Nat) (s:Shared) (Q:Value→Shared→Prop) (E:Value→Shared→Prop),tn i s.heap→Q (.ref it) s→wpAny (model P w) A (pyIter (.ref it)) Q E s
noncomputable abbrev TI:=St→Hp→(It→Hp→Prop)→Prop
def Gd(X:Cx)(pins:List (Addr×Obj))(σ:St)(tg:Expr)(R:It→Hp→Prop)(um:Value)(s2:Shared):Prop :=
 ∃(it:Addr) (fp:List Addr) (tn:Nat→Heap→Prop) (J:It) (H':Hp),um=.ref it∧Inv X pins σ H' s2∧Turn X.prog X.w X.K tg J fp it tn∧tn 0 s2.heap∧(∀b∈fp,g9 X pins H' b)∧R J H'
def PI(X:Cx)(tg iter:Expr)(wi:TI):Prop :=
 ∀(pins:List (Addr×Obj)) (s:Shared) (σ:St) (H:Hp) (R:It→Hp→Prop),Inv X pins σ H s→wi σ H R →
  wpAny (model X.prog X.w) X.A (eval iter X.env) (λv s1=>wpAny (model X.prog X.w) X.A (pyIter v) (Gd X pins σ tg R) X.xe s1) X.xe s
theorem rW{M:Model}{A:Around}{E:Value→Shared→Prop}{s:Shared}{tg:Expr}{it:Addr}{u:Value}{o:Obj}{n:String}{vs:Array Value}{Q:Unit→Shared→Prop}(ho:s.heap.get? it=some o)(hc:o.cls=.type n)(hd:o.data=.fields vs)
    (hn:["enumerate", "zip", "dict_itemiterator", "dict_reverseitemiterator", "odict_iterator", "itertools.zip_longest", "itertools.pairwise"].contains n=false) (hQ:Q () s):wpAny M A (letOwnedTupleGo tg (.ref it) u) Q E s:=by
  unfold letOwnedTupleGo;cases tg<;>first
    |exact aH hQ
    | (cases u<;>first
        |exact aH hQ
        | (refine ak (wpAny_load ho ?_)
           rw[hc,hd];show wpAny M A (if (["enumerate", "zip", "dict_itemiterator", "dict_reverseitemiterator", "odict_iterator", "itertools.zip_longest", "itertools.pairwise"].contains n&&vs[0]?==some (rawInt _))=true then _ else _) Q E s;rw[if_neg (by intro h;rw[hn,tX]at h;cases h)];exact aH hQ))
noncomputable def yW(K:PySem.W.Frag)(a:Addr):It :=
 ⟨λi H=>∃xs x,bj K H a xs∧xs[i]?=some x,λi H x H'=>H'=H∧∀xs,bj K H a xs→xs[i]?=some x,λi H=>∃xs,bj K H a xs∧xs.length≤i⟩
noncomputable def yX(K:PySem.W.Frag)(a:Addr):It :=
 ⟨λi H=>∃xs x,aZ K H a xs∧xs[i]?=some x,λi H x H'=>H'=H∧∀xs,aZ K H a xs→xs[i]?=some x,λi H=>∃xs,aZ K H a xs∧xs.length≤i⟩
noncomputable def uq(lo:Int)(n:Nat):It:=⟨λi _=>i<n,λi H x H'=>H'=H∧x=.int (lo+i),λi _=>n≤i⟩
theorem Lc{P:Program}{w:World}{K:PySem.W.Frag}{tg:Expr}(a it:Addr):Turn P w K tg (yW K a) [it] it (λi h=>h.IsListIter it a i) where
 mem:=by simp
 obj:=λi h st b hb=>by
  have e:b=it:=by simpa using hb
  subst e;obtain⟨o,e,c,d⟩:=st;exact⟨o,e,λv z=>by rw[d]at z;cases z⟩
 keep:=λi h h' st k=>st.at λo e=>k it (by simp) o e
 item:=by
  intro X hP hw hK hc i pins s σ H E I hf st hg;subst hP hw hK;obtain⟨xs,x,hq,hx⟩:=hg;obtain⟨its,rv,p,hz⟩:=I.list hq;obtain⟨u,hu,ru⟩:=rv.get hx;obtain⟨f0,f1,f2,f3,f4,f5⟩:=hf it (by simp);refine wpAny_pyNext_list_item st p.isList (x:=u) (by simpa using hu) λh' iy sb=>?_;have I1:Inv X pins σ H { s with heap:=h' }:=I.turned (t':=s.toks) (λb o hb e=>(sb.2 b hb).trans e) f0 f1 f3 f4 f5;obtain⟨o,e,c,d⟩:=id iy;exact⟨u,rfl,rW (s:={ s with heap:=h' }) e c d (by decide) ⟨x,H,I1,ru,⟨rfl,λys hy=>by rw[I.Bf hy hq];exact hx⟩,iy,λb hb=>(hf b hb).1⟩⟩
 done:=by
  intro X hP hw hK hc i pins s σ H E I hf st hg;subst hP hw hK;obtain⟨xs,hq,hx⟩:=hg;obtain⟨its,rv,p,hz⟩:=I.list hq;obtain⟨f0,f1,f2,f3,f4,f5⟩:=hf it (by simp);have hl:=rv.length;exact wpAny_pyNext_list_end (I.ok.hd hc) st p.isList (by simp;omega) λh' eb=>⟨rfl,I.turned (t':=s.toks) (λb o hb e=>eb b o hb e) f0 f1 f3 f4 f5⟩
 self:=λ_ _ _ _ _ st h=>wpAny_pyIter_listiter st h
theorem Km{P:Program}{w:World}{K:PySem.W.Frag}{tg:Expr}(a it:Addr):Turn P w K tg (yX K a) [it] it (λi h=>h.IsTupleIter it a i) where
 mem:=by simp
 obj:=λi h st b hb=>by
  have e:b=it:=by simpa using hb
  subst e;obtain⟨o,e,c,d⟩:=st;exact⟨o,e,λv z=>by rw[d]at z;cases z⟩
 keep:=λi h h' st k=>st.at λo e=>k it (by simp) o e
 item:=by
  intro X hP hw hK hc i pins s σ H E I hf st hg;subst hP hw hK;obtain⟨xs,x,hq,hx⟩:=hg;obtain⟨its,rv,p,hz⟩:=I.tuple hq;obtain⟨u,hu,ru⟩:=rv.get hx;obtain⟨f0,f1,f2,f3,f4,f5⟩:=hf it (by simp);refine wpAny_pyNext_tuple_item st (show s.heap.IsTuple a its.toArray from p) (x:=u) (by simpa using hu) λh' iy sb=>?_;have I1:Inv X pins σ H { s with heap:=h' }:=I.turned (t':=s.toks) (λb o hb e=>(sb.2 b hb).trans e) f0 f1 f3 f4 f5;obtain⟨o,e,c,d⟩:=id iy;exact⟨u,rfl,rW (s:={ s with heap:=h' }) e c d (by decide) ⟨x,H,I1,ru,⟨rfl,λys hy=>by rw[I.Lb hy hq];exact hx⟩,iy,λb hb=>(hf b hb).1⟩⟩
 done:=by
  intro X hP hw hK hc i pins s σ H E I hf st hg;subst hP hw hK;obtain⟨xs,hq,hx⟩:=hg;obtain⟨its,rv,p,hz⟩:=I.tuple hq;obtain⟨f0,f1,f2,f3,f4,f5⟩:=hf it (by simp);have hl:=rv.length;exact wpAny_pyNext_tuple_end (I.ok.hd hc) st (show s.heap.IsTuple a its.toArray from p) (by simp;omega) λh' eb=>⟨rfl,I.turned (t':=s.toks) (λb o hb e=>eb b o hb e) f0 f1 f3 f4 f5⟩
 self:=λ_ _ _ _ _ st h=>wpAny_pyIter_tupleiter st h
theorem Kn{P:Program}{w:World}{K:PySem.W.Frag}{tg:Expr}(it:Addr)(lo:Int)(n:Nat):Turn P w K tg (uq lo n) [it] it (λi h=>IsRangeIter h it (lo+(i:Nat)*1) ((n:Int)-(i:Nat)) 1) where
 mem:=by simp
 obj:=λi h st b hb=>by
  have e:b=it:=by simpa using hb
  subst e;exact⟨_,st,λv z=>by
   have z':Data.fields _=Data.cell v:=z;cases z'⟩
 keep:=λi h h' st k=>k it (by simp) _ st
 item:=by
  intro X hP hw hK hc i pins s σ H E I hf st hg;subst hP hw hK;obtain⟨f0,f1,f2,f3,f4,f5⟩:=hf it (by simp);have W:=Walks.range (prog:=X.prog) (w:=X.w) (I.ok.hd hc) it lo 1 n;refine W.item i s _ _ hg st λv h' tk hv iy kk=>?_;obtain⟨t,rfl⟩:=hv;have I1:Inv X pins σ H { s with heap:=h',toks:=tk }:=I.turned (λb o hb e=>kk b o (by simpa using hb) e) f0 f1 f3 f4 f5;refine⟨_,rfl,rW (s:={ s with heap:=h',toks:=tk }) (n := "range_iterator") iy rfl rfl (by decide) ⟨.int (lo+i),H,I1,⟨t,?_⟩,⟨rfl,rfl⟩,iy,λb hb=>(hf b hb).1⟩⟩;rw[Int.mul_one]
 done:=by
  intro X hP hw hK hc i pins s σ H E I hf st hg;subst hP hw hK;obtain⟨f0,f1,f2,f3,f4,f5⟩:=hf it (by simp);exact wpAny_pyNext_range_end (I.ok.hd hc) st (by have:n≤i:=hg;omega) λh' eb=>⟨rfl,I.turned (t':=s.toks) (λb o hb e=>eb b o hb e) f0 f1 f3 f4 f5⟩
 self:=λ_ _ _ _ _ st h=>wpAny_pyIter_rangeiter st h
section
variable {X:Cx}{tg:Expr}
def w9(K:PySem.W.Frag)(tl:TE):TI:=λσ H R=>tl σ H λx H1=>∃a,x=.ref a∧(∃xs,bj K H1 a xs)∧R (yW K a) H1
def xR(K:PySem.W.Frag)(tl:TE):TI:=λσ H R=>tl σ H λx H1=>∃a,x=.ref a∧(∃xs,aZ K H1 a xs)∧R (yX K a) H1
theorem NS{l:Expr}{tl:TE}(hl:PE X l tl):PI X tg l (w9 X.K tl):=by
 intro pins s σ H R I h;refine az (hl pins s σ H _ I h) λv s1 ⟨x,H1,I1,r1,q1⟩=>?_;obtain⟨a,e,⟨xs,hq⟩,q⟩:=q1;subst e;cases r1;obtain⟨its,rv,p,hz⟩:=I1.list hq;refine wpAny_pyIter_list p.isList ?_;refine⟨s1.heap.objs.size,[s1.heap.objs.size],_,_,H1,rfl,I1.kept (t':=s1.toks) λb o e=>bQ _ e,Lc a _,⟨_,dX _ rfl,rfl,rfl⟩,λb hb=>?_,q⟩;have e:b=s1.heap.objs.size:=by simpa using hb
 subst e;exact I1.pO (a7 _) (I1.ay.fresh (a7 _))
theorem P5{l:Expr}{tl:TE}(hl:PE X l tl):PI X tg l (xR X.K tl):=by
 intro pins s σ H R I h;refine az (hl pins s σ H _ I h) λv s1 ⟨x,H1,I1,r1,q1⟩=>?_;obtain⟨a,e,⟨xs,hq⟩,q⟩:=q1;subst e;cases r1;obtain⟨its,rv,p,hz⟩:=I1.tuple hq;refine wpAny_pyIter_tuple (show s1.heap.IsTuple a its.toArray from p) ?_;refine⟨s1.heap.objs.size,[s1.heap.objs.size],_,_,H1,rfl,I1.kept (t':=s1.toks) λb o e=>bQ _ e,Km a _,⟨_,dX _ rfl,rfl,rfl⟩,λb hb=>?_,q⟩;have e:b=s1.heap.objs.size:=by simpa using hb
 subst e;exact I1.pO (a7 _) (I1.ay.fresh (a7 _))
theorem Mv{pins:List (Addr×Obj)}{σ:St}{H:Hp}{s:Shared}{R:It→Hp→Prop}{E:Value→Shared→Prop}{lo hi:Int}{t u v:Tok}{tk:Nat}(I:Inv X pins σ H s)(h1:-(2^62)≤lo)(h2:lo<2^62)(h3:-(2^62)≤hi)(h4:hi<2^62)
  (q:R (uq lo (hi-lo).toNat) H):wpAny (model X.prog X.w) X.A (pyIter (.ref s.heap.objs.size)) (Gd X pins σ tg R) E { s with heap:=s.heap.push { cls:=.type "range",data:=.fields #[.int lo t,.int hi u,.int 1 v] },toks:=tk }:=by
 refine wpAny_pyIter_range (IsRange.new ..) (small_one h1 h2 h3 h4) ?_;have I1:Inv X pins σ H { s with heap:=s.heap.push { cls:=.type "range",data:=.fields #[.int lo t,.int hi u,.int 1 v] },toks:=tk }:=I.kept λb o e=>bQ _ e;refine⟨(s.heap.push { cls:=.type "range",data:=.fields #[.int lo t,.int hi u,.int 1 v] }).objs.size,[(s.heap.push { cls:=.type "range",data:=.fields #[.int lo t,.int hi u,.int 1 v] }).objs.size],_,_,H,rfl,
  I1.kept (t':=tk) λb o e=>bQ _ e,Kn _ lo (hi-lo).toNat,?_,λb hb=>?_,q⟩
 ·have e1:lo+((0:Nat):Int)*1=lo:=by simp
  have e2:(((hi-lo).toNat:Nat):Int)-((0:Nat):Int)=Builtin.Range.rangeSize lo hi 1:=by rw[rangeSize_one];split<;>omega
  show IsRangeIter _ _ (lo+((0:Nat):Int)*1) ((((hi-lo).toNat:Nat):Int)-((0:Nat):Int)) 1;rw[e1,e2];exact dX _ rfl
 ·have e:b=(s.heap.push { cls:=.type "range",data:=.fields #[.int lo t,.int hi u,.int 1 v] }).objs.size:=by simpa using hb
  subst e;exact I1.pO (a7 _) (I1.ay.fresh (a7 _))
def Ef(ta:TA):TI:=λσ H R=>ta σ H λvs H1=>∃j:Int,vs=[.int j]∧-(2^62)≤j∧j<2^62∧R (uq 0 j.toNat) H1
theorem Ld {a:Expr}{ta:TA}{p pos:Pos} (hg:Gl X "range") (hm:X.mg "range" = none) (ha:PA X [a] ta) (hs:starEach [a] X.env=[(false,eval a X.env)]:=by rfl):PI X tg (.Call (.Name "range" p) [a] [] pos) (Ef ta):=by
 intro pins s σ H R I h;refine Call_ (oX I hg hm boot_range (yA (az (ha pos pins s σ H _ I h) λus s1 ⟨vs,H1,I1,r1,q1⟩=>?_) hs rfl));obtain⟨j,e,q1,q2,q⟩:=q1;subst e;cases r1 with
 |cons r rr =>
  cases rr;obtain⟨t,rfl⟩:=r;exact call_range_1 (Mv I1 (by omega) (by omega) q1 q2 (by simpa using q))
noncomputable def xS(wi:TI)(g:TG)(tb:TS):TS:=λD σ H=>wi σ H λJ H1=>∃W:Nat→Nat→St→Hp→Prop,(∃m,W 0 m σ H1)∧∀i m σ H,W i m σ H →
 (J.stop i H∧D.nx σ H)∨(J.go i H∧∃N:St→Hp→Prop,(∀σ' H',N σ' H'→∃m',m'<m∧W (i+1) m' σ' H')∧∀x H',J.iU i H x H'→g x σ H' λσ2 H2=>tb { D with nx:=N,ct:=N,bk:=D.nx } σ2 H2)
noncomputable def oY(fp:List Addr)(h:Heap):List (Addr×Obj):=fp.filterMap λb=>(h.get? b).map λo=>(b,o)
theorem qW{fp:List Addr}{h:Heap}{b:Addr}{o:Obj}(hb:b∈fp)(e:h.get? b=some o):(b,o)∈oY fp h:=List.mem_filterMap.mpr ⟨b,hb,by rw[e];rfl⟩
theorem Le{fp:List Addr}{h:Heap}{p:Addr×Obj}(hp:p∈oY fp h):p.1∈fp∧h.get? p.1=some p.2:=by
 obtain⟨b,hb,e⟩:=List.mem_filterMap.mp hp;cases q:h.get? b with
 |none=>rw[q]at e;cases e
 |some o =>
  rw[q]at e;have e':(b,o)=p:=eR e;subst e';exact⟨hb,q⟩
theorem Inv.pinned{pins:List (Addr×Obj)}{σ:St}{H:Hp}{s:Shared}{fp:List Addr}(I:Inv X pins σ H s)(hf:∀b∈fp,g9 X pins H b)(ho:∀b∈fp,∃o,s.heap.get? b=some o∧∀v,o.data≠.cell v):Inv X (pins++oY fp s.heap) σ H s :=
 I.BQ λp hp=>(ic.mp hp).elim (λz=>I.pin p (il _ z)) λz=>by
  obtain⟨hb,e⟩:=Le z;obtain⟨f0,f1,f2,_⟩:=hf p.1 hb;obtain⟨o,e',d⟩:=ho p.1 hb;rw[e]at e';cases e';exact⟨e,f0,f1,f2,d⟩
theorem Inv.rh{pins pl:List (Addr×Obj)}{σ:St}{H:Hp}{s:Shared}(I:Inv X (pins++pl) σ H s):Inv X pins σ H s:=I.BQ λp hp=>I.pin p (il _ (yz _ hp))
theorem P6{iter:Expr}{body:List Stmt}{wi:TI}{g:TG}{tb:TS}{pos:Pos}(hp:PassesOwn (model X.prog X.w) X.A X.env X.xe)(hc:X.calm=true)(hi:PI X tg iter wi)(hg:PG X tg g)(hb:cR X body tb)
  (hs:∀x,foldedSetIterable iter X.env x=pure x:=by intro _;rfl):PS X (.For tg iter body [] pos) (xS wi g tb):=by
 intro pins s σ H D I h;refine wpAny_For (az (hi pins s σ H _ I h) λv s1 h1=>az h1 λum s2 h2=>?_) hs;obtain⟨it,fp,tn,J,H2,e,I2,T,cj,f2,W,⟨m0,w0⟩,turn⟩:=h2;subst e;have stat:∀{H':Hp},(∀b∈fp,H' b=none)→∀b∈fp,g9 X pins H' b:=λhn b hb=>⟨hn b hb,(f2 b hb).2⟩;refine codeAny_forLoop_any (λn s'=>∃i σ' H',Inv X pins σ' H' s'∧tn i s'.heap∧(∀b∈fp,H' b=none)∧W i n σ' H') ?_ m0 ⟨0,σ,H2,I2,cj,λb hb=>(f2 b hb).1,w0⟩;rintro n s3 ⟨i,σ3,H3,I3,ku,qm,w3⟩;rcases turn i n σ3 H3 w3 with⟨stop,qn⟩|⟨go,N,hN,step⟩
 ·refine qb hp (az (T.done X rfl rfl rfl hc i pins s3 σ3 H3 X.xe I3 (stat qm) ku stop) λr s4 ⟨hr,I4⟩=>?_);subst hr;exact nI ⟨σ3,H3,I4,qn⟩
 ·refine qb hp (az (T.item X rfl rfl rfl hc i pins s3 σ3 H3 X.xe I3 (stat qm) ku go) λr s4 ⟨u,hr,h4⟩=>?_);subst hr;refine qb hp (az h4 λ_ s5 ⟨x,H5,I5,r5,y5,iz,yZ⟩=>?_);have y0:=I5.pinned (stat yZ) (T.obj _ _ iz);refine qb hp (az (hg _ s5 σ3 H5 x u _ y0 r5 (step x H5 y5)) λ_ s6 ⟨σ6,H6,I6,q6⟩=>?_);refine qb hp (az (hb _ s6 σ6 H6 _ I6 q6) λf s7 q7=>?_);have again:∀{σ7:St}{H7:Hp},Inv X (pins++oY fp s5.heap) σ7 H7 s7→N σ7 H7→∃m,m<n∧∃i σ' H',Inv X pins σ' H' s7∧tn i s7.heap∧(∀b∈fp,H' b=none)∧W i m σ' H':=λ{σ7 H7} I7 n7=>by
   obtain⟨m',hm,w7⟩:=hN σ7 H7 n7;refine⟨m',hm,i+1,σ7,H7,I7.rh,T.keep _ _ _ iz λb hb o e=>(I7.pin (b,o) (il _ (il _ (qW hb e)))).1,λb hb=>?_,w7⟩;obtain⟨o,e,d⟩:=T.obj _ _ iz b hb;exact(I7.pin (b,o) (il _ (il _ (qW hb e)))).2.1
  cases f with
  |next=>obtain⟨σ7,H7,I7,n7⟩:=q7;exact again I7 n7
  |cont=>obtain⟨σ7,H7,I7,n7⟩:=q7;exact again I7 n7
  |brk=>obtain⟨σ7,H7,I7,q7⟩:=q7;exact⟨σ7,H7,I7.rh,q7⟩
  |ret v=>obtain⟨x7,σ7,H7,I7,r7,q7⟩:=q7;exact⟨x7,σ7,H7,I7.rh,r7,q7⟩
end
noncomputable abbrev R2:=V→V→Hp→VK→Prop
def bq(X:Cx)(f:Value→Value→Sem Value)(r:R2):Prop :=
 ∀(pins:List (Addr×Obj)) (s:Shared) (σ:St) (H:Hp) (x y:V) (v u:Value) (Q:VK),Inv X pins σ H s→RelV x v→RelV y u→r x y H Q →
  wpAny (model X.prog X.w) X.A (f v u) (EP X pins σ Q) X.xe s
def ur(X:Cx)(f:Value→Sem Value)(r:V→Hp→VK→Prop):Prop :=
 ∀(pins:List (Addr×Obj)) (s:Shared) (σ:St) (H:Hp) (x:V) (v:Value) (Q:VK),Inv X pins σ H s→RelV x v→r x H Q →
  wpAny (model X.prog X.w) X.A (f v) (EP X pins σ Q) X.xe s
def fM(X:Cx)(f:Value)(r:List V→Hp→VK→Prop):Prop :=
 ∀(pins:List (Addr×Obj)) (s:Shared) (σ:St) (H:Hp) (xs:List V) (us:List Value) (Q:VK),Inv X pins σ H s→Vals xs us→r xs H Q →
  wpAny (model X.prog X.w) X.A (call f us) (EP X pins σ Q) X.xe s
def Ug(X:Cx)(r:V→Hp→(Bool→Hp→Prop)→Prop):Prop :=
 ∀(pins:List (Addr×Obj)) (s:Shared) (σ:St) (H:Hp) (x:V) (v:Value) (Q:Bool→Hp→Prop),Inv X pins σ H s→RelV x v→r x H Q →
  wpAny (model X.prog X.w) X.A (truthy v) (TP X pins σ Q) X.xe s
noncomputable def nX(r:R2)(ta tb:TE):TE:=λσ H Q=>ta σ H λx H1=>tb σ H1 λy H2=>r x y H2 Q
noncomputable def Ge(r:V→Hp→VK→Prop)(ta:TE):TE:=λσ H Q=>ta σ H λx H1=>r x H1 Q
noncomputable def rI(C:Int→Int→Prop)(g:Int→Int→V):R2:=λx y H Q=>∃i j,x=.int i∧y=.int j∧C i j∧Q (g i j) H
noncomputable def dI(g:Int→Int→V):R2:=λx y H Q=>∃i j,x=.int i∧y=.int j∧Q (g i j) H
def rU(g:Int→V):V→Hp→VK→Prop:=λx H Q=>∃i,x=.int i∧Q (g i) H
section
variable {X:Cx}{a b c:Expr}{ta tb tc:TE}{pos:Pos}
theorem xT(ha:PE X a ta)(hb:PE X b tb){pins:List (Addr×Obj)}{s:Shared}{σ:St}{H:Hp}{R:V→V→Hp→Prop}(I:Inv X pins σ H s)
  (h:ta σ H λx H1=>tb σ H1 λy H2=>R x y H2) {Q:Value→Shared→Prop}{f:Value→Value→Sem Value}
  (hf:∀v u s2 x y H2,Inv X pins σ H2 s2→RelV x v→RelV y u→R x y H2→wpAny (model X.prog X.w) X.A (f v u) Q X.xe s2) :
  wpAny (model X.prog X.w) X.A (eval a X.env) (λv s₁=>wpAny (model X.prog X.w) X.A (eval b X.env) (λu s₂=>wpAny (model X.prog X.w) X.A (f v u) Q X.xe s₂) X.xe s₁) X.xe s:=by
 refine az (ha pins s σ H _ I h) λv s1 ⟨x,H1,I1,r1,q1⟩=>?_;refine az (hb pins s1 σ H1 _ I1 q1) λu s2 ⟨y,H2,I2,r2,q2⟩=>?_;exact hf v u s2 x y H2 I2 r1 r2 q2
theorem Sv{op:Operator}{r:R2}(ho:bq X (binaryOp op) r)(ha:PE X a ta)(hb:PE X b tb):PE X (.BinOp a op b pos) (nX r ta tb):=by
 intro pins s σ H Q I h;exact wpAny_BinOp (xT ha hb I h λv u s2 x y H2 I2 rx ry q=>ho pins s2 σ H2 x y v u Q I2 rx ry q)
theorem Sw{op:UnaryOp}{r:V→Hp→VK→Prop}(ho:ur X (unaryOp op) r)(ha:PE X a ta):PE X (.UnaryOp op a pos) (Ge r ta):=by
 intro pins s σ H Q I h;exact UnaryOp_ (az (ha pins s σ H _ I h) λv s1 ⟨x,H1,I1,r1,q1⟩=>ho pins s1 σ H1 x v Q I1 r1 q1)
theorem uv{f:Value→Value→Sem Value}{C:Int→Int→Prop}{g:Int→Int→Int}
  (rule:∀(i j:Int) (t u:Tok) (s:Shared) (Q:Value→Shared→Prop) (E:Value→Shared→Prop),C i j→Q (.int (g i j) s.toks) { s with toks:=s.toks+1 }→wpAny (model X.prog X.w) X.A (f (.int i t) (.int j u)) Q E s) :
  bq X f (rI C λi j=>.int (g i j)):=by
 intro pins s σ H x y v u Q I rx ry h;obtain⟨i,j,rfl,rfl,hc,q⟩:=h;obtain⟨t,rfl⟩:=rx;obtain⟨t',rfl⟩:=ry;exact rule i j t t' s _ _ hc ⟨.int (g i j),H,I.tok _,⟨_,rfl⟩,q⟩
theorem Fn{f:Value→Value→Sem Value}{g:Int→Int→Int}
  (rule:∀(i j:Int) (t u:Tok) (s:Shared) (Q:Value→Shared→Prop) (E:Value→Shared→Prop),Q (.int (g i j) s.toks) { s with toks:=s.toks+1 }→wpAny (model X.prog X.w) X.A (f (.int i t) (.int j u)) Q E s) :
  bq X f (dI λi j=>.int (g i j)):=by
 intro pins s σ H x y v u Q I rx ry h;obtain⟨i,j,rfl,rfl,q⟩:=h;obtain⟨t,rfl⟩:=rx;obtain⟨t',rfl⟩:=ry;exact rule i j t t' s _ _ ⟨.int (g i j),H,I.tok _,⟨_,rfl⟩,q⟩
theorem sY{f:Value→Value→Sem Value}{g:Int→Int→Bool}
  (rule:∀(i j:Int) (t u:Tok) (s:Shared) (Q:Value→Shared→Prop) (E:Value→Shared→Prop),Q (.bool (g i j)) s→wpAny (model X.prog X.w) X.A (f (.int i t) (.int j u)) Q E s) :
  bq X f (dI λi j=>.bl (g i j)):=by
 intro pins s σ H x y v u Q I rx ry h;obtain⟨i,j,rfl,rfl,q⟩:=h;obtain⟨t,rfl⟩:=rx;obtain⟨t',rfl⟩:=ry;exact rule i j t t' s _ _ ⟨.bl (g i j),H,I,rfl,q⟩
def Fo(i j:Int):Prop:=0≤j∧j≤1000000∧i.natAbs<2^64
def pP(i j:Int):Prop:=(-(2^64)<i∧i<2^64)∨(-(2^64)<j∧j<2^64)
theorem pP.ok{i j:Int}(h:pP i j):IntMulOk i j:=by
 rcases h with⟨h1,h2⟩|⟨h1,h2⟩
 ·exact .of_left (intBits_le_64 h1 h2)
 ·exact .of_right (intBits_le_64 h1 h2)
theorem P7:bq X (binaryOp .Add) (dI λi j=>.int (i+j)):=Fn λ_ _ _ _ _ _ _ q=>add_int q
theorem P8:bq X (binaryOp .Sub) (dI λi j=>.int (i-j)):=Fn λ_ _ _ _ _ _ _ q=>sub_int q
theorem P9:bq X (binaryOp .Mult) (rI pP λi j=>.int (i*j)):=uv λ_ _ _ _ _ _ _ hc q=>mul_int q hc.ok
theorem Qa:bq X (binaryOp .Mod) (rI (λ_ j=>0<j) λi j=>.int (i%j)):=uv λi j _ _ _ _ _ hc q=>by
 have h1:(0:Int)<j:=hc;exact mod_int' (by omega) (by rw[Int.fmod_eq_emod_of_nonneg i (by omega)];exact q)
theorem Qb:bq X (binaryOp .Pow) (rI Fo λi j=>.int (i^j.toNat)):=uv λ_ _ _ _ _ _ _ hc q=>pow_int_small hc.1 hc.2.1 hc.2.2 q
theorem U8{f:Value→Sem Value}{g:Int→Int}
  (rule:∀(i:Int) (t:Tok) (s:Shared) (Q:Value→Shared→Prop) (E:Value→Shared→Prop),Q (.int (g i) s.toks) { s with toks:=s.toks+1 }→wpAny (model X.prog X.w) X.A (f (.int i t)) Q E s) :
  ur X f (rU λi=>.int (g i)):=by
 intro pins s σ H x v Q I rx h;obtain⟨i,rfl,q⟩:=h;obtain⟨t,rfl⟩:=rx;exact rule i t s _ _ ⟨.int (g i),H,I.tok _,⟨_,rfl⟩,q⟩
theorem Qc:ur X (unaryOp .USub) (rU λi=>.int (-i)):=U8 λ_ _ _ _ _ q=>neg_int q
end
noncomputable def sZ:V→V→Bool
 |.non,.non=>true|.non,.int _=>true|.int _,.non=>true|.non,.bl _=>true|.bl _,.non=>true|.non,.str _=>true|.str _,.non=>true
 |.int _,.int _=>true|.bl _,.bl _=>true|.str _,.str _=>true|.dZ _,.dZ _=>true
 |.int _,.str _=>true|.str _,.int _=>true|.bl _,.str _=>true|.str _,.bl _=>true
 |_,_=>false
def Gf:R2:=λx y H Q=>sZ x y=true∧Q (.bl (decide (x=y))) H
def Gg:R2:=λx y H Q=>sZ x y=true∧Q (.bl (!decide (x=y))) H
theorem BX{i j:Int}:decide (V.int i=V.int j)=(i==j):=by
 rw[tY];simp
theorem C7{i j:Bool}:decide (V.bl i=V.bl j)=(i==j):=by
 rw[tY];simp
theorem BZ{i j:Str}:decide (V.str i=V.str j)=(i==j):=by
 rw[tY];simp
theorem B1{i j:Array UInt8}:decide (V.dZ i=V.dZ j)=(i.toList==j.toList):=by
 rw[tY];cases i;cases j;simp
section
variable {X:Cx}{a b c:Expr}{ta tb tc:TE}{pos:Pos}
theorem bI{pins:List (Addr×Obj)}{σ:St}{H:Hp}{s:Shared}{Q:VK}{k k':Bool}(I:Inv X pins σ H s)(q:Q (.bl k) H)(e:k=k'):EP X pins σ Q (.bool k') s:=by
 subst e;exact⟨.bl k,H,I,rfl,q⟩
theorem Sx:bq X (compareOp .Eq) Gf:=by
 intro pins s σ H x y v u Q I rx ry h;obtain⟨hs,q⟩:=h;cases x with
 |non =>
  cases rx;cases y with
  |non=>cases ry;exact PySem.EqNone.eq_none_none (bI I q (by simp))
  |bl j=>cases ry;exact PySem.EqNone.eq_none_bool (bI I q (by simp))
  |int j=>obtain⟨t',rfl⟩:=ry;exact PySem.EqNone.eq_none_int (bI I q (by simp))
  |str j=>obtain⟨t',rfl⟩:=ry;exact PySem.EqNone.eq_none_str (bI I q (by simp))
  |_=>exact absurd (show false=true from hs) aU
 |bl i =>
  cases rx;cases y with
  |non=>cases ry;exact PySem.EqNone.eq_bool_none (bI I q (by simp))
  |bl j=>cases ry;exact eq_bool (bI I q C7)
  |str j=>obtain⟨t',rfl⟩:=ry;exact PySem.EqMixed.eq_bool_str (bI I q (by simp))
  |_=>exact absurd (show false=true from hs) aU
 |int i =>
  obtain⟨t,rfl⟩:=rx;cases y with
  |non=>cases ry;exact PySem.EqNone.eq_int_none (bI I q (by simp))
  |int j=>obtain⟨t',rfl⟩:=ry;exact eq_int (bI I q BX)
  |str j=>obtain⟨t',rfl⟩:=ry;exact PySem.EqMixed.eq_int_str (bI I q (by simp))
  |_=>exact absurd (show false=true from hs) aU
 |str i =>
  obtain⟨t,rfl⟩:=rx;cases y with
  |non=>cases ry;exact PySem.EqNone.eq_str_none (bI I q (by simp))
  |bl j=>cases ry;exact PySem.EqMixed.eq_str_bool (bI I q (by simp))
  |int j=>obtain⟨t',rfl⟩:=ry;exact PySem.EqMixed.eq_str_int (bI I q (by simp))
  |str j=>obtain⟨t',rfl⟩:=ry;exact eq_str (bI I q BZ)
  |_=>exact absurd (show false=true from hs) aU
 |dZ i =>
  obtain⟨t,rfl⟩:=rx;cases y with
  |dZ j=>obtain⟨t',rfl⟩:=ry;exact PySem.W.eq_bytes (bI I q B1)
  |_=>exact absurd (show false=true from hs) aU
 |_=>cases y<;>exact absurd (show false=true from hs) aU
theorem Sy:bq X (compareOp .NotEq) Gg:=by
 intro pins s σ H x y v u Q I rx ry h;obtain⟨hs,q⟩:=h;cases x with
 |non =>
  cases rx;cases y with
  |non=>cases ry;exact PySem.EqNone.ne_none_none (bI I q (by simp))
  |bl j=>cases ry;exact PySem.EqNone.ne_none_bool (bI I q (by simp))
  |int j=>obtain⟨t',rfl⟩:=ry;exact PySem.EqNone.ne_none_int (bI I q (by simp))
  |str j=>obtain⟨t',rfl⟩:=ry;exact PySem.EqNone.ne_none_str (bI I q (by simp))
  |_=>exact absurd (show false=true from hs) aU
 |bl i =>
  cases rx;cases y with
  |non=>cases ry;exact PySem.EqNone.ne_bool_none (bI I q (by simp))
  |bl j=>cases ry;exact ne_bool (bI I q (bX not C7))
  |str j=>obtain⟨t',rfl⟩:=ry;exact PySem.EqMixed.ne_bool_str (bI I q (by simp))
  |_=>exact absurd (show false=true from hs) aU
 |int i =>
  obtain⟨t,rfl⟩:=rx;cases y with
  |non=>cases ry;exact PySem.EqNone.ne_int_none (bI I q (by simp))
  |int j=>obtain⟨t',rfl⟩:=ry;exact ne_int (bI I q (bX not BX))
  |str j=>obtain⟨t',rfl⟩:=ry;exact PySem.EqMixed.ne_int_str (bI I q (by simp))
  |_=>exact absurd (show false=true from hs) aU
 |str i =>
  obtain⟨t,rfl⟩:=rx;cases y with
  |non=>cases ry;exact PySem.EqNone.ne_str_none (bI I q (by simp))
  |bl j=>cases ry;exact PySem.EqMixed.ne_str_bool (bI I q (by simp))
  |int j=>obtain⟨t',rfl⟩:=ry;exact PySem.EqMixed.ne_str_int (bI I q (by simp))
  |str j=>obtain⟨t',rfl⟩:=ry;exact ne_str (bI I q (bX not BZ))
  |_=>exact absurd (show false=true from hs) aU
 |dZ i =>
  obtain⟨t,rfl⟩:=rx;cases y with
  |dZ j=>obtain⟨t',rfl⟩:=ry;exact PySem.W.ne_bytes (bI I q (bX not B1))
  |_=>exact absurd (show false=true from hs) aU
 |_=>cases y<;>exact absurd (show false=true from hs) aU
theorem Sz:bq X (compareOp .Lt) (dI λi j=>.bl (decide (i<j))):=sY λ_ _ _ _ _ _ _ q=>lt_int q
theorem SD:bq X (compareOp .LtE) (dI λi j=>.bl (decide (i≤j))):=sY λ_ _ _ _ _ _ _ q=>le_int q
theorem SJ:bq X (compareOp .Gt) (dI λi j=>.bl (decide (j<i))):=sY λ_ _ _ _ _ _ _ q=>gt_int q
theorem SK:bq X (compareOp .GtE) (dI λi j=>.bl (decide (j≤i))):=sY λ_ _ _ _ _ _ _ q=>ge_int q
theorem Lf:bq X (compareOp .In) (λx y H Q=>∃i j,x=.str i∧y=.str j∧Q (.bl (!(Builtin.Str.occurrences j i 0 j.length 1).isEmpty)) H):=by
 intro pins s σ H x y v u Q I rx ry h;obtain⟨i,j,rfl,rfl,q⟩:=h;obtain⟨t,rfl⟩:=rx;obtain⟨t',rfl⟩:=ry;exact in_str (bI I q rfl)
theorem Jo:bq X (compareOp .NotIn) (λx y H Q=>∃i j,x=.str i∧y=.str j∧Q (.bl (!(!(Builtin.Str.occurrences j i 0 j.length 1).isEmpty))) H):=by
 intro pins s σ H x y v u Q I rx ry h;obtain⟨i,j,rfl,rfl,q⟩:=h;obtain⟨t,rfl⟩:=rx;obtain⟨t',rfl⟩:=ry;exact notIn_str (bI I q rfl)
theorem B2{op:CmpOp}{r:R2}(ho:bq X (compareOp op) r)(ha:PE X a ta)(hb:PE X b tb)(hm:behindInMarks op b=false):PE X (.Compare a [op] [b] pos) (nX r ta tb):=by
 intro pins s σ H Q I h;exact wpAny_Compare1 (xT ha hb I h λv u s2 x y H2 I2 rx ry q=>ho pins s2 σ H2 x y v u Q I2 rx ry q) hm
noncomputable def xg(t:TE):TT:=λσ H Q=>t σ H λx H'=>∃k,x=.bl k∧Q k H'
theorem NT{op:CmpOp}{r:R2}(ho:bq X (compareOp op) r)(ha:PE X a ta)(hb:PE X b tb)(hm:behindInMarks op b=false):PT X (.Compare a [op] [b] pos) (xg (nX r ta tb)):=by
 intro pins s σ H Q I h;refine wpAny_isTrue_Compare1 (az (ha pins s σ H _ I h) λv s1 ⟨x,H1,I1,r1,q1⟩=>az (hb pins s1 σ H1 _ I1 q1) λu s2 ⟨y,H2,I2,r2,q2⟩ =>
  az (ho pins s2 σ H2 x y v u _ I2 r1 r2 q2) λc s3 ⟨z,H3,I3,r3,k,e,q3⟩=>?_) hm
 subst e;cases r3;exact iQ ⟨H3,I3,q3⟩
noncomputable def wz(r r':R2)(ta tb tc:TE):TE:=λσ H Q=>ta σ H λx H1=>tb σ H1 λy H2=>r x y H2 λz H3=>∃k,z=.bl k ∧
 (if k=true then tc σ H3 λw' H4=>r' y w' H4 Q else Q (.bl false) H3)
theorem Mw{op op':CmpOp}{r r':R2}(ho:bq X (compareOp op) r)(iw:bq X (compareOp op') r')(ha:PE X a ta)(hb:PE X b tb)(hc:PE X c tc)
  (hm:lastMarks [op,op'] [b,c]=false:=by with_unfolding_all rfl):PE X (.Compare a [op,op'] [b,c] pos) (wz r r' ta tb tc):=by
 intro pins s σ H Q I h;refine Compare_chain (az (ha pins s σ H _ I h) λv s1 ⟨x,H1,I1,r1,q1⟩=>chain_link (az (hb pins s1 σ H1 _ I1 q1) λu s2 ⟨y,H2,I2,r2,q2⟩ =>
  az (ho pins s2 σ H2 x y v u _ I2 r1 r2 q2) λd s3 ⟨z,H3,I3,r3,k,e,q3⟩=>?_)) hm
 subst e;cases r3;refine iQ ?_;cases k with
 |false=>exact ite_ff ⟨.bl false,H3,I3,rfl,q3⟩
 |true=>exact ite_tt (chain_last (az (hc pins s3 σ H3 _ I3 q3) λw' s4 ⟨z',H4,I4,r4,q4⟩=>iw pins s4 σ H4 y z' u w' Q I4 r2 r4 q4))
theorem Mx{op op':CmpOp}{r r':R2}(ho:bq X (compareOp op) r)(iw:bq X (compareOp op') r')(ha:PE X a ta)(hb:PE X b tb)(hc:PE X c tc)
  (hm:lastMarks [op,op'] [b,c]=false:=by with_unfolding_all rfl):PT X (.Compare a [op,op'] [b,c] pos) (xg (wz r r' ta tb tc)):=by
 intro pins s σ H Q I h;refine isTrue_chain (az (ha pins s σ H _ I h) λv s1 ⟨x,H1,I1,r1,q1⟩=>test_link (az (hb pins s1 σ H1 _ I1 q1) λu s2 ⟨y,H2,I2,r2,q2⟩ =>
  az (ho pins s2 σ H2 x y v u _ I2 r1 r2 q2) λd s3 ⟨z,H3,I3,r3,k,e,q3⟩=>?_)) hm
 subst e;cases r3;refine iQ ?_;cases k with
 |false =>
  obtain⟨k',e',q'⟩:=q3;cases e';exact ite_ff ⟨H3,I3,q'⟩
 |true =>
  refine ite_tt (test_last (az (hc pins s3 σ H3 _ I3 q3) λw' s4 ⟨z',H4,I4,r4,q4⟩=>az (iw pins s4 σ H4 y z' u w' _ I4 r2 r4 q4) λd' s5 ⟨z2,H5,I5,r5,k2,e2,q5⟩=>?_));subst e2;cases r5;exact iQ ⟨H5,I5,q5⟩
def tf(K:PySem.W.Frag)(x:V)(H:Hp)(k:Bool):Prop :=
 match x with
 |.non=>k=false
 |.bl b=>k=b
 |.int i=>k=(i != 0)
 |.str y=>y.length≤sizeLine∧k=((y.length:Int) != 0)
 |.dZ y=>y.size≤sizeLine∧k=((y.size:Int) != 0)
 |.ref p=>(∃xs,bj K H p xs∧k=!xs.isEmpty)∨(∃xs,aZ K H p xs∧k=!xs.isEmpty)∨∃ai,H p=some (.dK ai)∧k=!ai.isEmpty
 |_=>False
theorem Kp{κ:Type}{ai:List (κ×V)}{vs:List (κ×Value)}(r:KV ai vs):(!vs.isEmpty)=!ai.isEmpty:=by
 cases r<;>rfl
theorem Ar{xs:List V}{its:List Value}(r:Vals xs its):(!its.toArray.isEmpty)=!xs.isEmpty:=by
 cases r<;>simp
theorem mS:(sizeLine:Nat)<2^63:=by rw[qc];decide
theorem Qe:Ug X (λx H Q=>∃k,tf X.K x H k∧Q k H):=by
 intro pins s σ H x v Q I rx h;obtain⟨k,e,q⟩:=h;have hl:=mS;have hs:sizeLine=16777216:=qc;cases x with
 |non =>
  cases rx;have e':k=false:=e;subst e';exact truthy_none ⟨H,I,q⟩
 |bl b =>
  cases rx;have e':k=b:=e;subst e';exact iQ ⟨H,I,q⟩
 |int i =>
  obtain⟨t,rfl⟩:=rx;have e':k=(i != 0):=e;subst e';exact PySem.P.truthy_int ⟨H,I,q⟩
 |str y =>
  obtain⟨t,rfl⟩:=rx;obtain⟨hy,e'⟩:y.length≤sizeLine∧k=((y.length:Int) != 0):=e;subst e';exact PySem.P.truthy_str (by omega) ⟨H,I.tok _,q⟩
 |dZ y =>
  obtain⟨t,rfl⟩:=rx;obtain⟨hy,e'⟩:y.size≤sizeLine∧k=((y.size:Int) != 0):=e;subst e';exact PySem.W.truthy_bytes (by omega) ⟨H,I.tok _,q⟩
 |ref p =>
  cases rx;have e':(∃xs,bj X.K H p xs∧k=!xs.isEmpty)∨(∃xs,aZ X.K H p xs∧k=!xs.isEmpty)∨∃ai,H p=some (.dK ai)∧k=!ai.isEmpty:=e;rcases e' with⟨xs,hx,e'⟩|⟨xs,hx,e'⟩|⟨ai,hx,e'⟩
  ·subst e';obtain⟨its,r,pl,hz⟩:=I.list hx;have hlen:=r.length;exact wpAny_truthy_list pl.isList (by simp only[List.size_toArray];omega) ⟨H,I.tok _,by rw[Ar r];exact q⟩
  ·subst e';obtain⟨its,r,pl,hz⟩:=I.tuple hx;have hlen:=r.length;exact truthy_tuple pl (by simp only[List.size_toArray];omega) ⟨H,I.tok _,by rw[Ar r];exact q⟩
  ·subst e';obtain⟨hz,hS,vs,r,m⟩:ai.length≤sizeLine∧(p==sysModules)=false∧∃vs,KV ai vs∧s.heap.DictOf (gu X.prog X.w) p vs:=I.ay p _ hx;have hlen:ai.length=vs.length:=fD r;exact wpAny_truthy_dict hS m (by omega) ⟨H,I.tok _,by rw[Kp r];exact q⟩
 |_=>exact(show False from e).elim
theorem Mz(ha:PE X a ta)(he:∀whole,isTrue a X.env whole=(do let v ←whole;standAt a.pos;holding [v] (truthy v))) :
  PT X a (λσ H Q=>ta σ H λx H'=>∃k,tf X.K x H' k∧Q k H'):=by
 intro pins s σ H Q I h;exact isTrue_plain (az (ha pins s σ H _ I h) λv s1 ⟨x,H1,I1,r1,q1⟩=>Qe pins s1 σ H1 x v Q I1 r1 q1) (he _)
theorem Kq:bq X (binaryOp .Add) (λx y H Q=>∃i j,x=.str i∧y=.str j∧i.length+j.length≤sizeLine∧Q (.str (i++j)) H):=by
 intro pins s σ H x y v u Q I rx ry h;obtain⟨i,j,rfl,rfl,hz,q⟩:=h;obtain⟨t,rfl⟩:=rx;obtain⟨t',rfl⟩:=ry;exact add_str (λt' tk=>⟨.str (i++j),H,I.tok _,⟨_,rfl⟩,q⟩) hz
theorem vals1{x:V}{us:List Value}(r:Vals [x] us):∃u,us=[u]∧RelV x u:=by
 cases r with
 |cons r1 r2=>cases r2;exact⟨_,rfl,r1⟩
theorem vals2{x y:V}{us:List Value}(r:Vals [x,y] us):∃u w',us=[u,w']∧RelV x u∧RelV y w':=by
 cases r with
 |cons r1 r2 =>
  cases r2 with
  |cons r3 r4=>cases r4;exact⟨_,_,rfl,r1,r3⟩
theorem MA:fM X (.builtin "abs") (λxs H Q=>∃i,xs=[.int i]∧Q (.int (if i<0 then -i else i)) H):=by
 intro pins s σ H xs us Q I r h;obtain⟨i,rfl,q⟩:=h;obtain⟨u,rfl,t,rfl⟩:=vals1 r;exact call_abs_int λu tk=>⟨.int (if i<0 then -i else i),H,I.tok _,⟨_,rfl⟩,q⟩
theorem Lg(hc:X.calm=true):fM X (.builtin "max") (λxs H Q=>∃i j,xs=[.int i,.int j]∧Q (.int (if j>i then j else i)) H):=by
 intro pins s σ H xs us Q I r h;obtain⟨i,j,rfl,q⟩:=h;obtain⟨u,w',rfl,⟨t,rfl⟩,⟨t',rfl⟩⟩:=vals2 r;refine max_two_ints (I.ok.hd hc) λh' tk k=>⟨_,H,I.kept k,?_,q⟩;by_cases hj:j>i
 ·rw[if_pos hj,if_pos hj];exact⟨_,rfl⟩
 ·rw[if_neg hj,if_neg hj];exact⟨_,rfl⟩
theorem Lh:fM X (.type "int") (λxs H Q=>(∃i,xs=[.int i]∧Q (.int i) H)∨∃k,xs=[.bl k]∧Q (.int (if k then 1 else 0)) H):=by
 intro pins s σ H xs us Q I r h;rcases h with⟨i,rfl,q⟩|⟨k,rfl,q⟩
 ·obtain⟨u,rfl,t,rfl⟩:=vals1 r;exact call_int_int ⟨.int i,H,I,⟨_,rfl⟩,q⟩
 ·obtain⟨u,rfl,r1⟩:=vals1 r;cases r1;exact call_int_bool ⟨.int (if k then 1 else 0),H,I.tok _,⟨_,rfl⟩,q⟩
theorem Jp:fM X (.type "str") (λxs H Q=>∃i,xs=[.int i]∧i.natAbs.log2<1920∧Q (.str (toString i)) H):=by
 intro pins s σ H xs us Q I r h;obtain⟨i,rfl,hz,q⟩:=h;obtain⟨u,rfl,t,rfl⟩:=vals1 r;exact PySem.P.str_of_int hz ⟨.str _,H,I.tok _,⟨_,rfl⟩,q⟩
def xU(K:PySem.W.Frag)(x:V)(H:Hp)(n:Nat):Prop :=
 match x with
 |.str y=>y.length≤sizeLine∧n=y.length
 |.dZ y=>y.size≤sizeLine∧n=y.size
 |.ref p=>(∃xs,bj K H p xs∧n=xs.length)∨∃xs,aZ K H p xs∧n=xs.length
 |_=>False
theorem MB:fM X (.builtin "len") (λxs H Q=>∃x n,xs=[x]∧xU X.K x H n∧Q (.int n) H):=by
 intro pins s σ H xs us Q I r h;obtain⟨x,n,rfl,e,q⟩:=h;obtain⟨u,rfl,rx⟩:=vals1 r;have hl:=mS;have hs:sizeLine=16777216:=qc;cases x with
 |str y =>
  obtain⟨t,rfl⟩:=rx;obtain⟨hy,e'⟩:y.length≤sizeLine∧n=y.length:=e;subst e';exact len_str (by omega) ⟨.int _,H,I.tok _,⟨_,rfl⟩,q⟩
 |dZ y =>
  obtain⟨t,rfl⟩:=rx;obtain⟨hy,e'⟩:y.size≤sizeLine∧n=y.size:=e;subst e';exact PySem.W.len_bytes (by omega) ⟨.int _,H,I.tok _,⟨_,rfl⟩,q⟩
 |ref p =>
  cases rx;have e':(∃xs,bj X.K H p xs∧n=xs.length)∨∃xs,aZ X.K H p xs∧n=xs.length:=e;rcases e' with⟨xs,hx,e'⟩|⟨xs,hx,e'⟩
  ·subst e';obtain⟨its,r',pl,hz⟩:=I.list hx;have hlen:=r'.length;exact Calls.call_len_list pl.isList (by simp only[List.size_toArray];omega) ⟨.int xs.length,H,I.tok _,⟨_,by simp only[List.size_toArray];rw[hlen]⟩,q⟩
  ·subst e';obtain⟨its,r',pl,hz⟩:=I.tuple hx;have hlen:=r'.length;exact len_tuple pl (by simp only[List.size_toArray];omega) ⟨.int xs.length,H,I.tok _,⟨_,by simp only[List.size_toArray];rw[hlen]⟩,q⟩
 |_=>exact(show False from e).elim
end
structure Xz (h:Heap)(x dx C:Addr)(mA:Str→Option Value):Prop where
 obj:h.get? x=some (PySem.W.instObj C dx)
 ns:h.Ns1 dx mA
 ne:dx≠x
set_option tactic.hygienic true in
theorem AW{h:Heap}{dx:Addr}{mA:Str→Option Value}(n:h.Ns1 dx mA):∃od,h.get? dx=some od∧∀name,PySem.W.lookIn name od=some (mA name):=by
 obtain⟨o,es,ep,ho,hd,hk,_,hm⟩:=n;refine⟨o,ho,λname=>?_⟩;have e:=hm name;unfold nsFind findBy at e;rw[←Array.find?_toList]at e;unfold PySem.W.lookIn;rw[hd];dsimp only;split
 ·rename_i y q;rw[q]at e;exact bX some e
 ·rename_i q;rw[q]at e;have a:es.toList.any (·.refKey)=false:=by
   rw[List.any_eq_false];intro y hy;obtain⟨z,t,Uh⟩:=hk y (Array.mem_toList_iff.mp hy);simp[DictEntry.refKey,Uh]
  have a':¬es.toList.any (·.refKey)=true:=by rw[a];exact aU
  rw[if_neg a'];exact bX some e
section
variable {prog:Program}{w:World}{A:Around}{E:Value→Shared→Prop}{s:Shared}{K:PySem.W.Frag}{x dx C f:Addr}{mA:Str→Option Value}{name:Str}{v:Value}
end
theorem dR.some_of{v:V}{o:Option Value}(r:dR (some v) o):∃u,o=some u∧RelV v u:=by
 cases o with
 |none=>exact(show False from r).elim
 |some u=>exact⟨u,rfl,r⟩
theorem Li{v:V}{u:Value}(r:RelV v u):PySem.W.handedIn u=true:=by
 cases v with
 |non=>cases (show u=Value.none from r);rfl
 |bl b=>cases (show u=Value.bool b from r);rfl
 |int i=>obtain⟨t,e⟩:=(show ∃t,u=Value.int i t from r);cases e;rfl
 |str x=>obtain⟨t,e⟩:=(show ∃t,u=Value.str x t from r);cases e;rfl
 |dZ b=>obtain⟨t,e⟩:=(show ∃t,u=Value.bytes b t from r);cases e;rfl
 |nQ b=>obtain⟨t,e⟩:=(show ∃t,u=Value.float b t from r);cases e;rfl
 |ref a=>cases (show u=Value.ref a from r);rfl
 |ty n=>cases (show u=Value.type n from r);rfl
section
variable {P:Program}{w:World}{H H':Hp}{h h':Heap}{a C dx:Addr}{fs U5:List (Str×V)}
end
structure U9 (K:PySem.W.Frag)(C:Addr):Prop where
 pg:PySem.W.plainGet K C Str.empty=true
 hd:PySem.W.hasDictIn K C=true
 po:PySem.W.plainOver K C=true
 sa:PySem.W.findIn K (.ref C) "__setattr__" = some (some (.builtin "object.__setattr__"))
structure XG (K:PySem.W.Frag)(C:Addr)(f:Str)(v:V)(u:Value):Prop where
 at_:PySem.W.findIn K (.ref C) f=some (some u)
 rel:RelV v u
 get:PySem.W.specialIn K u "__get__" = some none
 cp:PySem.W.copiedNames.contains f=false
structure Meth (K:PySem.W.Frag)(C:Addr)(m:Str)(f:Addr):Prop where
 at_:PySem.W.findIn K (.ref C) m=some (some (.ref f))
 fn:PySem.W.isFn K (.ref f)=true
 kp:PySem.W.keepIn K (.ref f)=true
section
variable {X:Cx}{pins:List (Addr×Obj)}{σ:St}{H:Hp}{s:Shared}{a C dx:Addr}{fs:List (Str×V)}{f:Str}{v:V}{A:Around}{E:Value→Shared→Prop}
theorem NV{prog:Program}{w:World}{env:Env}{e:Expr}{f:Str}{pos:Pos}{s:Shared}{Q:Value→Shared→Prop}(hb:attributeBase e f env (eval e env)=eval e env)
  (h:wpAny (model prog w) A (eval e env) (λo s₁=>wpAny (model prog w) A (getAttr o f true) Q E s₁) E s):wpAny (model prog w) A (eval (.Attribute e f pos) env) Q E s :=
 Attribute_any_ h (by rw[arm_eval_Attribute,hb])
end
section
variable {X:Cx}{o e value:Expr}{f:Str}{pos pos' Ui:Pos}{ta tv:TE}
def xV:V→V→Hp→VK→Prop:=λx y H Q=>∃i j,x=.int i∧y=.int j∧Q (.int (i+j)) H
end
section
variable {X:Cx}{pins:List (Addr×Obj)}{σ:St}{H:Hp}{s:Shared}{A:Around}{E:Value→Shared→Prop}{Q:Value→Shared→Prop}{c:Value}{b:Bool}
inductive hB (K:PySem.W.Frag)(H:Hp):V→Value→Prop where
 |non:hB K H .non (.type "NoneType")
 |bl (x:Bool):hB K H (.bl x) (.type "bool")
 |int (i:Int):hB K H (.int i) (.type "int")
 |str (x:Str):hB K H (.str x) (.type "str")
 |nQ (x:UInt64):hB K H (.nQ x) (.type "float")
 |lst {a:Addr}{xs:List V} (e:H a=some (.lst xs)):hB K H (.ref a) (.type "list")
 |cQ {a:Addr}{o:Obj}{xs:List V} (e:H a=some (.cQ o (.lst xs))):hB K H (.ref a) (.type "list")
 |tup {a:Addr}{xs:List V} (e:H a=some (.tup xs)):hB K H (.ref a) (.type "tuple")
 |dK {a:Addr}{ai:List (Key×V)} (e:H a=some (.dK ai)):hB K H (.ref a) (.type "dict")
 |dT {a:Addr}{ai:List (List Key×V)} (e:H a=some (.dT ai)):hB K H (.ref a) (.type "dict")
 |ins {a C dx:Addr}{fs:List (Str×V)} (e:H a=some (.ins C dx fs)) (cl:U9 K C) (ha:PySem.W.findIn K (.ref C) "__class__" = some (some (.builtin "object.__class__")))
  (hn:PySem.W.specialIn K (.builtin "object.__class__") "__get__" = some (some (.builtin "getset_descriptor.__get__"))) (XH:PySem.W.takesIn K (.builtin "object.__class__")=some true)
  (hm:PySem.W.mroIn K C (.type "object")=some true):hB K H (.ref a) (.ref C)
end
structure bS (k:Nat)(A:Around):Prop where
 hd:A.handled=none
 dp:A.depth+3*k+5<recursionLimit
 un:A.units+16*k+200<cLine
theorem bS.mono{j k:Nat}{A:Around}(r:bS k A)(h:j≤k):bS j A:=⟨r.hd,by have:=r.dp;omega,by have:=r.un;omega⟩
theorem bS.deeper{k:Nat}{A:Around}(r:bS (k+1) A)(env:Env):bS k (A.deeper env) :=
 ⟨r.hd,by have:=r.dp;show A.depth+1+3*k+5<_;omega,by have:=r.un;show A.units+3+16*k+200<_;omega⟩
theorem Kr{A:Around}{C:Addr}{us:List Value}{kw:List (Str×Value)}:(A.under (.builtin "type.__call__" ⟨.ref C::us,kw⟩)).depth=A.depth+1:=by
 first|rfl|simp[Around.under,Code.weight,Code.isCreation,Code.isGuard,Code.isCaller,Code.frames,Code.isFrame,guardIds]
theorem Ks{A:Around}{C:Addr}{us:List Value}{kw:List (Str×Value)}:(A.under (.builtin "type.__call__" ⟨.ref C::us,kw⟩)).units=A.units+1:=by
 first|rfl|simp[Around.under,Code.cUnits,Code.frames,Code.isFrame]
theorem bS.make{k:Nat}{A:Around}(r:bS (k+1) A)(C:Addr)(us:List Value)(kw:List (Str×Value)):bS k (A.under (.builtin "type.__call__" ⟨.ref C::us,kw⟩)) :=
 ⟨r.hd,by have:=r.dp;rw[Kr];omega,by have:=r.un;rw[Ks];omega⟩
theorem bS.depth{k:Nat}{A:Around}(r:bS k A):A.depth<recursionLimit:=by have:=r.dp;omega
theorem bS.units{k:Nat}{A:Around}(r:bS k A):A.units+64<cLine:=by have:=r.un;omega
noncomputable def j5:TA:=λ_ H Q=>Q [] H
noncomputable def jZ(ta:TE)(tr:TA):TA:=λσ H Q=>ta σ H λx H1=>tr σ H1 λxs H2=>Q (x::xs) H2
section
variable {X:Cx}{e:Expr}{es:List Expr}{te:TE}{t:TA}{pos:Pos}
theorem jX:PA X [] j5:=λ_ _ _ _ H Q I h=>Calls.spliced_nil ⟨[],H,I,.nil,h⟩
theorem jf(ha:PE X e te)(hr:PA X es t)(hs:starEach (e::es) X.env=(false,eval e X.env)::starEach es X.env:=by rfl):PA X (e::es) (jZ te t):=by
 intro pos pins s σ H Q I h;rw[hs];show wpAny _ _ (spliced ((false,eval e X.env)::backTo pos (starEach es X.env))) _ _ s;refine yB (az (ha pins s σ H _ I h) λu s1 ⟨x,H1,I1,r1,q1⟩=>?_);exact az (hr pos pins s1 σ H1 _ I1 q1) λus s2 ⟨xs,H2,I2,r2,q2⟩=>⟨x::xs,H2,I2,.cons r1 r2,q2⟩
def Fp(t:TA):TE:=λσ H Q=>t σ H λxs H1=>xs.length≤sizeLine∧∀p,H1 p=none→Q (.ref p) (upd H1 p (.tup xs))
def tm(t:TA):TE:=λσ H Q=>t σ H λxs H1=>xs.length≤sizeLine∧∀p,H1 p=none→Q (.ref p) (upd H1 p (.lst xs))
theorem C8{x1}(h:PA X es t):PE X (.Tuple es x1 pos) (Fp t):=by
 intro pins s σ H Q I hq;refine wpAny_Tuple_spliced (az (h pos pins s σ H _ I hq) λus s1 ⟨xs,H1,I1,r,z,q⟩=>⟨by rw[←r.length];exact z,?_⟩);have hf:H1 s1.heap.objs.size=none:=I1.ay.fresh (a7 _);refine⟨.ref s1.heap.objs.size,upd H1 s1.heap.objs.size (.tup xs),I1.laid (t':=s1.toks) (λb u e=>bQ _ e) (a7 _) ?_,rfl,q _ hf⟩;exact⟨z,us,r,⟨_,dX _ rfl,rfl,rfl,_,rfl⟩⟩
theorem rO(h:PA X es t):PE X (.List es pos) (tm t):=by
 intro pins s σ H Q I hq;refine wpAny_List_spliced (az (h pos pins s σ H _ I hq) λus s1 ⟨xs,H1,I1,r,z,q⟩=>⟨by rw[←r.length];exact z,?_⟩);have hf:H1 s1.heap.objs.size=none:=I1.ay.fresh (a7 _);refine⟨.ref s1.heap.objs.size,upd H1 s1.heap.objs.size (.lst xs),I1.laid (t':=s1.toks) (λb u e=>bQ _ e) (a7 _) ?_,rfl,q _ hf⟩;exact⟨z,us,0,r,dX _ rfl⟩
end
noncomputable abbrev Sp:=List V→Hp→VK→XK→Prop
noncomputable abbrev fG:=List Env→Hp→Shared→XK→Value→Shared→Prop
structure lC (P:Program)(w:World)(K:PySem.W.Frag)(mg:Str→Option Value)(base:Heap)(A:Around)(outer:List Env)(s:Shared)(H:Hp):Prop where
 frames:A.frames=some outer
 mod:Mod K mg base
 bs:∀b o,base.get? b=some o→s.heap.get? b=some o∧H b=none
 iu:base.objs.size≤s.heap.objs.size
 fP:s.heap.FunFrames base outer
 km:∀b∈bT outer,H b=none
 ay:bK P w H s.heap
 bare:AllBare s.gens
def CE(outer:List Env)(P:Program)(w:World)(H:Hp)(s:Shared)(Q:VK)(u:Value)(s':Shared):Prop :=
 ∃v H',s'.os=s.os∧AllBare s'.gens∧Un (bT outer) [] H H' s.heap s'.heap∧bK P w H' s'.heap∧RelV v u∧Q v H'
def CR(CX:fG)(outer:List Env)(P:Program)(w:World)(H:Hp)(s:Shared)(Q:VK)(E:XK)(r:Result)(s':Shared):Prop :=
 match r with
 |.ok (.ret u)=>CE outer P w H s Q u s'
 |.ok _=>False
 |.error e=>CX outer H s E e s'
structure fQ (P:Program)(w:World)(K:PySem.W.Frag)(mg:Str→Option Value)(base:Heap)(CX:fG)(k:Nat)(f:Addr)(fd:FuncData)(ps:List Str)(sp:Sp):Prop where
 len:∀vs H Q E,sp vs H Q E→vs.length=ps.length
 run:∀(A:Around) (outer:List Env) (s:Shared) (H:Hp) (args:Args) (us:List Value) (vs:List V) (Q:VK) (E:XK),bS k A→lC P w K mg base A outer s H→BindsTo s fd args (ps.zip us)→Vals vs us→sp vs H Q E →
  codeAny (model P w) A (.call (.ref f) args) (CR CX outer P w H s Q E) s
theorem lC.make{P:Program}{w:World}{K:PySem.W.Frag}{mg:Str→Option Value}{base:Heap}{A:Around}{outer:List Env}{s:Shared}{H:Hp}(e:lC P w K mg base A outer s H)(C:Addr)(us:List Value)(kw:List (Str×Value)) :
 lC P w K mg base (A.under (.builtin "type.__call__" ⟨.ref C::us,kw⟩)) outer s H:=⟨by first|exact e.frames | (simpa[Around.under,Code.envs,Code.isFrame,pushEnvs]using e.frames),e.mod,e.bs,e.iu,e.fP,e.km,e.ay,e.bare⟩
section
variable {X:Cx}{pins:List (Addr×Obj)}{σ:St}{H:Hp}{s s':Shared}
theorem Inv.xW(I:Inv X pins σ H s):lC X.prog X.w X.K X.mg X.base X.A X.stack s H :=
 ⟨I.ok.frames,I.ok.mod,I.bs,aQ I.ok.iu I.sz,I.stack,I.vR,I.ay,I.bare⟩
theorem Inv.after{Q:VK}{u:Value}(I:Inv X pins σ H s)(h:CE X.stack X.prog X.w H s Q u s'):EP X pins σ Q u s':=by
 obtain⟨v,H',os,bare,un,ay,r,q⟩:=h;obtain⟨hh,g,d,t,Va⟩:=s';obtain rfl:Va=s.os:=os;exact⟨v,H',I.call (h':=hh) (g':=g) (d':=d) (t':=t) (ch:=[]) un ay bare (λb z=>absurd z (by simp)),r,q⟩
end
noncomputable def xh(sp:Sp)(ky:List V)(E:XK)(t:TA):TE:=λσ H Q=>t σ H λvs H1=>sp (vs++ky) H1 Q E
def Binds(K:PySem.W.Frag)(fd:FuncData)(ps:List Str)(ds:List Value):Prop :=
 ∀(s:Shared) (us:List Value),K.In s.heap→(us++ds).length=ps.length→BindsTo s fd ⟨us,[]⟩ (ps.zip (us++ds))
theorem Binds.all{K:PySem.W.Frag}{fd:FuncData}{ps:List Str}(h:∀us:List Value,us.length=ps.length→bindArgs fd ⟨us,[]⟩=pure (ps.zip us)):Binds K fd ps []:=λs us _ hl=>by
 rw[ip]at hl ⊢;exact .of_eq (h us hl)
def Passes(CX:fG)(X:Cx)(E:XK):Prop:=∀(pins:List (Addr×Obj)) (σ:St) (H:Hp) (s:Shared) (e:Value) (s':Shared),Inv X pins σ H s→CX X.stack H s E e s'→X.xe e s'
section
variable {X:Cx}{CX:fG}{k:Nat}{f C:Addr}{fd:FuncData}{ps:List Str}{sp:Sp}{ky:List V}{ds:List Value}{E:XK}{x m:Str}{p pos apos:Pos}{e o:Expr}{es:List Expr}{ta:TE}{t:TA}
theorem Qf{pins:List (Addr×Obj)}{σ:St}{H:Hp}{s:Shared}{Q:VK}{us:List Value}{vs:List V}(F:fQ X.prog X.w X.K X.mg X.base CX k f fd ps sp)(hr:bS k X.A)(hb:Binds X.K fd ps ds)(hd:Vals ky ds)(hx:Passes CX X E)
  (I:Inv X pins σ H s) (r:Vals vs us) (h:sp (vs++ky) H Q E):wpAny (model X.prog X.w) X.A (call (.ref f) us) (EP X pins σ Q) X.xe s:=by
 have r2:Vals (vs++ky) (us++ds):=r.append hd;have hl:(us++ds).length=ps.length:=by rw[←r2.length];exact F.len _ _ _ _ h
 refine wpAny_call (codeAny_mono (F.run X.A X.stack s H ⟨us,[]⟩ (us++ds) (vs++ky) Q E hr I.xW (hb s us I.bz hl) r2 h) λr s' hq=>?_);cases r with
 |error e=>exact hx pins σ H s e s' I hq
 |ok fl =>
  cases fl with
  |ret u=>exact I.after hq
  |next=>exact False.elim hq
  |brk=>exact False.elim hq
  |cont=>exact False.elim hq
theorem NW(F:fQ X.prog X.w X.K X.mg X.base CX k f fd ps sp)(hr:bS k X.A)(hg:Gl X x)(hm:X.mg x=some (.ref f))(hk:PySem.W.keepIn X.K (.ref f)=true)(hb:Binds X.K fd ps ds)(hd:Vals ky ds)(hx:Passes CX X E)
  (ha:PA X (e::es) t) (eV:(x==("__debug__" : Str))=false:=by decide) (he:starEach (e::es) X.env=(false,eval e X.env)::starEach es X.env:=by rfl) (fX:(backTo pos (starEach es X.env)).any (·.1)=false:=by rfl) :
  PE X (.Call (.Name x p) (e::es) [] pos) (xh sp ky E t):=by
 intro pins s σ H Q I h;refine qd (oS I hg hm ?_ eV);refine PySem.W.callWith_K (h₀:=X.base) I.ok.mod.qj hk (az (ha pos pins s σ H _ I h) λus s1 ⟨vs,H1,I1,r,q⟩=>⟨I1.bz,?_⟩) he fX;exact Qf F hr hb hd hx I1 r q
structure Mk (K:PySem.W.Frag)(C f:Addr):Prop where
 makes:PySem.W.makesIn K C=true
 init:PySem.W.findIn K (.ref C) "__init__" = some (some (.ref f))
 fn:PySem.W.isFn K (.ref f)=true
 kp:PySem.W.keepIn K (.ref C)=true
end
section
variable {X:Cx}{CX:fG}{k:Nat}{f C:Addr}{fd:FuncData}{ps ks:List Str}{sp:Sp}{E:XK}{x m:Str}{p pos apos XA:Pos}{e o:Expr}{es:List Expr}{kws:List Keyword}{te ta:TE}{t tk:TA}{nm:Option Str}
structure Xw (K:PySem.W.Frag)(fd:FuncData)(ps ks:List Str)(g:List Value→List Value→List Value)(gV:List V→List V→List V):Prop where
 to:∀(s:Shared) (us ws:List Value),K.In s.heap→(g us ws).length=ps.length→BindsTo s fd ⟨us,ks.zip ws⟩ (ps.zip (g us ws))
 rel:∀{vs:List V}{us:List Value}{zs:List V}{ws:List Value},Vals vs us→Vals zs ws→Vals (gV vs zs) (g us ws)
variable {g:List Value→List Value→List Value}{gV:List V→List V→List V}
end
structure mQ (N P:List Str)(sc:Scope):Prop where
 kind:sc.kind=.function
 co:sc.isCoroutine=false
 gen:sc.isGenerator=false
 nd:N.Nodup
 pre:N.take P.length=P
 par:∀x∈P,sc.names.lookup x=some .local∨sc.names.lookup x=some .cell
 Qg:∀y∈sc.names,y.2≠.free
theorem AX{kindOf:Str→Option NameKind}{x:Str}:∀{binds:List (Str×Value)}{m:Str→Option Value},(∀v,(x,v)∉binds)→bindL kindOf binds m x=m x
  |[],_,_=>rfl
  | (n,v)::r,m,h=>by
    unfold bindL;rw[AX λw hw=>h w (b6 _ hw)];split
    · have:x≠n:=by rintro rfl;exact h v bC
      simp[this]
    · rfl
theorem AY{kindOf:Str→Option NameKind}{x:Str}:∀{binds:List (Str×Value)}{m:Str→Option Value},(∀v,(x,v)∉binds)→bindC kindOf binds m x=m x
  |[],_,_=>rfl
  | (n,v)::r,m,h=>by
    unfold bindC;rw[AY λw hw=>h w (b6 _ hw)];split
    · rfl
    · have:x≠n:=by rintro rfl;exact h v bC
      simp[this]
theorem AZ{kindOf:Str→Option NameKind}{x:Str}{v:Value}:∀{P:List Str}{vs:List Value}{i:Nat}{m:Str→Option Value},P.Nodup→P[i]?=some x→vs[i]?=some v→kindOf x=some .local →
  bindL kindOf (P.zip vs) m x=some v
 |[],_,_,_,_,h,_,_=>by simp at h
 |_::_,[],_,_,_,_,h,_=>by simp at h
 |p::P,w::vs,0,m,nd,h1,h2,hk=>by
  simp at h1 h2;subst h1;subst h2;show bindL kindOf ((p,w)::P.zip vs) m p=_;unfold bindL;rw[AX λv hv=>(gH.mp nd).1 (yC hv).1,if_pos hk];simp
 |p::P,w::vs,i+1,m,nd,h1,h2,hk=>by
  show bindL kindOf ((p,w)::P.zip vs) m x=_;unfold bindL;exact AZ (i:=i) (gH.mp nd).2 (by simpa using h1) (by simpa using h2) hk
theorem A0{kindOf:Str→Option NameKind}{x:Str}{v:Value}:∀{P:List Str}{vs:List Value}{i:Nat}{m:Str→Option Value},P.Nodup→P[i]?=some x→vs[i]?=some v→kindOf x≠some .local →
  bindC kindOf (P.zip vs) m x=some v
 |[],_,_,_,_,h,_,_=>by simp at h
 |_::_,[],_,_,_,_,h,_=>by simp at h
 |p::P,w::vs,0,m,nd,h1,h2,hk=>by
  simp at h1 h2;subst h1;subst h2;show bindC kindOf ((p,w)::P.zip vs) m p=_;unfold bindC;rw[AY λv hv=>(gH.mp nd).1 (yC hv).1,if_neg hk];simp
 |p::P,w::vs,i+1,m,nd,h1,h2,hk=>by
  show bindC kindOf ((p,w)::P.zip vs) m x=_;unfold bindC;exact A0 (i:=i) (gH.mp nd).2 (by simpa using h1) (by simpa using h2) hk
noncomputable def start(N:List Str)(vs:List V):St:=vs.map some++List.replicate (N.length-vs.length) none
noncomputable def dC(CX:fG)(P:Program)(w:World)(K:PySem.W.Frag)(mg:Str→Option Value)(base:Heap)(N:List Str)(qual:Str)(scope:Scope)(f:Addr)(cd:Value)(A:Around)(outer:List Env)(s:Shared)(H:Hp)(E:XK):Cx where
 prog:=P
 w:=w
 K:=K
 mg:=mg
 base:=base
 A:=A.deeper (envOfC qual scope s.heap.objs.size f cd)
 N:=N
 s₀:=s
 H₀:=H
 env:=envOfC qual scope s.heap.objs.size f cd
 outer:=outer
 stack:=envOfC qual scope s.heap.objs.size f cd::outer
 ex:=[]
 calm:=true
 fn:=λ_=>true
 pn:=[]
 xe:=λe s'=>wpAny (model P w) (A.deeper (envOfC qual scope s.heap.objs.size f cd)) (leaving (envOfC qual scope s.heap.objs.size f cd) e) (λ_ y1=>CX outer H s E e y1) (λe' y1=>CX outer H s E e' y1) s'
theorem Bh{sc:Scope}{n:Nat}{x:Str}(h:sc.names.lookup x=some .cell):∃c,(cellsFrom n sc.names []).lookup x=some c:=by
 have q:=PySem.W.cellsFrom_some sc.names n [] (.inl h);exact Option.isSome_iff_exists.mp q
theorem Lj{CX:fG}{P:Program}{w:World}{K:PySem.W.Frag}{mg:Str→Option Value}{base:Heap}{N ps:List Str}{qual:Str}{scope:Scope}{f:Addr}{cd:Value}{A:Around}{outer:List Env}{s s1:Shared}{H:Hp}{E:XK}{us:List Value}{vs:List V}
  (S:mQ N ps scope) (hd:A.handled=none) (e0:lC P w K mg base A outer s H) (hl:vs.length=ps.length) (r:Vals vs us)
  (x:InCallC s s.heap.objs.size (bindL (envOfC qual scope s.heap.objs.size f cd).kindOf (ps.zip us) λ_=>none) (cellsFrom (s.heap.objs.size+1) scope.names []) (bindC (envOfC qual scope s.heap.objs.size f cd).kindOf (ps.zip us) λ_=>none) s1) :
  Inv (dC CX P w K mg base N qual scope f cd A outer s H E) [] (start N vs) H s1:=by
 have fX:ps.length≤N.length:=by have:=bX List.length S.pre;rw[kg]at this;omega
 obtain⟨h1,tk,rfl,hk⟩:=x.done;have qo:∀b:Addr,b∉(dC CX P w K mg base N qual scope f cd A outer s H E).ex:=λb z=>absurd (show b∈([]:List Addr)from z) (by simp);refine⟨⟨e0.mod,S.kind,rfl,rfl,a7 _,λy z c h1 h2=>?_,λy hy=>?_,λy c _ h=>?_,λ_=>hd,Around.frames_deeper e0.frames,.inr ⟨rfl,rfl⟩,λb z=>absurd z (qo b),e0.bs,e0.iu,λb _ _=>qo b,λb z=>absurd z (qo b),e0.fP,e0.km⟩,
  rfl,e0.bare,Un.kept hk,⟨_,x.toInCall.ns,λi y v h1 h2 h3=>?_⟩,λy c h=>⟨_,x.cell y c h⟩,e0.ay.fresh (a7 _),λy c h=>?_,λp hp=>absurd (show p∈([]:List (Addr×Obj))from hp) (by simp),e0.ay.kept hk,?_⟩
 ·exact name_of_addr x.apart (kh h1) (kh h2)
 ·have hy:scope.names.lookup y=some .cell∨scope.names.lookup y=some .free:=hy;rcases hy with hy|hy
  ·exact Bh hy
  ·exact absurd rfl (S.Qg _ (kh hy))
 ·exact Nat.le_of_lt (x.above y c (kh h))
 ·have hi:i<vs.length:=by
   unfold start at h2;by_cases hi:i<vs.length
   ·exact hi
   ·rw[List.getElem?_append_right (by simpa using hi)]at h2;rw[yD]at h2;split at h2<;>cases h2
  have ha:vs[i]?=some v:=by
   unfold start at h2;rw[tZ (by simpa using hi),jy]at h2;cases e:vs[i]? with
   |none=>rw[e]at h2;cases h2
   |some a=>rw[e]at h2;cases h2;rfl
  obtain⟨u,hu,rv⟩:=r.get ha;have hp:ps[i]?=some y:=by
   rw[←S.pre,List.getElem?_take_of_lt (by omega)];exact h1
  have Gh:ps.Nodup:=by rw[←S.pre];exact S.nd.sublist (List.take_sublist _ _)
  refine⟨u,rv,?_⟩;rcases S.par y (fE hp)with k|k
  ·exact .inl ⟨k,AZ Gh hp hu k⟩
  ·obtain⟨c,e⟩:=Bh (n:=s.heap.objs.size+1) k;refine .inr ⟨.inl k,c,e,?_⟩;have q:=x.cell y c e;rw[A0 Gh hp hu (by show scope.names.lookup y≠_;rw[k];decide)]at q;exact q
 ·exact e0.ay.fresh (Nat.le_of_lt (x.above y c (kh h)))
 ·unfold start;show _=N.length;rw[bN,iq,qe];omega
theorem xj{CX:fG}{P:Program}{w:World}{K:PySem.W.Frag}{mg:Str→Option Value}{base:Heap}{k:Nat}{f:Addr}{name qual:Str}{params:Arguments}{body:List Stmt}{scope:Scope}{dV kV doc pm aL ct oc:Value}{an od:Option Addr}
  {du:Array (Option Value)}{N ps:List Str}{sp:Sp} (lk:K.lookup f=some ⟨oc,od,.func (PySem.W.fnOf name qual params body scope dV kV doc pm an aL ct),du⟩) (eC:PySem.W.codeIn K aL qual=true) (S:mQ N ps scope)
  (len:∀vs H Q E,sp vs H Q E→vs.length=ps.length)
  (pE:∀(A:Around) (outer:List Env) (s:Shared) (H:Hp) (vs:List V) (Q:VK) (E:XK),bS k (A.deeper (envOfC qual scope s.heap.objs.size f aL))→sp vs H Q E →
   ∃t,cR (dC CX P w K mg base N qual scope f aL A outer s H E) body t∧t { nx:=λ_ H'=>Q .non H',rt:=Q } (start N vs) H) :
  fQ P w K mg base CX (k+1) f (PySem.W.fnOf name qual params body scope dV kV doc pm an aL ct) ps sp:=by
 refine⟨len,λA outer s H args us vs Q E hr e0 hb r gM=>?_⟩;have hl:=len _ _ _ _ gM;have KX:K.In s.heap:=e0.mod.qj.keeps λb o e=>(e0.bs b o e).1;have lim:s.heap.NoLimit:=e0.mod.nolimit.keeps λb o e=>(e0.bs b o e).1;have SM:∀y∈ps.zip us,scope.names.lookup y.1=some .local∨(scope.names.lookup y.1=some .cell∧((cellsFrom (s.heap.objs.size+1) scope.names []).lookup y.1).isSome=true):=λ⟨n,v⟩ hy=>by
  rcases S.par n (yC hy).1 with q|q
  ·exact .inl q
  ·exact .inr ⟨q,PySem.W.cellsFrom_some _ _ _ (.inl q)⟩
 refine codeAny_call_function hr.depth (KX _ _ lk) rfl S.co S.gen rfl (PySem.W.codeRec_of KX eC) (hb _ _ _ _ ?_);refine wpAny_newFunctionEnv_cells S.kind SM λenv he s1 x=>?_;subst he;refine⟨lim.keeps x.toInCall.keep,codeAny_func ?_⟩;obtain⟨t,ht,hq⟩:=pE A outer s H vs Q E (hr.deeper _) gM;have I:Inv (dC CX P w K mg base N qual scope f aL A outer s H E) [] (start N vs) H s1:=Lj S hr.hd e0 hl r x;refine bP (ht [] s1 (start N vs) H _ I hq) (λfl s' hs=>?_) λe s' hs=>hs;have fin:∀{σ':St}{H':Hp}{v:V}{u:Value},Inv (dC CX P w K mg base N qual scope f aL A outer s H E) [] σ' H' s'→RelV v u→Q v H'→CE outer P w H s Q u s' :=
  λ{σ' H' v u} J rv q=>⟨v,H',J.os,J.bare,J.base,J.ay,rv,q⟩
 cases fl with
 |ret u =>
  obtain⟨v,σ',H',J,rv,q⟩:=hs;exact fin J rv q
 |next =>
  obtain⟨σ',H',J,q⟩:=hs;exact fin (v:=V.non) (u:=Value.none) J rfl q
 |brk =>
  obtain⟨_,_,_,q⟩:=hs;exact False.elim q
 |cont =>
  obtain⟨_,_,_,q⟩:=hs;exact False.elim q
section
variable {X:Cx}{x:Str}{p pos:Pos}{e:Expr}{es:List Expr}{t:TA}{id T:String}{r:List V→Hp→VK→Prop}
noncomputable def qp(r:List V→Hp→VK→Prop)(t:TA):TE:=λσ H Q=>t σ H λvs H1=>r vs H1 Q
theorem kY (hc:fM X (.builtin id) r) (hg:Gl X x) (hm:X.mg x=none) (hv:bootBuiltins x=some (.builtin id)) (ha:PA X (e::es) t) (hn:x ≠ "__name__" := by decide) (eV:(x==("__debug__" : Str))=false:=by decide)
  (he:starEach (e::es) X.env=(false,eval e X.env)::starEach es X.env:=by rfl) (fX:(backTo pos (starEach es X.env)).any (·.1)=false:=by rfl):PE X (.Call (.Name x p) (e::es) [] pos) (qp r t):=by
 intro pins s σ H Q I h;refine qd (oX I hg hm hv ?_ hn eV);exact PyProof.Rows.callWith_builtin1 (az (ha pos pins s σ H _ I h) λus s1 ⟨vs,H1,I1,r1,q1⟩=>hc pins s1 σ H1 vs us Q I1 r1 q1) he fX
theorem A1 (hc:fM X (.type T) r) (hg:Gl X x) (hm:X.mg x=none) (hv:bootBuiltins x=some (.type T)) (ha:PA X (e::es) t) (hn:x ≠ "__name__" := by decide) (eV:(x==("__debug__" : Str))=false:=by decide)
  (he:starEach (e::es) X.env=(false,eval e X.env)::starEach es X.env:=by rfl) (fX:(backTo pos (starEach es X.env)).any (·.1)=false:=by rfl):PE X (.Call (.Name x p) (e::es) [] pos) (qp r t):=by
 intro pins s σ H Q I h;refine qd (oX I hg hm hv ?_ hn eV);exact yA (az (ha pos pins s σ H _ I h) λus s1 ⟨vs,H1,I1,r1,q1⟩=>hc pins s1 σ H1 vs us Q I1 r1 q1) he fX
end
end L2
namespace HT
open PySem PyProof.Rows
section
open PySem.SeqAt
open PySem.AutoSeq1 (wpAny_loadPart')
open PySem.MeetsSeq PySem.MeetsSeq2 PySem.MeetsSeq3
end
section
variable {prog:Program}{w:World}{A:Around}{E:Value→Shared→Prop}{s:Shared}
theorem NX{t b:Addr}{vs ws:List Value}{Q:Value→Shared→Prop}(ht:IsTup s.heap t vs.toArray)(hb:IsTup s.heap b ws.toArray)(hv:vs≠[])
  (h1:ws=[]→Q (.ref t) s) (h2:ws≠[]→Q (.ref s.heap.objs.size) { s with heap:=s.heap.push { cls:=.type "tuple",data:=.seq (vs++ws).toArray } })
  (nY:vs.length+ws.length≤sizeLine):wpAny (model prog w) A (binaryOp .Add (.ref t) (.ref b)) Q E s:=by
 obtain⟨⟨cls,dd,data,sl⟩,ho,hc,n,hd⟩:=id ht;obtain⟨⟨Uj,uw,data2,lV⟩,iV,kz,n2,hd2⟩:=id hb;simp only at hc hd kz hd2;subst hc hd kz hd2;have e:vs.toArray++ws.toArray=(vs++ws).toArray:=by simp
 by_cases hw:ws=[]
 ·exact t7 ⟨_,ho,rfl⟩ ⟨_,iV,rfl⟩ yE seq_tuple_add yF yG (yH _ _)
   (tuple_addW1 t b vs.toArray ws.toArray n n2 dd uw sl lV (by simpa using hv) (by simp[hw])) ⟨ho,iV,h1 hw⟩
 ·refine t7 ⟨_,ho,rfl⟩ ⟨_,iV,rfl⟩ yE seq_tuple_add yF yG (yH _ _)
   (tuple_addW2 t b vs.toArray ws.toArray n n2 dd uw sl lV (by simpa using hv) (by simpa using hw) (by rw[List.size_toArray,List.size_toArray];exact nY)) ⟨ho,iV,?_⟩
  rw[e];exact h2 hw
noncomputable def aF(n d:Nat):Option Int→Nat
 |none=>d
 |some v=>if v<0 then (v+(n:Int)).toNat else min v.toNat n
theorem Bi(n d:Nat):aF n d none=d:=rfl
theorem rA(n d k:Nat):aF n d (some (k:Int))=min k n:=by
 show(if (k:Int)<0 then ((k:Int)+(n:Int)).toNat else min (k:Int).toNat n)=min k n;rw[if_neg (by omega),Int.toNat_natCast]
theorem Qh(n d:Nat)(hd:d≤n)(o:Option Int):aF n d o≤n:=by
 cases o with
 |none=>exact hd
 |some v =>
  show(if v<0 then (v+(n:Int)).toNat else min v.toNat n)≤n;by_cases hv:v<0
  ·rw[if_pos hv];omega
  ·rw[if_neg hv];exact Nat.min_le_right _ _
theorem B3(v:Int)(n d:Nat):(if v<0 then max (v+(n:Int)) 0 else min v (n:Int))=((aF n d (some v):Nat):Int):=by
 show(if v<0 then max (v+(n:Int)) 0 else min v (n:Int))=(((if v<0 then (v+(n:Int)).toNat else min v.toNat n):Nat):Int);by_cases hv:v<0
 ·simp only[if_pos hv];omega
 ·simp only[if_neg hv];omega
theorem Kt(lo hi:Option Int)(n:Nat):Builtin.Slice.sliceAdjust lo hi 1 (n:Int)=(((aF n 0 lo:Nat):Int),((aF n n hi:Nat):Int)):=by
 have h1:¬((1:Int)<0):=by omega
 unfold Builtin.Slice.sliceAdjust;simp only[h1,if_false];refine Prod.ext ?_ ?_
 ·cases lo with
  |none=>rfl
  |some v=>exact B3 v n 0
 ·cases hi with
  |none=>rfl
  |some v=>exact B3 v n n
theorem Ku(i j:Nat):Builtin.Slice.slicePlaces (i:Int) (j:Int) 1=j-i:=by
 unfold Builtin.Slice.slicePlaces;have h1:(1:Int)>0:=by omega
 simp only[h1,if_true,Int.ediv_one];split<;>omega
theorem As{v:Value}{o:Option Int}{Q:Option Int→Shared→Prop}(p:IsPart v o)(h:Q o s):wpAny (model prog w) A (Builtin.Slice.slicePartIndex v) Q E s:=by
 cases p with
 |none=>exact slicePart_none h
 |int i t=>exact slicePart_int h
theorem z9{sl:Addr}{vl vu:Value}{lo hi:Option Int}{n:Nat}{Q:Int×Int×Nat→Shared→Prop}(hs:s.heap.IsSliceOf sl vl vu .none)(pl:IsPart vl lo)(pu:IsPart vu hi)
  (h:Q (((aF n 0 lo:Nat):Int),1,aF n n hi-aF n 0 lo) s):wpAny (model prog w) A (Builtin.Slice.sliceApplied (.ref sl) (pure (n:Int))) Q E s:=by
 obtain⟨os,lW,fH,qq⟩:=id hs;unfold Builtin.Slice.sliceApplied Builtin.Slice.sliceFields;refine ak (ak (jz lW qq (x:=vl) rfl (ak (jz lW qq (x:=vu) rfl (ak (jz lW qq (x:=.none) rfl (aH ?_)))))));refine ak (slicePart_none ?_);show wpAny _ _ (if ((1:Int)==0)=true then _ else _) _ _ s;rw[if_neg (by decide)];refine ak (As pl (ak (As pu (ak (aH ?_)))));show wpAny _ _ (match Builtin.Slice.sliceAdjust lo hi 1 (n:Int)with | (lo,hi)=>pure (lo,(1:Int),Builtin.Slice.slicePlaces lo hi 1)) _ _ s
 rw[Kt lo hi n];show wpAny _ _ (pure (((aF n 0 lo:Nat):Int),(1:Int),Builtin.Slice.slicePlaces ((aF n 0 lo:Nat):Int) ((aF n n hi:Nat):Int) 1)) _ _ s;rw[Ku];exact aH h
theorem MC(xs:Array Value)(i k:Nat):((List.range k).filterMap λ(m:Nat)=>xs[((i:Int)+(m:Int)*1).toNat]?).toArray=((xs.toList.drop i).take k).toArray:=by
 have e:(λ(m:Nat)=>xs[((i:Int)+(m:Int)*1).toNat]?)=λm=>xs[i+m]?:=by
  funext m;have:((i:Int)+(m:Int)*1).toNat=i+m:=by omega
  rw[this]
 rw[e];have:=pick_run xs i k;rw[List.filterMap_map]at this;have e2:((λx=>xs[x]?)∘λx=>i+x)=λm=>xs[i+m]?:=rfl;rw[e2]at this;rw[this]
theorem IU{t sl:Addr}{items:Array Value}{vl vu:Value}{lo hi:Option Int}{Q:Value→Shared→Prop}(ht:IsTup s.heap t items)(hs:s.heap.IsSliceOf sl vl vu .none)(pl:IsPart vl lo)(pu:IsPart vu hi)
  (hw:¬(aF items.size 0 lo=0∧aF items.size items.size hi=items.size))
  (h:Q (.ref s.heap.objs.size) { s with heap:=s.heap.push { cls:=.type "tuple",data:=.seq ((items.toList.drop (aF items.size 0 lo)).take (aF items.size items.size hi-aF items.size 0 lo)).toArray } })
  (nY:items.size≤sizeLine):wpAny (model prog w) A (getItem (.ref t) (.ref sl)) Q E s:=by
 have rX:sizeOk (.seq ((items.toList.drop (aF items.size 0 lo)).take (aF items.size items.size hi-aF items.size 0 lo)).toArray):=by
  show((items.toList.drop (aF items.size 0 lo)).take (aF items.size items.size hi-aF items.size 0 lo)).toArray.size≤sizeLine;rw[dY,kg,List.length_drop,Array.length_toList];omega
 have hj:aF items.size items.size hi≤items.size:=Qh _ _ (a7 _) hi;obtain⟨os,lW,fH,qq⟩:=id hs;have y4:s.TypeIs (.ref sl) "slice" := ⟨os,lW,fH⟩;unfold getItem
 try with_reducible refine ik ?_
 first|refine ak (aH ?_)|skip
 refine ak (wpAny_sequenceKey ht.typeIs (by decide) ?_);refine ak (wpAny_callSpecial?_slot (name:=Str.ofString "__getitem__") ht.typeIs nJ
  (yy nJ ht.typeIs entry_tuple_getitem ?_ (args_tuple_getitem _ _)))
 show wpAny _ _ (Builtin.Tuple.tupleItemsOf (.ref t) >>= _) _ _ s;refine ak (tupleItemsOf_ ht ?_);refine ak (wpAny_typeOf y4 ?_);rw[if_pos (by decide)];refine ak (z9 hs pl pu ?_);have Vb:¬((((aF items.size 0 lo:Nat):Int)==0&&(1:Int)==1&&(aF items.size items.size hi-aF items.size 0 lo)==items.size)=true):=by
  intro q;rw[jA,jA]at q;have q1:((aF items.size 0 lo:Nat):Int)=0:=eq_of_beq q.1.1;have q2:aF items.size items.size hi-aF items.size 0 lo=items.size:=eq_of_beq q.2;exact hw ⟨by omega,by omega⟩
 show wpAny _ _ (if (((aF items.size 0 lo:Nat):Int)==0&&(1:Int)==1&&(aF items.size items.size hi-aF items.size 0 lo)==items.size)=true then _ else _) _ _ s;rw[if_neg Vb,MC]
 first
  |exact ak (m:=Builtin.Tuple.tupleExact _) (nK (aH ⟨_,rfl,aH h⟩) rX)
  |exact ak (m:=Builtin.Tuple.tupleExact _) (nK (ak (aH (aH ⟨_,rfl,aH h⟩))) rX)
  |exact ak (ak (m:=Builtin.Tuple.tupleExact _) (nK (aH (aH ⟨_,rfl,aH h⟩)) rX))
  |exact ak (ak (m:=Builtin.Tuple.tupleExact _) (nK (aH ⟨_,rfl,aH h⟩) rX))
end
end HT
namespace L2
open PySem PySem.Spec PyProof.Rows
noncomputable abbrev TO:=St→Hp→(Option Int→Hp→Prop)→Prop
def PO(X:Cx)(e:Option Expr)(t:TO):Prop :=
 ∀(pins:List (Addr×Obj)) (s:Shared) (σ:St) (H:Hp) (Q:Option Int→Hp→Prop),Inv X pins σ H s→t σ H Q →
  wpAny (model X.prog X.w) X.A (evalPart e X.env) (λu s'=>∃o H',Inv X pins σ H' s'∧IsPart u o∧Q o H') X.xe s
noncomputable def B4:TO:=λ_ H Q=>Q none H
noncomputable def Eg(t:TE):TO:=λσ H Q=>t σ H λx H1=>∃i,x=.int i∧Q (some i) H1
section
variable {X:Cx}{e:Expr}{te:TE}{lo hi:Option Expr}{tl th:TO}{pos p2:Pos}
theorem NZ:PO X none B4:=by
 intro pins s σ H Q I h;rw[evalPart_none];exact aH ⟨none,H,I,.none,h⟩
theorem N0(h:PE X e te):PO X (some e) (Eg te):=by
 intro pins s σ H Q I hw;rw[evalPart_some];refine az (h pins s σ H _ I hw) λu s1 ⟨x,H1,I1,r1,q1⟩=>?_;obtain⟨i,rfl,q⟩:=q1;obtain⟨t,rfl⟩:=r1;exact⟨some i,H1,I1,.int i t,q⟩
def jF(X:Cx)(r:V→Option Int→Option Int→Hp→VK→Prop):Prop :=
 ∀(pins:List (Addr×Obj)) (s:Shared) (σ:St) (H:Hp) (x:V) (v vl vu:Value) (lo hi:Option Int) (sl:Addr) (Q:VK),Inv X pins σ H s→RelV x v→s.heap.IsSliceOf sl vl vu .none→IsPart vl lo→IsPart vu hi→r x lo hi H Q →
  ∃T id,typeLookup (.type T) "__getitem__" = pure (some (.builtin id))∧s.TypeIs v T∧wpAny (model X.prog X.w) X.A (getItem v (.ref sl)) (EP X pins σ Q) X.xe s
noncomputable def Gi(r:V→Option Int→Option Int→Hp→VK→Prop)(te:TE)(tl th:TO):TE:=λσ H Q=>te σ H λx H1=>tl σ H1 λl H2=>th σ H2 λu H3=>r x l u H3 Q
theorem MD{r:V→Option Int→Option Int→Hp→VK→Prop}(hr:jF X r)(he:PE X e te)(hl:PO X lo tl)(hu:PO X hi th):PE X (.Subscript e (.Slice lo hi none p2) pos) (Gi r te tl th):=by
 intro pins s σ H Q I h;refine Subscript_ (az (he pins s σ H _ I h) λv s1 ⟨x,H1,I1,r1,q1⟩=>?_);refine wpAny_Slice (az (hl pins s1 σ H1 _ I1 q1) λvl s2 ⟨l,H2,I2,pl,q2⟩=>az (hu pins s2 σ H2 _ I2 q2) λvu s3 ⟨u,H3,I3,pu,q3⟩=>?_);rw[evalPart_none];refine aH ?_;have I4:Inv X pins σ H3 { s3 with heap:=s3.heap.push { cls:=.type "slice",data:=.fields #[vl,vu,.none] } }:=I3.kept (t':=s3.toks) λb ob q=>bQ _ q;obtain⟨T,id,hT,ht,hg⟩:=hr pins { s3 with heap:=s3.heap.push { cls:=.type "slice",data:=.fields #[vl,vu,.none] } } σ H3 x v vl vu l u s3.heap.objs.size Q I4 r1 (Heap.IsSliceOf.new ..) pl pu q3;show wpAny (model X.prog X.w) X.A (subscriptTail e (.Slice lo hi none p2) v (.ref s3.heap.objs.size)) (EP X pins σ Q) X.xe { s3 with heap:=s3.heap.push { cls:=.type "slice",data:=.fields #[vl,vu,.none] } };exact tail_any (ops:=[.ref s3.heap.objs.size,v]) ht hT hg (by with_unfolding_all rfl)
def hJ(xs:List V)(lo hi:Option Int):List V:=(xs.drop (HT.aF xs.length 0 lo)).take (HT.aF xs.length xs.length hi-HT.aF xs.length 0 lo)
theorem Aj(xs:List V)(lo hi:Option Int):(hJ xs lo hi).length≤xs.length:=by
 unfold hJ;rw[kg,List.length_drop];omega
def Uk(K:PySem.W.Frag):V→Option Int→Option Int→Hp→VK→Prop:=λx lo hi H Q=>∃a xs,x=.ref a∧aZ K H a xs ∧
 ¬(HT.aF xs.length 0 lo=0∧HT.aF xs.length xs.length hi=xs.length)∧∀p,H p=none→Q (.ref p) (upd H p (.tup (hJ xs lo hi)))
theorem Qi:jF X (Uk X.K):=by
 intro pins s σ H x v vl vu lo hi sl Q I rx hs pl pu h;obtain⟨a,xs,rfl,hx,hw,q⟩:=h;cases rx;obtain⟨its,r,ht,hz⟩:=I.tuple hx;have hlen:its.toArray.size=xs.length:=by rw[dY];exact r.length.symm
 refine⟨"tuple",_,nJ.lookup,ht.typeIs,?_⟩;refine HT.IU ht hs pl pu (by rw[hlen];exact hw) ?_ (by rw[hlen];exact hz);rw[hlen];refine⟨.ref s.heap.objs.size,_,I.laid (t':=s.toks) (o:=.tup (hJ xs lo hi)) (λb ob q=>bQ _ q) (a7 _) ?_,rfl,q _ (I.ay.fresh (a7 _))⟩;exact⟨aQ (Aj xs lo hi) hz,_,(r.drop (HT.aF xs.length 0 lo)).take (HT.aF xs.length xs.length hi-HT.aF xs.length 0 lo),lB.new _ _⟩
def SN(K:PySem.W.Frag):R2:=λx y H Q=>∃a b xs ys,x=.ref a∧y=.ref b∧aZ K H a xs∧aZ K H b ys∧xs≠[]∧xs.length+ys.length≤sizeLine ∧
 (ys=[]→Q (.ref a) H)∧(ys≠[]→∀p,H p=none→Q (.ref p) (upd H p (.tup (xs++ys))))
theorem Vals.vT{xs:List V}{us:List Value}(r:Vals xs us):us=[]↔xs=[]:=by
 cases r with
 |nil=>simp
 |cons _ _=>simp
theorem N1:bq X (binaryOp .Add) (SN X.K):=by
 intro pins s σ H x y v u Q I rx ry h;obtain⟨a,b,xs,ys,rfl,rfl,ha,hb,hx,hz,q1,q2⟩:=h;cases rx;cases ry;obtain⟨its,r1,p1,_⟩:=I.tuple ha;obtain⟨pQ,r2,p2,_⟩:=I.tuple hb;refine HT.NX p1 p2 (λz=>hx (r1.vT.mp z)) (λz=>⟨.ref a,H,I,rfl,q1 (r2.vT.mp z)⟩) (λz=>?_) (by rw[←r1.length,←r2.length];exact hz);refine⟨.ref s.heap.objs.size,_,I.laid (t':=s.toks) (o:=.tup (xs++ys)) (λb ob q=>bQ _ q) (a7 _) ?_,rfl,q2 (λw=>z (r2.vT.mpr w)) _ (I.ay.fresh (a7 _))⟩;exact⟨by rw[bN];exact hz,_,r1.append r2,lB.new _ _⟩
end
noncomputable def fY(n:Nat)(i:Int):Option Nat:=if 0≤i then (if i<n then some i.toNat else none)else if -(n:Int)≤i then some (i+n).toNat else none
def aM{α:Type}(xs:List α)(i:Int):Option α:=(fY xs.length i).bind λj=>xs[j]?
theorem B5{n:Nat}{i:Int}{j:Nat}(h:fY n i=some j):seqIndex? i n=some j∧j<n∧-(n:Int)≤i∧i<n:=by
 unfold fY at h;by_cases h0:0≤i
 ·rw[if_pos h0]at h;by_cases h1:i<n
  ·rw[if_pos h1]at h;have e:i.toNat=j:=eR h;exact⟨by rw[seqIndex_of h0 h1,e],by omega,by omega,h1⟩
  ·rw[if_neg h1]at h;cases h
 ·rw[if_neg h0]at h;by_cases h1:-(n:Int)≤i
  ·rw[if_pos h1]at h;have e:(i+n).toNat=j:=eR h;exact⟨by rw[seqIndex_neg (by omega) h1,e],by omega,h1,by omega⟩
  ·rw[if_neg h1]at h;cases h
theorem jU{α:Type}{xs:List α}{i:Int}{v:α}(h:aM xs i=some v):∃j,seqIndex? i xs.length=some j∧xs[j]?=some v∧j<xs.length∧-(xs.length:Int)≤i∧i<xs.length:=by
 unfold aM at h;cases e:fY xs.length i with
 |none=>rw[e]at h;cases h
 |some j =>
  rw[e]at h;obtain⟨h1,h2,h3,h4⟩:=B5 e;exact⟨j,h1,h,h2,h3,h4⟩
theorem mR{α:Type}{xs:List α}{j:Nat}{v:α}(h:xs[j]?=some v):aM xs (j:Int)=some v:=by
 have hj:j<xs.length:=(ig.mp h).1;have e:fY xs.length (j:Int)=some j:=by
  unfold fY;rw[if_pos (by omega),if_pos (by omega)];simp
 unfold aM;rw[e];exact h
def B6(b:Expr):Prop:=∀o i,subscripted b false o i=operate [o,i] (getItem o i)
def iW(X:Cx)(r:R2):Prop :=
 ∀(value slice:Expr) (pins:List (Addr×Obj)) (s:Shared) (σ:St) (H:Hp) (x y:V) (v u:Value) (Q:VK),Inv X pins σ H s→RelV x v→RelV y u→r x y H Q →
  subscripted slice false v u=operate [v,u] (getItem v u)→wpAny (model X.prog X.w) X.A (subscriptTail value slice v u) (EP X pins σ Q) X.xe s
def kC(X:Cx)(id:String)(r:V→List V→Hp→VK→Prop):Prop :=
 ∀(pins:List (Addr×Obj)) (s:Shared) (σ:St) (H:Hp) (x:V) (xs:List V) (v:Value) (us:List Value) (Q:VK),Inv X pins σ H s→RelV x v→Vals xs us→r x xs H Q →
  wpAny (model X.prog X.w) X.A (call (.builtin id) (v::us)) (EP X pins σ Q) X.xe s
section
variable {X:Cx}{a b:Expr}{ta tb:TE}{pos:Pos}
theorem iW.or{r r':R2}(h:iW X r)(h':iW X r'):iW X (λx y H Q=>r x y H Q∨r' x y H Q):=by
 intro value slice pins s σ H x y v u Q I rx ry q hs;rcases q with q|q
 ·exact h value slice pins s σ H x y v u Q I rx ry q hs
 ·exact h' value slice pins s σ H x y v u Q I rx ry q hs
theorem SQ{r:R2}(hr:iW X r)(ha:PE X a ta)(hb:PE X b tb)(hs:B6 b):PE X (.Subscript a b pos) (nX r ta tb):=by
 intro pins s σ H Q I h;exact Subscript_ (xT ha hb I h λv u s2 x y H2 I2 rx ry q=>hr a b pins s2 σ H2 x y v u Q I2 rx ry q (hs _ _))
def Fq(K:PySem.W.Frag):R2:=λx y H Q=>∃p xs i v,x=.ref p∧y=.int i∧bj K H p xs∧aM xs i=some v∧Q v H
def Fs(K:PySem.W.Frag):R2:=λx y H Q=>∃p xs i v,x=.ref p∧y=.int i∧aZ K H p xs∧aM xs i=some v∧Q v H
def Ft:R2:=λx y H Q=>∃z i c,x=.str z∧y=.int i∧z.length≤sizeLine∧aM z.cps.toList i=some c∧Q (.str ⟨#[c]⟩) H
theorem N2:iW X (Fq X.K):=by
 intro value slice pins s σ H x y v u Q I rx ry h hs;obtain⟨p,xs,i,z,rfl,rfl,hq,he,q⟩:=h;cases rx;obtain⟨t,rfl⟩:=ry;obtain⟨its,r,pl,hz⟩:=I.list hq;obtain⟨j,h1,h2,h3,h4,h5⟩:=jU he;obtain⟨w,ew,qt⟩:=r.get h2;have hl:=r.length;have hn:=mS;have fin:EP X pins σ Q w s:=⟨z,H,I,qt,q⟩;by_cases h0:0≤i
 ·have hj:i.toNat=j:=by
   rw[seqIndex_of h0 h5]at h1;exact eR h1
  exact item_listR pl.isList h0 (by omega) (by rw[hj];simpa using ew) fin hs
 ·have hj:(i+(its.toArray.size:Int)).toNat=j:=by
   rw[seqIndex_neg (by omega) h4]at h1;rw[dY,←hl];exact eR h1
  exact subscriptTail_builtinR (x:=w) pl.isList.typeIs slot_list_getitem.lookup
   (wpAny_getItem_list_neg (Q:=λr s'=>r=w∧EP X pins σ Q r s') pl.isList (by omega) (by rw[dY]<;>omega) (by omega) (by rw[hj];simpa using ew) ⟨rfl,fin⟩) hs
theorem Qj:iW X (Fs X.K):=by
 intro value slice pins s σ H x y v u Q I rx ry h hs;obtain⟨p,xs,i,z,rfl,rfl,hq,he,q⟩:=h;cases rx;obtain⟨t,rfl⟩:=ry;obtain⟨its,r,pl,hz⟩:=I.tuple hq;obtain⟨j,h1,h2,h3,h4,h5⟩:=jU he;obtain⟨w,ew,qt⟩:=r.get h2;have hl:=r.length;have hn:=mS;have fin:EP X pins σ Q w s:=⟨z,H,I,qt,q⟩;exact subscriptTail_builtinR (x:=w) pl.typeIs slot_tuple_getitem.lookup
  (getItem_tuple (j:=j) (Q:=λr s'=>r=w∧EP X pins σ Q r s') pl (by omega) (by omega) (by rw[dY,←hl];exact h1) (by simpa using ew) ⟨rfl,fin⟩) hs
theorem Qk:iW X Ft:=by
 intro value slice pins s σ H x y v u Q I rx ry h hs;obtain⟨z,i,c,rfl,rfl,hz,he,q⟩:=h;obtain⟨t,rfl⟩:=rx;obtain⟨t',rfl⟩:=ry;obtain⟨j,h1,h2,h3,h4,h5⟩:=jU he;have hl:z.cps.toList.length=z.length:=by simp[Str.length]
 rw[hl]at h1 h4 h5;have hn:=mS;exact tail_any (typeIs_str s z t) slot_str_getitem.lookup (getItem_str (c:=c) (by
  have e1:decide (i < -(2^63:Int))=false:=bF (by omega);have e2:decide (i≥2^63)=false:=bF (by omega);rw[e1,e2,Bool.or_false]) (by rw[h1];simpa using h2) ⟨.str ⟨#[c]⟩,H,I.tok _,⟨_,rfl⟩,q⟩) hs
def y6(K:PySem.W.Frag):R2:=λx y H Q=>Fq K x y H Q∨Fs K x y H Q∨Ft x y H Q
theorem Ql:iW X (y6 X.K):=N2.or (Qj.or Qk)
theorem Kv(its:List Value)(n j:Nat)(u:Value):Obj.mapSeq (·.setIfInBounds j u) { cls:=.type "list",data:=.seq its.toArray n }={ cls:=.type "list",data:=.seq (its.set j u).toArray n }:=by
 simp[Obj.mapSeq]
theorem Inv.lst{pins:List (Addr×Obj)}{σ:St}{H:Hp}{s:Shared}{p:Addr}{xs:List V}(I:Inv X pins σ H s)(h:H p=some (.lst xs)) :
  ∃(its:List Value) (n:Nat),Vals xs its∧s.heap.get? p=some { cls:=.type "list",data:=.seq its.toArray n }∧xs.length≤sizeLine:=by
 obtain⟨z,its,n,r,e⟩:=I.ay p _ h;exact⟨its,n,r,e,z⟩
theorem Inv.Qm{pins:List (Addr×Obj)}{σ:St}{H:Hp}{s:Shared}{p:Addr}{xs ys:List V}{its its':List Value}{n n':Nat}{f:Obj→Obj}(I:Inv X pins σ H s)(h:H p=some (.lst xs))
  (ho:s.heap.get? p=some { cls:=.type "list",data:=.seq its.toArray n }) (hf:f { cls:=.type "list",data:=.seq its.toArray n }={ cls:=.type "list",data:=.seq its'.toArray n' }) (r:Vals ys its') (hz:ys.length≤sizeLine) (t:Nat) :
  Inv X pins σ (upd H p (.lst ys)) { s with heap:=s.heap.update p f,toks:=t }:=by
 have e:(s.heap.update p f).get? p=some { cls:=.type "list",data:=.seq its'.toArray n' }:=by
  rw[qf f ho (by rw[hf]<;>rfl),hf]
 refine I.write (x:=p) (e:=p) (by rw[h];trivial) (.inl rfl) (λb u hb q=>(Heap.get?_update_other _ _ (dq hb)).trans q) ⟨_,e⟩ ?_;exact⟨hz,its',n',r,e⟩
def Eh:V→V→V→Hp→(Hp→Prop)→Prop:=λo i v H Q=>∃p xs k j,o=.ref p∧i=.int k∧H p=some (.lst xs)∧fY xs.length k=some j∧Q (upd H p (.lst (xs.set j v)))
theorem set_list:Ff X Eh:=by
 intro pins s σ H o i v ov iv u Q I ro ri rv h;obtain⟨p,xs,k,j,rfl,rfl,hp,hj,q⟩:=h;cases ro;obtain⟨t,rfl⟩:=ri;obtain⟨its,n,r,ho,hz⟩:=I.lst hp;obtain⟨h1,h2,h3,h4⟩:=B5 hj;have hl:=r.length;have hn:=mS;have I':Inv X pins σ (upd H p (.lst (xs.set j v))) { s with heap:=s.heap.update p (Obj.mapSeq (·.setIfInBounds j u)) } :=
  I.Qm hp ho (Kv its n j u) (r.set rv j) (by rw[nL];exact hz) s.toks
 by_cases h0:0≤k
 ·have hk:k.toNat=j:=by
   rw[seqIndex_of h0 h4]at h1;exact eR h1
  exact PySem.W.ki_setAt ho h0 (by omega) (by rw[dY,←hl];exact h4) (by rw[hk];exact⟨_,I',q⟩)
 ·have hk:(k+(its.toArray.size:Int)).toNat=j:=by
   rw[seqIndex_neg (by omega) h3]at h1;rw[dY,←hl];exact eR h1
  exact PySem.W.ki_setBack ho (by omega) (by rw[dY,←hl];exact h3) (by omega) (by rw[hk];exact⟨_,I',q⟩)
theorem Jq(lo hi:Option Int)(n:Nat):(sliceBounds lo hi none n).1=((HT.aF n 0 lo:Nat):Int)∧(sliceBounds lo hi none n).2.1=((HT.aF n n hi:Nat):Int)∧(sliceBounds lo hi none n).2.2=1:=by
 refine⟨?_,?_,rfl⟩
 ·cases lo with
  |none=>simp[sliceBounds,HT.aF]
  |some i =>
   simp only[sliceBounds,HT.aF,Option.getD_none,show(1:Int)>0 by decide,if_true];by_cases h:i<0
   ·simp only[h,if_true]<;>omega
   ·simp only[h,if_false]<;>omega
 ·cases hi with
  |none=>simp[sliceBounds,HT.aF]
  |some i =>
   simp only[sliceBounds,HT.aF,Option.getD_none,show(1:Int)>0 by decide,if_true];by_cases h:i<0
   ·simp only[h,if_true]<;>omega
   ·simp only[h,if_false]<;>omega
theorem Jd(its:List Value)(lo hi:Option Int):slicePick its.toArray lo hi none=((its.drop (HT.aF its.length 0 lo)).take (HT.aF its.length its.length hi-HT.aF its.length 0 lo)).toArray:=by
 obtain⟨h1,h2,h3⟩:=Jq lo hi its.toArray.size;unfold slicePick;rw[h1,h2,h3];simp only[sliceRange_one,pick_run,List.size_toArray]<;>rfl
def xX(K:PySem.W.Frag):V→Option Int→Option Int→Hp→VK→Prop:=λx lo hi H Q=>∃a xs,x=.ref a∧bj K H a xs∧∀p,H p=none→Q (.ref p) (upd H p (.lst (hJ xs lo hi)))
theorem N3:jF X (xX X.K):=by
 intro pins s σ H x v vl vu lo hi sl Q I rx hs pl pu h;obtain⟨a,xs,rfl,hx,q⟩:=h;cases rx;obtain⟨its,r,ht,hz⟩:=I.list hx;have hlen:=r.length;refine⟨"list",_,slot_list_getitem.lookup,ht.isList.typeIs,?_⟩;refine wpAny_getItem_list_slice ht.isList hs pl pu .none (by simp) ?_ (by rw[List.size_toArray]<;>omega);rw[Jd,←hlen];refine⟨.ref s.heap.objs.size,_,I.laid (t':=s.toks) (o:=.lst (hJ xs lo hi)) (λb ob q=>bQ _ q) (a7 _) ?_,rfl,q _ (I.ay.fresh (a7 _))⟩;exact⟨aQ (Aj xs lo hi) hz,_,0,(r.drop (HT.aF xs.length 0 lo)).take (HT.aF xs.length xs.length hi-HT.aF xs.length 0 lo),dX _ rfl⟩
noncomputable def gA:V→Bool
 |.non=>true
 |.bl _=>true
 |.int _=>true
 |.str _=>true
 |_=>false
noncomputable def iX:V→V→Bool
 |.non,.non=>true
 |.bl a,.bl b=>a==b
 |.bl a,.int b=>(if a then 1 else 0)==b
 |.int a,.bl b=>a==(if b then 1 else 0)
 |.int a,.int b=>a==b
 |.str a,.str b=>a==b
 |_,_=>false
theorem Qn{A:Around}{s:Shared}{y x:V}{u v:Value}(ry:RelV y u)(rx:RelV x v)(fy:gA y=true)(fx:gA x=true):SeqAt.EqAt A s u v (iX y x):=by
 cases y with
 |non =>
  cases ry;cases x with
  |non=>cases rx;exact SeqAt.EqAt.same _
  |bl b=>cases rx;exact SeqAt.EqAt.none_bool b
  |int b=>obtain⟨t,rfl⟩:=rx;exact SeqAt.EqAt.none_int b t
  |str b=>obtain⟨t,rfl⟩:=rx;exact SeqAt.EqAt.none_str b t
  |_=>exact absurd (show false=true from fx) aU
 |bl a =>
  cases ry;cases x with
  |non=>cases rx;exact SeqAt.EqAt.bool_none a
  |bl b=>cases rx;exact SeqAt.EqAt.bool_bool a b
  |int b=>obtain⟨t,rfl⟩:=rx;exact SeqAt.EqAt.bool_int a b t
  |str b=>obtain⟨t,rfl⟩:=rx;exact SeqAt.EqAt.bool_str a b t
  |_=>exact absurd (show false=true from fx) aU
 |int a =>
  obtain⟨t',rfl⟩:=ry;cases x with
  |non=>cases rx;exact SeqAt.EqAt.int_none a t'
  |bl b=>cases rx;exact SeqAt.EqAt.int_bool a t' b
  |int b=>obtain⟨t,rfl⟩:=rx;exact SeqAt.EqAt.int_int a t' b t
  |str b=>obtain⟨t,rfl⟩:=rx;exact SeqAt.EqAt.int_str a t' b t
  |_=>exact absurd (show false=true from fx) aU
 |str a =>
  obtain⟨t',rfl⟩:=ry;cases x with
  |non=>cases rx;exact SeqAt.EqAt.str_none a t'
  |bl b=>cases rx;exact SeqAt.EqAt.str_bool a t' b
  |int b=>obtain⟨t,rfl⟩:=rx;exact SeqAt.EqAt.str_int a t' b t
  |str b=>obtain⟨t,rfl⟩:=rx;exact SeqAt.EqAt.str_str a t' b t
  |_=>exact absurd (show false=true from fx) aU
 |_=>exact absurd (show false=true from fy) aU
def gO(x:V)(u:Value):Bool:=match u with
 |.none=>iX .non x
 |.bool b=>iX (.bl b) x
 |.int i _=>iX (.int i) x
 |.str z _=>iX (.str z) x
 |_=>false
theorem C9{x y:V}{u:Value}(r:RelV y u)(f:gA y=true):gO x u=iX y x:=by
 cases y with
 |non=>cases r;rfl
 |bl b=>cases r;rfl
 |int i=>obtain⟨t,rfl⟩:=r;rfl
 |str z=>obtain⟨t,rfl⟩:=r;rfl
 |_=>exact absurd (show false=true from f) aU
theorem rB{x:V}:∀{xs:List V}{us:List Value},Vals xs us→xs.all gA=true→us.any (gO x)=xs.any λy=>iX y x
 |_,_,.nil,_=>rfl
 |y::xs,u::us,.cons r t,f=>by
  rw[lP,jA]at f;rw[t8,t8,C9 r f.1,rB t f.2]
theorem rj{A:Around}{s:Shared}{x:V}{v:Value}(rx:RelV x v)(fx:gA x=true):∀{xs:List V}{us:List Value},Vals xs us→xs.all gA=true→∀u∈us,SeqAt.EqAt A s u v (gO x u)
 |_,_,.nil,_=>λu hu=>by cases hu
 |y::xs,u::us,.cons r t,f=>λu' hu=>by
  rw[lP,jA]at f;rcases cH.mp hu with rfl|hu
  ·rw[C9 r f.1];exact Qn r rx f.1 fx
  ·exact rj rx fx t f.2 u' hu
def dJ(x:V)(xs:List V):Bool:=xs.any λy=>iX y x
def y7(K:PySem.W.Frag)(neg:Bool):R2:=λx y H Q=>∃p xs,y=.ref p∧(bj K H p xs∨aZ K H p xs)∧gA x=true∧xs.all gA=true∧Q (.bl (if neg then !dJ x xs else dJ x xs)) H
theorem Lk:bq X (compareOp .In) (y7 X.K false):=by
 intro pins s σ H x y v u Q I rx ry h;obtain⟨p,xs,rfl,hq,fx,fs,q⟩:=h;cases ry;rcases hq with hq|hq
 ·obtain⟨its,r,pl,hz⟩:=I.list hq;refine SeqAt.in_listAt (gO x) pl.isList (λw hw=>rj rx fx r fs w (by simpa using hw)) ⟨.bl _,H,I,rfl,?_⟩;rw[show its.toArray.any (gO x)=its.any (gO x) by simp,rB r fs];exact q
 ·obtain⟨its,r,pl,hz⟩:=I.tuple hq;refine SeqAt.in_tupleAt (gO x) pl (λw hw=>rj rx fx r fs w (by simpa using hw)) ⟨.bl _,H,I,rfl,?_⟩;rw[show its.toArray.any (gO x)=its.any (gO x) by simp,rB r fs];exact q
def y8(K:PySem.W.Frag)(T:String)(x:V)(H:Hp):Prop:=match x with
 |.str _=>T = "str"
 |.int _=>T = "int"
 |.ref p=>(T = "list" ∧ ∃xs,bj K H p xs)∨(T = "tuple" ∧ ∃o,K.lookup p=some o∧o.cls=.type "tuple" ∧ o.dict=none) ∨
  (T = "dict" ∧ ((∃ai,H p=some (.dK ai))∨∃ai,H p=some (.dT ai)))∨(T = "set" ∧ ∃S n,H p=some (.set S n))
 |_=>False
theorem Dc{pins:List (Addr×Obj)}{σ:St}{H:Hp}{s:Shared}{T:String}{x:V}{v:Value}(I:Inv X pins σ H s)(r:RelV x v)(ty:y8 X.K T x H) :
  s.TypeIs v T∧∀a,v=.ref a→∃ob,s.heap.get? a=some ob∧ob.dict=none:=by
 cases x with
 |str z =>
  obtain⟨t,rfl⟩:=r;cases (show T = "str" from ty);exact⟨typeIs_str s z t,λ_ e=>nomatch e⟩
 |int i =>
  obtain⟨t,rfl⟩:=r;cases (show T = "int" from ty);exact⟨typeIs_int s i t,λ_ e=>nomatch e⟩
 |ref p =>
  cases r;rcases ty with⟨rfl,xs,hq⟩|⟨rfl,o,hk,hc,hd⟩|⟨rfl,hk⟩|⟨rfl,S,n,hk⟩
  ·obtain⟨its,_,pl,_⟩:=I.list hq;refine⟨pl.isList.typeIs,λa e=>?_⟩;cases e;obtain⟨o,n,e,c,hd,_⟩:=pl;exact⟨o,e,hd⟩
  ·refine⟨⟨o,I.bz p o hk,hc⟩,λa e=>?_⟩;cases e;exact⟨o,I.bz _ o hk,hd⟩
  ·have z:∃o,s.heap.get? p=some o∧o.ExactDict:=by
    rcases hk with⟨ai,hk⟩|⟨ai,hk⟩
    ·obtain⟨_,_,_,_,o,_,_,e,ex,_⟩:=I.ay p _ hk;exact⟨o,e,ex⟩
    ·obtain⟨_,_,_,_,o,_,_,e,ex,_⟩:=I.ay p _ hk;exact⟨o,e,ex⟩
   obtain⟨o,e,ex⟩:=z;refine⟨⟨o,e,ex.1⟩,λa e2=>?_⟩;cases e2;exact⟨o,e,ex.2.1⟩
  ·obtain⟨o,_,_,_,e,ex,_⟩:=I.ay p _ hk;refine⟨⟨o,e,ex.1⟩,λa e2=>?_⟩;cases e2;exact⟨o,e,ex.2.1⟩
 |_=>exact False.elim ty
noncomputable def Fu(K:PySem.W.Frag)(T:String)(r:V→List V→Hp→VK→Prop)(to:TE):TE:=λσ H Q=>to σ H λx H1=>y8 K T x H1∧r x [] H1 Q
noncomputable def nZ(K:PySem.W.Frag)(T:String)(r:V→List V→Hp→VK→Prop)(to:TE)(t:TA):TE:=λσ H Q=>to σ H λx H1=>y8 K T x H1∧t σ H1 λxs H2=>r x xs H2 Q
variable {o e:Expr}{es:List Expr}{to:TE}{t:TA}{name:Str}{apos bV:Pos}{T id:String}{r:V→List V→Hp→VK→Prop}
theorem oZ (pa:PlainAttrs T) (slot:Slot T name id) (iY:typeOf (.builtin id)=pure (.type "method_descriptor")) (hm:kC X id r) (ho:PE X o to)
  (xk:attributeBase o name X.env (eval o X.env)=eval o X.env:=by rfl) (hline:(apos.endLine==bV.line)=true:=by rfl):PE X (.Call (.Attribute o name apos) [] [] bV) (Fu X.K T r to):=by
 intro pins s σ H Q I h;refine wpAny_Call_method0_late xk hline (az (ho pins s σ H _ I h) λv s1 ⟨x,H1,I1,r1,ty,q1⟩=>?_);obtain⟨h1,h2⟩:=Dc I1 r1 ty;exact⟨T,id,pa,slot,iY,h1,h2,Calls.callWith_builtin rfl (PySem.evalArgs_none (hm pins s1 σ H1 x [] v [] Q I1 r1 .nil q1))⟩
theorem lq (pa:PlainAttrs T) (slot:Slot T name id) (iY:typeOf (.builtin id)=pure (.type "method_descriptor")) (hm:kC X id r) (ho:PE X o to) (ha:PA X (e::es) t)
  (xk:attributeBase o name X.env (eval o X.env)=eval o X.env:=by rfl)
  (Ul:((backTo bV (starEach (e::es) X.env)).all (λx=>!x.1)&&(backToKw bV (keywordEach [] X.env)).all (λx=>x.1.isSome)
   && decide ((e::es).length+([]:List Keyword).length+(if ([]:List Keyword).isEmpty then 0 else 1)<30))=true:=by rfl)
  (hline:(apos.endLine==bV.line)=true:=by rfl) (hs:starEach (e::es) X.env=(false,eval e X.env)::starEach es X.env:=by rfl) (Qo:(backTo bV (starEach es X.env)).any (·.1)=false:=by rfl) :
  PE X (.Call (.Attribute o name apos) (e::es) [] bV) (nZ X.K T r to t):=by
 intro pins s σ H Q I h;refine wpAny_Call_method_late xk Ul hline rfl (az (ho pins s σ H _ I h) λv s1 ⟨x,H1,I1,r1,ty,q1⟩=>?_);obtain⟨h1,h2⟩:=Dc I1 r1 ty;refine⟨T,id,pa,slot,iY,h1,h2,?_⟩;have hA:=ha bV pins s1 σ H1 _ I1 q1;rw[hs]at hA ⊢;refine Calls.callWith_builtin (by show(false||(backTo bV (starEach es X.env)).any (·.1))=false;rw[Qo]<;>rfl) (Calls.evalArgs_plain ?_);exact az hA λus s2 ⟨vs,H2,I2,r2,q2⟩=>hm pins s2 σ H2 x vs v us Q I2 r1 r2 q2
end
def Gj(X:Cx)(id:String)(r:V→List V→Hp→VK→Prop):Prop :=
 ∀(pins:List (Addr×Obj)) (s:Shared) (σ:St) (H:Hp) (x:V) (xs:List V) (v:Value) (us:List Value) (Q:VK),Inv X pins σ H s→RelV x v→Vals xs us→r x xs H Q →
  wpAny (model X.prog X.w) X.A (call (.builtin id) (v::us)) (EP X pins σ Q) X.xe s
theorem Vals.zero{us:List Value}(h:Vals [] us):us=[]:=by cases h;rfl
theorem Vals.one{x:V}{us:List Value}(h:Vals [x] us):∃u,us=[u]∧RelV x u:=by
 cases h with|cons r t=>cases t;exact⟨_,rfl,r⟩
theorem Vals.two{x y:V}{us:List Value}(h:Vals [x,y] us):∃u v,us=[u,v]∧RelV x u∧RelV y v:=by
 cases h with|cons r t=>obtain⟨v,rfl,q⟩:=Vals.one t;exact⟨_,_,rfl,r,q⟩
theorem Vals.reverse{xs:List V}{us:List Value}(h:Vals xs us):Vals xs.reverse us.reverse:=by
 induction h with
 |nil=>exact .nil
 |cons r t ih=>rw[List.reverse_cons,List.reverse_cons];exact Vals.append ih (.cons r .nil)
theorem Vals.rep{xs:List V}{us:List Value}(h:Vals xs us):∀k:Nat,Vals (List.replicate k xs).flatten (List.replicate k us).flatten
 |0=>.nil
 |k+1=>by
  rw[qg,qg,t9,t9];exact Vals.append h (Vals.rep h k)
section
variable {X:Cx}{pins:List (Addr×Obj)}{σ:St}{H:Hp}{s:Shared}{l b:Addr}{xs ys zs:List V}
theorem Inv.Fv{its its':List Value}{n:Nat}{f:Array Value→Array Value}{t':Nat}(I:Inv X pins σ H s)(hH:H l=some (.lst xs))
  (e:s.heap.get? l=some { cls:=.type "list",data:=.seq its.toArray n }) (hf:f its.toArray=its'.toArray) (hv:Vals ys its') (hz:ys.length≤sizeLine) :
  Inv X pins σ (upd H l (.lst ys)) { s with heap:=s.heap.update l (Obj.mapSeq f),toks:=t' }:=by
 have q:=PySem.IsL.update e f;rw[hf]at q;refine I.write (x:=l) (e:=l) (by rw[hH];exact trivial) (.inl rfl) (λb' u hb hu=>(Heap.get?_update_other s.heap (Obj.mapSeq f) (dq hb)).trans hu) ⟨_,q⟩ ?_;exact⟨hz,its',_,hv,q⟩
theorem Inv.Fw{its:List Value}{t':Nat}(I:Inv X pins σ H s)(hv:Vals ys its)(hz:ys.length≤sizeLine) :
  Inv X pins σ (upd H s.heap.objs.size (.lst ys)) { s with heap:=s.heap.push { cls:=.type "list",data:=.seq its.toArray },toks:=t' } :=
 I.laid (λ_ _ q=>bQ _ q) (a7 _) ⟨hz,its,0,hv,dX _ rfl⟩
theorem Inv.fresh(I:Inv X pins σ H s):H s.heap.objs.size=none:=I.ay.fresh (a7 _)
theorem Inv.Fx(I:Inv X pins σ H s)(hH:H l=some (.lst xs)):xs.length≤sizeLine∧∃(its:List Value) (n:Nat),Vals xs its∧xs.length=its.length∧s.heap.get? l=some { cls:=.type "list",data:=.seq its.toArray n }:=by
 obtain⟨z,its,n,r,e⟩:=I.ay l _ hH;exact⟨z,its,n,r,r.length,e⟩
end
section
variable {X:Cx}
def vU:V→List V→Hp→VK→Prop:=λx vs H Q=>∃l xs y,x=.ref l∧vs=[y]∧H l=some (.lst xs)∧xs.length<sizeLine∧Q .non (upd H l (.lst (xs++[y])))
theorem A2:Gj X "list.append" vU:=by
 intro pins s σ H x vs v us Q I rx rv h;obtain⟨l,xs,y,rfl,rfl,hH,hz,q⟩:=h;cases rx;obtain⟨u,rfl,ru⟩:=rv.one;obtain⟨z,its,n,r,hl,e⟩:=I.Fx hH;refine call_meets F.slot_list_append ⟨_,e,rfl⟩ F.entry_list_append (F.args_list_append_2 _ _) (PySem.list_append l its.toArray n u (by rw[dY];omega)) ⟨e,?_⟩;refine⟨.non,_,I.Fv (its':=its++[u]) hH e (by simp) (r.append (.cons ru .nil)) ?_,rfl,q⟩;rw[bN,List.length_singleton];omega
end
section
variable {prog:Program}{w:World}{A:Around}{E:Value→Shared→Prop}{s:Shared}
end
section
variable {X:Cx}
end
section
variable {κ:Type}[DecidableEq κ]
noncomputable def dn(ai:List (κ×V))(k:κ):Option V:=(ai.find? λkv=>decide (kv.1=k)).map (·.2)
noncomputable def putK(ai:List (κ×V))(k:κ)(v:V):List (κ×V) :=
 if (ai.any λkv=>decide (kv.1=k))=true then ai.map (λkv=>if kv.1=k then (kv.1,v)else kv)else ai++[(k,v)]
noncomputable def Xy(ai:List (κ×V))(k:κ):List (κ×V):=ai.filter λkv=>decide (kv.1≠k)
theorem vG{p:κ×V}{r:List (κ×V)}{k:κ}(e:p.1=k):dn (p::r) k=some p.2:=by simp[dn,List.find?_cons,e]
theorem vH{p:κ×V}{r:List (κ×V)}{k:κ}(e:¬p.1=k):dn (p::r) k=dn r k:=by simp[dn,List.find?_cons,e]
theorem dR.qY{o:Option V}{u:Option Value}(r:dR o u):o.isSome=u.isSome:=by
 cases o with
 |none=>cases u with
  |none=>rfl
  |some _=>exact(show False from r).elim
 |some _=>cases u with
  |none=>exact(show False from r).elim
  |some _=>rfl
theorem dR.getD{o:Option V}{u:Option Value}{d:V}{d':Value}(r:dR o u)(rd:RelV d d'):RelV (o.getD d) (u.getD d'):=by
 cases o with
 |none=>cases u with
  |none=>exact rd
  |some _=>exact(show False from r).elim
 |some _=>cases u with
  |none=>exact(show False from r).elim
  |some _=>exact r
theorem KV.val{ai:List (κ×V)}{vs:List (κ×Value)}(r:KV ai vs)(k:κ):dR (dn ai k) (valueAt vs k):=by
 unfold KV at r
 induction r with
 |nil=>exact True.intro
 |@cons p q ps qs h t ih =>
  obtain⟨h1,h2⟩:=h;by_cases e:p.1=k
  ·have e':q.1=k:=h1.symm.trans e;have b:valueAt (q::qs) k=some q.2:=by simp[valueAt,List.find?_cons,e']
   rw[vG e,b];exact h2
  ·have e':¬q.1=k:=λz=>e (h1.trans z);have b:valueAt (q::qs) k=valueAt qs k:=by simp[valueAt,List.find?_cons,e']
   rw[vH e,b];exact ih
theorem KV.any{ai:List (κ×V)}{vs:List (κ×Value)}(r:KV ai vs)(k:κ):(ai.any λkv=>decide (kv.1=k))=vs.any λkv=>decide (kv.1=k):=by
 unfold KV at r
 induction r with
 |nil=>rfl
 |cons h t ih=>rw[t8,t8,ih,h.1]
theorem KV.length{ai:List (κ×V)}{vs:List (κ×Value)}(r:KV ai vs):ai.length=vs.length:=fD r
end
theorem xn{P:Program}{w:World}{k:Key}{u:Value}(r:RelV (kV k) u):(gu P w).is k u=true:=by
 cases k with
 |inl i=>obtain⟨t,e⟩:=(show ∃t,u=Value.int i t from r);subst e;exact JH P w i t
 |inr x=>obtain⟨t,e⟩:=(show ∃t,u=Value.str x t from r);subst e;exact JM P w x t
 |non=>rw[show u=Value.none from r];exact JN P w
theorem A3{P:Program}{w:World}:∀{ks:List Key}{us:List Value},Vals (ks.map kV) us→ItemsAre (gu P w) ks us
 |[],_,r=>by rw[List.map_nil]at r;cases r;exact .nil
 |k::ks,_,r=>by
  rw[gJ]at r;cases r with
  |cons h t=>exact .cons (xn h) (A3 t)
abbrev KT(H:Hp):List (List Key×V)→List (List Key×Addr×Value)→Prop:=Paired λp q=>p.1=q.1∧H q.2.1=some (.tup (p.1.map kV))∧RelV p.2 q.2.2
theorem KT.val{H:Hp}{ai:List (List Key×V)}{xs:List (List Key×Addr×Value)}(r:KT H ai xs)(k:List Key):dR (dn ai k) ((atKey xs k).map (·.2)):=by
 induction r with
 |nil=>exact True.intro
 |@cons p q ps qs h t ih =>
  obtain⟨h1,_,h2⟩:=h;by_cases e:p.1=k
  ·have e':q.1=k:=h1.symm.trans e;have b:atKey (q::qs) k=some q.2:=by simp[atKey,List.find?_cons,e']
   rw[vG e,b];exact h2
  ·have e':¬q.1=k:=λz=>e (h1.trans z);have b:atKey (q::qs) k=atKey qs k:=by simp[atKey,List.find?_cons,e']
   rw[vH e,b];exact ih
theorem KT.keeps{H H':Hp}{ai:List (List Key×V)}{xs:List (List Key×Addr×Value)}(r:KT H ai xs)(ht:∀b ys,H b=some (.tup ys)→H' b=some (.tup ys)):KT H' ai xs :=
 Paired.nu r λ_ _ z=>⟨z.1,ht _ _ z.2.1,z.2.2⟩
section
variable {P:Program}{w:World}{H:Hp}{h:Heap}{a:Addr}
theorem Ei{u:HO}(ok:bK P w H h)(e:Rd H a u):cL P w H h a u:=e.ok ok
theorem Ej{ai:List (Key×V)}(ok:bK P w H h)(e:Rd H a (.dK ai)):ai.length≤sizeLine∧(a==sysModules)=false∧∃vs,KV ai vs∧h.DictOf (gu P w) a vs :=
 show cL P w H h a (.dK ai)from Ei ok e
theorem wA{ks:List Key}(ok:bK P w H h)(e:H a=some (.tup (ks.map kV))):(tupleKind (gu P w)).is h ks a:=by
 obtain⟨_,its,r,o,h1,h2,_,n,h3⟩:=(show cL P w H h a (.tup (ks.map kV))from ok a _ e);exact⟨o,its.toArray,n,h1,h2,h3,by simpa using A3 r⟩
theorem Ek{ai:List (List Key×V)}(ok:bK P w H h)(e:Rd H a (.dT ai)):ai.length≤sizeLine∧(a==sysModules)=false ∧
  ∃xs,KT H ai xs∧h.DictOfH (tupleKind (gu P w)) a xs:=by
 obtain⟨z,y,xs,r,o,es,ep,h1,h2,h3,h4,h5⟩:=(show cL P w H h a (.dT ai)from Ei ok e);refine⟨z,y,xs,r,o,es,ep,h1,h2,h3,h4,λx hx=>?_,h5⟩;have all:∀{l:List (List Key×V)}{m:List (List Key×Addr×Value)},KT H l m→∀x∈m,(tupleKind (gu P w)).is h x.1 x.2.1:=by
  intro l m q
  induction q with
  |nil=>intro x hx;exact nomatch hx
  |@cons p q ps qs hq t ih =>
   intro x hx;rcases cH.mp hx with e|hx
   ·subst e;exact wA ok (by rw[←hq.1];exact hq.2.1)
   ·exact ih x hx
 exact all r x hx
end
def j6(H:Hp)(a:Addr)(y:V)(r:Option V):Prop :=
 (∃ai k,Rd H a (.dK ai)∧y=kV k∧r=dn ai k)∨∃ai k b,Rd H a (.dT ai)∧y=.ref b∧H b=some (.tup (k.map kV))∧r=dn ai k
def tD(H:Hp)(a:Addr)(y v:V)(H':Hp):Prop :=
 (∃ai k,H a=some (.dK ai)∧y=kV k∧ai.length<sizeLine∧H'=upd H a (.dK (putK ai k v))) ∨
 ∃ai k b,H a=some (.dT ai)∧y=.ref b∧H b=some (.tup (k.map kV))∧ai.length<sizeLine∧H'=upd H a (.dT (putK ai k v))
theorem j6.k{H:Hp}{a:Addr}{ai:List (Key×V)}{k:Key}(e:H a=some (.dK ai)):j6 H a (kV k) (dn ai k):=.inl ⟨ai,k,.inl e,rfl,rfl⟩
theorem j6.t{H:Hp}{a b:Addr}{ai:List (List Key×V)}{k:List Key}(e:H a=some (.dT ai))(eb:H b=some (.tup (k.map kV))):j6 H a (.ref b) (dn ai k):=.inr ⟨ai,k,b,.inl e,rfl,eb,rfl⟩
theorem tD.k{H:Hp}{a:Addr}{ai:List (Key×V)}{k:Key}{v:V}(e:H a=some (.dK ai))(hl:ai.length<sizeLine):tD H a (kV k) v (upd H a (.dK (putK ai k v))):=.inl ⟨ai,k,e,rfl,hl,rfl⟩
theorem tD.t{H:Hp}{a b:Addr}{ai:List (List Key×V)}{k:List Key}{v:V}(e:H a=some (.dT ai))(eb:H b=some (.tup (k.map kV)))(hl:ai.length<sizeLine) :
 tD H a (.ref b) v (upd H a (.dT (putK ai k v))):=.inr ⟨ai,k,b,e,rfl,eb,hl,rfl⟩
section
variable {X:Cx}{pins:List (Addr×Obj)}{σ:St}{H:Hp}{s:Shared}{a:Addr}{y v:V}{u r:Value}{o:Option V}{A:Around}{E:Value→Shared→Prop}
theorem Inv.big(I:Inv X pins σ H s):sysModules<s.heap.objs.size:=by
 have h:mainGlobals<s.heap.objs.size:=(I.mod.glob.keeps I.bk).lt;exact Nat.lt_trans (by decide) h
theorem Um{Q:Value→Shared→Prop}(hu:A.units+1<cLine)(I:Inv X pins σ H s)(g:j6 H a y o)(ry:RelV y u)(h:∀s',Inv X pins σ H s'→Q (.bool o.isSome) s') :
  wpAny (model X.prog X.w) A (compareOp .In u (.ref a)) Q E s:=by
 rcases g with⟨ai,k,e,ey,l⟩|⟨ai,k,b,e,ey,eb,l⟩
 ·subst ey;obtain⟨z,hd,vs,rel,dd⟩:=Ej I.ay e;refine wpAny_in_of (xn ry) hd dd.mapOf ?_;rw[←(rel.val k).qY,←l];exact h _ (I.tok _)
 ·subst ey;cases (show u=Value.ref b from ry);obtain⟨z,hd,xs,rel,dd⟩:=Ek I.ay e;refine wpAny_in_heap (tupleKind_room_in1 hu) (wA I.ay eb) hd dd ?_;have q:=(rel.val k).qY;rw[Option.isSome_map]at q;rw[←q,←l];exact h _ (I.tok _)
theorem N4{Q:Value→Shared→Prop}(hu:A.units+1<cLine)(I:Inv X pins σ H s)(g:j6 H a y o)(ry:RelV y u)(h:∀s',Inv X pins σ H s'→Q (.bool (!o.isSome)) s') :
  wpAny (model X.prog X.w) A (compareOp .NotIn u (.ref a)) Q E s:=by
 rcases g with⟨ai,k,e,ey,l⟩|⟨ai,k,b,e,ey,eb,l⟩
 ·subst ey;obtain⟨z,hd,vs,rel,dd⟩:=Ej I.ay e;refine wpAny_notIn_of (xn ry) hd dd.mapOf ?_;rw[←(rel.val k).qY,←l];exact h _ (I.tok _)
 ·subst ey;cases (show u=Value.ref b from ry);obtain⟨z,hd,xs,rel,dd⟩:=Ek I.ay e;refine wpAny_notIn_heap (tupleKind_room_in1 hu) (wA I.ay eb) hd dd ?_;have q:=(rel.val k).qY;rw[Option.isSome_map]at q;rw[←q,←l];exact h _ (I.tok _)
end
section
variable {X:Cx}{pins:List (Addr×Obj)}{σ:St}{H:Hp}{s:Shared}{a:Addr}{ai:List (Key×V)}{k:Key}{u:Value}{A:Around}{E:Value→Shared→Prop}
end
noncomputable def xY(ty td:TE):TE:=λσ H Q=>ty σ H λy H1=>td σ H1 λx H2=>∃a o,x=.ref a∧j6 H2 a y o∧Q (.bl o.isSome) H2
noncomputable def vV(ty td:TE):TE:=λσ H Q=>ty σ H λy H1=>td σ H1 λx H2=>∃a o,x=.ref a∧j6 H2 a y o∧Q (.bl (!o.isSome)) H2
section
variable {X:Cx}{o i e value:Expr}{pos pos' Ui:Pos}{td ty tv:TE}
theorem De(hu:X.A.units+1<cLine)(hi:PE X i ty)(ho:PE X o td):PC X .In i o (xY ty td):=by
 intro pins s σ H Q I h;refine az (hi pins s σ H _ I h) λiv s1 ⟨y,H1,I1,ry,q1⟩=>az (ho pins s1 σ H1 _ I1 q1) λu s2 ⟨x,H2,I2,rx,a,ov,ex,g,q2⟩=>?_;subst ex;obtain rfl:u=Value.ref a:=rx;exact Um hu I2 g ry λs3 I3=>⟨.bl ov.isSome,H2,I3,rfl,q2⟩
theorem A4(hu:X.A.units+1<cLine)(hi:PE X i ty)(ho:PE X o td):PC X .NotIn i o (vV ty td):=by
 intro pins s σ H Q I h;refine az (hi pins s σ H _ I h) λiv s1 ⟨y,H1,I1,ry,q1⟩=>az (ho pins s1 σ H1 _ I1 q1) λu s2 ⟨x,H2,I2,rx,a,ov,ex,g,q2⟩=>?_;subst ex;obtain rfl:u=Value.ref a:=rx;exact N4 hu I2 g ry λs3 I3=>⟨.bl (!ov.isSome),H2,I3,rfl,q2⟩
end
section
variable {X:Cx}{pos:Pos}
end
noncomputable def Dg:List (TE×TE)→St→Hp→(List (V×V)→Hp→Prop)→Prop
 |[],_,H,Q=>Q [] H
 | (tk,tv)::r,σ,H,Q=>tk σ H λx H1=>tv σ H1 λy H2=>Dg r σ H2 λps H3=>Q ((x,y)::ps) H3
abbrev VV:List (V×V)→List (Value×Value)→Prop:=Paired λp q=>RelV p.1 q.1∧RelV p.2 q.2
def ux(X:Cx)(pos:Pos)(keys:List (Option Expr))(values:List Expr)(uz:List (TE×TE)):Prop :=
 ∀(pins:List (Addr×Obj)) (s:Shared) (σ:St) (H:Hp) (Q:List (V×V)→Hp→Prop),Inv X pins σ H s→Dg uz σ H Q →
  wpAny (model X.prog X.w) X.A (evalPairs (pairTrees keys values X.env pos)) (λvs s'=>∃ps H',Inv X pins σ H' s'∧VV ps vs∧Q ps H') X.xe s
theorem N5{X:Cx}{pos:Pos}:ux X pos [] [] []:=λpins s σ H Q I h=>pairTrees_nil_walk ⟨[],H,I,.nil,h⟩
theorem MF{X:Cx}{pos:Pos}{k v:Expr}{ks:List (Option Expr)}{vs:List Expr}{tk tv:TE}{uz:List (TE×TE)}(hk:PE X k tk)(hv:PE X v tv)(hr:ux X pos ks vs uz) :
  ux X pos (some k::ks) (v::vs) ((tk,tv)::uz):=λpins s σ H Q I h =>
 pairTrees_cons_walk (az (hk pins s σ H _ I h) λu s1 ⟨x,H1,I1,rx,q1⟩=>az (hv pins s1 σ H1 _ I1 q1) λw2 s2 ⟨y,H2,I2,ry,q2⟩ =>
  az (hr pins s2 σ H2 _ I2 q2) λws s3 ⟨ps,H3,I3,rel,q3⟩=>⟨(x,y)::ps,H3,I3,.cons ⟨rx,ry⟩ rel,q3⟩)
structure M1 (X:Cx)(o:Expr)(m:Str)(apos:Pos)(e:Expr)(bV:Pos):Prop where
 base:attributeBase o m X.env (eval o X.env)=eval o X.env
 few:((backTo bV (starEach [e] X.env)).all (λx=>!x.1)&&(backToKw bV (keywordEach [] X.env)).all (λx=>x.1.isSome)
  && decide (([e]:List Expr).length+([]:List Keyword).length+(if ([]:List Keyword).isEmpty then 0 else 1)<30))=true
 line:(apos.endLine==bV.line)=true
 trees:backTo bV (starEach [e] X.env)=[(false,eval e X.env)]
structure M2 (X:Cx)(o:Expr)(m:Str)(apos:Pos)(e f:Expr)(bV:Pos):Prop where
 base:attributeBase o m X.env (eval o X.env)=eval o X.env
 few:((backTo bV (starEach [e,f] X.env)).all (λx=>!x.1)&&(backToKw bV (keywordEach [] X.env)).all (λx=>x.1.isSome)
  && decide (([e,f]:List Expr).length+([]:List Keyword).length+(if ([]:List Keyword).isEmpty then 0 else 1)<30))=true
 line:(apos.endLine==bV.line)=true
 trees:backTo bV (starEach [e,f] X.env)=[(false,eval e X.env),(false,eval f X.env)]
section
variable {X:Cx}{pins:List (Addr×Obj)}{σ:St}{H:Hp}{s:Shared}{a:Addr}{y d:V}{u r:Value}{o:Option V}{A:Around}{E:Value→Shared→Prop}
end
section
variable {X:Cx}{o e f:Expr}{apos bV:Pos}{td ty tx:TE}
end
section
variable {X:Cx}{pins:List (Addr×Obj)}{σ:St}{H:Hp}{s:Shared}{a:Addr}{ai:List (Key×V)}{A:Around}{E:Value→Shared→Prop}
end
section
variable {X:Cx}{pins:List (Addr×Obj)}{σ:St}{H:Hp}{s:Shared}{a:Addr}{y:V}{u:Value}{A:Around}{E:Value→Shared→Prop}
end
end L2
namespace Gk
open PySem PySem.W PySem.Calls PyProof.Rows
theorem IX{P:Params}{h:Heap}:∀(ns:List Int) (vs:List Value),WellAll P h vs (ns.map WData.int)→IntsAre vs ns:=by
 intro ns
 induction ns with
 |nil =>
  intro vs w;rw[List.map_nil]at w;cases w;exact .nil
 |cons n ns ih =>
  intro vs w;rw[gJ]at w;cases w with
  |cons a b =>
   cases a;exact .cons _ _ (ih _ b)
theorem Ln{l:OpenLaw}{n:Nat}(hn:l.most=some n){P:Params}{h:Heap}{args:List WData}{vals:List Value}
  (tE:l.row.toRowW.claim.pre args=true) (y9:WellAll P h vals args) :
  ∃a vs ns,vals=[Value.ref a]∧args=[WData.list (ns.map WData.int)]∧h.get? a=some { cls:=.type "list",data:=.seq vs.toArray }∧IntsAre vs ns∧ns.length≤n:=by
 have Vc:WShape.hasAll [] args [.list .int]=true:=(pre_splitW tE).1;have hc:l.pre.holds [] { args:=args }=true:=(pre_splitW tE).2;obtain⟨d,r,rfl,h1,h2⟩:=hasAllW_cons Vc;obtain rfl:=hasAllW_nil h2;obtain⟨xs,rfl,h3⟩:=hasW_list h1;obtain⟨ns,rfl⟩:=items_int h3;have hlen:ns.length≤n:=by
  unfold OpenLaw.pre at hc;have h4:(WTm.not (.lt (.lit (.int (n:Int))) (.len (.arg 0)))).holds [] { args:=[.list (ns.map .int)] }=true:=by
   have h4:=(holds_andW hc).1;rw[hn]at h4;exact h4
  have h5:=condW_of h4 (w_not (w_lt w_lit (w_len_list (w_arg rfl))));rw[iq]at h5;refine Nat.le_of_not_lt λq=>?_;have q':(n:Int)<((ns.length:Nat):Int):=by omega
  first
   | (rw[bR q']at h5;exact absurd h5 (by decide))
   | (simp at h5;omega)
 cases y9 with
 |cons w1 w2 =>
  cases w2;cases w1 with
  |list ho Up=>exact⟨_,_,ns,rfl,rfl,ho,IX ns _ Up,hlen⟩
theorem Lp(l:OpenLaw)(args:List WData):l.row.toRowW.claim.post args (.bool true) args=true :=
 postW_of (r:=l.row.toRowW) (X:=(true==true))
  (show WShape.has [] (.bool true) .bool=true by first|rfl|decide|simp[WShape.has,WShape.arms,WShape.armsAll])
  (show(WTm.eq .res (.lit (.bool true))).value [] { args:=args,res:=some (.bool true),after:=args }=some (.bool (true==true))from w_eq_bool (w_res rfl) w_lit) rfl
theorem JQ{l:OpenLaw}{n:Nat}{q:Program}{loose:List Str}{XP:(Str→Option Value)→Heap→Prop}{YP:World→Heap→Prop}{d:DefRec}
  (hn:l.most=some n) (qu:d.params.defaults=[])
  (call:∀(w:World) (s₀ s₁:Shared) (mg mb:Str→Option Value) (fa:Addr) (o:Obj) (pm cd doc:Value) (a:Addr) (vs:List Value) (ns:List Int),
   Ground q loose [] XP w s₀ mg mb s₁.heap→YP w s₁.heap →
   s₁.heap.get? fa=some o→o.data=.func (docDef d.name d.params d.body d.scope pm cd doc)→s₁.heap.CodeRec cd d.name→mg d.name=some (.ref fa) →
   s₁.heap.get? a=some { cls:=.type "list",data:=.seq vs.toArray }→IntsAre vs ns→ns.length≤n→s₁.gens=#[] →
   codeAny (model l.prog w) callerA (.call (.ref fa) ⟨[.ref a],[]⟩) (λr s'=>r=.ok (.ret (.bool true))∧OldK s₁.heap s'.heap∧s'.os=s₁.os∧AllBare s'.gens) s₁) :
  WalkO q loose XP YP l.row.toRowW d [] (λf vs=>PySem.call f vs):=by
 intro w s₀ s₁ mg mb G Y fa o pm cd doc dV kV ho hd eC hD za hg args vals as tE hlay XI y9 zb;obtain rfl:dV=.none:=Dflts.none hD qu;obtain rfl:kV=.none:=Dflts.noKw hD;obtain⟨a,vs,ns,rfl,rfl,xZ,hints,hlen⟩:=Ln hn tE y9;refine enter_call (codeAny_mono (call w s₀ s₁ mg mb fa o pm cd doc a vs ns G Y ho (fd_plain hd) eC za xZ hints hlen hg) λr s' hq=>?_);obtain⟨rfl,h2,h3,h4⟩:=hq;exact⟨.inl ⟨.bool true,.bool true,[],rfl,λ_=>rfl,.bool true,Lp l _,λ_=>⟨List.Pairwise.nil,λ_ hm=>(nomatch hm)⟩⟩,h2,h3,h4⟩
section
variable {prog:Program}{w:World}{A:Around}{E:Value→Shared→Prop}{s:Shared}{K:Frag}
end
end Gk
namespace L2
open PySem PySem.Spec PyProof.Rows
theorem qZ:∀{vs:List Value}{ns:List Int},IntsAre vs ns→Vals (ns.map V.int) vs
 |_,_,.nil=>.nil
 |_,_,.cons n t h=>.cons ⟨t,rfl⟩ (qZ h)
def Only(H:Hp):Prop:=∀b,H b=none∨∃o xs,H b=some (.cQ o (.lst xs))
theorem MG{P:Program}{w:World}{K:PySem.W.Frag}{mg mb:Str→Option Value}{CX:fG}{k:Nat}{fa a:Addr}{fd:FuncData}{x:Str}{sp:Sp}{s₁:Shared}{vs:List Value}{ns:List Int}
  (KX:K.In s₁.heap) (iA:s₁.heap.Ns mainGlobals mg) (hb:s₁.heap.Ns builtinsNs mb) (Vd:∀x:Str,x ≠ "__name__" → mb x=bootBuiltins x) (Uq:s₁.heap.NoLimit) (hg:s₁.gens=#[])
  (ha:s₁.heap.get? a=some { cls:=.type "list",data:=.seq vs.toArray }) (hi:IntsAre vs ns) (hl:ns.length≤sizeLine) (hr:bS k callerA)
  (F:∀base:Heap,K.In base→base.Ns mainGlobals mg→fQ P w K mg base CX k fa fd [x] sp) (SR:∀(s:Shared) (u:Value),BindsTo s fd ⟨[u],[]⟩ [(x,u)])
  (gM:∀H:Hp,Only H→bj K H a (ns.map V.int)→sp [.ref a] H (λv _=>v=.bl true) λ_ _ _=>False)
  (zc:∀H e s',CX [] H s₁ (λ_ _ _=>False) e s'→False) :
  codeAny (model P w) callerA (.call (.ref fa) ⟨[.ref a],[]⟩) (λr s'=>r=.ok (.ret (.bool true))∧OldK s₁.heap s'.heap∧s'.os=s₁.os∧AllBare s'.gens) s₁:=by
 have rv:=qZ hi;have Ur:=hi.length;have core:∀H:Hp,Only H→bj K H a (ns.map V.int)→bK P w H s₁.heap→(∀b,H b≠none→b=a)→(H a≠none→K.lookup a=none) →
   codeAny (model P w) callerA (.call (.ref fa) ⟨[.ref a],[]⟩) (λr s'=>r=.ok (.ret (.bool true))∧OldK s₁.heap s'.heap∧s'.os=s₁.os∧AllBare s'.gens) s₁:=by
  intro H hO hS ay hA hK;have B7:∀{b:Addr}{o:Obj},s₁.heap.get? b=some o→H b=none→(jv s₁.heap H).get? b=some o:=λe n=>Mr e n;have qo:∀{b:Addr}{o:Obj}{es:Array DictEntry}{ep:Nat},s₁.heap.get? b=some o→o.data=.dict es ep→H b=none:=λ{b o es ep} e d=>by
   cases q:H b with
   |none=>rfl
   |some u =>
    have e':b=a:=hA b (by rw[q];simp);subst e';rw[ha]at e;cases e;have d':Data.seq vs.toArray _=Data.dict es ep:=d;cases d'
  have uA:∀{b:Addr}{m:Str→Option Value},s₁.heap.Ns b m→(jv s₁.heap H).Ns b m:=λ{b m} ⟨o,es,ep,e,d,r⟩=>⟨o,es,ep,B7 e (qo e d),d,r⟩;have Gm:K.In (jv s₁.heap H):=λb o e=>B7 (KX b o e) (by
   cases q:H b with
   |none=>rfl
   |some u =>
    have e':b=a:=hA b (by rw[q];simp);subst e';rw[hK (by rw[q];simp)]at e;cases e)
  have hM:Mod K mg (jv s₁.heap H):=⟨Gm,uA iA,⟨mb,uA hb,Vd⟩,let ⟨mc,h1,h2⟩:=Uq;⟨mc,uA h1,h2⟩⟩;have e0:lC P w K mg (jv s₁.heap H) callerA [] s₁ H:=⟨rfl,hM,λb o e=>NC e,nM (La _ _),trivial,λb hb=>absurd (show b∈([]:List Addr)from hb) (by simp),ay,.of_eq hg⟩;refine codeAny_mono ((F _ Gm (uA iA)).run callerA [] s₁ H ⟨[.ref a],[]⟩ [.ref a] [.ref a] _ _ hr e0 (SR s₁ (.ref a)) (.cons rfl .nil) (gM H hO hS)) λr s' h=>?_;cases r with
  |error e=>exact(zc H e s' h).elim
  |ok fl =>
   cases fl with
   |next=>exact False.elim h
   |brk=>exact False.elim h
   |cont=>exact False.elim h
   |ret u =>
    obtain⟨v,H',os,bare,un,Us,r',q⟩:=h;have q':v=.bl true:=q;subst q';obtain rfl:u=Value.bool true:=r';refine⟨rfl,OldK.of_keep λb o e=>?_,os,bare⟩;cases q:H b with
    |none=>exact un.keep b o e q (by intro z;exact absurd (show b∈([]:List Addr)from z) (by simp)) (by simp)
    |some u =>
     rcases hO b with z|⟨ob,xs,z⟩
     ·rw[q]at z;cases z
     ·have z2:=un.fO b ob _ z;obtain⟨e1,_⟩:=ay b _ z;obtain⟨e2,_⟩:=Us b _ z2;rw[e]at e1;cases e1;exact e2
 cases hk:K.lookup a with
 |some o =>
  have e:=KX a o hk;rw[ha]at e;cases e;refine core (λ_=>none) (λ_=>.inl rfl) (.inr ⟨_,vs.toArray,_,hk,rfl,rfl,rfl,by rw[dY,Ur];exact hl,by simpa using rv⟩) (λb u z=>by have z':(none:Option HO)=some u:=z;cases z') (λb z=>absurd rfl z) λz=>absurd rfl z
 |none =>
  refine core (λb=>if b=a then some (.cQ { cls:=.type "list",data:=.seq vs.toArray } (.lst (ns.map V.int)))else none) (λb=>?_) (.inl (.inr ⟨{ cls:=.type "list",data:=.seq vs.toArray },if_pos rfl⟩)) (λb u z=>?_) (λb z=>?_) λ_=>hk
  ·by_cases hb:b=a
   ·exact .inr ⟨_,_,if_pos hb⟩
   ·exact .inl (if_neg hb)
  ·by_cases hb:b=a
   ·have z':=(if_pos hb).symm.trans z;cases z';subst hb;exact⟨ha,by rw[iq];exact hl,vs,_,rv,ha⟩
   ·have z':=(if_neg hb).symm.trans z;cases z'
  ·by_cases hb:b=a
   ·exact hb
   ·exact absurd (if_neg hb) z
theorem N6{l:PySem.W.OpenLaw}{n k:Nat}{q:Program}{loose:List Str}{XP:(Str→Option Value)→Heap→Prop}{YP:World→Heap→Prop}{d:DefRec}{K:Params→PySem.W.Frag}{CX:World→fG}{sp:World→Sp}{x:Str}
  (hn:l.most=some n) (zf:n≤sizeLine) (qu:d.params.defaults=[]) (hr:bS k callerA)
  (hY:∀(w:World) (h:Heap),YP w h→(K w.params).In h)
  (F:∀(w:World) (mg:Str→Option Value) (fa:Addr) (h:Heap),(K w.params).In h→h.Ns mainGlobals mg→mg d.name=some (.ref fa) →
   ∃fd:FuncData,(∀(s:Shared) (u:Value),BindsTo s fd ⟨[u],[]⟩ [(x,u)]) ∧
    ∀base:Heap,(K w.params).In base→base.Ns mainGlobals mg→fQ l.prog w (K w.params) mg base (CX w) k fa fd [x] (sp w))
  (gM:∀(w:World) (H:Hp) (a:Addr) (ns:List Int),ns.length≤n→Only H→bj (K w.params) H a (ns.map V.int)→sp w [.ref a] H (λv _=>v=.bl true) λ_ _ _=>False)
  (zc:∀(w:World) (H:Hp) (s:Shared) (e:Value) (s':Shared),CX w [] H s (λ_ _ _=>False) e s'→False) :
  PySem.W.WalkO q loose XP YP l.row.toRowW d [] (λf vs=>PySem.call f vs):=by
 refine Gk.JQ hn qu λw s₀ s₁ mg mb fa o pm cd doc a vs ns G Y ho hd eC za xZ hints hlen hg=>?_;have KX:=hY w _ Y;obtain⟨fd,hb,hF⟩:=F w mg fa _ KX G.T.g za;exact MG KX G.T.g G.T.b G.T.builtins G.T.nolimit hg xZ hints (aQ hlen zf) hr hF hb (λH hO hS=>gM w H a ns hlen hO hS) λH e s'=>zc w H s₁ e s'
noncomputable def dy(s:Stmt):Arguments:=match s with
 |.FunctionDef _ a _ _ _ _ _ _ _ _=>a
 |_=>{ posonlyargs:=[],args:=[],vararg:=none,kwonlyargs:=[],kw_defaults:=[],kwarg:=none,defaults:=[] }
noncomputable def cu(s:Stmt):List Stmt:=match s with
 |.FunctionDef _ _ b _ _ _ _ _ _ _=>b
 |_=>[]
noncomputable def aW(s:Stmt):Scope:=match s with
 |.FunctionDef _ _ _ _ _ _ sc _ _ _=>sc
 |_=>{ kind:=.function,names:=[],isGenerator:=false,isCoroutine:=false }
noncomputable abbrev XJ:fG:=λ_ _ _ _ _ _=>False
noncomputable abbrev E0:XK:=λ_ _ _=>False
structure iZ (K:PySem.W.Frag)(x qual:Str)(st:Stmt)(f:Addr)(fd:FuncData):Prop where
 ex:∃(oc:Value) (od:Option Addr) (kV doc pm:Value) (an:Option Addr) (aL ct:Value) (du:Array (Option Value)),
  fd=PySem.W.fnOf x qual (dy st) (cu st) (aW st) .none kV doc pm an aL ct∧K.lookup f=some ⟨oc,od,.func fd,du⟩∧PySem.W.codeIn K aL qual=true
 kp:PySem.W.keepIn K (.ref f)=true
section
variable {P:Program}{w:World}{K:PySem.W.Frag}{mg:Str→Option Value}{base:Heap}
theorem iZ.binds{x qual:Str}{st:Stmt}{f:Addr}{fd:FuncData}{ps:List Str}(F:iZ K x qual st f fd)
  (h:∀(kV doc pm:Value) (an:Option Addr) (aL ct:Value) (us:List Value),us.length=ps.length→bindArgs (PySem.W.fnOf x qual (dy st) (cu st) (aW st) .none kV doc pm an aL ct) ⟨us,[]⟩=pure (ps.zip us)):Binds K fd ps []:=by
 obtain⟨oc,od,kV,doc,pm,an,aL,ct,du,rfl,lk,eC⟩:=F.ex;exact .all (h kV doc pm an aL ct)
theorem wB{x qual:Str}{st:Stmt}{f:Addr}{oc:Value}{od an:Option Addr}{du:Array (Option Value)}{kV doc pm aL ct:Value}(l:K.lookup f=some ⟨oc,od,.func (PySem.W.fnOf x qual (dy st) (cu st) (aW st) .none kV doc pm an aL ct),du⟩)
 (c:PySem.W.codeIn K aL qual=true) (k:PySem.W.keepIn K (.ref f)=true):iZ K x qual st f (PySem.W.fnOf x qual (dy st) (cu st) (aW st) .none kV doc pm an aL ct):=⟨⟨oc,od,kV,doc,pm,an,aL,ct,du,rfl,l,c⟩,k⟩
end
theorem rY{A:Around}{k:Nat}(hr:bS k A):A.units+1<cLine:=lQ (Nat.add_le_add_left (by decide:1≤64) _) hr.units
section
variable {X:Cx}
end
theorem Ut{A B:Prop}(h:A):if true=true then A else B:=by
 rw[if_pos rfl];exact h
def ax(H H':Hp):Prop:=∀b o,H b=some o→H' b=some o
theorem ax.refl(H:Hp):ax H H:=λ_ _ h=>h
theorem ax.trans{H H1 H2:Hp}(a:ax H H1)(b:ax H1 H2):ax H H2:=λc o h=>b c o (a c o h)
theorem ax.free{H H':Hp}(e:ax H H'){l:Addr}(h:H' l=Option.none):H l=Option.none:=by
 cases q:H l with
 |none=>rfl
 |some o =>
  rw[e l o q]at h;cases h
theorem ax.seq{K:PySem.W.Frag}{H H':Hp}{a:Addr}{xs:List V}(e:ax H H')(h:bj K H a xs):bj K H' a xs:=by
 rcases h with(h|⟨o,h⟩)|h
 ·exact .inl (.inl (e _ _ h))
 ·exact .inl (.inr ⟨o,e _ _ h⟩)
 ·exact .inr h
section
variable {κ:Type}[DecidableEq κ]
end
theorem Jr{α β:Type}{l:List α}{f:α→β→Sem (ForInStep β)}(g:α→β→β):∀(c:β),(∀x∈l,∀c,f x c=pure (.yield (g x c)))→forIn l c f=pure (l.foldl (λc x=>g x c) c):=by
 induction l with
 |nil=>intro c _;rfl
 |cons x l ih =>
  intro c h;rw[List.forIn_cons,h x bC,pure_bind];exact ih (g x c) λy hy=>h y (b6 _ hy)
noncomputable def gw(env:Env)(x:Str×NameKind)(cs:List (Str×Addr)):List (Str×Addr):=if (x.2==NameKind.free)=true then (x.1,(env.cells.lookup x.1).getD 0)::cs else cs
def lD(sc:Scope)(env:Env):List (Str×Addr):=sc.names.foldl (λcs x=>gw env x cs) []
theorem Ad{sc:Scope}{env:Env}(h:∀x∈sc.names,x.2=.free→∃c,env.cells.lookup x.1=some c):closureFor sc env=pure (lD sc env):=by
 simp only[closureFor];rw[Jr (gw env) [] (λx hx c=>?_)]
 ·rfl
 ·obtain⟨n,kind⟩:=x;cases hk:kind==NameKind.free with
  |false=>simp[gw,hk]
  |true =>
   obtain⟨a,ha⟩:=h (n,kind) hx (by simpa using hk);have Ve:env.cells.lookup n=some a:=ha;simp[gw,hk,cellOf,Ve]
theorem Dh(env:Env)(hh:∀(x:Str×NameKind),x.2=.free→True):∀(names:List (Str×NameKind)) (acc:List (Str×Addr)),(∀x∈names,x.2=.free→∃c,env.cells.lookup x.1=some c)→(∀x c,acc.lookup x=some c→env.cells.lookup x=some c) →
  ∀x c,(names.foldl (λcs x=>gw env x cs) acc).lookup x=some c→env.cells.lookup x=some c
 |[],acc,_,ha,x,c,h=>ha x c h
 |y::r,acc,hf,ha,x,c,h=>by
  refine Dh env hh r (gw env y acc) (λz hz=>hf z (b6 _ hz)) (λz d hd=>?_) x c h;unfold gw at hd;split at hd
  ·rename_i hk;obtain⟨a,e⟩:=hf y bC (by simpa using hk);by_cases q:z=y.1
   ·subst q;simp[e]at hd;rw[e,hd]
   ·have q':(z==y.1)=false:=by simpa using q
    rw[eU,q']at hd;exact ha z d hd
  ·exact ha z d hd
theorem Di(env:Env):∀(names:List (Str×NameKind)) (acc:List (Str×Addr)) (x:Str),((∃c,acc.lookup x=some c)∨(x,NameKind.free)∈names)→∃c,(names.foldl (λcs x=>gw env x cs) acc).lookup x=some c
  |[],acc,x,h=>by
    rcases h with h|h
    · exact h
    · exact nomatch h
  |y::r,acc,x,h=>by
    refine Di env r (gw env y acc) x ?_;by_cases hk:(y.2==NameKind.free)=true
    · by_cases q:x=y.1
      · refine .inl ⟨(env.cells.lookup y.1).getD 0,?_⟩
        unfold gw;rw[if_pos hk,q];simp
      · have q':(x==y.1)=false:=by simpa using q
        rcases h with⟨c,h⟩|h
        · refine .inl ⟨c,?_⟩
          unfold gw;rw[if_pos hk,eU,q'];exact h
        · rcases cH.mp h with e|e
          · exact absurd (bX (·.1) e) q
          · exact .inr e
    · rcases h with⟨c,h⟩|h
      · refine .inl ⟨c,?_⟩
        unfold gw;rw[if_neg hk];exact h
      · rcases cH.mp h with e|e
        · refine absurd ?_ hk
          rw[←e];rfl
        · exact .inr e
theorem qS{env:Env}{x:Str}{k:NameKind}:∀{names:List (Str×NameKind)},(names.map λ(n,k)=>if (k==NameKind.free&&env.scope.kind==.function&&env.kindOf n==some .cell)then (n,NameKind.cell)else (n,k)).lookup x=some k →
    names.lookup x=some k∨(k=.cell∧names.lookup x=some .free)
  |[],h=>by simp at h
  | (n,j)::r,h=>by
    have ih:=@qS env x k r;rw[gJ]at h;cases hx:x==n with
    |true =>
      by_cases hc:(j==NameKind.free&&env.scope.kind==.function&&env.kindOf n==some .cell)=true
      · simp only[hc,if_true]at h
        rw[eU,hx]at h;have e:NameKind.cell=k:=eR h;refine .inr ⟨e.symm,?_⟩;rw[eU,hx];simp only[Bool.and_eq_true]at hc;have ej:j=.free:=by simpa using hc.1.1
        rw[ej]
      · simp only[hc,Bool.false_eq_true,if_false]at h
        rw[eU,hx]at h;exact .inl (by rw[eU,hx];exact h)
    |false =>
      have h':(r.map λ(n,k)=>if (k==NameKind.free&&env.scope.kind==.function&&env.kindOf n==some .cell)then (n,NameKind.cell)else (n,k)).lookup x=some k:=by
        by_cases hc:(j==NameKind.free&&env.scope.kind==.function&&env.kindOf n==some .cell)=true
        · simp only[hc,if_true]at h
          rw[eU,hx]at h;exact h
        · simp only[hc,Bool.false_eq_true,if_false]at h
          rw[eU,hx]at h;exact h
      rw[eU,hx];exact ih h'
def Cx.bG(X:Cx)(N:List Str)(sc:Scope)(C:Addr)(s₂:Shared)(H₂:Hp)(fp:List Addr)(pn:List (Addr×Obj)):Cx where
 prog:=X.prog
 w:=X.w
 K:=X.K
 mg:=X.mg
 base:=X.base
 A:=X.A
 N:=N
 s₀:=s₂
 H₀:=H₂
 env:=compEnvC sc (lD sc X.env) C X.env
 outer:=X.stack
 stack:=X.stack
 ex:=fp
 fn:=λ_=>false
 calm:=X.calm
 pn:=pn
 xe:=λ_ _=>False
def kE(X:Cx)(ifs:List Expr)(t:TT):Prop :=
 ∀(pins:List (Addr×Obj)) (s:Shared) (σ:St) (H:Hp) (Q:Bool→Hp→Prop),Inv X pins σ H s→t σ H Q →
  wpAny (model X.prog X.w) X.A (forIn ifs true λc r=>if r=true then do let ok ←isTrue c X.env (eval c X.env);pure (ForInStep.yield ok)else pure (ForInStep.yield r)) (TP X pins σ Q) X.xe s
noncomputable def tF:TT:=λ_ H Q=>Q true H
theorem rC{X:Cx}:kE X [] tF:=λ_ _ _ H _ I h=>wpAny_tests_nil ⟨H,I,h⟩
theorem B8{X:Cx}{c:Expr}{t:TT}(h:PT X c t):kE X [c] t:=λpins s σ H Q I hq=>wpAny_tests_one (h pins s σ H Q I hq)
noncomputable def dD(σ:St)(ix:List Nat):St:=ix.map λi=>(σ[i]?).getD none
def pF(J:It)(D:Addr)(H1:Hp)(fr:St)(tc:TT)(te:TE)(Q:Addr→Hp→Prop):Prop :=
 ∃W:Nat→Nat→Hp→Prop,(∃m,W 0 m (upd H1 D (.lst [])))∧∀i m H,W i m H→(J.stop i H∧Q D H) ∨
  (J.go i H∧∀x H',J.iU i H x H'→tc (some x::fr) H' λb H3=>if b=true then te (some x::fr) H3 λy H4=>∃ys,H4 D=some (.lst ys)∧ys.length<sizeLine∧∃m',m'<m∧W (i+1) m' (upd H4 D (.lst (ys++[y])))
   else ∃m',m'<m∧W (i+1) m' H3)
def Dj(gg:TG)(n:Nat)(J:It)(D:Addr)(H1:Hp)(fr:St)(tc:TT)(te:TE)(Q:Addr→Hp→Prop):Prop :=
 ∃W:Nat→Nat→Hp→Prop,(∃m,W 0 m (upd H1 D (.lst [])))∧∀i m H,W i m H→(J.stop i H∧Q D H) ∨
  (J.go i H∧∀x H',J.iU i H x H'→gg x (List.replicate n none++fr) H' λσ' H2=>H2=H'∧(∃ow:St,ow.length=n∧σ'=ow++fr)∧tc σ' H' λb H3=>if b=true then te σ' H3 λy H4=>∃ys,H4 D=some (.lst ys)∧ys.length<sizeLine∧∃m',m'<m∧W (i+1) m' (upd H4 D (.lst (ys++[y])))
   else ∃m',m'<m∧W (i+1) m' H3)
theorem pF.g{J:It}{D:Addr}{H1:Hp}{fr:St}{tc:TT}{te:TE}{Q:Addr→Hp→Prop}(h:pF J D H1 fr tc te Q):Dj (iL 0) 1 J D H1 fr tc te Q:=by
 obtain⟨W,h0,h⟩:=h;refine⟨W,h0,λi m H w=>?_⟩;rcases h i m H w with z|⟨g,z⟩
 ·exact .inl z
 ·exact .inr ⟨g,λx H' y=>⟨rfl,⟨[some x],rfl,rfl⟩,z x H' y⟩⟩
def m6(wi:TI)(ix:List Nat)(tc:TT)(te:TE):TE:=λσ H Q=>wi σ H λJ H1=>∀D,H1 D=none→pF J D H1 (dD σ ix) tc te λD H=>Q (.ref D) H
theorem JV{prog:Program}{w:World}{A:Around}{s:Shared}{R:Result→Shared→Prop}{elt target iter:Expr}{ifs:List Expr}{scope:Scope}{pos:Pos}{it acc:Value}{env:Env}(I:Nat→Shared→Prop)
  (turn:∀n s,I n s→wpAny (model prog w) A (pyNext it) (λr s₁=>match r with
   |none=>R (.ok .next) s₁
   |some v=>wpAny (model prog w) A (letOwnedTupleGo target it v) (λ_ s₂=>wpAny (model prog w) A (assign target env v) (λ_ s₃ =>
    wpAny (model prog w) A (forIn ifs true λc r=>if r=true then do let ok ←isTrue c env (eval c env);pure (ForInStep.yield ok)else pure (ForInStep.yield r)) (λok s₄ =>
     if ok=true then wpAny (model prog w) A (eval elt env) (λx s₅ =>
      wpAny (model prog w) A (call (.builtin "list.append") [acc,x]) (λ_ s₆=>∃m,m<n∧I m s₆) (notedBy (model prog w) A env λe s'=>R (.error e) s') s₅) (notedBy (model prog w) A env λe s'=>R (.error e) s') s₄
     else ∃m,m<n∧I m s₄) (notedBy (model prog w) A env λe s'=>R (.error e) s') s₃) (notedBy (model prog w) A env λe s'=>R (.error e) s') s₂) (notedBy (model prog w) A env λe s'=>R (.error e) s') s₁) (notedBy (model prog w) A env λe s'=>R (.error e) s') s)
  (n:Nat) (h:I n s) :
  codeAny (model prog w) A (.compLoop (.ListComp elt [⟨target,iter,ifs,0⟩] scope pos) 0 it acc env) R s:=by
 refine codeAny_loop rfl I (λn s hI=>?_) n h;show wpAny _ A ((compTurn (.ListComp elt [⟨target,iter,ifs,0⟩] scope pos) 0 it acc env).onRaise (λx=>do noteFrame x env;theTreesLotGoes x)) _ _ s;refine wpAny_noted ?_;rw[compTurn_list];refine ak (lO (ak (bP (turn n s hI) (λr s₁ h₁=>?_) λ_ _ h'=>h')));cases r with
 |none=>exact aH h₁
 |some v =>
  refine ak (bP h₁ (λ_ s₂ h₂=>?_) λ_ _ h'=>h');refine ak (bP h₂ (λ_ s₃ h₃=>ak (bP h₃ (λok s₄ h₄=>?_) λ_ _ h'=>h')) λ_ _ h'=>h');cases ok with
  |false=>exact aH ⟨rfl,h₄⟩
  |true =>
   exact ak (ak (bP h₄ (λx s₅ h₅=>ak (bP h₅ (λ_ s₆ h₆=>aH (aH ⟨rfl,h₆⟩)) λ_ _ h'=>h')) λ_ _ h'=>h'))
structure jh (N N':List Str)(sc aj:Scope)(x:Str)(ix:List Nat):Prop where
 kind:aj.kind=.function
 rP:∀y∈aj.names,y.2≠.cell
 names:∀y∈aj.names,y.2=.local→aj.names.lookup y.1=some .local
 loc:aj.names.lookup x=some .local
 free:∀y∈aj.names,y.2=.free→sc.names.lookup y.1=some .cell
 nd:N'.Nodup
 hd:N'[0]?=some x
 len:N'.length=ix.length+1
 fr:∀p∈ix.zip N'.tail,N[p.1]?=some p.2∧sc.names.lookup p.2=some .cell∧aj.names.lookup p.2=some .free
structure B9 (n:Nat)(N N':List Str)(sc aj:Scope)(ix:List Nat):Prop where
 kind:aj.kind=.function
 rP:∀y∈aj.names,y.2≠.cell
 names:∀y∈aj.names,y.2=.local→aj.names.lookup y.1=some .local
 free:∀y∈aj.names,y.2=.free→sc.names.lookup y.1=some .cell
 len:N'.length=ix.length+n
 fr:∀p∈ix.zip (N'.drop n),N[p.1]?=some p.2∧sc.names.lookup p.2=some .cell∧aj.names.lookup p.2=some .free
theorem jh.g{N N':List Str}{sc aj:Scope}{x:Str}{ix:List Nat}(h:jh N N' sc aj x ix):B9 1 N N' sc aj ix :=
 ⟨h.kind,h.rP,h.names,h.free,h.len,by rw[List.drop_one];exact h.fr⟩
section
variable {X:Cx}{N':List Str}{aj:Scope}{x:Str}{ix:List Nat}{px pos:Pos}{elt iter:Expr}{ifs:List Expr}{wi:TI}{tc:TT}{te:TE}
theorem JW{n:Nat}{tg:Expr}{gg:TG}{pins:List (Addr×Obj)}{σ:St}{H2:Hp}{s2:Shared}{it:Addr}{fp:List Addr}{tn:Nat→Heap→Prop}{J:It}{RR:Value→Addr→Result→Shared→Prop}{E:Value→Shared→Prop}{Qd:Addr→Hp→Prop}
  (ok:B9 n X.N N' X.env.scope aj ix) (hg:∀C s₂ H₂ fp pn,PG (X.bG N' aj C s₂ H₂ fp pn) tg gg) (hc:X.calm=true) (I2:Inv X pins σ H2 s2) (T:Turn X.prog X.w X.K tg J fp it tn) (cj:tn 0 s2.heap) (f2:∀b∈fp,g9 X pins H2 b)
  (fH:∀C s₂ H₂ fp pn,kE (X.bG N' aj C s₂ H₂ fp pn) ifs tc) (jG:∀C s₂ H₂ fp pn,PE (X.bG N' aj C s₂ H₂ fp pn) elt te)
  (hW:∀D,H2 D=none→Dj gg n J D H2 (dD σ ix) tc te Qd)
  (zg:∀D C s4 H4 m,Inv X pins σ H4 s4→s4.heap.Ns C m→(∀(h':Heap) (t':Nat) (σ':St) (s5:Shared),Inv X pins σ' H4 s5→Heap.SameBut C s5.heap h'→Inv X pins σ' H4 { s5 with heap:=h',toks:=t' })→C≠X.env.locals→(∀y c,X.env.cells.lookup y=some c→c≠C)→Qd D H4→RR (.ref D) C (.ok .next) s4) :
  wpAny (model X.prog X.w) X.A (newList []) (λacc s₃=>wpAny (model X.prog X.w) X.A (newFunctionEnv aj X.env.globals (lD aj X.env) [] X.env.qual none .none (some X.env)) (λpR s₄ =>
   codeAny (model X.prog X.w) X.A (.compStart (.ListComp elt [⟨tg,iter,ifs,0⟩] aj pos) 0 (.ref it) acc { pR with scope:=relabel aj X.env }) (RR acc pR.locals) s₄) E s₃) E s2:=by
 refine nK (wpAny_newFunctionEnv ok.rP (by intro y hy;simp at hy) (λh₁ hns₁ hsb₁=>?_) ok.kind);dsimp only at hns₁ hsb₁ ⊢;generalize zh:s2.heap.push { cls:=.type "list",dict:=none,data:=.seq ([]:List Value).toArray }=HP at hns₁ hsb₁ ⊢;have hC:HP.objs.size=s2.heap.objs.size+1:=by rw[←zh,Heap.size_push]
 have uB:s2.heap.objs.size≠HP.objs.size:=by rw[hC];exact cO (Nat.lt_succ_self _)
 have pS:s2.heap.objs.size≤HP.objs.size:=by rw[hC];exact Nat.le_succ _
 have below:∀b,b<s2.heap.objs.size→b≠HP.objs.size∧b≠s2.heap.objs.size:=λb hb=>⟨by rw[hC];exact cO (Nat.lt_succ_of_lt hb),cO hb⟩;have old:∀b o,s2.heap.get? b=some o→h₁.get? b=some o:=λb o e=>hsb₁.extBut b o (below b (aV e)).1 (bQ _ (zh▸bQ _ e));have Fy:h₁.get? s2.heap.objs.size=some { cls:=.type "list",dict:=none,data:=.seq ([]:List Value).toArray }:=hsb₁.extBut _ _ uB (bQ _ (zh▸dX _ rfl));have zi:H2 s2.heap.objs.size=none:=I2.ay.fresh (a7 _);have Gn:H2 HP.objs.size=none:=I2.ay.fresh pS;generalize hD:s2.heap.objs.size=D at uB Fy zi ⊢;generalize XO:HP.objs.size=C at hns₁ hsb₁ uB Gn pS below ⊢;have rV:∀y∈aj.names,y.2=.free→∃c,X.env.cells.lookup y.1=some c:=λy hy e=>I2.ok.has y.1 (.inl (ok.free y hy e));have kH:∀y c,(lD aj X.env).lookup y=some c→X.env.cells.lookup y=some c:=Dh X.env (λ_ _=>trivial) aj.names [] rV (λ_ _ z=>by simp at z);have Gp:∀y,(y,NameKind.free)∈aj.names→∃c,(lD aj X.env).lookup y=some c:=λy hy=>Di X.env aj.names [] y (.inr hy);have Dk:∀y c,X.env.cells.lookup y=some c→c<s2.heap.objs.size:=λy c e=>by
  obtain⟨v,o,ho,_⟩:=I2.cell y c e;exact aV ho
 have x2:∀b∈fp,b<s2.heap.objs.size:=λb hb=>by
  obtain⟨o,e,_⟩:=T.obj 0 _ cj b hb;exact aV e
 have x3:∀b,b≠X.env.locals→b∉X.fs→b∉bT X.stack:=λb h1 h2 z=>(cH.mp (I2.rM b z)).elim h1 h2;have Vf:(X.bG N' aj C s2 H2 fp (X.pn++pins)).Ok:=by
  refine⟨I2.ok.mod,ok.kind,I2.ok.glob,I2.ok.blt,pS,λy z c h1 h2=>?_,λy hy=>?_,λy c z=>?_,I2.ok.hd,I2.ok.frames,.inl rfl,λb hb=>?_,I2.bs,aQ I2.ok.iu I2.sz,λb o e hb=>?_,λb hb=>?_,I2.stack,I2.vR⟩
  ·exact I2.ok.inj y z c (kH y c h1) (kH z c h2)
  ·have qv:(relabel aj X.env).names.lookup y=some .cell∨(relabel aj X.env).names.lookup y=some .free:=hy;have hf:aj.names.lookup y=some .free:=by
    rcases qv with z|z
    ·rcases qS z with q|q
     ·exact absurd rfl (ok.rP _ (kh q))
     ·exact q.2
    ·rcases qS z with q|q
     ·exact q
     ·exact absurd q.1 (by decide)
   exact Gp y (kh hf)
  ·exact nomatch z
  ·exact⟨(below b (x2 b hb)).1,λy c e=>(f2 b hb).2.2.2.2.1 y c (kH y c e)⟩
  ·rcases (f2 b hb).2.2.2.1 with z|z
   ·exact I2.ok.nz b o e z
   ·exact absurd (dF (aV e) (aQ I2.ok.iu z)) (iP _)
  ·exact x3 b (f2 b hb).2.1 (f2 b hb).2.2.1
 have zj:∀{H':Hp},(∀b∈fp,H' b=none)→∀b∈fp,g9 (X.bG N' aj C s2 H2 fp (X.pn++pins)) [] H' b:=λhn b hb =>
  ⟨hn b hb,(below b (x2 b hb)).1,x3 b (f2 b hb).2.1 (f2 b hb).2.2.1,.inl hb,λy c e=>(f2 b hb).2.2.2.2.1 y c (kH y c e),λp hp=>(f2 b hb).2.2.2.2.2 p (by simpa using (show p∈(X.pn++pins)++[] from hp))⟩
 obtain⟨mL,XQ,SV⟩:=id I2.loc;have IB:Inv (X.bG N' aj C s2 H2 fp (X.pn++pins)) [] (List.replicate n none++dD σ ix) (upd H2 D (.lst [])) { s2 with heap:=h₁,toks:=s2.toks+([]:List (Str×Value)).length }:=by
  refine⟨Vf,rfl,I2.bare,Un.laid old (nM hD) zi,⟨_,hns₁,λi y v h1 h2 h3=>?_⟩,λy c e=>?_,?_,λy c e=>?_,λp hp=>?_,I2.ay.laid old (nM hD) ⟨kj _,[],_,.nil,Fy⟩,?_⟩
  ·by_cases Gq:i<n
   ·rw[tZ (by simpa using Gq),yD,if_pos Gq]at h2;cases h2
   ·obtain⟨j,rfl⟩:∃j,i=n+j:=⟨i-n,by omega⟩;have lX:(dD σ ix)[j]?=some (some v):=by
     rw[List.getElem?_append_right (by simp)]at h2;simpa using h2
    unfold dD at lX;rw[jy]at lX;cases ei:ix[j]? with
    |none=>rw[ei]at lX;cases lX
    |some i =>
     rw[ei]at lX;have tG:(σ[i]?).getD none=some v:=eR lX;have hσ:σ[i]?=some (some v):=by
      cases es:σ[i]? with
      |none=>rw[es]at tG;cases tG
      |some q=>rw[es]at tG;exact bX some tG
     have Uu:(N'.drop n)[j]?=some y:=by rw[List.getElem?_drop];exact h1
     obtain⟨n1,n2,n3⟩:=ok.fr (i,y) (fE (i:=j) (by rw[List.getElem?_zip_eq_some];exact⟨ei,Uu⟩));obtain⟨u,ru,lk⟩:=SV i y v n1 hσ (.inr (.inl n2));refine⟨u,ru,?_⟩;rcases lk with⟨k,_⟩|⟨_,c,ec,z⟩
     ·have k':X.env.scope.names.lookup y=some .local:=k;rw[n2]at k';cases k'
     ·obtain⟨c',Gr⟩:=Gp y (kh n3);have e3:=kH y c' Gr;rw[ec]at e3;cases e3;have kk:(relabel aj X.env).names.lookup y=some .cell∨(relabel aj X.env).names.lookup y=some .free:=by
       rcases h3 with q|q|q
       ·have q':(relabel aj X.env).names.lookup y=some .local:=q;rcases qS q' with r|r
        ·rw[n3]at r;cases r
        ·exact absurd r.1 (by decide)
       ·exact .inl q
       ·exact .inr q
      exact .inr ⟨kk,c,Gr,z.keeps old⟩
  ·obtain⟨v,z⟩:=I2.cell y c (kH y c e);exact⟨v,z.keeps old⟩
  ·show upd H2 D (.lst []) C=none;rw[aK (dq uB)];exact Gn
  ·show upd H2 D (.lst []) c=none;have l:=Dk y c (kH y c e);rw[aK (λq=>by rw[q,←hD]at l;exact iP _ l)];exact I2.fw y c (kH y c e)
  ·have Vg:p∈X.pn++pins:=by simpa using (show p∈(X.pn++pins)++[] from hp)
   obtain⟨e,n,ne,nf,d⟩:=I2.pin p Vg;have l:=aV e;refine⟨old _ _ e,?_,(below p.1 l).1,x3 p.1 ne nf,d⟩;rw[aK (λq=>by rw[q,←hD]at l;exact iP _ l)];exact n
  ·show(List.replicate n none++dD σ ix:St).length=N'.length;rw[ok.len];simp[dD,Nat.add_comm]
 have back:∀{H4:Hp}{s4:Shared}{σ4:St}{ps:List (Addr×Obj)},Inv (X.bG N' aj C s2 H2 fp (X.pn++pins)) ps σ4 H4 s4→Inv X pins σ H4 s4:=λI4 =>
  I2.D9 I4.os I4.base I4.ay I4.bare λb hb=>⟨(f2 b hb).2.2.2.1,(f2 b hb).2.1,(f2 b hb).2.2.2.2.1,(f2 b hb).2.2.2.2.2⟩
 have lT:C≠X.env.locals:=λz=>by
  have l:=I2.lt;rw[←z]at l;exact absurd (dF l pS) (iP _)
 have jE:∀y c,X.env.cells.lookup y=some c→c≠C:=λy c e=>(below c (Dk y c e)).1;have Vh:∀p∈X.pn++pins,p.1≠C:=λp hp=>(below p.1 (aV (I2.pin p hp).1)).1;have loop:∀s₃:Shared,s₃={ s2 with heap:=h₁,toks:=s2.toks+([]:List (Str×Value)).length } →
   codeAny (model X.prog X.w) X.A (.compLoop (.ListComp elt [⟨tg,iter,ifs,0⟩] aj pos) 0 (.ref it) (.ref D) (compEnvC aj (lD aj X.env) C X.env)) (RR (.ref D) C) s₃:=by
  rintro s₃ rfl;obtain⟨W,⟨m0,Vi⟩,turn⟩:=hW D zi;refine JV (λk s'=>∃i H',Inv (X.bG N' aj C s2 H2 fp (X.pn++pins)) [] (List.replicate n none++dD σ ix) H' s'∧tn i s'.heap∧(∀b∈fp,H' b=none)∧W i k H') ?_ m0
   ⟨0,_,IB,T.keep _ _ _ cj λb _ o e=>old b o e,λb hb=>?_,Vi⟩
  ·rintro k s3 ⟨i,H3,I3,ku,qm,w3⟩;rcases turn i k H3 w3 with⟨stop,qn⟩|⟨go,step⟩
   ·refine az (T.done (X.bG N' aj C s2 H2 fp (X.pn++pins)) rfl rfl rfl hc i [] s3 _ H3 _ I3 (zj qm) ku stop) λr s4 ⟨hr,I4⟩=>?_;subst hr;obtain⟨m4,Vj,_⟩:=id I4.loc;refine zg D C s4 H3 m4 (back I4) Vj (λh' t' σ' s5 I5 sb=>I5.turned (it:=C) (λb o hb e=>(sb.2 b hb).trans e) I4.free lT (.inr (aQ I2.sz pS)) jE Vh) lT jE qn
   ·refine az (T.item (X.bG N' aj C s2 H2 fp (X.pn++pins)) rfl rfl rfl hc i [] s3 _ H3 _ I3 (zj qm) ku go) λr s4 ⟨u,hr,h4⟩=>?_;subst hr;refine az h4 λ_ s5 ⟨v,H5,I5,r5,y5,iz,yZ⟩=>?_;have y0:=I5.pinned (zj yZ) (T.obj _ _ iz);have fin:∀{ow:St}{H7:Hp}{s7:Shared},ow.length=n→Inv (X.bG N' aj C s2 H2 fp (X.pn++pins)) ([]++oY fp s5.heap) (ow++dD σ ix) H7 s7→∀{m':Nat},m'<k→W (i+1) m' H7 →
      ∃m,m<k∧∃i H',Inv (X.bG N' aj C s2 H2 fp (X.pn++pins)) [] (List.replicate n none++dD σ ix) H' s7∧tn i s7.heap∧(∀b∈fp,H' b=none)∧W i m H':=λ{ow H7 s7} how I7 {m'} hm w7=>by
     refine⟨m',hm,i+1,H7,I7.rh.weak (by rw[bN,bN,how,qe]) (λj q e=>?_),T.keep _ _ _ iz λb hb o e=>(I7.pin (b,o) (il _ (il _ (qW hb e)))).1,λb hb=>?_,w7⟩
     ·by_cases hj:j<n
      ·rw[tZ (by simpa using hj),yD,if_pos hj]at e;cases e
      ·rw[List.getElem?_append_right (by simpa using hj)]at e;rw[List.getElem?_append_right (by omega),how];simpa using e
     ·obtain⟨o,e,d⟩:=T.obj _ _ iz b hb;exact(I7.pin (b,o) (il _ (il _ (qW hb e)))).2.1
    refine bP (hg C s2 H2 fp (X.pn++pins) _ s5 _ H5 v u _ y0 r5 (step v H5 y5)) (λ_ s6 ⟨σ6,H6,I6,e1,⟨ow,how,e2⟩,q6⟩=>?_) λ_ _ z=>z.elim;subst e1 e2;refine bP (fH C s2 H2 fp (X.pn++pins) _ s6 _ _ _ I6 q6) (λb s7 ⟨H7,I7,q7⟩=>?_) λ_ _ z=>z.elim;cases b with
    |false =>
     rw[if_neg aU]at q7 ⊢;obtain⟨m',hm,w7⟩:=q7;exact fin how I7 hm w7
    |true =>
     rw[if_pos rfl]at q7 ⊢;refine bP (jG C s2 H2 fp (X.pn++pins) _ s7 _ _ _ I7 q7) (λuy s8 ⟨y,H8,I8,r8,ys,lY,hl,m',hm,w8⟩=>?_) λ_ _ z=>z.elim;refine bP (A2 (X:=X.bG N' aj C s2 H2 fp (X.pn++pins)) _ s8 _ H8 (.ref D) [y] (.ref D) [uy] (λ_ H'=>H'=upd H8 D (.lst (ys++[y]))) I8 rfl (.cons r8 .nil) ⟨D,ys,y,rfl,rfl,lY,hl,rfl⟩) (λ_ s9 ⟨z,H9,I9,_,q9⟩=>?_) λ_ _ z=>z.elim;subst q9;exact fin how I9 hm w8
  ·show upd H2 D (.lst []) b=none;have l:=x2 b hb;rw[aK (λq=>by rw[q,←hD]at l;exact iP _ l)];exact(f2 b hb).1
 exact codeAny_compStart_list (loop _ rfl) (T.self X.A 0 _ _ _ (T.keep _ _ _ cj λb _ o e=>old b o e) (loop _ rfl))
theorem Au{pins:List (Addr×Obj)}{σ:St}{H2:Hp}{s2:Shared}{it:Addr}{fp:List Addr}{tn:Nat→Heap→Prop}{J:It}{RR:Value→Addr→Result→Shared→Prop}{E:Value→Shared→Prop}{Qd:Addr→Hp→Prop}
  (ok:jh X.N N' X.env.scope aj x ix) (hc:X.calm=true) (I2:Inv X pins σ H2 s2) (T:Turn X.prog X.w X.K (.Name x px) J fp it tn) (cj:tn 0 s2.heap) (f2:∀b∈fp,g9 X pins H2 b)
  (fH:∀C s₂ H₂ fp pn,kE (X.bG N' aj C s₂ H₂ fp pn) ifs tc) (jG:∀C s₂ H₂ fp pn,PE (X.bG N' aj C s₂ H₂ fp pn) elt te)
  (hW:∀D,H2 D=none→pF J D H2 (dD σ ix) tc te Qd)
  (zg:∀D C s4 H4 m,Inv X pins σ H4 s4→s4.heap.Ns C m→(∀(h':Heap) (t':Nat) (σ':St) (s5:Shared),Inv X pins σ' H4 s5→Heap.SameBut C s5.heap h'→Inv X pins σ' H4 { s5 with heap:=h',toks:=t' })→C≠X.env.locals→(∀y c,X.env.cells.lookup y=some c→c≠C)→Qd D H4→RR (.ref D) C (.ok .next) s4) :
  wpAny (model X.prog X.w) X.A (newList []) (λacc s₃=>wpAny (model X.prog X.w) X.A (newFunctionEnv aj X.env.globals (lD aj X.env) [] X.env.qual none .none (some X.env)) (λpR s₄ =>
   codeAny (model X.prog X.w) X.A (.compStart (.ListComp elt [⟨.Name x px,iter,ifs,0⟩] aj pos) 0 (.ref it) acc { pR with scope:=relabel aj X.env }) (RR acc pR.locals) s₄) E s₃) E s2:=by
 have Gu:∀C s₂ H₂ fp pn,(X.bG N' aj C s₂ H₂ fp pn).env.scope.names.lookup x=some .local:=λ_ _ _ _ _=>lookup_relabel_local ok.loc;exact JW ok.g (λC s₂ H₂ fp pn=>BV (X:=X.bG N' aj C s₂ H₂ fp pn) (i:=0) ok.nd ok.hd (.inl (Gu C s₂ H₂ fp pn)) (.inr (Gu C s₂ H₂ fp pn))) hc I2 T cj f2 fH jG (λD hD=>(hW D hD).g) zg
theorem rD(ok:jh X.N N' X.env.scope aj x ix)(hc:X.calm=true)(hi:PI X (.Name x px) iter wi)(fH:∀C s₂ H₂ fp pn,kE (X.bG N' aj C s₂ H₂ fp pn) ifs tc)(jG:∀C s₂ H₂ fp pn,PE (X.bG N' aj C s₂ H₂ fp pn) elt te)
  (hs:∀x,foldedSetIterable iter X.env x=pure x:=by intro _;rfl):PE X (.ListComp elt [⟨.Name x px,iter,ifs,0⟩] aj pos) (m6 wi ix tc te):=by
 intro pins s σ H Q I h;rw[eval_ListComp];refine wpAny_comprehension_free (use:=none) rfl hs (Ad λy hy e=>I.ok.has y.1 (.inl (ok.free y hy e))) ok.kind ok.names (az (hi pins s σ H _ I h) λv s1 h1=>az h1 λum s2 h2=>?_);obtain⟨it,fp,tn,J,H2,e,I2,T,cj,f2,hW⟩:=h2;subst e;refine Au (RR:=λacc C=>compPost (model X.prog X.w) X.A X.xe none (EP X pins σ Q) acc C) (Qd:=λD H=>Q (.ref D) H) ok hc I2 T cj f2 fH jG hW ?_;intro D C s4 H4 m I4 iA tr _ _ q;exact⟨m,iA,λh' sb=>⟨.ref D,H4,tr h' s4.toks σ s4 I4 sb,rfl,q⟩⟩
theorem Kw{i:Nat}{y:Str}{py pT:Pos}(hN:X.N.Nodup)(zk:X.N[i]?=some y)(hy:X.env.scope.names.lookup y=some .local)(ok:jh X.N N' X.env.scope aj x ix)(hc:X.calm=true)(hi:PI X (.Name x px) iter wi)(fH:∀C s₂ H₂ fp pn,kE (X.bG N' aj C s₂ H₂ fp pn) ifs tc)
  (jG:∀C s₂ H₂ fp pn,PE (X.bG N' aj C s₂ H₂ fp pn) elt te) (zl:swapsWith (.ListComp elt [⟨.Name x px,iter,ifs,0⟩] aj pos) (some (.Name y py)) pT.line X.env=pure true:=by rfl)
  (hs:∀x,foldedSetIterable iter X.env x=pure x:=by intro _;rfl):PS X (.Assign [.Name y py] (.ListComp elt [⟨.Name x px,iter,ifs,0⟩] aj pos) pT) (g8 (m6 wi ix tc te) (iL i)):=by
 intro pins s σ H D I h;rw[exec_Assign_Name_used _ _ _ _ zl];refine ak (lO (ak ?_));show wpAny _ X.A (do let _ ←comprehension (.ListComp elt [⟨.Name x px,iter,ifs,0⟩] aj pos) aj X.env _ (newList []) false (eval iter X.env) (some (assign (.Name y py) X.env))) _ _ s;refine ak (bP (wpAny_comprehension_free (use:=some (assign (.Name y py) X.env)) (Q:=λ_ s'=>SP X pins D .next s') rfl hs (Ad λy hy e=>I.ok.has y.1 (.inl (ok.free y hy e))) ok.kind ok.names
  (az (hi pins s σ H _ I h) λv s1 h1=>az h1 λum s2 h2=>?_)) (λ_ s' hq=>aH (aH hq)) λ_ _ e=>e)
 obtain⟨it,fp,tn,J,H2,e,I2,T,cj,f2,hW⟩:=h2;subst e;refine Au (RR:=λacc C=>compPost (model X.prog X.w) X.A X.xe (some (assign (.Name y py) X.env)) (λ_ s'=>SP X pins D .next s') acc C) (Qd:=λB H=>D.nx (σ.set i (some (.ref B))) H) ok hc I2 T cj f2 fH jG hW ?_;intro B C s4 H4 m I4 iA tr lT jE q;show wpAny _ X.A (assign (.Name y py) X.env (.ref B)) _ _ s4;refine wpAny_assign_Name (AV I4 hN zk (.inl hy) (show RelV (.ref B) (.ref B)from rfl) (λs5 I5 ⟨a,sb,ha⟩=>?_) (.inr hy));have Vk:C≠a:=by
  rcases ha with e|e
  ·rw[e];exact lT
  ·exact dq (jE y a e)
 exact⟨m,iA.sameBut sb Vk,λh' Vl=>⟨_,H4,tr h' s5.toks _ s5 I5 Vl,q⟩⟩
end
def lr(h:Heap)(d:Addr)(es:Array DictEntry)(ep:Nat):Prop:=∃o,h.get? d=some o∧o.ExactDict∧o.data=.dict es ep
theorem lr.ty{s:Shared}{d:Addr}{es:Array DictEntry}{ep:Nat}(x:lr s.heap d es ep):s.TypeIs (.ref d) "dict" := let ⟨o,ho,hc,_⟩:=x;⟨o,ho,hc.1⟩
theorem lr.at{h h':Heap}{d:Addr}{es:Array DictEntry}{ep:Nat}(x:lr h d es ep)(e:∀o,h.get? d=some o→h'.get? d=some o):lr h' d es ep:=let ⟨o,ho,r⟩:=x;⟨o,e _ ho,r⟩
theorem lr.lt{h:Heap}{d:Addr}{es:Array DictEntry}{ep:Nat}(x:lr h d es ep):d<h.objs.size:=let ⟨_,ho,_⟩:=x;aV ho
section
variable {prog:Program}{w:World}{A:Around}{E:Value→Shared→Prop}{s:Shared}{d it:Addr}{es:Array DictEntry}{i ep:Nat}
end
section
variable {X:Cx}
theorem Js(hc:X.calm=true):fM X (.builtin "all") (λxs H Q=>∃(p:Addr) (bs:List Bool),xs=[.ref p]∧bj X.K H p (bs.map V.bl)∧Q (.bl (bs.all id)) H):=by
 intro pins s σ H xs us Q I r h;obtain⟨p,bs,rfl,hq,q⟩:=h;obtain⟨u,rfl,rx⟩:=vals1 r;cases rx;obtain⟨its,rv,pl,hz⟩:=I.list hq;have hlen:bs.length=its.length:=by simpa using rv.length
 have Vm:p≠s.heap.objs.size:=by
  obtain⟨o,n,e,_⟩:=pl;exact cO (aV e)
 refine call_all_walk (wpAny_pyIter_list pl.isList ?_);refine⟨s.heap.objs.size,_,_,_,_,_,λi=>bs.getD i true,rfl,Walks.list (show X.A.in1.handled=none from I.ok.hd hc) s.heap.objs.size p Vm its.toArray,⟨⟨_,dX _ rfl,rfl,rfl⟩,?_⟩,λi v s' Q' E' hv Vn=>?_,λh' tk kp=>?_⟩
 ·obtain⟨o,n,e,e2,e3,e4⟩:=pl;exact⟨o,bQ _ e,e2,n,e4⟩
 ·have lZ:its[i]?=some v:=by simpa using hv
  have hi:i<its.length:=(ig.mp lZ).1;have hb:(bs.map V.bl)[i]?=some (V.bl (bs.getD i true)):=by
   rw[jy,iR (by omega),yI,iR (by omega)];rfl
  obtain⟨u,hu,ru⟩:=rv.get hb;rw[lZ]at hu;cases hu;cases (show v=Value.bool _ from ru);exact iQ Vn
 ·have eb:(List.range its.toArray.size).all (λi=>bs.getD i true)=bs.all id:=by
   rw[dY,←hlen]
   conv=>rhs;rw[←range_getD bs true]
   rw[List.all_map];rfl
  refine⟨.bl (bs.all id),H,?_,?_,q⟩
  ·have I1:Inv X pins σ H { s with heap:=s.heap.push { cls:=.type "list_iterator",data:=.fields #[.ref p,.int 0 0] },toks:=s.toks }:=I.kept λb o e=>bQ _ e;refine I1.turned (it:=s.heap.objs.size) (λb o hb e=>kp b o (by simpa using hb) e) (I.ay.fresh (a7 _)) (Nat.ne_of_gt I.lt) (.inr I.sz) (λx c e=>?_) λz hz=>?_
   ·obtain⟨v,o,ho,_⟩:=I.cell x c e;exact cO (aV ho)
   ·exact cO (aV (I.pin z hz).1)
  ·rw[eb];rfl
noncomputable def Fz(K:PySem.W.Frag)(n:Nat)(t:fW):TG:=λv σ H Q=>∃a xs,v=.ref a∧bj K H a xs∧xs.length=n∧t xs σ H Q
theorem Qp{es:List Expr}{k:Nat}{pos:Pos}{t:fW}{n:Nat}(hc:X.calm=true)(h:nW X es t)
  (hn:(assignEach es X.env).length=n:=by rfl) (dH:(assignEach es X.env).findIdx? (·.1)=none:=by rfl):PG X (.Tuple es k pos) (Fz X.K n t):=by
 intro pins s σ H v u Q I r hw;obtain⟨a,xs,e1,hq,hl,hw⟩:=hw;subst e1;cases r;obtain⟨its,rv,pl,hz⟩:=I.list hq;rw[assign_Tuple];refine ak (lO ?_);unfold unpack;have hlen:(assignEach es X.env).length=its.toArray.size:=by rw[hn,←hl,rv.length];simp
 rw[hlen,dH];refine ak (ik (PySem.W.kun_itemsOf (I.ok.hd hc) pl.isList λh' hx=>?_));have I1:Inv X pins σ H { s with heap:=h' }:=I.kept (t':=s.toks) λb o e=>hx b o (cO (aV e)) e;exact h pins _ σ H xs _ Q I1 (by simpa using rv) hw
theorem Av:∀{zs:List Str}{us:List Value},Vals (zs.map V.str) us→StrsAre us zs
 |[],_,.nil=>.nil
 |z::zs,_,.cons r t=>by
  obtain⟨tk,e⟩:=(show ∃t,_=Value.str z t from r);subst e;exact .cons z tk (Av t)
theorem N7:kC X "str.join" (λx xs H Q=>∃(z:Str) (p:Addr) (ys:List Str),x=.str z∧xs=[.ref p]∧bj X.K H p (ys.map V.str)∧(ys.map (·.length)).sum+ys.length*z.length≤16777216∧Q (.str (Txt.join z ys)) H):=by
 intro pins s σ H x xs v us Q I rx r h;obtain⟨z,p,ys,rfl,rfl,hq,hl,q⟩:=h;obtain⟨u,rfl,ru⟩:=vals1 r;cases ru;obtain⟨tk,e⟩:=(show ∃t,v=Value.str z t from rx);subst e;obtain⟨its,rv,pl,hz⟩:=I.list hq;exact join_list pl.isList (by simpa using Av rv) hl λt' k=>⟨.str (Txt.join z ys),H,I.tok k,⟨_,rfl⟩,q⟩
mutual
inductive Dn (K:PySem.W.Frag)(H:Hp):V→PyData→Prop
 |non:Dn K H .non .none
 |bl (b:Bool):Dn K H (.bl b) (.bool b)
 |int (i:Int):Dn K H (.int i) (.int i)
 |str (x:Str):Dn K H (.str x) (.str x)
 |lst {a:Addr}{xs:List V}{ds:List PyData}:bj K H a xs→fZ K H xs ds→Dn K H (.ref a) (.list ds)
 |tup {a:Addr}{xs:List V}{ds:List PyData}:aZ K H a xs→fZ K H xs ds→Dn K H (.ref a) (.tuple ds)
inductive fZ (K:PySem.W.Frag)(H:Hp):List V→List PyData→Prop
 |nil:fZ K H [] []
 |cons {v:V}{d:PyData}{vs:List V}{ds:List PyData}:Dn K H v d→fZ K H vs ds→fZ K H (v::vs) (d::ds)
end
noncomputable def dV:V→PyData
 |.non=>.none
 |.bl b=>.bool b
 |.int i=>.int i
 |.str x=>.str x
 |_=>.none
mutual
theorem Dn.refl{K:PySem.W.Frag}{H:Hp}:∀{v:V}{d:PyData},Dn K H v d→PyData.eqv d d=true
 |_,_,.non=>by simp[PyData.eqv]
 |_,_,.bl _=>by simp[PyData.eqv]
 |_,_,.int _=>by simp[PyData.eqv]
 |_,_,.str _=>by simp[PyData.eqv]
 |_,_,.lst _ hs=>by simp only[PyData.eqv];exact fZ.refl hs
 |_,_,.tup _ hs=>by simp only[PyData.eqv];exact fZ.refl hs
theorem fZ.refl{K:PySem.W.Frag}{H:Hp}:∀{vs:List V}{ds:List PyData},fZ K H vs ds→PyData.eqvAll ds ds=true
 |_,_,.nil=>by simp[PyData.eqvAll]
 |_,_,.cons h t=>by rw[PyData.eqvAll,Dn.refl h,fZ.refl t];rfl
end
theorem fZ.length{K:PySem.W.Frag}{H:Hp}:∀{vs:List V}{ds:List PyData},fZ K H vs ds→vs.length=ds.length
 |_,_,.nil=>rfl
 |_,_,.cons _ t=>by simp[fZ.length t]
theorem PlainL.cv{h:Heap}{a:Addr}{its:Array Value}(x:PlainL h a its):h.IsList a its:=x.isList
inductive x4:PyData→PyData→Prop
 |lst (xs ys:List PyData):x4 (.list xs) (.list ys)
 |tup (xs ys:List PyData):x4 (.tuple xs) (.tuple ys)
 |non:x4 .none .none
end
def rZ(D:Addr)(H H':Hp):Prop:=∀b o,b≠D→H b=some o→H' b=some o
theorem rZ.trans{D:Addr}{H H1 H2:Hp}(a:rZ D H H1)(b:rZ D H1 H2):rZ D H H2:=λc o h e=>b c o h (a c o h e)
section
variable {X:Cx}{K:PySem.W.Frag}
theorem N8(h:X.K=K):iW X (y6 K):=by subst h;exact Ql
theorem Ky(h:X.K=K):bq X (compareOp .In) (y7 K false):=by subst h;exact Lk
theorem Lr(h:X.K=K):fM X (.builtin "len") (λxs H Q=>∃x n,xs=[x]∧xU K x H n∧Q (.int n) H):=by subst h;exact MB
theorem Ls{a:Expr}{ta:TE}(h:X.K=K)(ha:PE X a ta)(he:∀whole,isTrue a X.env whole=(do let v ←whole;standAt a.pos;holding [v] (truthy v))):PT X a (λσ H Q=>ta σ H λx H'=>∃k,tf K x H' k∧Q k H'):=by subst h;exact Mz ha he
theorem MH{tg l:Expr}{tl:TE}(h:X.K=K)(hl:PE X l tl):PI X tg l (w9 K tl):=by subst h;exact NS hl
end
end L2
namespace My
open PySem PySem.Spec PyProof.Rows L2
theorem ax.none{H H':Hp}{p:Addr}(s:ax H H')(h:H' p=none):H p=none:=s.free h
theorem Uv{σ:L2.St}{H:Hp}{A B:Hp→Prop}(h:A H):tF σ H λb H3=>if b=true then A H3 else B H3:=by
 show if true=true then A H else B H;exact Ut h
theorem Paired.at{α β:Type}{F:α→β→Prop}:∀{l:List α}{m:List β},Paired F l m→∀{i:Nat}{b:β},m[i]?=some b→∃a,l[i]?=some a∧F a b
 |_,_,.nil,_,_,h=>by simp at h
 |_,_,.cons r t,0,_,h=>by simp at h;subst h;exact⟨_,rfl,r⟩
 |_,_,.cons r t,i+1,b,h=>by
  obtain⟨a,e,q⟩:=Paired.at t (i:=i) (b:=b) (by simpa using h);exact⟨a,by simpa using e,q⟩
inductive Rw where
 |reckon (x s:Str) (a b:Key)|copy (x:Str) (a:Key)|say (a:Key)|go (n:Int)|part (a:Key) (n:Int)|fin
noncomputable def Rw.vs:Rw→List V
 |.reckon x s a b=>[.str "reckon",.str x,.str s,kV a,kV b]
 |.copy x a=>[.str "copy",.str x,kV a]
 |.say a=>[.str "say",kV a]
 |.go n=>[.str "go",.int n]
 |.part a n=>[.str "part",kV a,.int n]
 |.fin=>[.str "end"]
noncomputable def Rw.word:Rw→Str
 |.reckon .. => "reckon" |.copy .. => "copy" |.say _ => "say" |.go _ => "go" |.part .. => "part" |.fin => "end"
noncomputable def Rw.rk:Rw→Option (List Key)
 |.reckon _ s a b=>some [.inr s,a,b]|_=>none
theorem n1:¬(("copy" : Str) = "reckon"):=by decide +kernel
theorem n2:¬(("say" : Str) = "reckon"):=by decide +kernel
theorem n3:¬(("go" : Str) = "reckon"):=by decide +kernel
theorem take_snoc{α:Type}{l:List α}{i:Nat}{x:α}(h:l[i]?=some x):l.take (i+1)=l.take i++[x]:=by
 rw[List.take_add_one,h];rfl
structure Df (K:PySem.W.Frag)(mg:Str→Option Value)(x:Str)(st:Stmt)(ps:List Str)(f:Addr)(fd:FuncData):Prop where
 mg:mg x=some (.ref f)
 fn:iZ K x x st f fd
 bd:Binds K fd ps []
end My
namespace L2
open PySem PySem.Spec PyProof.Rows
noncomputable def uC(z:Str):It:=⟨λi _=>i<z.cps.size,λi H x H'=>H'=H∧∃c,z.cps[i]?=some c∧x=.str ⟨#[c]⟩,λi _=>z.cps.size≤i⟩
theorem MJ {P:Program}{w:World}{K:PySem.W.Frag}{tg:Expr} (it:Addr) (x:Str) (t:Tok) (ty:String) (iY:ty = "str_ascii_iterator" ∨ ty = "str_iterator"):Turn P w K tg (uC x) [it] it (λi h=>h.IsStrIter it ty x t i) where
 mem:=by simp
 obj:=λi h st b hb=>by
  have e:b=it:=by simpa using hb
  subst e;obtain⟨o,e,c,d⟩:=st;exact⟨o,e,λv z=>by rw[d]at z;cases z⟩
 keep:=λi h h' st k=>by obtain⟨o,e,r⟩:=st;exact⟨o,k it (by simp) o e,r⟩
 item:=by
  intro X hP hw hK hc i pins s σ H E I hf st hg;subst hP hw hK;have hi:i<x.cps.size:=hg;obtain⟨f0,f1,f2,f3,f4,f5⟩:=hf it (by simp);have fin:∀h',h'.IsStrIter it ty x t (i+1)→Heap.SameBut it s.heap h'→∃u,some (Value.str ⟨#[x.cps[i]]⟩ s.toks)=some u ∧
    wpAny (model X.prog X.w) X.A (letOwnedTupleGo tg (.ref it) u) (λ_ s2=>∃y H',Inv X pins σ H' s2∧RelV y u∧(uC x).iU i H y H'∧s2.heap.IsStrIter it ty x t (i+1)∧∀b∈[it],H' b=none) E { s with heap:=h',toks:=s.toks+1 }:=λh' iy sb=>by
   have I1:Inv X pins σ H { s with heap:=h',toks:=s.toks+1 }:=I.turned (λb o hb e=>(sb.2 b hb).trans e) f0 f1 f3 f4 f5;obtain⟨o,e,c,d⟩:=id iy;refine⟨_,rfl,rW (s:={ s with heap:=h',toks:=s.toks+1 }) e c d (by rcases iY with q|q<;>(rw[q];decide)) ⟨.str ⟨#[x.cps[i]]⟩,H,I1,⟨_,rfl⟩,⟨rfl,x.cps[i],by simp[hi],rfl⟩,iy,λb hb=>(hf b hb).1⟩⟩
  rcases iY with q|q
  ·subst q;exact wpAny_pyNext_ascii_item st (c:=x.cps[i]) (by simp[hi]) fin
  ·subst q;exact wpAny_pyNext_wide_item st (c:=x.cps[i]) (by simp[hi]) fin
 done:=by
  intro X hP hw hK hc i pins s σ H E I hf st hg;subst hP hw hK;have hi:x.cps.size≤i:=hg;obtain⟨f0,f1,f2,f3,f4,f5⟩:=hf it (by simp);have fin:∀h',Heap.ExtBut it s.heap h'→(none:Option Value)=none∧Inv X pins σ H { s with heap:=h' }:=λh' eb=>⟨rfl,I.turned (t':=s.toks) (λb o hb e=>eb b o hb e) f0 f1 f3 f4 f5⟩;rcases iY with q|q
  ·subst q;exact wpAny_pyNext_ascii_end (I.ok.hd hc) st (by simp[hi]) fin
  ·subst q;exact wpAny_pyNext_wide_end (I.ok.hd hc) st (by simp[hi]) fin
 self:=λ_ _ _ _ _ st h=>by
  rcases iY with q|q
  ·subst q;exact wpAny_pyIter_striter_ascii st h
  ·subst q;exact wpAny_pyIter_striter_wide st h
section
variable {X:Cx}{tg:Expr}
def FC(tl:TE):TI:=λσ H R=>tl σ H λx H1=>∃z,x=.str z∧R (uC z) H1
theorem Qq{l:Expr}{tl:TE}(hl:PE X l tl):PI X tg l (FC tl):=by
 intro pins s σ H R I h;refine az (hl pins s σ H _ I h) λv s1 ⟨x,H1,I1,r1,q1⟩=>?_;obtain⟨z,e,q⟩:=q1;subst e;obtain⟨t,e⟩:=(show ∃t,v=Value.str z t from r1);subst e;have iY:strIterType z = "str_ascii_iterator" ∨ strIterType z = "str_iterator" := by unfold strIterType;split<;>simp
 refine wpAny_pyIter_strU ?_;refine⟨s1.heap.objs.size,[s1.heap.objs.size],_,_,H1,rfl,I1.kept (t':=s1.toks) λb o e=>bQ _ e,MJ s1.heap.objs.size z t _ iY,⟨_,dX _ rfl,rfl,rfl⟩,λb hb=>?_,q⟩;have e:b=s1.heap.objs.size:=by simpa using hb
 subst e;exact I1.pO (a7 _) (I1.ay.fresh (a7 _))
theorem Qr:jF X (λx lo hi H Q=>∃z:Str,x=.str z∧z.length≤sizeLine∧Q (.str (Txt.slice z lo hi)) H):=by
 intro pins s σ H x v vl vu lo hi sl Q I rx hs pl pu h;obtain⟨z,rfl,hz,q⟩:=h;obtain⟨t,e⟩:=(show ∃t,v=Value.str z t from rx);subst e;have fin:∀t' k,EP X pins σ Q (.str (Txt.slice z lo hi) t') { s with toks:=k }:=λt' k=>⟨.str (Txt.slice z lo hi),H,I.tok k,⟨_,rfl⟩,q⟩;refine⟨"str",_,F.slot_str_getitem.lookup,typeIs_str _ _ _,?_⟩;cases pl with
 |none =>
  cases pu with
  |none=>exact ua (l:=none) (u:=none) (st:=none) hs rfl (ub ⟨aQ (uc z _ _) hz,fin⟩)
  |int j tj=>exact ua (l:=none) (u:=some (j,tj)) (st:=none) hs rfl (ub ⟨aQ (uc z _ _) hz,fin⟩)
 |int i ti =>
  cases pu with
  |none=>exact ua (l:=some (i,ti)) (u:=none) (st:=none) hs rfl (ub ⟨aQ (uc z _ _) hz,fin⟩)
  |int j tj=>exact ua (l:=some (i,ti)) (u:=some (j,tj)) (st:=none) hs rfl (ub ⟨aQ (uc z _ _) hz,fin⟩)
theorem MK{prog:Program}{w:World}{A:Around}{E:Value→Shared→Prop}{s:Shared}{t b:Addr}{ws:List Value}{Q:Value→Shared→Prop}(ht:IsTup s.heap t ([]:List Value).toArray)(hb:IsTup s.heap b ws.toArray)(h:Q (.ref b) s):wpAny (model prog w) A (binaryOp .Add (.ref t) (.ref b)) Q E s:=by
 obtain⟨⟨c1,d1,XR,zm⟩,ho,hc,n,hd⟩:=id ht;obtain⟨⟨c2,d2,XS,lV⟩,iV,kz,n2,hd2⟩:=id hb;simp only at hc hd kz hd2;subst hc hd kz hd2;exact t7 ⟨_,ho,rfl⟩ ⟨_,iV,rfl⟩ yE seq_tuple_add yF yG (yH _ _) (tuple_addW0 t b ([]:List Value).toArray ws.toArray n n2 d1 d2 zm lV (by simp)) ⟨ho,iV,h⟩
theorem IV{prog:Program}{w:World}{A:Around}{E:Value→Shared→Prop}{s:Shared}{t sl:Addr}{items:Array Value}{vl vu:Value}{lo hi:Option Int}{Q:Value→Shared→Prop}(ht:IsTup s.heap t items)(hs:s.heap.IsSliceOf sl vl vu .none)(pl:IsPart vl lo)(pu:IsPart vu hi)
  (h0:HT.aF items.size 0 lo=0) (h1:HT.aF items.size items.size hi=items.size) (h:Q (.ref t) s):wpAny (model prog w) A (getItem (.ref t) (.ref sl)) Q E s:=by
 obtain⟨os,lW,fH,qq⟩:=id hs;have y4:s.TypeIs (.ref sl) "slice" := ⟨os,lW,fH⟩;unfold getItem;try with_reducible refine ik ?_
 first|refine ak (aH ?_)|skip
 refine ak (wpAny_sequenceKey ht.typeIs (by decide) ?_);refine ak (wpAny_callSpecial?_slot (name:=Str.ofString "__getitem__") ht.typeIs nJ (yy nJ ht.typeIs entry_tuple_getitem ?_ (args_tuple_getitem _ _)));show wpAny _ _ (Builtin.Tuple.tupleItemsOf (.ref t) >>= _) _ _ s;refine ak (tupleItemsOf_ ht ?_);refine ak (wpAny_typeOf y4 ?_);rw[if_pos (by decide)];refine ak (HT.z9 hs pl pu ?_);show wpAny _ _ (if (((HT.aF items.size 0 lo:Nat):Int)==0&&(1:Int)==1&&(HT.aF items.size items.size hi-HT.aF items.size 0 lo)==items.size)=true then _ else _) _ _ s;rw[if_pos (by rw[h0,h1];simp)];refine ak ?_;unfold Builtin.Tuple.tupleIsExact;refine ak (wpAny_typeOf ht.typeIs ?_);refine aH ?_;rw[if_pos (by decide)]
 first
  |exact ak (wpAny_rule (aH ⟨_,rfl,aH h⟩))
  |exact ak (wpAny_rule (ak (aH (aH ⟨_,rfl,aH h⟩))))
  |exact ak (ak (wpAny_rule (aH (aH ⟨_,rfl,aH h⟩))))
end
section
variable {X:Cx}{pins:List (Addr×Obj)}{σ:St}{H:Hp}{s:Shared}{A:Around}{E:Value→Shared→Prop}
def Ca(H:Hp)(ys:List V)(ps:List (Key×V)):Prop:=Paired (λ(v:V) (kv:Key×V)=>∃a,v=.ref a∧H a=some (.tup [kV kv.1,kv.2])) ys ps
theorem Ca.at{ys:List V}{ps:List (Key×V)}(h:Ca H ys ps):∀{i:Nat},i<ys.length→∃a kv,ys[i]?=some (.ref a)∧ps[i]?=some kv∧H a=some (.tup [kV kv.1,kv.2]):=by
 induction h with
 |nil=>intro i hi;exact absurd hi (Nat.not_lt_zero i)
 |@cons v kv ys ps hv t ih =>
  intro i hi;cases i with
  |zero=>obtain⟨a,rfl,ha⟩:=hv;exact⟨a,kv,rfl,rfl,ha⟩
  |succ i=>exact ih (by simpa using hi)
end
def xo(e C dx:Addr):Heap→Prop:=λh=>∃oe vs,h.get? e=some oe∧oe.cls=.ref C∧oe.dict=some dx∧oe.data=.fields vs
structure bA (H:Hp)(n:Nat)(fl:Value)(h:Heap)(e C dx:Addr):Prop where
 ge:n≤e
 un:H e=some (.ext (xo e C dx))
 at_:∃oe vs,h.get? e=some oe∧oe.cls=.ref C∧oe.dict=some dx∧oe.data=.fields vs∧1<vs.size ∧
  ((vs[1]?=some .none∧fl=.none)∨∃T oT ts,vs[1]?=some (.ref T)∧n≤T∧H T=none∧T≠e∧h.get? T=some oT∧oT.data=.fields ts∧ts[3]?=some fl)
structure Kx (H:Hp)(n:Nat)(e:Addr)(fs:List Addr)(h h':Heap):Prop where
 keep:∀b o,h.get? b=some o→(b<n∨H b≠none)→b≠e→b∉fs→h'.get? b=some o
 slot:∀b o,h.get? b=some o→b∈fs→∃sl,h'.get? b=some { o with slots:=sl }
theorem Kx.trans{H:Hp}{n:Nat}{e:Addr}{fs:List Addr}{h h1 h2:Heap}(a:Kx H n e fs h h1)(b:Kx H n e fs h1 h2):Kx H n e fs h h2 :=
 ⟨λc o q z y m=>b.keep c o (a.keep c o q z y m) z y m,λc o q m=>let ⟨_,e1⟩:=a.slot c o q m;let ⟨sl,e2⟩:=b.slot c _ e1 m;⟨sl,e2⟩⟩
section
variable {M:Model}{A:Around}{E:Value→Shared→Prop}{s:Shared}{H:Hp}{n:Nat}{e C dx L:Addr}{fl:Value}
theorem bA.land{fs:List Addr}{Q:Unit→Shared→Prop}(F:bA H n fl s.heap e C dx)(zo:∀b∈fs,∃o,s.heap.get? b=some o∧∀vs,o.data≠.fields vs)
  (k:∀h',bA H n .none h' e C dx→Kx H n e fs s.heap h'→Q () { s with heap:=h' }):wpAny M A (setFlight (.ref e) none) Q E s:=by
 obtain⟨ge,un,oe,vs,he,hc,hd,hv,hz,r⟩:=F;rcases r with⟨h1,rfl⟩|⟨T,oT,ts,h1,hn,hu,gP,hT,eW,h3⟩
 ·unfold setFlight;refine ak (jz he hv h1 ?_);rw[if_neg (by decide)];exact aH (k s.heap ⟨ge,un,oe,vs,he,hc,hd,hv,hz,.inl ⟨h1,rfl⟩⟩ ⟨λ_ _ q _ _ _=>q,λ_ o q _=>⟨o.slots,q⟩⟩)
 ·have z3:3<ts.size:=(yJ.mp h3).1;refine wpAny_setFlight_none he hv h1 hT eW z3 (k _ ⟨ge,un,oe,vs,(Heap.get?_update_other _ _ gP).trans he,hc,hd,hv,hz,.inr ⟨T,_,_,h1,hn,hu,gP,qf _ hT (Obj.isFreed_of_fields (qh eW _)),qh eW _,by simp[z3]⟩⟩ ?_);refine⟨λb o q z _ _=>(Heap.get?_update_other _ _ λy=>?_).trans q,λb o q m=>⟨o.slots,(Heap.get?_update_other _ _ λy=>?_).trans q⟩⟩
  ·subst y;rcases z with z|z
   ·exact absurd z (Nat.not_lt.mpr hn)
   ·exact z hu
  ·subst y;obtain⟨o',q',nf⟩:=zo _ m;rw[hT]at q';cases q';exact nf ts eW
theorem bA.entry{base:Heap}{env:Env}{outer:List Env}{oe:Obj}{vs:Array Value}{head:Value}{nx:Bool}{Q:Unit→Shared→Prop}(n4:A.frames=some (env::outer))(hl:s.heap.FunFrames base (env::outer))(hf:env.frame=some L)
  (ge:n≤e) (un:H e=some (.ext (xo e C dx))) (he:s.heap.get? e=some oe) (hc:oe.cls=.ref C) (hd:oe.dict=some dx) (hv:oe.data=.fields vs) (hz:1<vs.size) (hn:n≤s.heap.objs.size) (hs:∀b,s.heap.objs.size≤b→H b=none)
  (k:∀h',bA H n (rawInt L) h' e C dx→Kx H n e (bT (env::outer)) s.heap h'→Q () { s with heap:=h' }) :
  wpAny M A (do let a ←frameOf env;let pl ←entryPlaceOf L nx;let b ←EntryCells.newEntry head a .none (rawInt L) .none pl;setField (.ref e) 1 b) Q E s:=by
 have Gw:e∉bT (env::outer):=λm=>by
  obtain⟨_,o,ho,nf⟩:=hl.mem m;rw[he]at ho;cases ho;exact nf vs hv
 refine ak (wpAny_frameOf_fun n4 hl hf λh1 ⟨z1,z2,z3⟩=>ak (wpAny_entryPlaceOf λpl fX=>?_));unfold EntryCells.newEntry newFields;refine ak (nK ?_ (fX.sizeOk5 _ _ _ _ _));generalize Gx:({ cls:=.type "traceback",dict:=none,data:=.fields ([head,.ref L,.none,rawInt L,.none]++(if pl.isEmpty then List.replicate 6 Value.none else pl)).toArray }:Obj)=tb;have e1:h1.get? e=some oe:=(z2 e Gw).trans he;have e2:=bQ tb e1;have ne:h1.objs.size≠e:=Nat.ne_of_gt (aV e1);have d3:=qh hv (·.setIfInBounds 1 (Value.ref h1.objs.size));refine wpAny_setField e2 hv hz (k _ ⟨ge,un,_,_,qf _ e2 (Obj.isFreed_of_fields d3),?_,?_,d3,by simpa using hz,.inr ⟨h1.objs.size,tb,_,by simp[hz],by rw[z1];exact hn,hs _ (by rw[z1];exact a7 _),ne,(Heap.get?_update_other _ _ ne.symm).trans (dX _ (by rw[←Gx];rfl)),by rw[←Gx],?_⟩⟩ ?_)
 ·rw[Obj.cls_mapFields];exact hc
 ·obtain⟨c,d,dt,sl⟩:=oe;subst hv;exact hd
 ·first | (simp;done) | (rcases fX with rfl|⟨_,_,_,_,_,_,_,rfl⟩<;>simp)
 ·have old:∀b o,b≠e→h1.get? b=some o→((h1.push tb).update e (Obj.mapFields (·.setIfInBounds 1 (Value.ref h1.objs.size)))).get? b=some o:=λb o hb q=>(Heap.get?_update_other _ _ (dq hb)).trans (bQ _ q);refine⟨λb o q z y m=>old b o y ((z2 b m).trans q),λb o q m=>?_⟩
  ·obtain⟨sl,r⟩:=z3 b o q;exact⟨sl,old b _ (λy=>Gw (y▸m)) r⟩
theorem bA.note{base:Heap}{env:Env}{outer:List Env}{Q:Unit→Shared→Prop}(F:bA H n .none s.heap e C dx)(n4:A.frames=some (env::outer))(hl:s.heap.FunFrames base (env::outer))(hf:env.frame=some L)(hn:n≤s.heap.objs.size)(hs:∀b,s.heap.objs.size≤b→H b=none)
  (k:∀h',bA H n (rawInt L) h' e C dx→Kx H n e (bT (env::outer)) s.heap h'→Q () { s with heap:=h' }):wpAny M A (noteFrame (.ref e) env) Q E s:=by
 obtain⟨ge,un,oe,vs,he,hc,hd,hv,hz,r⟩:=F;unfold noteFrame;simp only[hf];rcases r with⟨h1,_⟩|⟨T,oT,ts,h1,Gy,hu,gP,hT,eW,h3⟩
 ·refine ak (jz he hv h1 ?_);rw[if_neg (by decide)];exact bA.entry n4 hl hf ge un he hc hd hv hz hn hs k
 ·refine ak (jz he hv h1 ?_);rw[if_pos (show(Value.ref T != Value.none)=true from by simp)];refine ak (jz hT eW h3 ?_);rw[if_neg (show ¬((Value.none==rawInt L)=true)from by simp[rawInt])];refine ak (wpAny_setField hT eW (yJ.mp h3).1 ?_);have uD:∀b,b≠T→(s.heap.update T (Obj.mapFields (·.setIfInBounds 3 Value.none))).get? b=s.heap.get? b:=λb y=>Heap.get?_update_other _ _ (dq y);have nT:∀b o,s.heap.get? b=some o→(∀vs,o.data≠.fields vs)→b≠T:=λb o q nf y=>by
   subst y;rw[hT]at q;cases q;exact nf ts eW
  have sz:(s.heap.update T (Obj.mapFields (·.setIfInBounds 3 Value.none))).objs.size=s.heap.objs.size:=Heap.size_update ..;refine bA.entry (s:={ s with heap:=s.heap.update T (Obj.mapFields (·.setIfInBounds 3 Value.none)) }) n4 (hl.of_keeps λb o q nf=>⟨o,(uD b (nT b o q nf)).trans q,rfl⟩) hf ge un ((uD e (dq gP)).trans he) hc hd hv hz (by rw[sz];exact hn) (λb y=>hs b (by rw[←sz];exact y)) λh' F' K'=>k h' F' ?_;refine Kx.trans (h1:=s.heap.update T (Obj.mapFields (·.setIfInBounds 3 Value.none))) ⟨λb o q z _ _=>(uD b λy=>?_).trans q,λb o q m=>⟨o.slots,(uD b λy=>?_).trans q⟩⟩ K'
  ·subst y;rcases z with z|z
   ·exact absurd z (Nat.not_lt.mpr Gy)
   ·exact z hu
  ·obtain⟨_,o',q',nf⟩:=hl.mem m;exact nT b o' q' nf y
end
def cI(P:Program)(w:World):fG:=λouter H s E e s'=>∃e0 C dx H',e=.ref e0∧s'.os=s.os∧AllBare s'.gens∧Un (bT outer) [] H H' s.heap s'.heap∧bK P w H' s'.heap∧bA H' s.heap.objs.size .none s'.heap e0 C dx∧E (.ref e0) (some dx) H'
theorem bA.mono{H:Hp}{n n':Nat}{fl:Value}{h:Heap}{e C dx:Addr}(F:bA H n fl h e C dx)(z:n'≤n):bA H n' fl h e C dx:=by
 obtain⟨ge,un,oe,vs,he,hc,hd,hv,hz,r⟩:=F;refine⟨aQ z ge,un,oe,vs,he,hc,hd,hv,hz,?_⟩;rcases r with r|⟨T,oT,ts,h1,hn,r⟩
 ·exact .inl r
 ·exact .inr ⟨T,oT,ts,h1,aQ z hn,r⟩
theorem El{P:Program}{w:World}{H:Hp}{h:Heap}{e C dx:Addr}(x:xo e C dx h):cL P w H h e (.ext (xo e C dx)) :=
 ⟨x,let ⟨o,_,q,_⟩:=x;⟨o,q⟩,λ_ _ ⟨o,vs,q,r⟩ k=>⟨o,vs,k o q,r⟩⟩
theorem bA.xo{H:Hp}{n:Nat}{fl:Value}{h:Heap}{e C dx:Addr}(F:bA H n fl h e C dx):L2.xo e C dx h:=let ⟨oe,vs,he,hc,hd,hv,_⟩:=F.at_;⟨oe,vs,he,hc,hd,hv⟩
theorem bK.kx{P:Program}{w:World}{H:Hp}{n:Nat}{fl:Value}{e C dx:Addr}{fs:List Addr}{h h':Heap}(ok:bK P w H h)(k:Kx H n e fs h h')(F:bA H n fl h' e C dx)(hf:∀b∈fs,H b=none):bK P w H h':=λa o q=>by
 by_cases ea:a=e
 ·subst ea;rw[F.un]at q;cases q;exact El F.xo
 ·refine(ok a o q).jt (λb u z r=>?_) (λ_ z=>z) λ_ _ z=>z;have hb:H b≠none∧b≠e:=by
   rcases z with rfl|z
   ·exact⟨by rw[q];simp,ea⟩
   ·exact⟨by rw[z];simp,λy=>by subst y;rw[F.un]at z;cases z⟩
  exact k.keep b u r (.inr hb.1) hb.2 λm=>hb.1 (hf b m)
section
variable {P:Program}{w:World}{K:PySem.W.Frag}{mg:Str→Option Value}{base:Heap}{N:List Str}{qual:Str}{scope:Scope}{f:Addr}{cd:Value}{A:Around}{outer:List Env}{s0:Shared}{H0:Hp}{E:XK}
end
def n5(X:Cx)(pins:List (Addr×Obj))(n:Nat):Prop:=X.env.locals<n∧(∀x c,X.env.cells.lookup x=some c→c<n)∧∀p∈X.pn++pins,p.1<n
section
variable {X:Cx}{pins:List (Addr×Obj)}{σ:St}{H:Hp}{s:Shared}
theorem Inv.Gz(I:Inv X pins σ H s):n5 X pins s.heap.objs.size:=⟨I.lt,λx c e=>let ⟨_,_,ho,_⟩:=I.cell x c e;aV ho,λp hp=>aV (I.pin p hp).1⟩
end
noncomputable def jH:List Value:=[.type "ValueError",.type "Exception",.type "BaseException",.type "object"]
section
variable {P:Program}{w:World}{A:Around}{E:Value→Shared→Prop}{h:Heap}{g:Array GenState}{d:Drawn}{t:Nat}{os:OsState}{nm q:Str}{C N f:Addr}{bs bm:List Value}{gD:Bool}{sn:List Str}{sub:List Value}{ab:Bool}{col:Option Bool}{dd:Option Addr}
 {k0 k1 k2 k3 k5:Option Value}{mN:Str→Option Value}{us:List Value}{oI:Obj}
theorem call_exc {Q:Value→Shared→Prop} (hC:h.get? C=some (excClassObj nm q C N bs bm gD sn sub ab col dd k0 k1 k2 k3 k5 "ValueError.__new__")) (T:OwnTail h jH bm) (hn:h.Ns N mN) (hi:mN "__init__" = some (.ref f)) (hf:h.get? f=some oI) (zp:oI.cls=.type "function") (hz:us.length≤sizeLine)
  (hq:wpAny (model P w) (A.under (.builtin "type.__call__" ⟨.ref C::us,[]⟩)) (call (.ref f) (.ref (h.objs.size+1)::us)) (λr s'=>r=.none∧Q (.ref (h.objs.size+1)) s') E
   ⟨(h.push { cls:=.type "tuple",data:=.seq us.toArray }).push { cls:=.ref C,data:=.fields #[.ref h.objs.size,.none,.none,.none,.bool false,.none] },g,d,t,os⟩):wpAny (model P w) A (call (.ref C) us) Q E ⟨h,g,d,t,os⟩:=by
 have VB:=PySem.F.excBase_ValueError;have l1:=tc_lookup;have l2:=tc_bind (.ref C);have ty:(⟨h,g,d,t,os⟩:Shared).TypeIs (.ref C) "type" := ⟨_,hC,rfl⟩;refine wpAny_call (codeAny_of_tree ?_);show wpAny _ _ (callAny (.ref C) _) _ _ _
 repeat (any_goals (first|assumption|with_reducible refine wpAny_loadPart_at hC ?_|wp_step))
 refine⟨rfl,codeAny_call_builtin_at (Code.quiet_builtin _ (by decide +kernel)) entry_typeCall (wpAny_check_type_call_sub hC ?_)⟩
 repeat (first|with_reducible refine wpAny_loadPart_at hC ?_|with_reducible refine wpAny_madeBy_exc hC ?_|wp_step)
 refine codeAny_call_builtin_code (Code.quiet_builtin _ VB.quiet) (wpAny_check_new_subT VB T hC (codeAny_exc_new_subT VB T hC ?_ hz));show wpAny _ _ _ _ _ _;have k:∀b o,h.get? b=some o→((h.push { cls:=.type "tuple",data:=.seq us.toArray }).push { cls:=.ref C,data:=.fields #[.ref h.objs.size,.none,.none,.none,.bool false,.none] }).get? b=some o:=λb o y=>bQ _ (bQ _ y);have g2:((h.push { cls:=.type "tuple",data:=.seq us.toArray }).push { cls:=.ref C,data:=.fields #[.ref h.objs.size,.none,.none,.none,.bool false,.none] }).get? (h.objs.size+1)=some { cls:=.ref C,data:=.fields #[.ref h.objs.size,.none,.none,.none,.bool false,.none] }:=Heap.get?_push_at (by rw[Heap.size_push]) rfl;have GA:=k _ _ hC;have me:(Value.ref C::bm).contains (.ref C)=true:=by simp
 unfold isInstance
 repeat (first|with_reducible refine wpAny_loadPart_at g2 ?_ | (show wpAny _ _ (isSubtype (.ref C) (.ref C)) _ _ _;refine wpAny_isSubtype_exc GA ?_;rw[me])|wp_step)
 show wpAny _ _ (typeLookup (.ref C) _) _ _ _;refine wpAny_typeLookup_tail GA (hn.keeps k) (T.keeps k) VB.mroIs VB.init.lookup ?_;rw[hi];refine ik (ak ?_);unfold bindSpecial;refine ak (wpAny_typeOf (T := "function") ⟨_,k _ _ hf,zp⟩ ?_);rw[if_pos (by decide)];refine aH (ak (bP hq (λr s' hr=>?_) λ_ _ y=>y));obtain⟨rfl,z⟩:=hr
 wp_walk
 exact z
end
end L2
namespace L2
open PySem PySem.Spec PyProof.Rows
open PySem.Builtin PySem.Builtin.ObjectAttr
structure gQ (K:PySem.W.Frag)(C f:Addr)(ns:List Str):Prop where
 obj:∃(dd:Option Addr) (cd:ClassData) (k0 k1 k2 k3 k5:Option Value) (bm:List Value),K.lookup C=some ⟨.type "type",dd,.cls cd,#[k0,k1,k2,k3,some (.builtin "ValueError.__new__"),k5]⟩∧cd.mro=.ref C::bm∧cd.hasDel=false∧cd.hasDict=true∧PySem.W.tailIn K jH bm=true∧PySem.W.nsOkIn K cd.ns=true∧PySem.W.nsIn K cd.ns "__init__" = some (some (.ref f))
 fn:PySem.W.isFn K (.ref f)=true
 sa:PySem.W.findIn K (.ref C) "__setattr__" = some (some (.builtin "object.__setattr__"))
 nf:∀n∈ns,PySem.W.findIn K (.ref C) n=some none
section
variable {P:Program}{w:World}{A:Around}{E:Value→Shared→Prop}{K:PySem.W.Frag}{C f x:Addr}{ns:List Str}{s:Shared}{ox:Obj}{vs:Array Value}{name:Str}{v:Value}
theorem JX{h:Heap}{bm:List Value}(self:Value)(T:OwnTail h jH bm):refuseLoop self "__setattr__" bm=pure ():=by
 induction T with
 |base=>exact PySem.F.store_ValueError.passes self
 |own _ _ _ _ ih=>rw[refuseLoop_ref];exact ih
theorem Em{Q:Unit→Shared→Prop}(X:K.In s.heap)(c:gQ K C f ns)(hn:name∈ns)(hx:s.heap.get? x=some ox)(hc:ox.cls=.ref C)(hv:ox.data=.fields vs)
  (h:wpAny (model P w) A.in1 (storeInOwnDict (.ref x) (.ref C) (.str name s.toks) name v false) (λfin s'=>match fin with|.done (.ret _)=>Q () s'|_=>False) E { s with toks:=s.toks+1 }) :
  wpAny (model P w) A (setAttr (.ref x) name v) Q E s:=by
 obtain⟨dd,cd,k0,k1,k2,k3,k5,bm,lk,mro,_,_,tl,_,_⟩:=c.obj;have T:OwnTail s.heap jH bm:=PySem.W.tail_of_in X tl;have SF:=PySem.F.store_ValueError;have lU:PySem.W.clsIn K C=some cd:=by unfold PySem.W.clsIn;rw[lk]
 have ty:PySem.W.Looks (model P w) s.heap (typeOf (.ref x)) (.ref C):=hc▸(PySem.W.Looks.ld hx).andThen .now;have has:cd.mro.contains (.type "object")=true:=by rw[mro,List.contains_cons,T.hasType (b:=true) (by decide)];rfl
 have sub:PySem.W.Looks (model P w) s.heap (isInstance (.ref x) (.type "object")) true:=ty.andThen (PySem.W.looks_mroIn X (by unfold PySem.W.mroIn;rw[lU,ud,if_neg (by rw[mro];simp),has]));have hm:PySem.W.Looks (model P w) s.heap (mroOf (.ref C)) cd.mro:=(PySem.W.looks_clsIn X lU).andThen .now;refine ak (wpAny_mkText (ak (ak (ak (ty _ _ _ _ (λ_ _ e=>e) (PySem.W.looks_findIn X c.sa _ _ _ _ (λ_ _ e=>e) (ik ?_)))))));rw[SF.slot.bind];refine ak (aH (ak (wpAny_call ?_)));refine codeAny_call_builtin SF.slot.plain SF.entry (@PySem.W.check_slot (model P w) _ _ { s with toks:=s.toks+1 } "object.__setattr__" "object" "__setattr__" (.ref x) [.str name s.toks,v] [] _ SF.kind SF.split sub (SF.args (.ref x) (.str name s.toks) v) ?_);show wpAny _ _ (Builtin.«object.__setattr__» ⟨[.ref x,.str name s.toks,v],[]⟩) _ _ _;rw[PySem.W.osa_eq,refuse_eq];refine ak (ak (ty.here (s:={ s with toks:=s.toks+1 }) (ak (hm.here (s:={ s with toks:=s.toks+1 }) ?_))));rw[mro,refuseLoop_ref,JX _ T];refine aH (ak (ty.here (s:={ s with toks:=s.toks+1 }) (ak ((PySem.W.looks_findIn X (c.nf name hn)).here (s:={ s with toks:=s.toks+1 }) (ak (aH ?_))))));refine bP h (λfin s' z=>?_) λ_ _ z=>z;rcases fin with(v|_|_|_)|_<;>first|exact aH (aH z)|exact z.elim
end
def xi(e C t:Addr)(od:Option Addr):Heap→Prop:=λh=>∃oe,h.get? e=some oe∧oe.cls=.ref C∧oe.dict=od∧oe.data=.fields #[.ref t,.none,.none,.none,.bool false,.none]
def xd(dx:Addr)(fs:List (Str×V)):Heap→Prop:=λh=>∃mA,h.Ns1 dx mA∧(∀f,dR (fs.lookup f) (mA f))∧PySem.Within mA (fs.map (·.1))∧fs.length≤100
section
variable {P:Program}{w:World}{H:Hp}{h:Heap}
theorem En{e C t:Addr}{od:Option Addr}(x:xi e C t od h):cL P w H h e (.ext (xi e C t od)) :=
 ⟨x,let ⟨o,q,_⟩:=x;⟨o,q⟩,λ_ _ ⟨o,q,r⟩ k=>⟨o,k o q,r⟩⟩
theorem Eo{dx:Addr}{fs:List (Str×V)}(x:xd dx fs h):cL P w H h dx (.ext (xd dx fs)) :=
 ⟨x,let ⟨_,⟨o,_,_,q,_⟩,_⟩:=x;⟨o,q⟩,λ_ _ ⟨mA,n,r⟩ k=>⟨mA,n.at k,r⟩⟩
end
theorem vv{f g:Str}{v:V}:∀{fs:List (Str×V)},fs.lookup f=none→(fs++[(f,v)]).lookup g=if g=f then some v else fs.lookup g
  |[],_=>by
    by_cases e:g=f
    · subst e;simp[List.lookup]
    · rw[if_neg e];simp[List.lookup,beq_eq_false_iff_ne.mpr e]
  | (k,y)::fs,h=>by
    rw[eU]at h;have nk:f≠k:=λz=>by subst z;simp at h
    rw[beq_eq_false_iff_ne.mpr nk]at h;have ih:=vv (f:=f) (g:=g) (v:=v) (fs:=fs) (by simpa using h);rw[yK,eU,eU];by_cases e:g=k
    · subst e
      rw[if_neg (dq nk)];simp
    · simp only[beq_eq_false_iff_ne.mpr e];exact ih
section
variable {X:Cx}{pins:List (Addr×Obj)}{σ:St}{H:Hp}{s:Shared}{x C t f:Addr}{ns:List Str}{name:Str}{y:V}{u:Value}{E:Value→Shared→Prop}{Q:Unit→Shared→Prop}{A:Around}
theorem SW(I:Inv X pins σ H s)(e:H x=some (.ext (xi x C t none)))(c:gQ X.K C f ns)(hn:name∈ns)(ry:RelV y u)
  (q:∀s' dx,H dx=none→dx≠x→Inv X pins σ (upd (upd H dx (.ext (xd dx [(name,y)]))) x (.ext (xi x C t (some dx)))) s'→Q () s'):wpAny (model X.prog X.w) A (setAttr (.ref x) name u) Q E s:=by
 obtain⟨⟨oe,he,hc,hd,hv⟩,_⟩:=I.ay x _ e;have fr:H s.heap.objs.size=none:=I.ay.fresh (a7 _);have nx:s.heap.objs.size≠x:=Nat.ne_of_gt (aV he);obtain⟨_,cd,_,_,_,_,_,_,lk,_,_,hD,_⟩:=c.obj;have uE:PySem.W.clsIn X.K C=some cd:=by unfold PySem.W.clsIn;rw[lk]
 refine Em I.bz c hn he hc hv ?_;obtain⟨oc,od,dt,sl⟩:=oe;subst hc hd hv;refine ak (aH (ak (ak (wpAny_loadPart (s:={ s with toks:=s.toks+1 }) he (ak ((PySem.W.looks_clsIn I.bz uE).here (s:={ s with toks:=s.toks+1 }) ?_))))));rw[hD];refine ak (wpAny_alloc (s:={ s with toks:=s.toks+1 }) (ak (wpAny_update (s:={ s with toks:=s.toks+1,heap:=s.heap.push { cls:=.type "dict",data:=.dict #[] } }) (bQ _ he) (aH ?_))));generalize hh:((s.heap.push { cls:=.type "dict",data:=.dict #[] }).update x λo=>{ cls:=o.cls,dict:=some s.heap.objs.size,data:=o.data,slots:=o.slots })=h1;have g1:h1.get? s.heap.objs.size=some { cls:=.type "dict",data:=.dict #[] }:=by rw[←hh];exact(Heap.get?_update_other _ _ (dq nx)).trans (dX _ rfl)
 have g2:h1.get? x=some ⟨.ref C,some s.heap.objs.size,.fields #[.ref t,.none,.none,.none,.bool false,.none],sl⟩:=by rw[←hh];exact qf _ (bQ _ he) rfl
 have k1:∀b o,b≠x→s.heap.get? b=some o→h1.get? b=some o:=λb o z r=>by rw[←hh];exact(Heap.get?_update_other _ _ (dq z)).trans (bQ _ r)
 have n1:h1.Ns s.heap.objs.size (λ_=>none):=⟨_,#[],_,g1,rfl,λe he=>absurd he (by simp),λ_=>rfl⟩;refine ak (aH (ak (wpAny_nsSet1 (s:={ s with toks:=s.toks+1,heap:=h1 }) (Heap.Ns1.of_empty n1) λh2 n2 sb=>?_)));obtain⟨oD,Vo,Vp,n6,uF,iB⟩:=n2.count (PySem.Within.cons name u PySem.Within.nil);refine ak (wpAny_lookBehind n6 (by rw[uF];exact pastItsLine_dict (aQ iB (by simp[sizeLine_eq]))) (aH ?_));refine q _ s.heap.objs.size fr nx ?_;have I1:=I.laid (a:=s.heap.objs.size) (o:=.ext (xd s.heap.objs.size [(name,y)])) (h':=(s.heap.push oD)) (t':=s.toks) (λb o r=>bQ _ r) (a7 _) ?_;refine I1.write (x:=x) (e:=x) (t':=s.toks+1+1) (h':=h2) (by rw[aK (dq nx),e];exact True.intro) (.inl rfl) (λb o z r=>?_) ⟨_,(sb.2 x (dq nx)).trans g2⟩ (En ⟨_,(sb.2 x (dq nx)).trans g2,rfl,rfl,rfl⟩)
 ·rcases Heap.get?_push_cases (show(s.heap.push oD).get? b=some o from r) with⟨rfl,rfl⟩|r
  ·exact n6
  ·exact(sb.2 b (cO (aV r))).trans (k1 b o z r)
 ·refine Eo ⟨_,n2.at λo r=>?_,λg=>?_,λg hg=>?_,by simp⟩
  ·rw[n6]at r;cases r;exact dX _ (by obtain⟨a1,a2,a3,a4⟩:=oD;cases uF;rfl)
  ·show dR (List.lookup g [(name,y)]) (if g=name then some u else none);by_cases z:g=name
   ·subst z;simp[List.lookup,dR];exact ry
   ·rw[if_neg z];simp[List.lookup,beq_eq_false_iff_ne.mpr z,dR]
  ·by_cases z:g=name
   ·simp[z]
   ·exact absurd (if_neg z) hg
theorem SX{dx:Addr}{fs:List (Str×V)}(I:Inv X pins σ H s)(e:H x=some (.ext (xi x C t (some dx))))(e2:H dx=some (.ext (xd dx fs)))(nx:dx≠x)(hl:fs.length<100)(c:gQ X.K C f ns)(hn:name∈ns)(hf:fs.lookup name=none)(ry:RelV y u)
  (q:∀s',Inv X pins σ (upd H dx (.ext (xd dx (fs++[(name,y)])))) s'→Q () s'):wpAny (model X.prog X.w) A (setAttr (.ref x) name u) Q E s:=by
 obtain⟨⟨oe,he,hc,hd,hv⟩,_⟩:=I.ay x _ e;obtain⟨⟨mA,n1,rl,wi,_⟩,_⟩:=I.ay dx _ e2;obtain⟨_,cd,_,_,_,_,_,_,lk,_,_,hD,_⟩:=c.obj;have uE:PySem.W.clsIn X.K C=some cd:=by unfold PySem.W.clsIn;rw[lk]
 refine Em I.bz c hn he hc hv ?_;obtain⟨oc,od,dt,sl⟩:=oe;subst hc hd hv;refine ak (aH (ak (ak (wpAny_loadPart (s:={ s with toks:=s.toks+1 }) he (ak ((PySem.W.looks_clsIn I.bz uE).here (s:={ s with toks:=s.toks+1 }) ?_))))));rw[hD];refine aH (a:=some dx) (ak (aH (ak ?_)));refine wpAny_nsSet1 (s:={ s with toks:=s.toks+1 }) n1 λh' n2 sb=>?_;obtain⟨oD,Vo,Vp,n6,uF,iB⟩:=n2.count (PySem.Within.cons name u wi);refine ak (wpAny_lookBehind n6 (by rw[uF];exact pastItsLine_dict (aQ iB (by rw[b7,iq,qc];omega))) (aH (q _ ?_)));refine I.write (x:=dx) (e:=dx) (t':=s.toks+1+1) (h':=h') (by rw[e2];exact True.intro) (.inl rfl) (λb o z r=>(sb.2 b z).trans r) ⟨_,n6⟩ (Eo ⟨_,n2,λg=>?_,λg hg=>?_,by rw[bN];exact hl⟩)
 ·show dR ((fs++[(name,y)]).lookup g) (if g=name then some u else mA g);rw[vv hf];by_cases z:g=name
  ·rw[if_pos z,if_pos z];exact ry
  ·rw[if_neg z,if_neg z];exact rl g
 ·by_cases z:g=name
  ·simp[z]
  ·rw[kl];exact yz _ (wi g λr=>hg ((if_neg z).trans r))
end
end L2
namespace L2
open PySem PySem.Spec PyProof.Rows
noncomputable def wC(st:Stmt):Option Str:=match st with
 |.Assign [.Attribute (.Name z _) m _] (.Name v _) _=>if z == "self" && m==v then some m else none
 |_=>none
theorem A5{st:Stmt}{m:Str}(h:wC st=some m):∃pz pa pv pos,st=.Assign [.Attribute (.Name ("self" : Str) pz) m pa] (.Name m pv) pos:=by
 unfold wC at h;split at h
 ·split at h
  ·rename_i q;simp only[Bool.and_eq_true,beq_iff_eq]at q;obtain⟨rfl,rfl⟩:=q;cases h;exact⟨_,_,_,_,rfl⟩
  ·cases h
 ·cases h
def pU:List Str→List Stmt→Bool
 |[],[]=>true
 |n::ns,st::r=>wC st==some n&&pU ns r
 |_,_=>false
section
variable {X:Cx}{C t f:Addr}{ns:List Str}{x:Addr}
noncomputable def okN(n:Str):Bool:=!(n==("__debug__" : Str))&&!(n==("__classdict__" : Str))
theorem Dl{n:Str}(h:okN n=true):(n==("__debug__" : Str))=false∧(n==("__classdict__" : Str))=false:=by simpa[okN,Bool.and_eq_true]using h
theorem Cb{v n:Str}{p q:Pos}{o:Expr}{l:Nat}{env:Env}:swapsWith (.Name v p) (some (.Attribute o n q)) l env=pure false:=rfl
theorem ML {dx:Addr} (c:gQ X.K C f ns) (h0:X.N[0]?=some ("self" : Str)) (j7:∀n∈X.N,nS X.env.scope n) (ms:List Str):∀(body:List Stmt) (k:Nat) (fs:List (Str×V)) (ws:List V) (pins:List (Addr×Obj)) (σ:St) (H:Hp) (D:Ends) (s:Shared),
  pU ms body=true→ms.Nodup→ws.length=ms.length→(∀m∈ms,m∈ns∧okN m=true∧fs.lookup m=none)→fs.length+ms.length≤100→(∀j m,ms[j]?=some m→X.N[k+j]?=some m)→(∀j v,ws[j]?=some v→σ[k+j]?=some (some v))→σ[0]?=some (some (.ref x)) →
  Inv X pins σ H s→H x=some (.ext (xi x C t (some dx)))→H dx=some (.ext (xd dx fs))→dx≠x→D.nx σ (upd H dx (.ext (xd dx (fs++ms.zip ws))))→wpAny (model X.prog X.w) X.A (execs body X.env) (SP X pins D) X.xe s:=by
 induction ms with
 |nil =>
  intro body k fs ws pins σ H D s hk _ hw _ _ _ _ _ I e1 e2 _ q;have ew:ws=[]:=List.length_eq_zero_iff.mp hw;subst ew;obtain _|⟨st,r⟩:=body
  ·refine nI ⟨σ,H,I,?_⟩;rw[List.zip_nil_left,ip,show upd H dx (.ext (xd dx fs))=H from by funext b;unfold upd;split<;>rename_i z<;>simp_all]at q;exact q
  ·cases hk
 |cons v ms ih =>
  intro body k fs ws pins σ H D s hk nd hw hm hl hN hσ FD I e1 e2 ne q;obtain _|⟨w,ws⟩:=ws
  ·simp at hw
  obtain _|⟨st,r⟩:=body
  ·cases hk
  obtain⟨k1,k2⟩:=Bool.and_eq_true_iff.mp hk;obtain⟨pz,pa,pv,pos,rfl⟩:=A5 (beq_iff_eq.mp k1);have hv:=hm v (.head _);have g0:X.N[k]?=some v:=hN 0 v rfl;have s0:σ[k]?=some (some w):=hσ 0 w rfl;have nm:=Dl hv.2.1;refine wpAny_execs_cons (plainObj_wpAny_Assign_Attribute (az (lb (i:=k) g0 (j7 _ (fE g0)) nm.1 nm.2 pins s σ H (λy H1=>y=w∧H1=H) I ⟨w,s0,rfl,rfl⟩) λu s1 ⟨y,H1,I1,ry,ey,eH⟩=>?_) Cb);subst ey eH;refine az (lb (i:=0) h0 (j7 _ (fE h0)) (by decide) (by decide) pins s1 σ H1 (λy H2=>y=.ref x∧H2=H1) I1 ⟨_,FD,rfl,rfl⟩) λov s2 ⟨y2,H2,I2,zq,ey,eH⟩=>?_;subst ey eH;obtain rfl:ov=Value.ref x:=zq;refine SX I2 e1 e2 ne (by rw[b7]at hl;omega) c hv.1 hv.2.2 ry λs3 I3=>?_;refine ih r (k+1) (fs++[(v,y)]) ws pins σ _ D s3 k2 (gH.mp nd).2 (by simpa using hw) (λa ha=>⟨(hm a (.tail _ ha)).1,(hm a (.tail _ ha)).2.1,?_⟩) (by rw[List.length_append,List.length_singleton];rw[b7]at hl;omega) (λj a ha=>by rw[show k+1+j=k+(j+1)from by omega];exact hN (j+1) a (by simpa using ha)) (λj a ha=>by rw[show k+1+j=k+(j+1)from by omega];exact hσ (j+1) a (by simpa using ha)) FD I3 (by rw[aK (Ne.symm ne)];exact e1) bD ne ?_
  ·rw[vv hv.2.2,if_neg (λz:a=v=>(gH.mp nd).1 (z▸ha))];exact(hm a (.tail _ ha)).2.2
  ·rw[BP,List.append_assoc];exact q
def FE(C:Addr)(ns:List Str):TS:=λD σ H=>∃x t ws,σ=some (.ref x)::ws.map some∧ws.length=ns.length∧H x=some (.ext (xi x C t none))∧∀dx,H dx=none→dx≠x→D.nx σ (upd (upd H dx (.ext (xd dx (ns.zip ws)))) x (.ext (xi x C t (some dx))))
theorem N9 {body:List Stmt} (c:gQ X.K C f ns) (hk:pU ns body=true) (nd:ns.Nodup) (h1:0<ns.length) (hl:ns.length≤100) (hN:X.N=("self" : Str)::ns) (ho:∀n∈ns,okN n=true) (j7:∀n∈X.N,nS X.env.scope n):cR X body (FE C ns):=by
 intro pins s σ H D I ⟨x,t,ws,eσ,hw,e,q⟩;subst eσ;obtain _|⟨v,ms⟩:=ns
 ·simp at h1
 obtain _|⟨w,ws⟩:=ws
 ·simp at hw
 obtain _|⟨st,r⟩:=body
 ·cases hk
 ·obtain⟨k1,k2⟩:=Bool.and_eq_true_iff.mp hk;obtain⟨pz,pa,pv,pos,rfl⟩:=A5 (beq_iff_eq.mp k1);have g0:X.N[1]?=some v:=by rw[hN];rfl
  have h0:X.N[0]?=some ("self" : Str):=by rw[hN];rfl
  have nm:=Dl (ho v (.head _));refine wpAny_execs_cons (plainObj_wpAny_Assign_Attribute (az (lb (i:=1) g0 (j7 _ (fE g0)) nm.1 nm.2 pins s _ H (λy H1=>y=w∧H1=H) I ⟨w,rfl,rfl,rfl⟩) λu s1 ⟨y,H1,I1,ry,ey,eH⟩=>?_) Cb);subst ey eH;refine az (lb (i:=0) h0 (j7 _ (fE h0)) (by decide) (by decide) pins s1 _ H1 (λy H2=>y=.ref x∧H2=H1) I1 ⟨_,rfl,rfl,rfl⟩) λov s2 ⟨y2,H2,I2,zq,ey,eH⟩=>?_;subst ey eH;obtain rfl:ov=Value.ref x:=zq;refine SW I2 e c (.head _) ry λs3 dx fr ne I3=>?_;refine ML c h0 j7 ms r 2 [(v,y)] ws pins _ _ D s3 k2 (gH.mp nd).2 (by simpa using hw) (λa ha=>⟨.tail _ ha,ho a (.tail _ ha),?_⟩) (by rw[List.length_cons]at hl;simp;omega) (λj a ha=>by rw[hN,show 2+j=(j+1)+1 from by omega];simpa using ha) (λj a ha=>by rw[show 2+j=(j+1)+1 from by omega];simp[ha]) rfl I3 bD (by rw[aK ne,bD]) ne ?_
  ·have:a≠v:=λz=>(gH.mp nd).1 (z▸ha);simp[List.lookup,beq_eq_false_iff_ne.mpr this]
  ·have z:=q dx fr ne;rw[List.zip_cons_cons]at z;rw[show upd (upd (upd H2 dx (.ext (xd dx [(v,y)]))) x (.ext (xi x C t (some dx)))) dx (.ext (xd dx ([(v,y)]++ms.zip ws)))=upd (upd H2 dx (.ext (xd dx ((v,y)::ms.zip ws)))) x (.ext (xi x C t (some dx)))from ?_]
   ·exact z
   ·funext b;unfold upd;by_cases hb:b=dx
    ·rw[if_pos hb,if_neg (hb▸ne),if_pos hb];rfl
    ·rw[if_neg hb,if_neg hb,if_neg hb]
end
section
variable {X:Cx}{CX:fG}{k:Nat}{f C:Addr}{fd:FuncData}{ns:List Str}
def uG(C:Addr)(ns:List Str):Sp:=λvs H Q _=>∃x t ws,vs=.ref x::ws∧ws.length=ns.length∧H x=some (.ext (xi x C t none))∧∀dx,H dx=none→dx≠x→Q .non (upd (upd H dx (.ext (xd dx (ns.zip ws)))) x (.ext (xi x C t (some dx))))
theorem gQ.at{K:PySem.W.Frag}{h:Heap}(c:gQ K C f ns)(X:K.In h):∃(nm q:Str) (N:Addr) (bs bm:List Value) (gD:Bool) (sn:List Str) (sub:List Value) (ab:Bool) (col:Option Bool) (dd:Option Addr) (k0 k1 k2 k3 k5:Option Value) (mN:Str→Option Value) (oI:Obj),
  h.get? C=some (excClassObj nm q C N bs bm gD sn sub ab col dd k0 k1 k2 k3 k5 "ValueError.__new__")∧OwnTail h jH bm∧h.Ns N mN∧mN "__init__" = some (.ref f)∧h.get? f=some oI∧oI.cls=.type "function" := by
 obtain⟨dd,cd,k0,k1,k2,k3,k5,bm,lk,mro,FG,_,tl,ay,hi⟩:=c.obj;obtain⟨nm,bs,mr,N,q,hd,sn,sub,ab,col,del⟩:=cd;dsimp only at mro FG ay hi;subst mro FG;have hN:h.Ns N (h.nsMap N):=.of_isNs (PySem.W.isNs_of_in X ay);have ty:=beq_iff_eq.mp c.fn;obtain⟨oI,l1,l2⟩:∃oI,K.lookup f=some oI∧oI.cls=.type "function" := by
  have ty:Option.map (λx:Obj=>x.cls) (List.lookup f K)=some (.type "function"):=ty;cases e:List.lookup f K with
  |none=>rw[e]at ty;cases ty
  |some o=>rw[e]at ty;exact⟨o,rfl,by simpa using ty⟩
 refine⟨nm,q,N,bs,bm,hd,sn,sub,ab,col,dd,k0,k1,k2,k3,k5,_,oI,X _ _ lk,PySem.W.tail_of_in X tl,hN,?_,X _ _ l1,l2⟩;obtain⟨o,es,ep,ho,Vq,_,hf⟩:=hN;unfold PySem.W.nsIn at hi;split at hi
 ·rename_i q;have:=X _ _ q;rw[ho]at this;cases this;cases Vq;split at hi
  ·rename_i en he;rw[←hf];unfold nsFind findBy;rw[←Array.find?_toList,he];exact eR hi
  ·split at hi<;>cases hi
 ·cases hi
theorem Oa {pins:List (Addr×Obj)}{σ:St}{H:Hp}{s:Shared}{us:List Value}{vs:List V}{Q:Value→Shared→Prop} (c:gQ X.K C f ns) (F:fQ X.prog X.w X.K X.mg X.base CX k f fd (("self" : Str)::ns) (uG C ns)) (hr:bS (k+1) X.A) (hb:Binds X.K fd (("self" : Str)::ns) [])
  (hx:Passes CX X E0) (I:Inv X pins σ H s) (r:Vals vs us) (hl:vs.length=ns.length) (hz:ns.length≤100)
  (h:∀e t dx s',s.heap.objs.size≤e→H e=none→H dx=none→dx≠e→Inv X pins σ (upd (upd H dx (.ext (xd dx (ns.zip vs)))) e (.ext (xi e C t (some dx)))) s'→Q (.ref e) s'):wpAny (model X.prog X.w) X.A (call (.ref C) us) Q X.xe s:=by
 obtain⟨nm,q,N,bs,bm,gD,sn,sub,ab,col,dd,k0,k1,k2,k3,k5,mN,oI,hC,T,hN,hi,hf,zp⟩:=c.at I.bz;have lu:us.length=ns.length:=by rw[←r.length];exact hl
 obtain⟨hh,g,d,tk,os⟩:=s;refine call_exc hC T hN hi hf zp (by rw[lu];exact aQ hz (by rw[qc];decide)) ?_;have g2:((hh.push { cls:=.type "tuple",data:=.seq us.toArray }).push { cls:=.ref C,data:=.fields #[.ref hh.objs.size,.none,.none,.none,.bool false,.none] }).get? (hh.objs.size+1)=some { cls:=.ref C,data:=.fields #[.ref hh.objs.size,.none,.none,.none,.bool false,.none] }:=Heap.get?_push_at (by rw[Heap.size_push]) rfl;have fr:H (hh.objs.size+1)=none:=I.ay.fresh (Nat.le_succ _);have I2:Inv X pins σ (upd H (hh.objs.size+1) (.ext (xi (hh.objs.size+1) C hh.objs.size none))) ⟨(hh.push { cls:=.type "tuple",data:=.seq us.toArray }).push { cls:=.ref C,data:=.fields #[.ref hh.objs.size,.none,.none,.none,.bool false,.none] },g,d,tk,os⟩ :=
  I.laid (t':=tk) (λb o y=>bQ _ (bQ _ y)) (Nat.le_succ _) (En ⟨_,g2,rfl,rfl,rfl⟩)
 have hq:uG C ns (.ref (hh.objs.size+1)::vs) (upd H (hh.objs.size+1) (.ext (xi (hh.objs.size+1) C hh.objs.size none))) (λv H2=>v=.non∧∃dx,H dx=none∧dx≠hh.objs.size+1∧H2=upd (upd H dx (.ext (xd dx (ns.zip vs)))) (hh.objs.size+1) (.ext (xi (hh.objs.size+1) C hh.objs.size (some dx)))) E0:=by
  refine⟨_,_,vs,rfl,hl,bD,λdx e1 ne=>⟨rfl,dx,by rw[aK ne]at e1;exact e1,ne,?_⟩⟩;funext b;unfold upd;by_cases hb:b=hh.objs.size+1
  ·rw[if_pos hb,if_pos hb]
  ·rw[if_neg hb,if_neg hb,if_neg hb]
 refine wpAny_call (codeAny_mono (F.run _ X.stack _ _ ⟨Value.ref (hh.objs.size+1)::us,[]⟩ (Value.ref (hh.objs.size+1)::us) (.ref (hh.objs.size+1)::vs) _ E0 (hr.make C us []) (I2.xW.make C us []) (by have:=hb _ (Value.ref (hh.objs.size+1)::us) I2.bz (by simp[lu]);rwa [ip]at this) (.cons rfl r) hq) λr s' qw=>?_);cases r with
 |error e=>exact hx pins σ _ _ e s' I2 qw
 |ok fl =>
  cases fl with
  |ret u =>
   obtain⟨v,H',I3,rv,ev,dx,e1,ne,eH⟩:=I2.after qw;subst ev eH;exact⟨rv,h _ _ dx s' (Nat.le_succ _) fr e1 ne I3⟩
  |next=>exact False.elim qw
  |brk=>exact False.elim qw
  |cont=>exact False.elim qw
end
section
variable {M:Model}{A:Around}{E:Value→Shared→Prop}{env:Env}{nm q:Str}{C N:Addr}{bs bm:List Value}{gD:Bool}{sn:List Str}{sub:List Value}{ab:Bool}{col:Option Bool}{dd:Option Addr}{k0 k1 k2 k3 k5:Option Value}
theorem Ob{s:Shared}{t:Sem Value}{Q:Flow→Shared→Prop}(hh:A.handled=none)
  (h:wpAny M A t (λv s₁=>∃e dx t sl,v=.ref e∧(∃(nm q:Str) (N:Addr) (bs bm:List Value) (gD:Bool) (sn:List Str) (sub:List Value) (ab:Bool) (col:Option Bool) (dd:Option Addr) (k0 k1 k2 k3 k5:Option Value),s₁.heap.get? C=some (excClassObj nm q C N bs bm gD sn sub ab col dd k0 k1 k2 k3 k5 "ValueError.__new__")∧OwnTail s₁.heap jH bm) ∧
   s₁.heap.get? e=some ⟨.ref C,some dx,.fields #[.ref t,.none,.none,.none,.bool false,.none],sl⟩∧E (.ref e) s₁) E s):wpAny M A (raiseStmt env (some t) none) Q E s:=by
 unfold raiseStmt;refine ak (bP h (λv s₁ h₁=>?_) λ_ _ x=>x);obtain⟨e,dx,t,sl,rfl,⟨nm,q,N,bs,bm,gD,sn,sub,ab,col,dd,k0,k1,k2,k3,k5,hC,T⟩,he,hE⟩:=h₁;have Vr:(Value.ref C::bm).contains (.type "BaseException")=true:=by rw[List.contains_cons,T.hasType (b:=true) (by decide),Bool.or_true]
 obtain⟨hp,g,d,tk,os⟩:=s₁
 repeat (first|with_reducible refine wpAny_loadPart_at he ?_|with_reducible refine wpAny_loadPart_at hC ?_ | (with_reducible refine wpAny_isSubtype_exc hC ?_;rw[Vr])|wp_step)
 exact wpAny_raiseNew_none hh hE
end
section
variable {X:Cx}{CX:fG}{k:Nat}{f C:Addr}{fd:FuncData}{ns:List Str}{x:Str}{np bV pos:Pos}{e:Expr}{es:List Expr}{t:TA}{Z:XK}
def zr(C:Addr)(ns:List Str)(Z:XK)(t:TA):TS:=λ_ σ H=>t σ H λvs H1=>vs.length=ns.length∧∀e dx,H1 e=none→H1 dx=none→dx≠e→Z (.ref e) (some dx) (upd (upd H1 dx (.ext (xd dx (ns.zip vs)))) e (.ext (xo e C dx)))
def Lv(X:Cx)(Z:XK):Prop:=∀(pins:List (Addr×Obj)) (σ:St) (H:Hp) (s:Shared) (n:Nat) (e C dx:Addr),Inv X pins σ H s→bA H n .none s.heap e C dx→X.s₀.heap.objs.size≤n→n5 X pins n→Z (.ref e) (some dx) H→X.xe (.ref e) s
theorem MP (c:gQ X.K C f ns) (F:fQ X.prog X.w X.K X.mg X.base CX k f fd (("self" : Str)::ns) (uG C ns)) (hr:bS (k+1) X.A) (hb:Binds X.K fd (("self" : Str)::ns) []) (hx:Passes CX X E0) (hz:ns.length≤100)
  (hg:Gl X x) (hm:X.mg x=some (.ref C)) (hk:PySem.W.keepIn X.K (.ref C)=true) (ha:PA X (e::es) t) (lv:Lv X Z) (eV:(x==("__debug__" : Str))=false:=by decide)
  (he:starEach (e::es) X.env=(false,eval e X.env)::starEach es X.env:=by rfl) (fX:(backTo bV (starEach es X.env)).any (·.1)=false:=by rfl) :
  PS X (.Raise (some (.Call (.Name x np) (e::es) [] bV)) none pos) (zr C ns Z t):=by
 intro pins s σ H D I h;rw[arm_exec_Raise];simp only[evalOpt,Option.map];refine ak (lO (Ob (C:=C) hr.hd (ak ?_)));refine bP (Q:=λv s₃=>∃e dx t sl,v=.ref e∧(∃(nm q:Str) (N:Addr) (bs bm:List Value) (gD:Bool) (sn:List Str) (sub:List Value) (ab:Bool) (col:Option Bool) (dd:Option Addr) (k0 k1 k2 k3 k5:Option Value),s₃.heap.get? C=some (excClassObj nm q C N bs bm gD sn sub ab col dd k0 k1 k2 k3 k5 "ValueError.__new__")∧OwnTail s₃.heap jH bm) ∧
   s₃.heap.get? e=some ⟨.ref C,some dx,.fields #[.ref t,.none,.none,.none,.bool false,.none],sl⟩∧X.xe (.ref e) s₃) ?_ (λv s₃ h₃=>ak (lO (aH h₃))) λ_ _ y=>y
 refine qd (oS I hg hm ?_ eV);refine PySem.W.callWith_K (h₀:=X.base) I.ok.mod.qj hk (az (ha bV pins s σ H _ I h) λus s1 ⟨vs,H1,I1,r,hl,q⟩=>⟨I1.bz,?_⟩) he fX;refine Oa c F hr hb hx I1 r hl hz λe t dx s2 ge e1 e2 ne I2=>?_;obtain⟨⟨oe,ho,hc,hd,hv⟩,_⟩:=I2.ay e _ bD;obtain⟨nm,q',N,bs,bm,gD,sn,sub,ab,col,dd,k0,k1,k2,k3,k5,mN,oI,hC,T,_⟩:=c.at I2.bz;obtain⟨oc,od,dt,sl⟩:=oe;subst hc hd hv;refine⟨e,dx,t,sl,rfl,⟨nm,q',N,bs,bm,gD,sn,sub,ab,col,dd,k0,k1,k2,k3,k5,hC,T⟩,ho,?_⟩;have I3:Inv X pins σ (upd (upd H1 dx (.ext (xd dx (ns.zip vs)))) e (.ext (xo e C dx))) s2:=by
  have:=I2.write (x:=e) (e:=e) (o:=.ext (xo e C dx)) (h':=s2.heap) (t':=s2.toks) (by rw[bD];exact True.intro) (.inl rfl) (λb o _ r=>r) ⟨_,ho⟩ (El ⟨_,_,ho,rfl,rfl,rfl⟩);rwa [BP]at this
 exact lv pins σ _ s2 s1.heap.objs.size e C dx I3 ⟨ge,bD,_,_,ho,rfl,rfl,rfl,(show 1<6 by decide),.inl ⟨rfl,rfl⟩⟩ I1.sz I1.Gz (q e dx e1 e2 ne)
end
def XF(X:Cx)(pins:List (Addr×Obj))(Z:St→XK):Value→Shared→Prop:=λu s'=>∃σ H n e C dx fl,u=.ref e∧Inv X pins σ H s'∧X.s₀.heap.objs.size≤n∧n≤s'.heap.objs.size∧n5 X pins n∧bA H n fl s'.heap e C dx∧(fl=.none∨fl=rawInt X.env.locals)∧Z σ (.ref e) (some dx) H
def XD(X:Cx)(Z:XK):Value→Shared→Prop:=λu s'=>∃pins,XF X pins (λ_=>Z) u s'
section
variable {X:Cx}{pins:List (Addr×Obj)}{σ:St}{H:Hp}{s:Shared}
theorem Inv.kx{n:Nat}{fl:Value}{e C dx:Addr}{h':Heap}(I:Inv X pins σ H s)(bl:n5 X pins n)(hn:X.s₀.heap.objs.size≤n)(k:Kx H n e (bT X.stack) s.heap h')(F:bA H n fl h' e C dx):Inv X pins σ H { s with heap:=h' }:=by
 have ne:∀b,H b=none→b≠e:=λb z y=>by rw[y,F.un]at z;cases z
 have sub:∀b∈X.fs,b∈bT X.stack:=λb hb=>by
  rcases I.ok.nV with e|⟨e,hf⟩
  ·rw[e];exact hb
  ·rw[e];unfold bT;rw[tW,hf];exact b6 _ hb
 refine I.step (g':=s.gens) (d':=s.drawn) (t':=s.toks) (ch:=(List.range s.heap.objs.size).filter λb=>decide (n≤b)&&(H b).isNone) (λb hb=>?_) (λb o h1 h2 h3 h4 h5=>?_) (λb o _ h2 _ h4 h5=>k.slot b o h4 (sub b h2)) (λ_ _ _ _ z=>z) (λb o h1 h2=>?_) (λ_ _ z=>z) (λ_ _ _ z=>z) (λ_ ps z=>⟨#[],by rw[z];simp⟩) (λm hm=>?_) (I.ay.kx k F I.vR) I.bare
 ·obtain⟨_,hb⟩:=lM.mp hb;have hb:=aA (Bool.and_eq_true_iff.mp hb).1;exact⟨.inr (aQ hn hb),λz=>Nat.not_lt.mpr hb (z▸bl.1),λx c z y=>Nat.not_lt.mpr hb (y▸bl.2.1 x c z),λp hp z=>Nat.not_lt.mpr hb (z▸bl.2.2 p hp)⟩
 ·refine k.keep b o h4 (.inl (Classical.byContradiction λz=>h3 (lM.mpr ⟨lN.mpr (aV h4),?_⟩))) (ne b h5) λm=>?_
  ·rw[h5,bR (Nat.le_of_not_lt z)];rfl
  ·rcases cH.mp (I.rM b m)with z|z
   ·exact h1 z
   ·exact h2 z
 ·by_cases m:b∈bT X.stack
  ·obtain⟨sl,r⟩:=k.slot b o h2 m;exact⟨_,r⟩
  ·by_cases y:b=e
   ·obtain⟨oe,_,r,_⟩:=F.at_;exact⟨oe,y▸r⟩
   ·refine⟨o,k.keep b o h2 ?_ y m⟩;by_cases z:H b=none
    ·refine .inl (Classical.byContradiction λx=>h1 (lM.mpr ⟨lN.mpr (aV h2),?_⟩));rw[z,bR (Nat.le_of_not_lt x)];rfl
    ·exact .inr z
 ·obtain⟨o,es,ep,ho,r⟩:=hm;by_cases m':X.env.locals∈bT X.stack
  ·obtain⟨sl,q⟩:=k.slot _ o ho m';exact⟨_,es,ep,q,r⟩
  ·exact⟨o,es,ep,k.keep _ o ho (.inl bl.1) (ne _ I.free) m',r⟩
theorem bA.SY{M:Model}{A:Around}{E:Value→Shared→Prop}{n:Nat}{fl:Value}{e C dx L:Addr}{base:Heap}{env:Env}{outer:List Env}{Q:Unit→Shared→Prop}(F:bA H n fl s.heap e C dx)(iC:fl=.none∨fl=rawInt L)(n4:A.frames=some (env::outer))(hl:s.heap.FunFrames base (env::outer))(hf:env.frame=some L)(hn:n≤s.heap.objs.size)(hs:∀b,s.heap.objs.size≤b→H b=none)
  (k:∀h',bA H n (rawInt L) h' e C dx→Kx H n e (bT (env::outer)) s.heap h'→Q () { s with heap:=h' }):wpAny M A (noteFrame (.ref e) env) Q E s:=by
 rcases iC with rfl|rfl
 ·exact F.note n4 hl hf hn hs k
 ·obtain⟨ge,un,oe,vs,he,hc,hd,hv,hz,r⟩:=id F;rcases r with⟨h1,z⟩|⟨T,oT,ts,h1,Gy,hu,gP,hT,eW,h3⟩
  ·exact absurd z (by simp[rawInt])
  ·exact wpAny_noteFrame_inFlight hf he hv h1 hT eW h3 (k s.heap F ⟨λ_ _ q _ _ _=>q,λ_ o q _=>⟨o.slots,q⟩⟩)
end
theorem bA.sz{H:Hp}{n:Nat}{fl:Value}{h:Heap}{e C dx:Addr}(F:bA H n fl h e C dx):n≤h.objs.size:=let ⟨_,_,he,_⟩:=F.at_;aQ F.ge (Nat.le_of_lt (aV he))
section
variable {M:Model}{A:Around}{E:Value→Shared→Prop}{s:Shared}{H:Hp}{n:Nat}{e C dx L:Addr}{fl:Value}
set_option tactic.hygienic true in
theorem bA.mark{fs:List Addr}{Q:Unit→Shared→Prop}(F:bA H n (rawInt L) s.heap e C dx)(zo:∀b∈fs,∃o,s.heap.get? b=some o∧∀vs,o.data≠.fields vs)
   (k:∀h',bA H n (rawInt L) h' e C dx→Kx H n e fs s.heap h'→Q () { s with heap:=h' }):wpAny M A (do { if (←field (.ref e) 1)==.none then unsupported "frame.own-activation:exception-without-traceback";
 setFlight (.ref e) (some L) }) Q E s:=by
  obtain⟨ge,un,oe,vs,he,hc,hd,hv,hz,r⟩:=F;rcases r with⟨h1,z⟩|⟨T,oT,ts,h1,hn,hu,gP,hT,eW,h3⟩
  ·exact absurd z (by simp[rawInt])
  ·have z3:3<ts.size:=(yJ.mp h3).1;refine ak (jz he hv h1 ?_);rw[if_neg (show ¬((Value.ref T==Value.none)=true)from by simp)];unfold setFlight;refine ak (jz he hv h1 ?_);rw[if_pos (show(Value.ref T != Value.none)=true from by simp)];refine wpAny_setField hT eW z3 (k _ ⟨ge,un,oe,vs,(Heap.get?_update_other _ _ gP).trans he,hc,hd,hv,hz,.inr ⟨T,_,_,h1,hn,hu,gP,qf _ hT (Obj.isFreed_of_fields (qh eW _)),qh eW _,by simp[z3]⟩⟩ ?_);refine⟨λb o q z _ _=>(Heap.get?_update_other _ _ λy=>?_).trans q,λb o q m=>⟨o.slots,(Heap.get?_update_other _ _ λy=>?_).trans q⟩⟩
   ·subst y;rcases z with z|z
    ·exact absurd z (Nat.not_lt.mpr hn)
    ·exact z hu
   ·subst y;obtain⟨o',q',nf⟩:=zo _ m;rw[hT]at q';cases q';exact nf ts eW
end
section
variable {X:Cx}{Z:XK}{pins:List (Addr×Obj)}{σ:St}{H:Hp}{s:Shared}
theorem Inv.o6(I:Inv X pins σ H s):∀b∈bT X.stack,∃o,s.heap.get? b=some o∧∀vs,o.data≠.fields vs:=λ_ m=>(I.stack.mem m).2
theorem Inv.xq{Q:Unit→Shared→Prop}{E:Value→Shared→Prop}{n:Nat}{fl:Value}{e C dx:Addr}(I:Inv X pins σ H s)(dH:X.stack=X.env::X.outer∧X.env.frame=some X.env.locals)(F:bA H n fl s.heap e C dx)(iC:fl=.none∨fl=rawInt X.env.locals)(hn:X.s₀.heap.objs.size≤n)(zf:n≤s.heap.objs.size)(bl:n5 X pins n){A:Around}(hA:A.frames=X.A.frames)
  (q:∀h',Inv X pins σ H { s with heap:=h' }→bA H n (rawInt X.env.locals) h' e C dx→n≤h'.objs.size→Q () { s with heap:=h' }):wpAny (model X.prog X.w) A (noteFrame (.ref e) X.env) Q E s:=by
 have hl:=I.stack;rw[dH.1]at hl;refine F.SY iC (by rw[hA,I.ok.frames,dH.1]) hl dH.2 zf (λb z=>I.ay.fresh z) λh' F' K'=>q h' (I.kx bl hn (by rw[dH.1];exact K') F') F' F'.sz
set_option tactic.hygienic true in
theorem MQ(dH:X.stack=X.env::X.outer∧X.env.frame=some X.env.locals):PassesOwn (model X.prog X.w) X.A X.env (XD X Z):=λu s' ⟨pins,σ,H,n,e,C,dx,fl,hu,I,h1,h2,bl,F,iC,z⟩=>by
 subst hu;refine I.xq dH F iC h1 h2 bl rfl λh' I' F' n'=>?_;unfold cameBackBy;rw[dH.2];refine bA.mark (fs:=bT X.stack) (s:={ s' with heap:=h' }) F' I'.o6 λlX F2 K2=>⟨pins,σ,H,n,e,C,dx,_,rfl,I'.kx bl h1 K2 F2,h1,F2.sz,bl,F2,.inr rfl,z⟩
end
section
variable {P:Program}{w:World}{K:PySem.W.Frag}{mg:Str→Option Value}{base:Heap}{N:List Str}{qual:Str}{scope:Scope}{f:Addr}{cd:Value}{A:Around}{outer:List Env}{s0:Shared}{H0:Hp}{E:XK}
theorem MR{u:Value}{s:Shared}(h:XD (dC (cI P w) P w K mg base N qual scope f cd A outer s0 H0 E) E u s):(dC (cI P w) P w K mg base N qual scope f cd A outer s0 H0 E).xe u s:=by
 obtain⟨pins,σ,H,n,e,C,dx,fl,hu,I,h1,h2,bl,F,iC,z⟩:=h;subst hu;show wpAny _ _ (leaving _ _) _ _ _;unfold leaving;refine ak (I.xq ⟨rfl,rfl⟩ F iC h1 h2 bl rfl λh' I' F' n'=>?_);refine bA.land (fs:=bT (dC (cI P w) P w K mg base N qual scope f cd A outer s0 H0 E).stack) (s:={ s with heap:=h' }) F' I'.o6 λh3 F3 K3=>?_;have I3:=I'.kx bl h1 K3 F3;exact⟨e,C,dx,H,rfl,I3.os,I3.bare,I3.base,I3.ay,F3.mono h1,z⟩
end
def PX(X:Cx)(e:Expr)(t:(St→XK)→TE):Prop :=
 ∀(pins:List (Addr×Obj)) (s:Shared) (σ:St) (H:Hp) (Q:VK) (Z:St→XK),Inv X pins σ H s→t Z σ H Q→wpAny (model X.prog X.w) X.A (eval e X.env) (EP X pins σ Q) (XF X pins Z) s
def jI(X:Cx)(st:Stmt)(t:(St→XK)→TS):Prop :=
 ∀(pins:List (Addr×Obj)) (s:Shared) (σ:St) (H:Hp) (D:Ends) (Z:St→XK),Inv X pins σ H s→t Z D σ H→wpAny (model X.prog X.w) X.A (exec st X.env) (SP X pins D) (XF X pins Z) s
section
variable {X:Cx}{k:Nat}{f:Addr}{fd:FuncData}{ps:List Str}{sp:Sp}{x:Str}{p pos pos':Pos}{e:Expr}{es:List Expr}{t:TA}{te:(St→XK)→TE}
noncomputable def wD(sp:Sp)(t:TA):(St→XK)→TE:=λZ σ H Q=>t σ H λvs H1=>sp vs H1 Q (Z σ)
theorem Oc(F:fQ X.prog X.w X.K X.mg X.base (cI X.prog X.w) k f fd ps sp)(hr:bS k X.A)(hg:Gl X x)(hm:X.mg x=some (.ref f))(hk:PySem.W.keepIn X.K (.ref f)=true)(hb:Binds X.K fd ps [])
  (ha:PA X.iT (e::es) t) (eV:(x==("__debug__" : Str))=false:=by decide) (he:starEach (e::es) X.env=(false,eval e X.env)::starEach es X.env:=by rfl) (fX:(backTo pos (starEach es X.env)).any (·.1)=false:=by rfl) :
  PX X (.Call (.Name x p) (e::es) [] pos) (wD sp t):=by
 intro pins s σ H Q Z I h;refine qd (oS I hg hm ?_ eV);refine PySem.W.callWith_K (h₀:=X.base) I.ok.mod.qj hk (bP (ha pos pins s σ H _ (I.wish _) h) (λus s1 ⟨vs,H1,I1,r,q⟩=>⟨I1.bz,?_⟩) λ_ _ z=>False.elim z) he fX;have I1:=I1.fL;have hl:us.length=ps.length:=by rw[←r.length];exact F.len _ _ _ _ q
 have jJ:=hb s1 us I1.bz (by rw[ip];exact hl);rw[ip]at jJ;refine wpAny_call (codeAny_mono (F.run X.A X.stack s1 H1 ⟨us,[]⟩ us vs Q (Z σ) hr I1.xW jJ r q) λr s' hq=>?_);cases r with
 |error u =>
  obtain⟨e0,C,dx,H',rfl,os,bare,un,ay,F',z⟩:=hq;exact⟨σ,H',_,e0,C,dx,_,rfl,I1.D9 os un ay bare (λb z=>absurd z (by simp)),I1.sz,F'.sz,I1.Gz,F',.inl rfl,z⟩
 |ok fl =>
  cases fl with
  |ret u=>exact I1.after hq
  |next=>exact False.elim hq
  |brk=>exact False.elim hq
  |cont=>exact False.elim hq
theorem Od{a:Expr}{ta:TE}{x1}(h1:PE X.iT a ta)(h2:PX X e te)(hs:starEach [a,e] X.env=(false,eval a X.env)::starEach [e] X.env:=by rfl)(Vs:starEach [e] X.env=(false,eval e X.env)::starEach [] X.env:=by rfl):PX X (.Tuple [a,e] x1 pos) (λZ σ H Q=>ta σ H λv H1=>te Z σ H1 λw H2=>∀c,H2 c=none→Q (.ref c) (upd H2 c (.tup [v,w]))):=by
 intro pins s σ H Q Z I h;refine wpAny_Tuple_spliced (Q:=EP X pins σ Q) ?_;rw[hs];show wpAny _ _ (spliced ((false,eval a X.env)::backTo pos (starEach [e] X.env))) _ _ s;refine yB (bP (h1 pins s σ H _ (I.wish _) h) (λu s1 ⟨v,H1,I1,r1,q1⟩=>?_) λ_ _ z=>False.elim z);rw[Vs];show wpAny _ _ (spliced ((false,eval e X.env)::backTo pos (starEach [] X.env))) _ _ s1;refine yB (az (h2 pins s1 σ H1 _ Z I1.fL q1) λu2 s2 ⟨w,H2,I2,r2,q2⟩=>Calls.spliced_nil ?_);have hf:H2 s2.heap.objs.size=none:=I2.ay.fresh (a7 _);refine⟨by simp[sizeLine_eq],.ref s2.heap.objs.size,upd H2 s2.heap.objs.size (.tup [v,w]),I2.laid (t':=s2.toks) (λb u e=>bQ _ e) (a7 _) ?_,rfl,q2 _ hf⟩;exact⟨by simp[sizeLine_eq],[u,u2],.cons r1 (.cons r2 .nil),⟨_,dX _ rfl,rfl,rfl,_,rfl⟩⟩
theorem MS(he:PX X e te)(hs:swapsWith e none pos.line X.env=pure false:=by rfl):jI X (.Expr e pos) (λZ D σ H=>te Z σ H λ_ H1=>D.nx σ H1):=by
 intro pins s σ H D Z I h;exact wpAny_Expr_any (az (he pins s σ H _ Z I h) λv s1 ⟨x,H1,I1,r1,q1⟩=>⟨σ,H1,I1,q1⟩) I.quiet hs
theorem Cd{i:Nat}(hN:X.N.Nodup)(hi:X.N[i]?=some x)(hx:Loc X.env.scope x)(he:PX X e te)(hs:swapsWith e (some (.Name x pos')) pos.line X.env=pure false:=by rfl)(hf:X.fn x=true∨X.env.scope.names.lookup x=some .local:=by first|exact .inl rfl|exact .inr rfl|assumption) :
  jI X (.Assign [.Name x pos'] e pos) (λZ D σ H=>te Z σ H λv H1=>D.nx (σ.set i (some v)) H1):=by
 intro pins s σ H D Z I h;refine wpAny_Assign_Name (az (he pins s σ H _ Z I h) λv s1 ⟨y,H1,I1,r1,q1⟩=>?_) hs;exact rg I1 hN hi hx r1 (λs2 I2=>⟨_,H1,I2,q1⟩) hf
end
theorem cT{P:Program}{w:World}{X:Cx}:Passes (cI P w) X E0:=λ_ _ _ _ _ _ _ h=>by
 obtain⟨_,_,_,_,_,_,_,_,_,_,z⟩:=h;exact z.elim
section
variable {X:Cx}{pins:List (Addr×Obj)}{σ:St}{H:Hp}{s:Shared}
theorem Lw{M:Model}{A:Around}{E:Value→Shared→Prop}{i:Nat}{x:Str}{pos:Pos}{Q:Unit→Shared→Prop}(I:Inv X pins σ H s)(hN:X.N.Nodup)(hi:X.N[i]?=some x)(hx:X.env.scope.names.lookup x=some .local)
  (h:∀s',Inv X pins (σ.set i none) H s'→Q () s'):wpAny M A (do bindName X.env x .none;unbindBehindTheSuite X.env x pos) Q E s:=by
 obtain⟨m,hn,hl⟩:=id I.loc;have xM:(X.env.scope.kind==.class||(X.env.scope.kind==.module&&X.env.locals != X.env.globals))=false:=by rw[I.ok.kind];rfl
 have sW:i<σ.length:=by rw[I.len];exact(ig.mp hi).1
 refine wpAny_nameGoes_keeps hx hn xM λh' v yU hs=>h _ ?_;have old:∀b o,X.s₀.heap.get? b=some o→h'.get? b=s.heap.get? b:=λb o e=>hs.2 b (cO (dF (aV e) I.ok.above));refine⟨I.ok,I.os,I.bare,⟨λb o e n hb hx=>(old b o e).trans (I.base.keep b o e n hb hx),λb o e n hb hx=>?_,I.base.free,λb o e hx=>?_,I.base.gB,I.base.fO,I.base.gC⟩,⟨_,yU,λj y v' e1 e2 e3=>?_⟩,λy c e=>?_,I.free,I.fw,λp hp=>?_,λb ob e=>?_,by simpa using I.len⟩
 ·obtain⟨sl,e1⟩:=I.base.slot b o e n hb hx;exact⟨sl,(old b o e).trans e1⟩
 ·obtain⟨o',e1⟩:=I.base.there b o e hx;exact⟨o',(old b o e).trans e1⟩
 ·have hj:j≠i:=λz=>by
   subst z;rw[List.getElem?_set_self sW]at e2;cases e2
  rw[cP (dq hj)]at e2;obtain⟨u',r',q⟩:=hl j y v' e1 e2 e3;refine⟨u',r',?_⟩;rcases q with⟨k,e⟩|⟨k,c,e,z⟩
  ·have ny:y≠x:=λz=>hj (mO hN e1 (z▸hi));exact .inl ⟨k,by simp[ny,e]⟩
  ·exact .inr ⟨k,c,e,z.sameBut hs (I.jD y c e)⟩
 ·obtain⟨w',z⟩:=I.cell y c e;exact⟨w',z.sameBut hs (I.jD y c e)⟩
 ·obtain⟨e,n,ne,nf,d⟩:=I.pin p hp;exact⟨(hs.2 p.1 ne).trans e,n,ne,nf,d⟩
 ·refine(I.ay b ob e).jt (λc w' hc q=>(hs.2 c ?_).trans q) (λ_ q=>q) λ_ _ q=>q;rintro rfl;have fr:=I.free;rcases hc with rfl|hc
  ·rw[fr]at e;cases e
  ·rw[fr]at hc;cases hc
end
noncomputable abbrev Cx.iD(X:Cx)(e:Addr):Cx:={ X with A:=X.A.mark (some (.ref e)),calm:=false,xe:=λ_ _=>False }
section
variable {X:Cx}{pins:List (Addr×Obj)}{σ:St}{H:Hp}{s:Shared}{e:Addr}
theorem Inv.iD(I:Inv X pins σ H s)(e:Addr):Inv (X.iD e) pins σ H s :=
 ⟨⟨I.ok.mod,I.ok.kind,I.ok.glob,I.ok.blt,I.ok.above,I.ok.inj,I.ok.has,I.ok.nU,(λz=>absurd z (by simp)),I.ok.frames,I.ok.nV,I.ok.yR,I.ok.bs,I.ok.iu,I.ok.nz,I.ok.pM,I.ok.fP,I.ok.km⟩,I.os,I.bare,I.base,I.loc,I.cell,I.free,I.fw,I.pin,I.ay,I.len⟩
theorem Inv.FH(I:Inv (X.iD e) pins σ H s)(ok:X.Ok):Inv X pins σ H s:=⟨ok,I.os,I.bare,I.base,I.loc,I.cell,I.free,I.fw,I.pin,I.ay,I.len⟩
end
section
variable {M:Model}{A:Around}{E:Value→Shared→Prop}
def n8(K:PySem.W.Frag)(C:Addr):Prop:=(∃od cd sl,K.lookup C=some ⟨.type "type",od,.cls cd,sl⟩)∧PySem.W.mroIn K C (.type "BaseException")=some true
theorem Oe{K:PySem.W.Frag}{s:Shared}{e C C':Addr}{oe:Obj}{b:Bool}{Q:Bool→Shared→Prop}(X:K.In s.heap)(he:s.heap.get? e=some oe)(hc:oe.cls=.ref C)(x:n8 K C')(hm:PySem.W.mroIn K C (.ref C')=some b)(q:Q b s):wpAny M A (excMatches (.ref e) (.ref C')) Q E s:=by
 obtain⟨⟨od,cd,sl,lk⟩,hb⟩:=x;have hC:=X _ _ lk;have l2:=PySem.W.looks_mroIn (M:=M) X hb;have l3:=PySem.W.looks_mroIn (M:=M) X hm;obtain⟨oc,XU,dt,ui⟩:=oe;subst hc;obtain⟨hp,g,d,tk,os⟩:=s;have f:=tc_notTuple;unfold excMatches
 repeat (first|with_reducible refine wpAny_loadPart_at he ?_|with_reducible refine wpAny_loadPart_at hC ?_|with_reducible refine l2.here ?_ | (show wpAny _ _ (isSubtype (.ref C) (.ref C')) _ _ _;refine l3.here ?_)|wp_step)
 cases b<;>(repeat (first|exact q|wp_step))
end
section
variable {X:Cx}{st b₀:Stmt}{suite:List Stmt}{tb:(St→XK)→TS}{ts:TS}{cn nm:Str}{np hp pos:Pos}{C':Addr}{i:Nat}
noncomputable def hZ(K:PySem.W.Frag)(C':Addr)(σ:St)(k:Addr→Hp→Prop):St→XK:=λσ' u _ H'=>σ'=σ∧∃e C dx,u=.ref e∧H' e=some (.ext (xo e C dx))∧PySem.W.mroIn K C (.ref C')=some true∧k e H'
noncomputable def x5(K:PySem.W.Frag)(C':Addr)(i:Nat)(tb:(St→XK)→TS)(ts:TS):TS:=λD σ H=>tb (hZ K C' σ λe H'=>ts { nx:=λσ2 H2=>D.nx (σ2.set i none) H2,rt:=λ_ _=>False } (σ.set i (some (.ref e))) H') D σ H
noncomputable def xr(K:PySem.W.Frag)(C':Addr)(tb:(St→XK)→TS)(ts:TS):TS:=λD σ H=>tb (hZ K C' σ λ_ H'=>ts { nx:=D.nx,rt:=λ_ _=>False } σ H') D σ H
theorem Ce {name:Option Str}{k:Addr→Hp→Prop} (dH:X.stack=X.env::X.outer∧X.env.frame=some X.env.locals) (hb:jI X st tb) (hg:Gl X cn) (hm:X.mg cn=some (.ref C')) (xc:n8 X.K C') (eV:(cn==("__debug__" : Str))=false)
  {pins:List (Addr×Obj)}{s:Shared}{σ:St}{H:Hp}{D:Ends} (I:Inv X pins σ H s) (h:tb (hZ X.K C' σ k) D σ H)
  (hs:∀(e:Addr) (H':Hp) (s':Shared) (n:Nat) (C dx:Addr),Inv X pins σ H' s'→bA H' n .none s'.heap e C dx→X.s₀.heap.objs.size≤n→n≤s'.heap.objs.size→n5 X pins n→k e H'→codeAny (model X.prog X.w) (X.A.mark (some (.ref e))) (.handlers (.ref e) [.ExceptHandler none name (b₀::suite) hp] X.env) (λr s₂=>match r with
   |.ok f=>(match name with
    |none=>SP X pins D f s₂
    |some n=>wpAny (model X.prog X.w) X.A (do bindName X.env n .none;unbindBehindTheSuite X.env n hp) (λ_ s₃=>SP X pins D f s₃) X.xe s₂)
   |.error x=>cameBackBy (model X.prog X.w) X.A X.env X.xe x s₂) s') :
  wpAny (model X.prog X.w) X.A (exec (.Try [st] [.ExceptHandler (some (.Name cn np)) name (b₀::suite) hp] [] [] pos) X.env) (SP X pins D) X.xe s:=by
 rw[arm_exec_Try];refine ak (lO (wpAny_tryStmt_except (wpAny_execs_cons (bP (hb pins s σ H D _ I h) (λf s1 q=>?_) λu s1 z=>?_))))
 ·cases f with
  |next=>exact nI (nI q)
  |ret v=>exact q
  |brk=>exact q
  |cont=>exact q
 ·obtain⟨σ',H',n,e,C0,Vt,fl,rfl,I',h1,h2,bl,F,iC,eσ,e',C,dx,eu,hH,Uw,hk⟩:=z;subst eσ;obtain rfl:e=e':=by cases eu;rfl
  refine I'.xq dH F iC h1 h2 bl rfl λh' I2 F2 n'=>?_;refine bA.land (fs:=bT X.stack) (s:={ s1 with heap:=h' }) F2 I2.o6 λh3 F3 K3=>?_;have I3:=I2.kx bl h1 K3 F3;refine wpAny_handleBy_cons (codeAny_handlers_test (oS (X:=X.iD e) (I3.iD e) hg hm ?_ eV)) (by intro q;cases q);obtain⟨⟨oe,vs,he,hc,_⟩,_⟩:=I3.ay e _ hH;exact Oe I3.bz he hc xc Uw (hs e H' _ n C0 Vt I3 F3 h1 F3.sz bl hk)
theorem Qs(dH:X.stack=X.env::X.outer∧X.env.frame=some X.env.locals)(hb:jI X st tb)(hg:Gl X cn)(hm:X.mg cn=some (.ref C'))(xc:n8 X.K C')(hs:∀e,cR (X.iD e) (b₀::suite) ts)(hN:X.N.Nodup)(hi:X.N[i]?=some nm)(hx:X.env.scope.names.lookup nm=some .local)
  (eV:(cn==("__debug__" : Str))=false:=by decide):PS X (.Try [st] [.ExceptHandler (some (.Name cn np)) (some nm) (b₀::suite) hp] [] [] pos) (x5 X.K C' i tb ts):=by
 intro pins s σ H D I h;refine Ce dH hb hg hm xc eV I h λe H' s' n C dx I3 F3 h1 h2 bl hk=>codeAny_handlers_suite_as ?_;refine bA.land (fs:=bT X.stack) F3 I3.o6 λh4 F4 K4=>?_;have I4:=I3.kx bl h1 K4 F4;refine rg (X:=X.iD e) (I4.iD e) hN hi (.inl hx) (show RelV (.ref e) (Value.ref e)from rfl) (λs5 I5=>?_) (.inr hx);refine bP (hs e pins s5 _ H' _ I5 hk) (λf s6 q=>?_) λ_ _ z=>False.elim z;cases f with
 |next =>
  obtain⟨σ2,H2,I6,q⟩:=q;exact Lw (I6.FH I.ok) hN hi hx λs7 I7=>⟨_,H2,I7,q⟩
 |ret v=>obtain⟨_,_,_,_,_,q⟩:=q;exact q.elim
 |brk=>obtain⟨_,_,_,q⟩:=q;exact q.elim
 |cont=>obtain⟨_,_,_,q⟩:=q;exact q.elim
theorem Og(dH:X.stack=X.env::X.outer∧X.env.frame=some X.env.locals)(hb:jI X st tb)(hg:Gl X cn)(hm:X.mg cn=some (.ref C'))(xc:n8 X.K C')(hs:∀e,cR (X.iD e) (b₀::suite) ts)
  (eV:(cn==("__debug__" : Str))=false:=by decide):PS X (.Try [st] [.ExceptHandler (some (.Name cn np)) none (b₀::suite) hp] [] [] pos) (xr X.K C' tb ts):=by
 intro pins s σ H D I h;refine Ce dH hb hg hm xc eV I h λe H' s' n C dx I3 F3 h1 h2 bl hk=>codeAny_handlers_suite ?_;refine bA.land (fs:=bT X.stack) F3 I3.o6 λh4 F4 K4=>?_;have I4:=I3.kx bl h1 K4 F4;refine bP (hs e pins _ σ H' _ (I4.iD e) hk) (λf s6 q=>?_) λ_ _ z=>False.elim z;cases f with
 |next =>
  obtain⟨σ2,H2,I6,q⟩:=q;exact⟨σ2,H2,I6.FH I.ok,q⟩
 |ret v=>obtain⟨_,_,_,_,_,q⟩:=q;exact q.elim
 |brk=>obtain⟨_,_,_,q⟩:=q;exact q.elim
 |cont=>obtain⟨_,_,_,q⟩:=q;exact q.elim
end
structure i5 (K:PySem.W.Frag)(C:Addr):Prop where
 ga:PySem.W.findIn K (.ref C) "__getattribute__" = some (some (.builtin "BaseException.__getattribute__"))
 gt:PySem.W.findIn K (.ref C) "__getattr__" = some none
 be:PySem.W.mroIn K C (.type "BaseException")=some true
 ob:PySem.W.mroIn K C (.type "object")=some true
 hd:PySem.W.hasDictIn K C=true
 cl:PySem.W.findIn K (.ref C) "__class__" = some (some (.builtin "object.__class__"))
 cg:PySem.W.specialIn K (.builtin "object.__class__") "__get__" = some (some (.builtin "getset_descriptor.__get__"))
 ct:PySem.W.takesIn K (.builtin "object.__class__")=some true
section
variable {P:Program}{w:World}{A:Around}{E:Value→Shared→Prop}{K:PySem.W.Frag}{C x:Addr}{s:Shared}{ox od:Obj}{name:Str}{v:Value}{tk:Tok}
theorem Ep{expr fill:Bool}{Q:Value→Shared→Prop}(X:K.In s.heap)(I:PySem.W.InstAt s.heap x ox C (some od))(c:i5 K C)
  (h:wpAny (model P w) A.in1 (Builtin.«object.__getattribute__» ⟨[.ref x,.str name tk],[]⟩) (λfin s'=>match fin with|.done (.ret v)=>wpAny (model P w) A (handedOut v) Q E s'|_=>False) (λ_ _=>False) s) :
  wpAny (model P w) A (getAttrBy (.ref x) (.str name tk) fill expr) Q E s:=by
 have FB:=PySem.F.excAttr_ValueError;have ty:PySem.W.Looks (model P w) s.heap (typeOf (.ref x)) (.ref C):=I.type;have l1:=PySem.W.looks_findIn (M:=model P w) X c.ga;have l3:=PySem.W.looks_findIn (M:=model P w) X c.gt;have sub:PySem.W.Looks (model P w) s.heap (isInstance (.ref x) (.type "BaseException")) true:=ty.andThen (PySem.W.looks_mroIn X c.be);have Vu:(expr&&onTheHeap (Value.builtin "BaseException.__getattribute__"))=false:=by cases expr<;>rfl
 have Vv:(Value.builtin "BaseException.__getattribute__" == Value.builtin "object.__getattribute__")=false:=by decide +kernel
 have Vw:(onTheHeap (Value.ref C)&&Value.builtin "BaseException.__getattribute__" == Value.builtin "object.__getattribute__")=false:=by rw[Vv];rfl
 unfold getAttrBy;refine ik (ak (ty.here (ak (l1.here ?_))));dsimp only;rw[Vw,if_neg (by decide)];unfold getAttrByItsOwn hookBefore;refine ak ?_;rw[if_pos (show onTheHeap (Value.ref C)=true from rfl)];refine l3.here ?_;unfold callGetattribute;rw[Vu,if_neg (by decide)];unfold boundAndCalled;rw[FB.ga.bind (.ref x)];refine ak (wpAny_attempt (ik (ak (aH ?_))));refine bP (E:=λ_ _=>False) (Q:=λv s'=>wpAny (model P w) A (handedOut v) Q E s') (wpAny_call ?_) (λ_ _ z=>z) λ_ _ z=>z.elim;refine codeAny_call_builtin FB.ga.plain PySem.F.entry_bexc_ga (@PySem.W.check_slot (model P w) _ _ s "BaseException.__getattribute__" "BaseException" "__getattribute__" (.ref x) [.str name tk] [] _ (by decide +kernel) (by decide +kernel) sub (PySem.F.args_bexc_ga _ _) ?_);refine bP h (λfin s' z=>?_) λ_ _ z=>z;rcases fin with(_|_|_|_)|_<;>first|exact z|exact z.elim
theorem S0{expr:Bool}{Q:Value→Shared→Prop}(X:K.In s.heap)(I:PySem.W.InstAt s.heap x ox C (some od))(c:i5 K C)
  (hf:PySem.W.findObj K C (some od) name=some (.value v)) (hh:PySem.W.handedIn v=true) (h:Q v { s with toks:=s.toks+1 }):wpAny (model P w) A (getAttr (.ref x) name expr) Q E s:=by
 have ty:PySem.W.Looks (model P w) s.heap (typeOf (.ref x)) (.ref C):=I.type;have l2:=PySem.W.looks_find (M:=model P w) X I hf;unfold getAttr;refine ak (wpAny_mkText (Ep (s:={ s with toks:=s.toks+1 }) X I c ?_));refine ak (aH (ak (aH (ak (ty.here (s:={ s with toks:=s.toks+1 }) (ak (l2.here (s:={ s with toks:=s.toks+1 }) (aH ?_))))))));show wpAny _ _ (handedOut v) _ _ _;rw[PySem.W.handedOut_of hh];exact aH h
theorem Oh{Q:Option Value→Shared→Prop}(X:K.In s.heap)(I:PySem.W.InstAt s.heap x ox C (some od))(c:i5 K C)(h:Q (some (.ref C)) { s with toks:=s.toks+1 }):wpAny (model P w) A (getAttr? (.ref x) "__class__") Q E s:=by
 have hf:PySem.W.findObj K C (some od) "__class__" = some (.bind (.builtin "getset_descriptor.__get__") (.builtin "object.__class__")):=PySem.W.findObj_data (by obtain⟨cd,hc,_⟩:=PySem.W.any_some c.hd;rw[hc];rfl) c.cl c.cg c.ct;have ty:PySem.W.Looks (model P w) s.heap (typeOf (.ref x)) (.ref C):=I.type;have l2:=PySem.W.looks_find (M:=model P w) X I hf;unfold getAttr? getAttrBy?;refine ak (wpAny_mkText (ak (wpAny_attempt (Ep (s:={ s with toks:=s.toks+1 }) X I c ?_))));refine ak (aH (ak (aH (ak (ty.here (s:={ s with toks:=s.toks+1 }) (ak (l2.here (s:={ s with toks:=s.toks+1 }) ?_)))))));show wpAny _ _ (holding [.builtin "object.__class__"] (call (.builtin "getset_descriptor.__get__") [.builtin "object.__class__",.ref x,.ref C]) >>= ret) _ _ _;refine ak (ik (bP (E:=λ_ _=>False) (Q:=λv s'=>v=.ref C∧s'={ s with toks:=s.toks+1 }) (wpAny_call (PySem.W.class_get (s:={ s with toks:=s.toks+1 }) (ox:=ox) (od:=some od) X I c.ob ⟨rfl,rfl⟩)) ?_ λ_ _ z=>z));rintro v s' ⟨rfl,rfl⟩;refine aH ?_;show wpAny _ _ (handedOut (.ref C)) _ _ _;rw[PySem.W.handedOut_of rfl];exact aH (aH h)
theorem Qt(c:i5 K C):PySem.W.KitX K (.ref x) (.ref C) (λh=>PySem.W.InstAt h x ox C (some od)) where
 ty:=λ_ _ _ I=>I.type
 it:=λ_ _ X _=>by
  obtain⟨Vx,iB,_⟩:=PySem.W.any_some c.hd;unfold PySem.W.clsIn at iB;split at iB
  ·rename_i ho;intro A' Q' E' s' k q;unfold isType loadHead;exact ak (wpAny_loadPart (k _ _ (X _ _ ho)) (aH q))
  ·cases iB
 ne:=λh tp dd its n sl X Vy=>by
  obtain⟨Vx,iB,_⟩:=PySem.W.any_some c.hd;refine Bool.eq_false_iff.mpr λq=>?_;have e:C=tp:=Value.ref.inj (beq_iff_eq.mp q);subst e;unfold PySem.W.clsIn at iB;split at iB
  ·rename_i ho;have z:=(X _ _ ho).symm.trans Vy;cases z
  ·cases iB
 ca:=λX I k=>Oh X I c k
end
section
variable {P:Program}{w:World}{K:PySem.W.Frag}{mg:Str→Option Value}{base:Heap}
theorem Qu{N:List Str}{qual:Str}{scope:Scope}{f:Addr}{cd:Value}{A:Around}{outer:List Env}{s0:Shared}{H0:Hp}{E:XK}{ss:List Stmt}{t:TS}
  (h:cR ((dC (cI P w) P w K mg base N qual scope f cd A outer s0 H0 E).wish (XD (dC (cI P w) P w K mg base N qual scope f cd A outer s0 H0 E) E)) ss t):cR (dC (cI P w) P w K mg base N qual scope f cd A outer s0 H0 E) ss t:=λpins s σ H D I q =>
 bP (h pins s σ H D (I.wish _) q) (λ_ _ z=>z.fL) λ_ _ z=>MR z
theorem iZ.GB{x qual:Str}{st:Stmt}{f:Addr}{fd:FuncData}{N ps:List Str}{k:Nat}{sp:Sp}(F:iZ K x qual st f fd)(S:mQ N ps (aW st))(len:∀vs H Q E,sp vs H Q E→vs.length=ps.length)
  (pE:∀(aL:Value) (A:Around) (outer:List Env) (s:Shared) (H:Hp) (vs:List V) (Q:VK) (E:XK),bS k (A.deeper (envOfC qual (aW st) s.heap.objs.size f aL))→sp vs H Q E →
   ∃t,cR (dC (cI P w) P w K mg base N qual (aW st) f aL A outer s H E).iT (cu st) t∧t { nx:=λ_ H'=>Q .non H',rt:=Q } (start N vs) H):fQ P w K mg base (cI P w) (k+1) f fd ps sp:=by
 obtain⟨oc,od,kV,doc,pm,an,aL,ct,du,rfl,lk,eC⟩:=F.ex;refine xj lk eC S len λA outer s H vs Q E hr gM=>?_;obtain⟨t,h,q⟩:=pE aL A outer s H vs Q E hr gM;exact⟨t,h.iT,q⟩
theorem iZ.ini {C:Addr}{ns:List Str}{qual:Str}{st:Stmt}{f:Addr}{fd:FuncData} (F:iZ K "__init__" qual st f fd) (c:gQ K C f ns) (S:mQ (("self" : Str)::ns) (("self" : Str)::ns) (aW st)) (hk:pU ns (cu st)=true) (h1:0<ns.length) (hl:ns.length≤100) (ho:∀n∈ns,okN n=true)
  (j7:∀n∈("self" : Str)::ns,(aW st).names.lookup n=some .local):fQ P w K mg base (cI P w) 1 f fd (("self" : Str)::ns) (uG C ns):=by
 refine F.GB (k:=0) S (λvs H Q E ⟨x,t,ws,e,hw,_⟩=>by subst e;simp[hw]) λaL A outer s H vs Q E _ ⟨x,t,ws,e,hw,hx,q⟩=>⟨FE C ns,?_,x,t,ws,?_,hw,hx,λdx e1 ne=>q dx e1 ne⟩
 ·exact N9 c hk (gH.mp S.nd).2 h1 hl rfl ho λn hn=>.inl (j7 n hn)
 ·subst e;unfold start;simp[hw]
theorem Ux{X:Cx}{E:XK}:Lv (X.wish (XD X E)) E:=λpins σ H s n e C dx I F hn bl z=>⟨pins,σ,H,n,e,C,dx,_,rfl,I.fL,hn,F.sz,bl,F,.inl rfl,z⟩
theorem Uy{X:Cx}{E:XK}{st:Stmt}{ts:(St→XK)→TS}(h:jI (X.wish (XD X E)) st ts):PS (X.wish (XD X E)) st (ts λ_=>E):=λpins s σ H D I q =>
 bP (h pins s σ H D (λ_=>E) I q) (λ_ _ z=>z) λ_ _ ⟨σ,H,n,e,C,dx,fl,h1,h2,h3⟩=>⟨pins,σ,H,n,e,C,dx,fl,h1,h2.fL,h3⟩
theorem Uz{X:Cx}:Lv X E0:=λ_ _ _ _ _ _ _ _ _ _ _ _ z=>z.elim
theorem UA{X:Cx}{st:Stmt}{ts:(St→XK)→TS}(h:jI X st ts):PS X st (ts λ_=>E0):=λpins s σ H D I q =>
 bP (h pins s σ H D (λ_=>E0) I q) (λ_ _ z=>z) λ_ _ ⟨_,_,_,_,_,_,_,_,_,_,_,_,_,_,z⟩=>z.elim
end
end L2
set_option maxHeartbeats 4000000
namespace J
open PySem L2
inductive D where
 |non|bl (b:Bool)|int (i:Int)|str (x:Str)|ty (n:String)
 |tup (ds:List D)|lst (ds:List D)|dk (ks:List (Key×D))|dt (ks:List (List Key×D))|exc (n:Str) (ns:List Str) (ds:List D)
mutual
noncomputable def D.b8:D→Bool
 |.tup ds=>D.cB ds
 |.exc _ _ ds=>D.cB ds
 |.lst _=>false
 |.dk _=>false
 |.dt _=>false
 |.non=>true
 |.bl _=>true
 |.int _=>true
 |.str _=>true
 |.ty _=>true
noncomputable def D.cB:List D→Bool
 |[]=>true
 |d::ds=>d.b8&&D.cB ds
end
def uH(K:PySem.W.Frag)(a:Addr)(xs:List V):Prop:=∃(o:Obj) (its:Array Value) (n:Nat),K.lookup a=some o∧o.cls=.type "list" ∧ o.dict=none∧o.data=.seq its n∧its.size≤sizeLine∧Vals xs its.toList
mutual
inductive Rp (K:PySem.W.Frag)(N:Addr→Prop)(H:Hp):V→D→Prop
 |non:Rp K N H .non .non
 |bl (b:Bool):Rp K N H (.bl b) (.bl b)
 |int (i:Int):Rp K N H (.int i) (.int i)
 |str (x:Str):Rp K N H (.str x) (.str x)
 |ty (n:String):Rp K N H (.ty n) (.ty n)
 |tup {a:Addr}{xs:List V}{ds:List D}:aZ K H a xs→ao K N H xs ds→Rp K N H (.ref a) (.tup ds)
 |lst {a:Addr}{xs:List V}{ds:List D}:Rd H a (.lst xs)→N a→ao K N H xs ds→Rp K N H (.ref a) (.lst ds)
 |lstK {a:Addr}{xs:List V}{ds:List D}:uH K a xs→ao K N H xs ds→Rp K N H (.ref a) (.lst ds)
 |dk {a:Addr}{ai:List (Key×V)}{ks:List (Key×D)}:Rd H a (.dK ai)→N a→ai.map (·.1)=ks.map (·.1)→ao K N H (ai.map (·.2)) (ks.map (·.2))→Rp K N H (.ref a) (.dk ks)
 |dt {a:Addr}{ai:List (List Key×V)}{ks:List (List Key×D)}:Rd H a (.dT ai)→N a→ai.map (·.1)=ks.map (·.1)→ao K N H (ai.map (·.2)) (ks.map (·.2))→Rp K N H (.ref a) (.dt ks)
 |exc {a C dx:Addr}{n:Str}{ns:List Str}{gs:List (Str×V)}{ds:List D}:H a=some (.ext (xo a C dx))→H dx=some (.ext (xd dx gs))→PySem.W.nsIn K mainGlobals n=some (some (.ref C))→gs.map (·.1)=ns→ao K N H (gs.map (·.2)) ds→Rp K N H (.ref a) (.exc n ns ds)
inductive ao (K:PySem.W.Frag)(N:Addr→Prop)(H:Hp):List V→List D→Prop
 |nil:ao K N H [] []
 |cons {v:V}{d:D}{vs:List V}{ds:List D}:Rp K N H v d→ao K N H vs ds→ao K N H (v::vs) (d::ds)
end
noncomputable def iE:HO→Prop
 |.tup _=>True
 |.cQ _ (.tup _)=>True
 |.ext _=>True
 |_=>False
def Keeps(N:Addr→Prop)(H H':Hp):Prop:=∀a o,H a=some o→(N a∨iE o)→H' a=some o
section
variable {K:PySem.W.Frag}{N N':Addr→Prop}{H H':Hp}
theorem Keeps.same(s:ax H H'):Keeps N H H':=λa o e _=>s a o e
theorem Keeps.sq{a:Addr}{xs:List V}(k:Keeps N H H')(h:aZ K H a xs):aZ K H' a xs:=by
 rcases h with h|h
 ·exact .inl (k _ _ h (.inr trivial))
 ·exact .inr h
theorem Keeps.rd{a:Addr}{u:HO}(k:Keeps N H H')(n:N a)(h:Rd H a u):Rd H' a u:=by
 rcases h with h|⟨o,h⟩
 ·exact .inl (k _ _ h (.inl n))
 ·exact .inr ⟨o,k _ _ h (.inl n)⟩
theorem Rp.keep(k:Keeps N H H'){v:V}{d:D}(h:Rp K N H v d):Rp K N H' v d:=Rp.rec (motive_1:=λv d _=>Rp K N H' v d) (motive_2:=λvs ds _=>ao K N H' vs ds) .non .bl .int .str .ty (λh _ r=>.tup (k.sq h) r) (λh n _ r=>.lst (k.rd n h) n r) (λh _ r=>.lstK h r) (λh n e _ r=>.dk (k.rd n h) n e r) (λh n e _ r=>.dt (k.rd n h) n e r) (λh1 h2 n e _ r=>.exc (k _ _ h1 (.inr trivial)) (k _ _ h2 (.inr trivial)) n e r) .nil (λ_ _ h r=>.cons h r) h
theorem ao.keep(k:Keeps N H H'){vs:List V}{ds:List D}(h:ao K N H vs ds):ao K N H' vs ds:=ao.rec (motive_1:=λv d _=>Rp K N H' v d) (motive_2:=λvs ds _=>ao K N H' vs ds) .non .bl .int .str .ty (λh _ r=>.tup (k.sq h) r) (λh n _ r=>.lst (k.rd n h) n r) (λh _ r=>.lstK h r) (λh n e _ r=>.dk (k.rd n h) n e r) (λh n e _ r=>.dt (k.rd n h) n e r) (λh1 h2 n e _ r=>.exc (k _ _ h1 (.inr trivial)) (k _ _ h2 (.inr trivial)) n e r) .nil (λ_ _ h r=>.cons h r) h
theorem Rd.some{a:Addr}{u:HO}(h:Rd H a u):∃o,H a=some o:=by
 rcases h with h|⟨o,h⟩
 ·exact⟨_,h⟩
 ·exact⟨_,h⟩
theorem Rp.wk(w:∀a,N a→(∃o,H a=some o)→N' a){v:V}{d:D}(h:Rp K N H v d):Rp K N' H v d:=Rp.rec (motive_1:=λv d _=>Rp K N' H v d) (motive_2:=λvs ds _=>ao K N' H vs ds) .non .bl .int .str .ty (λh _ r=>.tup h r) (λh n _ r=>.lst h (w _ n (Rd.some h)) r) (λh _ r=>.lstK h r) (λh n e _ r=>.dk h (w _ n (Rd.some h)) e r) (λh n e _ r=>.dt h (w _ n (Rd.some h)) e r) (λh1 h2 n e _ r=>.exc h1 h2 n e r) .nil (λ_ _ h r=>.cons h r) h
theorem ao.wk(w:∀a,N a→(∃o,H a=some o)→N' a){vs:List V}{ds:List D}(h:ao K N H vs ds):ao K N' H vs ds:=ao.rec (motive_1:=λv d _=>Rp K N' H v d) (motive_2:=λvs ds _=>ao K N' H vs ds) .non .bl .int .str .ty (λh _ r=>.tup h r) (λh n _ r=>.lst h (w _ n (Rd.some h)) r) (λh _ r=>.lstK h r) (λh n e _ r=>.dk h (w _ n (Rd.some h)) e r) (λh n e _ r=>.dt h (w _ n (Rd.some h)) e r) (λh1 h2 n e _ r=>.exc h1 h2 n e r) .nil (λ_ _ h r=>.cons h r) h
theorem Rp.im{v:V}{d:D}(e:d.b8=true)(h:Rp K N H v d):Rp K N' H v d:=Rp.rec (motive_1:=λv d _=>d.b8=true→Rp K N' H v d) (motive_2:=λvs ds _=>D.cB ds=true→ao K N' H vs ds) (λ_=>.non) (λb _=>.bl b) (λi _=>.int i) (λx _=>.str x) (λn _=>.ty n) (λh _ r e=>.tup h (r e)) (λ_ _ _ _ e=>by cases e) (λ_ _ _ e=>by cases e) (λ_ _ _ _ _ e=>by cases e) (λ_ _ _ _ _ e=>by cases e) (λh1 h2 n e _ r q=>.exc h1 h2 n e (r q)) (λ_=>.nil) (λ_ _ h r e=>.cons (h (Bool.and_eq_true_iff.mp e).1) (r (Bool.and_eq_true_iff.mp e).2)) h e
theorem ao.im{vs:List V}{ds:List D}(e:D.cB ds=true)(h:ao K N H vs ds):ao K N' H vs ds:=ao.rec (motive_1:=λv d _=>d.b8=true→Rp K N' H v d) (motive_2:=λvs ds _=>D.cB ds=true→ao K N' H vs ds) (λ_=>.non) (λb _=>.bl b) (λi _=>.int i) (λx _=>.str x) (λn _=>.ty n) (λh _ r e=>.tup h (r e)) (λ_ _ _ _ e=>by cases e) (λ_ _ _ e=>by cases e) (λ_ _ _ _ _ e=>by cases e) (λ_ _ _ _ _ e=>by cases e) (λh1 h2 n e _ r q=>.exc h1 h2 n e (r q)) (λ_=>.nil) (λ_ _ h r e=>.cons (h (Bool.and_eq_true_iff.mp e).1) (r (Bool.and_eq_true_iff.mp e).2)) h e
theorem ao.paired:∀{vs:List V}{ds:List D},ao K N H vs ds→Paired (λd v=>Rp K N H v d) ds vs
 |_,_,.nil=>.nil
 |_,_,.cons h r=>.cons h (ao.paired r)
theorem ao.of:∀{ds:List D}{vs:List V},Paired (λd v=>Rp K N H v d) ds vs→ao K N H vs ds
 |_,_,.nil=>.nil
 |_,_,.cons h r=>.cons h (ao.of r)
theorem ao.len{vs:List V}{ds:List D}(r:ao K N H vs ds):vs.length=ds.length:=(fD r.paired).symm
theorem ao.get:∀{vs:List V}{ds:List D}{i:Nat}{d:D},ao K N H vs ds→ds[i]?=some d→∃v,vs[i]?=some v∧Rp K N H v d
 |_,_,_,_,.nil,e=>by simp at e
 |_,_,0,_,.cons h _,e=>by simp at e;subst e;exact⟨_,rfl,h⟩
 |_,_,i+1,d,.cons _ r,e=>by
  obtain⟨v,h1,h2⟩:=ao.get (i:=i) (d:=d) r (by simpa using e);exact⟨v,by simpa using h1,h2⟩
theorem ao.app:∀{vs ws:List V}{ds es:List D},ao K N H vs ds→ao K N H ws es→ao K N H (vs++ws) (ds++es)
 |_,_,_,_,.nil,s=>s
 |_,_,_,_,.cons h r,s=>.cons h (ao.app r s)
theorem ao.set{v:V}{d:D}(q:Rp K N H v d):∀{vs:List V}{ds:List D} (i:Nat),ao K N H vs ds→ao K N H (vs.set i v) (ds.set i d)
 |_,_,_,.nil=>.nil
 |_,_,0,.cons _ t=>.cons q t
 |_,_,i+1,.cons h t=>.cons h (ao.set q i t)
theorem ao.take:∀{vs:List V}{ds:List D} (n:Nat),ao K N H vs ds→ao K N H (vs.take n) (ds.take n)
 |_,_,0,_=>.nil
 |_,_,_+1,.nil=>.nil
 |_,_,n+1,.cons r t=>.cons r (ao.take n t)
theorem ao.drop:∀{vs:List V}{ds:List D} (n:Nat),ao K N H vs ds→ao K N H (vs.drop n) (ds.drop n)
 |_,_,0,r=>r
 |_,_,_+1,.nil=>.nil
 |_,_,n+1,.cons _ t=>ao.drop n t
theorem ao.rep:∀{vs:List V}{ds:List D} (n:Nat),ao K N H vs ds→ao K N H (List.replicate n vs).flatten (List.replicate n ds).flatten
 |_,_,0,_=>.nil
 |_,_,n+1,h=>by
  rw[qg,qg,t9,t9];exact h.app (ao.rep n h)
theorem ao.aM{vs:List V}{ds:List D}{i:Int}{d:D}(r:ao K N H vs ds)(e:L2.aM ds i=some d):∃v,L2.aM vs i=some v∧Rp K N H v d:=by
 unfold L2.aM at e ⊢;rw[r.len];cases q:fY ds.length i with
 |none=>rw[q]at e;cases e
 |some j =>
  rw[q]at e;exact r.get e
end
inductive M where|al|fr|un|bo|bi|rb|nb|ut
 deriving DecidableEq
noncomputable abbrev Ev:=List (Option (M×D))
noncomputable def Cell(K:PySem.W.Frag)(N:Addr→Prop)(H:Hp)(p:Addr):D→Prop
 |.lst ds=>∃xs,H p=some (.lst xs)∧ao K N H xs ds
 |.dk ks=>∃ai,H p=some (.dK ai)∧ai.map (·.1)=ks.map (·.1)∧ao K N H (ai.map (·.2)) (ks.map (·.2))
 |.dt ks=>∃ai,H p=some (.dT ai)∧ai.map (·.1)=ks.map (·.1)∧ao K N H (ai.map (·.2)) (ks.map (·.2))
 |_=>False
noncomputable def NM(H₀:Hp)(O:Addr→Prop):M→Addr→Prop
 |.al,a=>¬O a
 |.rb,a=>H₀ a=none
 |_,a=>¬O a∧H₀ a=none
def fS(K:PySem.W.Frag)(H₀:Hp)(O:Addr→Prop)(H:Hp)(d:D)(v:V):Prop :=
 ∃(p:Addr) (qs:List Addr) (bt:List (List D)),v=.ref p∧d=.lst (bt.map D.lst)∧O p∧H₀ p=none∧H p=some (.lst (qs.map V.ref))∧qs.Nodup∧(∀q∈qs,O q∧H₀ q=none∧q≠p) ∧
  Paired (λq ds=>∃xs,H q=some (.lst xs)∧ao K (λa=>¬O a∧H₀ a=none) H xs ds) qs bt
def UT(K:PySem.W.Frag)(F:Addr→Prop)(H:Hp)(d:D)(v:V):Prop:=(d.b8=true∧Rp K (λ_=>False) H v d)∨∃q,v=.ref q∧F q∧Cell K (λ_=>False) H q d
def cf(K:PySem.W.Frag)(F:Addr→Prop)(H:Hp)(d:D)(v:V):Prop:=∃a xs ds,v=.ref a∧d=.tup ds∧aZ K H a xs∧Paired (UT K F H) ds xs
def Val(K:PySem.W.Frag)(H₀:Hp)(O:Addr→Prop)(Hb H:Hp):M→D→V→Prop
 |.al,d,v=>Rp K (λa=>¬O a) H v d
 |.fr,d,v=>Rp K (λa=>¬O a∧H₀ a=none) H v d
 |.rb,d,v=>Rp K (λa=>H₀ a=none) H v d
 |.un,d,v=>∃p,v=.ref p∧Hb p=none∧H₀ p=none∧¬O p∧Cell K (λa=>(¬O a∧H₀ a=none)∧a≠p) H p d
 |.bo,d,v=>∃p,v=.ref p∧O p∧H₀ p=none∧Cell K (λa=>¬O a∧H₀ a=none) H p d
 |.bi,d,v=>∃p,v=.ref p∧O p∧Cell K (λa=>¬O a∧H₀ a=none) H p d
 |.nb,d,v=>fS K H₀ O H d v
 |.ut,d,v=>cf K (λq=>Hb q=none∧H₀ q=none∧¬O q) H d v
noncomputable def aN:M→M
 |.al=>.al
 |.rb=>.rb
 |.nb=>.rb
 |_=>.fr
noncomputable abbrev HE:Hp:=λ_=>none
section
variable {K:PySem.W.Frag}{N N':Addr→Prop}{H H' H₀ Hb GC:Hp}{O:Addr→Prop}{m:M}{d:D}{v:V}{p:Addr}
theorem Cell.keep(k:Keeps N H H')(e:H' p=H p)(h:Cell K N H p d):Cell K N H' p d:=by
 cases d<;>simp only[Cell]at h ⊢
 ·obtain⟨xs,q,r⟩:=h;exact⟨xs,e.trans q,r.keep k⟩
 ·obtain⟨xs,q,z,r⟩:=h;exact⟨xs,e.trans q,z,r.keep k⟩
 ·obtain⟨xs,q,z,r⟩:=h;exact⟨xs,e.trans q,z,r.keep k⟩
theorem Cell.some(h:Cell K N H p d):∃o,H p=some o∧¬iE o:=by
 cases d<;>simp only[Cell]at h
 ·obtain⟨xs,q,r⟩:=h;exact⟨_,q,λz=>z⟩
 ·obtain⟨xs,q,z,r⟩:=h;exact⟨_,q,λz=>z⟩
 ·obtain⟨xs,q,z,r⟩:=h;exact⟨_,q,λz=>z⟩
theorem Cell.wk(w:∀a,N a→(∃o,H a=Option.some o)→N' a)(h:Cell K N H p d):Cell K N' H p d:=by
 cases d<;>simp only[Cell]at h ⊢
 ·obtain⟨xs,q,r⟩:=h;exact⟨xs,q,r.wk w⟩
 ·obtain⟨xs,q,z,r⟩:=h;exact⟨xs,q,z,r.wk w⟩
 ·obtain⟨xs,q,z,r⟩:=h;exact⟨xs,q,z,r.wk w⟩
theorem Cell.rp(n:N p)(h:Cell K N H p d):Rp K N H (.ref p) d:=by
 cases d<;>simp only[Cell]at h
 ·obtain⟨xs,q,r⟩:=h;exact .lst (.inl q) n r
 ·obtain⟨xs,q,z,r⟩:=h;exact .dk (.inl q) n z r
 ·obtain⟨xs,q,z,r⟩:=h;exact .dt (.inl q) n z r
theorem mU{F G:Addr→List D→Prop}:∀{qs:List Addr}{bt:List (List D)},(∀q ds,q∈qs→F q ds→G q ds)→Paired F qs bt→Paired G qs bt
 |_,_,_,.nil=>.nil
 |_,_,h,.cons a t=>.cons (h _ _ bC a) (mU (λq ds m=>h q ds (b6 _ m)) t)
theorem fS.keep(s:ax H H')(h:fS K H₀ O H d v):fS K H₀ O H' d v:=by
 obtain⟨p,qs,bt,e1,e2,h1,h2,h3,h4,h5,h6⟩:=h;exact⟨p,qs,bt,e1,e2,h1,h2,s _ _ h3,h4,h5,mU (λq ds _ ⟨xs,a,b⟩=>⟨xs,s _ _ a,b.keep (.same s)⟩) h6⟩
theorem fS.eD{F:Addr→Prop}(w:∀a,H₀ a=none→F a):∀{qs:List Addr}{bt:List (List D)},(∀q∈qs,O q∧H₀ q=none∧q≠p)→Paired (λq ds=>∃xs,H q=some (.lst xs)∧ao K (λa=>¬O a∧H₀ a=none) H xs ds) qs bt→ao K F H (qs.map V.ref) (bt.map D.lst)
 |_,_,_,.nil=>.nil
 |_,_,h,.cons ⟨xs,a,b⟩ t=>.cons (.lst (.inl a) (w _ (h _ bC).2.1) (b.wk λx z _=>w x z.2)) (fS.eD w (λq m=>h q (b6 _ m)) t)
theorem fS.rp{F:Addr→Prop}(w:∀a,H₀ a=none→F a)(h:fS K H₀ O H d v):Rp K F H v d:=by
 obtain⟨p,qs,bt,rfl,rfl,h1,h2,h3,h4,h5,h6⟩:=h;exact .lst (.inl h3) (w _ h2) (fS.eD w h5 h6)
theorem cf.keep{F:Addr→Prop}(s:ax H H')(h:cf K F H d v):cf K F H' d v:=by
 obtain⟨a,xs,ds,e1,e2,h1,h2⟩:=h;refine⟨a,xs,ds,e1,e2,(Keeps.same (N:=λ_=>True) s).sq h1,Paired.nu h2 λd v z=>?_⟩;rcases z with⟨z1,z2⟩|⟨q,z1,z2,c⟩
 ·exact .inl ⟨z1,z2.keep (.same s)⟩
 ·obtain⟨o,e,_⟩:=c.some;exact .inr ⟨q,z1,z2,c.keep (.same s) ((s _ _ e).trans e.symm)⟩
theorem cf.wk{F F':Addr→Prop}(w:∀q,F q→F' q)(h:cf K F H d v):cf K F' H d v:=by
 obtain⟨a,xs,ds,e1,e2,h1,h2⟩:=h;exact⟨a,xs,ds,e1,e2,h1,Paired.nu h2 λd v z=>z.imp id λ⟨q,z1,z2,c⟩=>⟨q,z1,w q z2,c⟩⟩
theorem cf.eD{F:Addr→Prop}(w:∀q,F q→N q){ds:List D}{xs:List V}(h:Paired (UT K F H) ds xs):ao K N H xs ds:=ao.of (Paired.nu h λd v z=>by
 rcases z with⟨z1,z2⟩|⟨q,rfl,z2,c⟩
 ·exact z2.im z1
 ·exact(c.wk λ_ z _=>z.elim).rp (w q z2))
theorem cf.rp{F:Addr→Prop}(w:∀q,F q→N q)(h:cf K F H d v):Rp K N H v d:=by
 obtain⟨a,xs,ds,rfl,rfl,h1,h2⟩:=h;exact .tup h1 (cf.eD w h2)
theorem Val.keep(s:ax H H')(h:Val K H₀ O Hb H m d v):Val K H₀ O Hb H' m d v:=by
 cases m<;>simp only[Val]at h ⊢
 ·exact h.keep (.same s)
 ·exact h.keep (.same s)
 ·obtain⟨p,e,h1,h2,h3,c⟩:=h;obtain⟨o,q,_⟩:=c.some;exact⟨p,e,h1,h2,h3,c.keep (.same s) ((s _ _ q).trans q.symm)⟩
 ·obtain⟨p,e,h1,h2,c⟩:=h;obtain⟨o,q,_⟩:=c.some;exact⟨p,e,h1,h2,c.keep (.same s) ((s _ _ q).trans q.symm)⟩
 ·obtain⟨p,e,h1,c⟩:=h;obtain⟨o,q,_⟩:=c.some;exact⟨p,e,h1,c.keep (.same s) ((s _ _ q).trans q.symm)⟩
 ·exact h.keep (.same s)
 ·exact h.keep s
 ·exact h.keep s
theorem Val.hb(w:∀a,Hb a=none→GC a=none)(h:Val K H₀ O Hb H m d v):Val K H₀ O GC H m d v:=by
 cases m<;>simp only[Val]at h ⊢
 ·exact h
 ·exact h
 ·obtain⟨p,e,h1,r⟩:=h;exact⟨p,e,w _ h1,r⟩
 ·exact h
 ·exact h
 ·exact h
 ·exact h
 ·exact h.wk λq z=>⟨w _ z.1,z.2⟩
theorem Val.h0(h:Val K H₀ O Hb H m d v):Val K H₀ O HE H m d v:=h.hb λ_ _=>rfl
theorem Val.weak(h:Val K H₀ O Hb H m d v):Rp K (λ_=>True) H v d:=by
 cases m<;>simp only[Val]at h
 ·exact h.wk λ_ _ _=>trivial
 ·exact h.wk λ_ _ _=>trivial
 ·obtain⟨p,rfl,_,_,_,c⟩:=h;exact(c.wk λ_ _ _=>trivial).rp trivial
 ·obtain⟨p,rfl,_,_,c⟩:=h;exact(c.wk λ_ _ _=>trivial).rp trivial
 ·obtain⟨p,rfl,_,c⟩:=h;exact(c.wk λ_ _ _=>trivial).rp trivial
 ·exact h.wk λ_ _ _=>trivial
 ·exact h.rp λ_ _=>trivial
 ·exact h.rp λ_ _=>trivial
theorem Rp.int_inv{i:Int}(h:Rp K N H v (.int i)):v=.int i:=by cases h;rfl
theorem Rp.wF{b:Bool}(h:Rp K N H v (.bl b)):v=.bl b:=by cases h;rfl
theorem Rp.str_inv{x:Str}(h:Rp K N H v (.str x)):v=.str x:=by cases h;rfl
theorem Rp.Cg(h:Rp K N H v .non):v=.non:=by cases h;rfl
theorem Rp.Qv{n:String}(h:Rp K N H v (.ty n)):v=.ty n:=by cases h;rfl
theorem Val.int{i:Int}(h:Val K H₀ O Hb H m (.int i) v):v=.int i:=h.weak.int_inv
theorem Val.bl{b:Bool}(h:Val K H₀ O Hb H m (.bl b) v):v=.bl b:=h.weak.wF
theorem Val.str{x:Str}(h:Val K H₀ O Hb H m (.str x) v):v=.str x:=h.weak.str_inv
theorem Val.non(h:Val K H₀ O Hb H m .non v):v=.non:=h.weak.Cg
theorem Val.ty{x:String}(h:Val K H₀ O Hb H m (.ty x) v):v=.ty x:=h.weak.Qv
theorem Val.lst{ds:List D}(h:Val K H₀ O Hb H m (.lst ds) v):∃a xs,v=.ref a∧bj K H a xs∧ao K (NM H₀ O (aN m)) H xs ds:=by
 cases m<;>simp only[Val,Cell]at h
 ·cases h with
  |lst r n q=>exact⟨_,_,rfl,.inl r,q⟩
  |lstK r q=>exact⟨_,_,rfl,.inr r,q⟩
 ·cases h with
  |lst r n q=>exact⟨_,_,rfl,.inl r,q⟩
  |lstK r q=>exact⟨_,_,rfl,.inr r,q⟩
 ·obtain⟨p,rfl,_,_,_,xs,q,r⟩:=h;exact⟨_,_,rfl,.inl (.inl q),r.wk λa h _=>h.1⟩
 ·obtain⟨p,rfl,_,_,xs,q,r⟩:=h;exact⟨_,_,rfl,.inl (.inl q),r⟩
 ·obtain⟨p,rfl,_,xs,q,r⟩:=h;exact⟨_,_,rfl,.inl (.inl q),r⟩
 ·cases h with
  |lst r n q=>exact⟨_,_,rfl,.inl r,q⟩
  |lstK r q=>exact⟨_,_,rfl,.inr r,q⟩
 ·obtain⟨p,qs,bt,rfl,e2,h1,h2,h3,h4,h5,h6⟩:=h;cases e2;exact⟨p,_,rfl,.inl (.inl h3),fS.eD (λ_ z=>z) h5 h6⟩
 ·obtain⟨_,_,_,_,e2,_⟩:=h;cases e2
theorem Val.tup{ds:List D}(h:Val K H₀ O Hb H m (.tup ds) v):∃a xs,v=.ref a∧aZ K H a xs∧ao K (NM H₀ O (aN m)) H xs ds:=by
 cases m<;>simp only[Val,Cell]at h
 ·cases h with|tup r q=>exact⟨_,_,rfl,r,q⟩
 ·cases h with|tup r q=>exact⟨_,_,rfl,r,q⟩
 ·obtain⟨p,rfl,_,_,_,z⟩:=h;exact z.elim
 ·obtain⟨p,rfl,_,_,z⟩:=h;exact z.elim
 ·obtain⟨p,rfl,_,z⟩:=h;exact z.elim
 ·cases h with|tup r q=>exact⟨_,_,rfl,r,q⟩
 ·obtain⟨p,qs,bt,rfl,e2,_⟩:=h;cases e2
 ·obtain⟨a,xs,XW,rfl,e2,h1,h2⟩:=h;cases e2;exact⟨a,xs,rfl,h1,cf.eD (λq z=>⟨z.2.2,z.2.1⟩) h2⟩
theorem Val.el{a:V}{e:D}(h:Rp K (NM H₀ O (aN m)) H a e):Val K H₀ O Hb H (aN m) e a:=by
 cases m<;>exact h
def bU:M→D→Bool
 |.fr,_=>true
 |.un,_=>true
 |.ut,_=>true
 |_,d=>d.b8
def i6:M→D→Bool
 |.fr,_=>true
 |.un,_=>true
 |.ut,_=>true
 |.al,_=>true
 |_,d=>d.b8
def mh:M→D→Bool
 |.fr,_=>true
 |.un,_=>true
 |.ut,_=>true
 |.bo,_=>true
 |.rb,_=>true
 |_,d=>d.b8
theorem Val.bU(h:Val K H₀ O Hb H m d v)(e:J.bU m d=true):Rp K (λa=>¬O a∧H₀ a=none) H v d:=by
 cases m<;>simp only[J.bU]at e
 ·exact h.weak.im e
 ·exact h
 ·obtain⟨p,rfl,_,h1,h2,c⟩:=h;exact(c.wk λa h _=>h.1).rp ⟨h2,h1⟩
 ·exact h.weak.im e
 ·exact h.weak.im e
 ·exact h.weak.im e
 ·exact Rp.im e h.weak
 ·exact cf.rp (λq z=>⟨z.2.2,z.2.1⟩) h
theorem Val.i6(h:Val K H₀ O Hb H m d v)(e:J.i6 m d=true):Rp K (λa=>¬O a) H v d:=by
 cases m<;>simp only[J.i6]at e
 ·exact h
 ·exact Rp.wk (λa h _=>h.1) (show Rp K (λa=>¬O a∧H₀ a=none) H v d from h)
 ·exact Rp.wk (λa h _=>h.1) (h.bU rfl)
 ·exact h.weak.im e
 ·exact h.weak.im e
 ·exact h.weak.im e
 ·exact Rp.im e h.weak
 ·exact cf.rp (λq z=>z.2.2) h
theorem Val.mh(h:Val K H₀ O Hb H m d v)(e:J.mh m d=true):Rp K (λa=>H₀ a=none) H v d:=by
 cases m<;>simp only[J.mh]at e
 ·exact h.weak.im e
 ·exact Rp.wk (λa h _=>h.2) (show Rp K (λa=>¬O a∧H₀ a=none) H v d from h)
 ·exact Rp.wk (λa h _=>h.2) (h.bU rfl)
 ·obtain⟨p,rfl,_,h1,c⟩:=h;exact(c.wk λa h _=>h.2).rp h1
 ·exact h.weak.im e
 ·exact h
 ·exact Rp.im e h.weak
 ·exact cf.rp (λq z=>z.2.1) h
end
noncomputable def f6:M→Bool
 |.un=>false
 |.rb=>false
 |.ut=>false
 |_=>true
structure cM (K:PySem.W.Frag)(H₀:Hp)(O:Addr→Prop)(H:Hp)(σ:St)(env:Ev):Prop where
 sl:Paired (λ(e:Option (M×D)) (x:Option V)=>∀m d,e=some (m,d)→f6 m=true∧∃v,x=some v∧Val K H₀ O HE H m d v) env σ
 od:∀a,O a→∃o,H a=some o
 hd:∀a o,H₀ a=some o→∃o',H a=some o'
 on:∀a o,O a→H a=some o→¬iE o
def JT(K:PySem.W.Frag)(te:TE)(f:Ev→Option (M×D)):Prop :=
 ∀H₀ O H σ env Q m d,cM K H₀ O H σ env→f env=some (m,d)→(∀v H',ax H H'→Val K H₀ O H H' m d v→Q v H')→te σ H Q
def dM(K:PySem.W.Frag)(tt:TT)(f:Ev→Option Bool):Prop :=
 ∀H₀ O H σ env Q b,cM K H₀ O H σ env→f env=some b→(∀H',ax H H'→Q b H')→tt σ H Q
def fT(K:PySem.W.Frag)(H₀:Hp)(O:Addr→Prop)(Hb H:Hp)(aw:List (M×D))(vs:List V):Prop:=Paired (λmd v=>Val K H₀ O Hb H md.1 md.2 v) aw vs
def eY(K:PySem.W.Frag)(ta:TA)(f:Ev→Option (List (M×D))):Prop :=
 ∀H₀ O H σ env Q aw,cM K H₀ O H σ env→f env=some aw→(∀vs H',ax H H'→fT K H₀ O H H' aw vs→Q vs H')→ta σ H Q
section
variable {K:PySem.W.Frag}{H H' H₀:Hp}{O:Addr→Prop}{σ:St}{env:Ev}
theorem ly{α β:Type}{F G:α→β→Prop}(h:∀a b,F a b→G a b):∀{l:List α}{r:List β},Paired F l r→Paired G l r
 |_,_,.nil=>.nil
 |_,_,.cons q t=>.cons (h _ _ q) (ly h t)
theorem cM.keep(R:cM K H₀ O H σ env)(s:ax H H'):cM K H₀ O H' σ env :=
 ⟨ly (λe x h m d q=>⟨(h m d q).1,let ⟨v,e,z⟩:=(h m d q).2;⟨v,e,z.keep s⟩⟩) R.sl,λa h=>let ⟨o,q⟩:=R.od a h;⟨o,s _ _ q⟩,λa o h=>let ⟨o,q⟩:=R.hd a o h;⟨o,s _ _ q⟩,λa o h e=>by
  obtain⟨o',q⟩:=R.od a h;have z:=s _ _ q;rw[e]at z;cases z;exact R.on a _ h q⟩
theorem x6{α β:Type}{F:α→β→Prop}:∀{l:List α}{r:List β}{i:Nat}{a:α},Paired F l r→l[i]?=some a→∃b,r[i]?=some b∧F a b
 |_,_,_,_,.nil,e=>by simp at e
 |_,_,0,_,.cons h _,e=>by simp at e;subst e;exact⟨_,rfl,h⟩
 |_,_,i+1,a,.cons _ r,e=>by
  obtain⟨v,h1,h2⟩:=x6 (i:=i) (a:=a) r (by simpa using e);exact⟨v,by simpa using h1,h2⟩
theorem cM.at{i:Nat}{m:M}{d:D}(R:cM K H₀ O H σ env)(e:env[i]?=some (some (m,d))):∃v,σ[i]?=some (some v)∧f6 m=true∧Val K H₀ O HE H m d v:=by
 obtain⟨x,hx,h⟩:=x6 R.sl e;obtain⟨h0,v,rfl,hz⟩:=h m d rfl;exact⟨v,hx,h0,hz⟩
theorem Val.S1{m:M}{d:D}{v:V}{Hb:Hp}(n:f6 m=true)(h:Val K H₀ O HE H m d v):Val K H₀ O Hb H m d v:=by
 cases m<;>first|exact h|cases n
noncomputable def jV(i:Nat):Ev→Option (M×D):=λe=>(e[i]?).bind id
theorem Dm{i:Nat}:JT K (pN i) (jV i):=by
 intro H₀ O H σ env Q m d R h q;unfold jV at h;cases e:env[i]? with
 |none=>rw[e]at h;cases h
 |some x =>
  rw[e]at h;obtain rfl:x=some (m,d):=h;obtain⟨v,hv,n,hm⟩:=R.at e;exact⟨v,hv,q v H (ax.refl H) (hm.S1 n)⟩
noncomputable def jC(d:D):Ev→Option (M×D):=λ_=>some (.fr,d)
noncomputable def cD:V→Option D
 |.non=>some .non
 |.bl b=>some (.bl b)
 |.int i=>some (.int i)
 |.str x=>some (.str x)
 |.ty n=>some (.ty n)
 |_=>none
theorem jw{v:V}{d:D}(e:cD v=some d):JT K (tC v) (jC d):=by
 intro H₀ O H σ env Q m d' R h q;cases h;refine q v H (ax.refl H) ?_;cases v<;>simp only[cD]at e<;>cases e<;>constructor
def JR(K:PySem.W.Frag)(r:R2)(g:M×D→M×D→Option (M×D)):Prop :=
 ∀H₀ O H x y a b Q m d,(∀a,O a→∃o,H a=some o)→(∀a o,H₀ a=some o→∃o',H a=some o')→Val K H₀ O HE H (Prod.fst a) a.2 x→Val K H₀ O HE H (Prod.fst b) b.2 y→g a b=some (m,d)→(∀v H',ax H H'→Val K H₀ O H H' m d v→Q v H')→r x y H Q
noncomputable def ag(g:M×D→M×D→Option (M×D))(fa fb:Ev→Option (M×D)):Ev→Option (M×D):=λe=>(fa e).bind λx=>(fb e).bind λy=>g x y
theorem r9{r:R2}{g:M×D→M×D→Option (M×D)}{ta tb:TE}{fa fb:Ev→Option (M×D)}(hr:JR K r g)(ha:JT K ta fa)(hb:JT K tb fb):JT K (nX r ta tb) (ag g fa fb):=by
 intro H₀ O H σ env Q m d R h q;unfold ag at h;cases ea:fa env with
 |none=>rw[ea]at h;cases h
 |some a =>
  cases eb:fb env with
  |none=>rw[ea,eb]at h;cases h
  |some b =>
   rw[ea,eb]at h;refine ha H₀ O H σ env _ a.1 a.2 R ea λx H1 s1 h1=>?_;refine hb H₀ O H1 σ env _ b.1 b.2 (R.keep s1) eb λy H2 s2 h2=>?_;have R2:=(R.keep s1).keep s2;refine hr H₀ O H2 x y a b Q m d R2.od R2.hd (h1.keep s2).h0 h2.h0 h λv H3 s3 h3=>?_;exact q v H3 ((s1.trans s2).trans s3) (h3.hb λa z=>(s1.trans s2).free z)
noncomputable def n9(g:M×D→Option (M×D))(fa:Ev→Option (M×D)):Ev→Option (M×D):=λe=>(fa e).bind g
def JU(K:PySem.W.Frag)(r:V→Hp→VK→Prop)(g:M×D→Option (M×D)):Prop :=
 ∀H₀ O H x a Q m d,(∀a,O a→∃o,H a=some o)→(∀a o,H₀ a=some o→∃o',H a=some o')→Val K H₀ O HE H (Prod.fst a) a.2 x→g a=some (m,d)→(∀v H',ax H H'→Val K H₀ O H H' m d v→Q v H')→r x H Q
theorem S2{r:V→Hp→VK→Prop}{g:M×D→Option (M×D)}{ta:TE}{fa:Ev→Option (M×D)}(hr:JU K r g)(ha:JT K ta fa):JT K (Ge r ta) (n9 g fa):=by
 intro H₀ O H σ env Q m d R h q;unfold n9 at h;cases ea:fa env with
 |none=>rw[ea]at h;cases h
 |some a =>
  rw[ea]at h;refine ha H₀ O H σ env _ a.1 a.2 R ea λx H1 s1 h1=>?_;have R1:=R.keep s1;exact hr H₀ O H1 x a Q m d R1.od R1.hd h1.h0 h λv H3 s3 h3=>q v H3 (s1.trans s3) (h3.hb λa z=>s1.free z)
theorem gZ{H:Hp}{Hb:Hp}{i:Int}:Val K H₀ O Hb H .fr (.int i) (.int i):=Rp.int i
theorem dB{H:Hp}{Hb:Hp}{i:Bool}:Val K H₀ O Hb H .fr (.bl i) (.bl i):=Rp.bl i
theorem lz{H:Hp}{Hb:Hp}{i:Str}:Val K H₀ O Hb H .fr (.str i) (.str i):=Rp.str i
noncomputable def gI(c:Int→Int→Prop)[∀i j,Decidable (c i j)](f:Int→Int→Int):M×D→M×D→Option (M×D)
 | (_,.int i),(_,.int j)=>if c i j then some (.fr,.int (f i j))else none
 |_,_=>none
noncomputable def zt(f:Int→Int→Int):M×D→M×D→Option (M×D)
 | (_,.int i),(_,.int j)=>some (.fr,.int (f i j))
 |_,_=>none
noncomputable def qx(f:Int→Int→Bool):M×D→M×D→Option (M×D)
 | (_,.int i),(_,.int j)=>some (.fr,.bl (f i j))
 |_,_=>none
set_option tactic.hygienic true in
theorem tH{C:Int→Int→Prop}{c:Int→Int→Prop}[∀i j,Decidable (c i j)]{f:Int→Int→Int}(w:∀i j,c i j→C i j):JR K (rI C λi j=>.int (f i j)) (gI c f):=by
 intro H₀ O H x y a b Q m d _ _ h1 h2 h q;obtain⟨ma,da⟩:=a;obtain⟨mb,db⟩:=b;cases da<;>try (cases h;done)
 cases db<;>try (cases h;done)
 rename_i i j;simp only[gI]at h;split at h
 ·rename_i hc;cases h;exact⟨i,j,h1.int,h2.int,w i j hc,q _ H (ax.refl H) gZ⟩
 ·cases h
set_option tactic.hygienic true in
theorem Er{f:Int→Int→Int}:JR K (dI λi j=>.int (f i j)) (zt f):=by
 intro H₀ O H x y a b Q m d _ _ h1 h2 h q;obtain⟨ma,da⟩:=a;obtain⟨mb,db⟩:=b;cases da<;>try (cases h;done)
 cases db<;>try (cases h;done)
 rename_i i j;cases h;exact⟨i,j,h1.int,h2.int,q _ H (ax.refl H) gZ⟩
set_option tactic.hygienic true in
theorem sd{f:Int→Int→Bool}:JR K (dI λi j=>.bl (f i j)) (qx f):=by
 intro H₀ O H x y a b Q m d _ _ h1 h2 h q;obtain⟨ma,da⟩:=a;obtain⟨mb,db⟩:=b;cases da<;>try (cases h;done)
 cases db<;>try (cases h;done)
 rename_i i j;cases h;exact⟨i,j,h1.int,h2.int,q _ H (ax.refl H) dB⟩
def FI:=zt (·+·)
def j8:=zt (· - ·)
noncomputable def gE:=gI (λi j=>(-18446744073709551616<i∧i<18446744073709551616)∨(-18446744073709551616<j∧j<18446744073709551616)) (· * ·)
noncomputable def bM:=gI (λ_ j=>0<j) (· % ·)
noncomputable def pV:=gI (λi j=>0≤j∧j≤1000000∧i.natAbs<2^64) (λi j=>i^j.toNat)
def jK:=qx (λi j=>decide (i<j))
def uI:=qx (λi j=>decide (i≤j))
def f7:=qx (λi j=>decide (j<i))
def uJ:=qx (λi j=>decide (j≤i))
theorem Qw:JR K (dI λi j=>.int (i+j)) FI:=Er
theorem Qx:JR K (dI λi j=>.int (i-j)) j8:=Er
theorem Vz:(2:Int)^64=18446744073709551616:=by decide
theorem Qy:JR K (rI pP λi j=>.int (i*j)) gE:=tH λi j h=>by
 unfold pP;rw[Vz];exact h
theorem Qz:JR K (rI (λ_ j=>0<j) λi j=>.int (i%j)) bM:=tH λ_ _ h=>h
theorem QB:JR K (rI Fo λi j=>.int (i^j.toNat)) pV:=tH λ_ _ h=>h
theorem S3:JR K (dI λi j=>.bl (decide (i<j))) jK:=sd
theorem S4:JR K (dI λi j=>.bl (decide (i≤j))) uI:=sd
theorem S5:JR K (dI λi j=>.bl (decide (j<i))) f7:=sd
theorem S6:JR K (dI λi j=>.bl (decide (j≤i))) uJ:=sd
noncomputable def c7:D→Option V
 |.non=>some .non
 |.bl b=>some (.bl b)
 |.int i=>some (.int i)
 |.str x=>some (.str x)
 |_=>none
theorem lA{N:Addr→Prop}{d:D}{v w:V}(h:Rp K N H v d)(e:c7 d=some w):v=w:=by
 cases h<;>simp only[c7]at e<;>cases e<;>rfl
def aO:M×D→M×D→Option (M×D):=λa b=>(c7 a.2).bind λx=>(c7 b.2).bind λy=>if sZ x y=true then some (.fr,.bl (decide (x=y)))else none
def c9:M×D→M×D→Option (M×D):=λa b=>(c7 a.2).bind λx=>(c7 b.2).bind λy=>if sZ x y=true then some (.fr,.bl (!decide (x=y)))else none
theorem S7:JR K Gf aO:=by
 intro H₀ O H x y a b Q m d _ _ h1 h2 h q;unfold aO at h;cases e1:c7 a.2 with
 |none=>rw[e1]at h;cases h
 |some x' =>
  cases e2:c7 b.2 with
  |none=>rw[e1,e2]at h;cases h
  |some y' =>
   rw[e1,e2]at h;obtain rfl:=lA h1.weak e1;obtain rfl:=lA h2.weak e2;simp only[Option.bind_some]at h;split at h
   ·rename_i hc;cases h;exact⟨hc,q _ H (ax.refl H) dB⟩
   ·cases h
theorem S8:JR K Gg c9:=by
 intro H₀ O H x y a b Q m d _ _ h1 h2 h q;unfold c9 at h;cases e1:c7 a.2 with
 |none=>rw[e1]at h;cases h
 |some x' =>
  cases e2:c7 b.2 with
  |none=>rw[e1,e2]at h;cases h
  |some y' =>
   rw[e1,e2]at h;obtain rfl:=lA h1.weak e1;obtain rfl:=lA h2.weak e2;simp only[Option.bind_some]at h;split at h
   ·rename_i hc;cases h;exact⟨hc,q _ H (ax.refl H) dB⟩
   ·cases h
def aC:M×D→M×D→Option (M×D)
 | (m,.lst ds),(_,.int i)=>(aM ds i).map λd=>(aN m,d)
 | (m,.tup ds),(_,.int i)=>(aM ds i).map λd=>(aN m,d)
 | (_,.str z),(_,.int i)=>if z.length≤sizeLine then (aM z.cps.toList i).map λc=>(.fr,.str ⟨#[c]⟩)else none
 |_,_=>none
set_option tactic.hygienic true in
theorem S9:JR K (y6 K) aC:=by
 intro H₀ O H x y a b Q m d _ _ h1 h2 h q;obtain⟨ma,da⟩:=a;obtain⟨mb,db⟩:=b;cases da<;>try (cases h;done)
 ·cases db<;>try (cases h;done)
  rename_i z i;change (if z.length≤sizeLine then _ else none)=_ at h;split at h
  ·rename_i hl;cases e:aM z.cps.toList i with
   |none=>rw[e]at h;cases h
   |some c =>
    rw[e]at h;cases h;exact .inr (.inr ⟨z,i,c,h1.str,h2.int,hl,e,q _ H (ax.refl H) lz⟩)
  ·cases h
 ·cases db<;>try (cases h;done)
  rename_i ds i;change (aM ds i).map _=_ at h;cases e:aM ds i with
  |none=>rw[e]at h;cases h
  |some c =>
   rw[e]at h;cases h;obtain⟨p,xs,rfl,hp,hs⟩:=h1.tup;obtain⟨v,hv,r⟩:=hs.aM e;exact .inr (.inl ⟨p,xs,i,v,rfl,h2.int,hp,hv,q _ H (ax.refl H) (.el r)⟩)
 ·cases db<;>try (cases h;done)
  rename_i ds i;change (aM ds i).map _=_ at h;cases e:aM ds i with
  |none=>rw[e]at h;cases h
  |some c =>
   rw[e]at h;cases h;obtain⟨p,xs,rfl,hp,hs⟩:=h1.lst;obtain⟨v,hv,r⟩:=hs.aM e;exact .inl ⟨p,xs,i,v,rfl,h2.int,hp,hv,q _ H (ax.refl H) (.el r)⟩
end
section
variable {K:PySem.W.Frag}{H H' H₀:Hp}{O:Addr→Prop}{σ:St}{env:Ev}
noncomputable def kJ:M×D→Option Bool
 | (_,.bl b)=>some b
 |_=>none
theorem mV{a:M×D}{b:Bool}(h:kJ a=some b):a.2=.bl b:=by
 obtain⟨m,d⟩:=a;cases d<;>simp only[kJ]at h<;>first | (cases h;rfl)|cases h
def cC(fa fb:Ev→Option (M×D)):Ev→Option (M×D):=λe=>(fa e).bind λx=>(kJ x).bind λb=>if b=true then fb e else some (.fr,.bl false)
def kK(fa fb:Ev→Option (M×D)):Ev→Option (M×D):=λe=>(fa e).bind λx=>(kJ x).bind λb=>if b=true then some (.fr,.bl true)else fb e
def nB(fa:Ev→Option (M×D)):Ev→Option (M×D):=λe=>(fa e).bind λx=>(kJ x).bind λb=>some (.fr,.bl (!b))
theorem aq{α β:Type}{x:Option α}{f:α→Option β}{y:β}(h:x.bind f=some y):∃a,x=some a∧f a=some y:=by
 cases x with
 |none=>cases h
 |some a=>exact⟨a,rfl,h⟩
theorem QC{ta tb:TE}{fa fb:Ev→Option (M×D)}(ha:JT K ta fa)(hb:JT K tb fb):JT K (Ec ta tb) (cC fa fb):=by
 intro H₀ O H σ env Q m d R h q;obtain⟨a,ea,h⟩:=aq h;obtain⟨b,eb,h⟩:=aq h;refine ha H₀ O H σ env _ a.1 a.2 R ea λx H1 s1 h1=>?_;rw[mV eb]at h1;refine⟨b,h1.bl,?_⟩;cases b with
 |true =>
  rw[if_pos rfl]at h ⊢;exact hb H₀ O H1 σ env _ m d (R.keep s1) h λv H2 s2 h2=>q v H2 (s1.trans s2) (h2.hb λa z=>s1.free z)
 |false =>
  rw[if_neg aU]at h ⊢;cases h;exact q _ H1 s1 dB
theorem Ta{ta tb:TE}{fa fb:Ev→Option (M×D)}(ha:JT K ta fa)(hb:JT K tb fb):JT K (Fe ta tb) (kK fa fb):=by
 intro H₀ O H σ env Q m d R h q;obtain⟨a,ea,h⟩:=aq h;obtain⟨b,eb,h⟩:=aq h;refine ha H₀ O H σ env _ a.1 a.2 R ea λx H1 s1 h1=>?_;rw[mV eb]at h1;refine⟨b,h1.bl,?_⟩;cases b with
 |true =>
  rw[if_pos rfl]at h ⊢;cases h;exact q _ H1 s1 dB
 |false =>
  rw[if_neg aU]at h ⊢;exact hb H₀ O H1 σ env _ m d (R.keep s1) h λv H2 s2 h2=>q v H2 (s1.trans s2) (h2.hb λa z=>s1.free z)
theorem QD{ta:TE}{fa:Ev→Option (M×D)}(ha:JT K ta fa):JT K (Ed ta) (nB fa):=by
 intro H₀ O H σ env Q m d R h q;obtain⟨a,ea,h⟩:=aq h;obtain⟨b,eb,h⟩:=aq h;cases h;refine ha H₀ O H σ env _ a.1 a.2 R ea λx H1 s1 h1=>?_;rw[mV eb]at h1;exact⟨b,h1.bl,q _ H1 s1 dB⟩
def jB(f:Ev→Option (M×D)):Ev→Option Bool:=λe=>(f e).bind kJ
theorem pG{t:TE}{f:Ev→Option (M×D)}(h:JT K t f):dM K (tB t) (jB f):=by
 intro H₀ O H σ env Q b R e q;obtain⟨a,ea,e⟩:=aq e;refine h H₀ O H σ env _ a.1 a.2 R ea λx H1 s1 h1=>?_;rw[mV e]at h1;exact⟨b,h1.bl,q H1 s1⟩
theorem Bj{t:TE}{f:Ev→Option (M×D)}(h:JT K t f):dM K (xg t) (jB f):=pG h
theorem Lx{t:TE}{f:Ev→Option (M×D)}(h:JT K t f):dM K (λσ H Q=>t σ H λx H'=>∃k,tf K x H' k∧Q k H') (jB f):=by
 intro H₀ O H σ env Q b R e q;obtain⟨a,ea,e⟩:=aq e;refine h H₀ O H σ env _ a.1 a.2 R ea λx H1 s1 h1=>?_;rw[mV e]at h1;exact⟨b,by rw[h1.bl];exact rfl,q H1 s1⟩
noncomputable def bW(f g:Ev→Option Bool):Ev→Option Bool:=λe=>(f e).bind λb=>if b=true then g e else some false
noncomputable def cw(f g:Ev→Option Bool):Ev→Option Bool:=λe=>(f e).bind λb=>if b=true then some true else g e
noncomputable def cE(f:Ev→Option Bool):Ev→Option Bool:=λe=>(f e).bind λb=>some (!b)
theorem Oi{t u:TT}{f g:Ev→Option Bool}(h:dM K t f)(h':dM K u g):dM K (Fc t u) (bW f g):=by
 intro H₀ O H σ env Q b R e q;obtain⟨c,ec,e⟩:=aq e;refine h H₀ O H σ env _ c R ec λH1 s1=>?_;cases c with
 |true =>
  rw[if_pos rfl]at e ⊢;exact h' H₀ O H1 σ env _ b (R.keep s1) e λH2 s2=>q H2 (s1.trans s2)
 |false =>
  rw[if_neg aU]at e ⊢;cases e;exact q H1 s1
theorem QF{t u:TT}{f g:Ev→Option Bool}(h:dM K t f)(h':dM K u g):dM K (Ga t u) (cw f g):=by
 intro H₀ O H σ env Q b R e q;obtain⟨c,ec,e⟩:=aq e;refine h H₀ O H σ env _ c R ec λH1 s1=>?_;cases c with
 |true =>
  rw[if_pos rfl]at e ⊢;cases e;exact q H1 s1
 |false =>
  rw[if_neg aU]at e ⊢;exact h' H₀ O H1 σ env _ b (R.keep s1) e λH2 s2=>q H2 (s1.trans s2)
theorem Oj{t:TT}{f:Ev→Option Bool}(h:dM K t f):dM K (Fd t) (cE f):=by
 intro H₀ O H σ env Q b R e q;obtain⟨c,ec,e⟩:=aq e;cases e;exact h H₀ O H σ env _ c R ec λH1 s1=>q H1 s1
noncomputable def x8(c:Ev→Option Bool)(fa fb:Ev→Option (M×D)):Ev→Option (M×D):=λe=>(c e).bind λb=>if b=true then fa e else fb e
theorem QG{t:TT}{c:Ev→Option Bool}{ta tb:TE}{fa fb:Ev→Option (M×D)}(hc:dM K t c)(ha:JT K ta fa)(hb:JT K tb fb):JT K (Gb t ta tb) (x8 c fa fb):=by
 intro H₀ O H σ env Q m d R h q;obtain⟨b,eb,h⟩:=aq h;refine hc H₀ O H σ env _ b R eb λH1 s1=>?_;cases b with
 |true =>
  rw[if_pos rfl]at h ⊢;exact ha H₀ O H1 σ env _ m d (R.keep s1) h λv H2 s2 h2=>q v H2 (s1.trans s2) (h2.hb λa z=>s1.free z)
 |false =>
  rw[if_neg aU]at h ⊢;exact hb H₀ O H1 σ env _ m d (R.keep s1) h λv H2 s2 h2=>q v H2 (s1.trans s2) (h2.hb λa z=>s1.free z)
def o7(g g':M×D→M×D→Option (M×D))(fa fb fc:Ev→Option (M×D)):Ev→Option (M×D):=λe=>(fa e).bind λx=>(fb e).bind λy=>(g x y).bind λz=>(kJ z).bind λk=>if k=true then (fc e).bind λw=>g' y w else some (.fr,.bl false)
noncomputable def ah:Ev→Option (List (M×D)):=λ_=>some []
noncomputable def ae(f:Ev→Option (M×D))(g:Ev→Option (List (M×D))):Ev→Option (List (M×D)):=λe=>(f e).bind λx=>(g e).bind λr=>some (x::r)
theorem Ci:eY K j5 ah:=by
 intro H₀ O H σ env Q aw R h q;cases h;exact q [] H (ax.refl H) .nil
theorem Bk{te:TE}{ta:TA}{f:Ev→Option (M×D)}{g:Ev→Option (List (M×D))}(hf:JT K te f)(hg:eY K ta g):eY K (jZ te ta) (ae f g):=by
 intro H₀ O H σ env Q aw R h q;obtain⟨x,ex,h⟩:=aq h;obtain⟨r,er,h⟩:=aq h;cases h;refine hf H₀ O H σ env _ x.1 x.2 R ex λv H1 s1 h1=>?_;refine hg H₀ O H1 σ env _ r (R.keep s1) er λvs H2 s2 h2=>?_;exact q (v::vs) H2 (s1.trans s2) (.cons (h1.keep s2) (ly (λ_ _ z=>z.hb λa z=>s1.free z) h2))
theorem fT.eD{N:Addr→Prop}{Hb:Hp}:∀{aw:List (M×D)}{vs:List V},(∀md∈aw,∀v,Val K H₀ O Hb H md.1 md.2 v→Rp K N H v md.2)→fT K H₀ O Hb H aw vs→ao K N H vs (aw.map (·.2))
 |_,_,_,.nil=>.nil
 |md::aw,v::vs,h,.cons a r=>.cons (h md bC v a) (fT.eD (λx hx=>h x (b6 _ hx)) r)
theorem cx{p:Addr}{o:HO}(h:H p=none):ax H (upd H p o):=λb u e=>by rw[aK (cJ e h)];exact e
def g6(aw:List (M×D)):Option (M×D) :=
 if aw.length≤sizeLine then
  if (aw.all λmd=>bU md.1 md.2)=true then some (.un,.lst (aw.map (·.2)))
  else if (aw.all λmd=>i6 md.1 md.2)=true then some (.al,.lst (aw.map (·.2)))else none
 else none
def bh(fs:Ev→Option (List (M×D))):Ev→Option (M×D):=λe=>(fs e).bind g6
theorem rn{p:Addr}{xs:List V}{ds:List D}(od:∀a,O a→∃o,H a=some o)(hd:∀a o,H₀ a=some o→∃o',H a=some o')(hp:H p=none)(r:ao K (λa=>¬O a∧H₀ a=none) H xs ds):Val K H₀ O H (upd H p (.lst xs)) .un (.lst ds) (.ref p):=by
 refine⟨p,rfl,hp,?_,?_,xs,bD,?_⟩
 ·cases e:H₀ p with
  |none=>rfl
  |some o=>obtain⟨o',e'⟩:=hd p o e;rw[hp]at e';cases e'
 ·intro z;obtain⟨o,e⟩:=od p z;rw[hp]at e;cases e
 ·refine(ao.wk (λa h ⟨o,e⟩=>⟨h,?_⟩) r).keep (.same (cx hp));exact cJ e hp
theorem iI{p:Addr}(od:∀a,O a→∃o,H a=some o)(hp:H p=none):¬O p:=by
 intro z;obtain⟨o,e⟩:=od p z;rw[hp]at e;cases e
theorem kZ{p:Addr}(hd:∀a o,H₀ a=some o→∃o',H a=some o')(hp:H p=none):H₀ p=none:=by
 cases e:H₀ p with
 |none=>rfl
 |some o=>obtain⟨o',e'⟩:=hd p o e;rw[hp]at e';cases e'
theorem Dp{ta:TA}{fs:Ev→Option (List (M×D))}(ha:eY K ta fs):JT K (tm ta) (bh fs):=by
 intro H₀ O H σ env Q m d R h q;obtain⟨aw,e,h⟩:=aq h;unfold g6 at h;split at h
 ·rename_i hl;refine ha H₀ O H σ env _ aw R e λvs H1 s1 h1=>⟨by rw[←fD h1];exact hl,λp hp=>?_⟩;have R1:=R.keep s1;split at h
  ·rename_i hs;cases h;rw[bY]at hs;exact q _ _ (s1.trans (cx hp)) ((rn R1.od R1.hd hp (h1.eD λmd hm v hv=>hv.bU (hs md hm))).hb λa z=>s1.free z)
  ·split at h
   ·rename_i hs;cases h;rw[bY]at hs;refine q _ _ (s1.trans (cx hp)) ?_;exact Rp.lst (.inl bD) (iI R1.od hp) ((h1.eD λmd hm v hv=>hv.i6 (hs md hm)).keep (.same (cx hp)))
   ·cases h
 ·cases h
def sj(aw:List (M×D)):Option (M×D) :=
 if aw.length≤sizeLine then
  if (aw.all λmd=>bU md.1 md.2)=true then some (.fr,.tup (aw.map (·.2)))
  else if (aw.all λmd=>i6 md.1 md.2)=true then some (.al,.tup (aw.map (·.2)))
  else if (aw.all λmd=>mh md.1 md.2)=true then some (.rb,.tup (aw.map (·.2)))else none
 else none
def hR(fs:Ev→Option (List (M×D))):Ev→Option (M×D):=λe=>(fs e).bind sj
theorem Dq{ta:TA}{fs:Ev→Option (List (M×D))}(ha:eY K ta fs):JT K (Fp ta) (hR fs):=by
 intro H₀ O H σ env Q m d R h q;obtain⟨aw,e,h⟩:=aq h;unfold sj at h;split at h
 ·rename_i hl;refine ha H₀ O H σ env _ aw R e λvs H1 s1 h1=>⟨by rw[←fD h1];exact hl,λp hp=>?_⟩;split at h
  ·rename_i hs;cases h;rw[bY]at hs;exact q _ _ (s1.trans (cx hp)) (Rp.tup (.inl bD) ((h1.eD λmd hm v hv=>hv.bU (hs md hm)).keep (.same (cx hp))))
  ·split at h
   ·rename_i hs;cases h;rw[bY]at hs;exact q _ _ (s1.trans (cx hp)) (Rp.tup (.inl bD) ((h1.eD λmd hm v hv=>hv.i6 (hs md hm)).keep (.same (cx hp))))
   ·split at h
    ·rename_i hs;cases h;rw[bY]at hs;exact q _ _ (s1.trans (cx hp)) (Rp.tup (.inl bD) ((h1.eD λmd hm v hv=>hv.mh (hs md hm)).keep (.same (cx hp))))
    ·cases h
 ·cases h
def f9(m:M)(ds:List D):Option (M×D) :=
 if aN m=.al then (if D.cB ds=true then some (.un,.lst ds)else some (.al,.lst ds))else if aN m=.rb then (if D.cB ds=true then some (.un,.lst ds)else none)else some (.un,.lst ds)
theorem Cj{p:Addr}{xs:List V}{ds:List D}{m m':M}{d:D}(od:∀a,O a→∃o,H a=some o)(hd:∀a o,H₀ a=some o→∃o',H a=some o')(hp:H p=none)(r:ao K (NM H₀ O (aN m)) H xs ds)(h:f9 m ds=some (m',d)):Val K H₀ O H (upd H p (.lst xs)) m' d (.ref p):=by
 unfold f9 at h;split at h
 ·rename_i e;rw[e]at r;split at h
  ·rename_i e;cases h;exact rn od hd hp (ao.im e r)
  ·cases h;exact Rp.lst (.inl bD) (iI od hp) (r.keep (.same (cx hp)))
 ·split at h
  ·split at h
   ·rename_i e;cases h;exact rn od hd hp (ao.im e r)
   ·cases h
  ·rename_i e1 e2;cases h;have e:aN m=.fr:=by cases m<;>simp[aN]at e1 e2 ⊢
   rw[e]at r;exact rn od hd hp r
def jL(K:PySem.W.Frag)(r:List V→Hp→VK→Prop)(g:List (M×D)→Option (M×D)):Prop :=
 ∀H₀ O H vs aw Q m d,(∀a,O a→∃o,H a=some o)→(∀a o,H₀ a=some o→∃o',H a=some o')→fT K H₀ O HE H aw vs→g aw=some (m,d)→(∀v H',ax H H'→Val K H₀ O H H' m d v→Q v H')→r vs H Q
noncomputable def aD(g:List (M×D)→Option (M×D))(fs:Ev→Option (List (M×D))):Ev→Option (M×D):=λe=>(fs e).bind g
theorem Tb{r:List V→Hp→VK→Prop}{g:List (M×D)→Option (M×D)}{ta:TA}{fs:Ev→Option (List (M×D))}(hr:jL K r g)(ha:eY K ta fs):JT K (qp r ta) (aD g fs):=by
 intro H₀ O H σ env Q m d R h q;obtain⟨aw,e,h⟩:=aq h;refine ha H₀ O H σ env _ aw R e λvs H1 s1 h1=>?_;have R1:=R.keep s1;exact hr H₀ O H1 vs aw Q m d R1.od R1.hd (ly (λ_ _ z=>z.h0) h1) h λv H3 s3 h3=>q v H3 (s1.trans s3) (h3.hb λa z=>s1.free z)
theorem fT.one{Hb:Hp}{a:M×D}{vs:List V}(h:fT K H₀ O Hb H [a] vs):∃v,vs=[v]∧Val K H₀ O Hb H a.1 a.2 v:=by
 cases h with|cons q t=>cases t;exact⟨_,rfl,q⟩
theorem fT.two{Hb:Hp}{a b:M×D}{vs:List V}(h:fT K H₀ O Hb H [a,b] vs):∃v w,vs=[v,w]∧Val K H₀ O Hb H a.1 a.2 v∧Val K H₀ O Hb H b.1 b.2 w:=by
 cases h with|cons q t=>cases t with|cons q' t=>cases t;exact⟨_,_,rfl,q,q'⟩
noncomputable def aY:List (M×D)→Option (M×D)
 |[(_,.lst ds)]=>some (.fr,.int ds.length)
 |[(_,.tup ds)]=>some (.fr,.int ds.length)
 |[(_,.str z)]=>if z.length≤sizeLine then some (.fr,.int z.length)else none
 |_=>none
theorem Ol:jL K (λxs H Q=>∃x n,xs=[x]∧xU K x H n∧Q (.int n) H) aY:=by
 intro H₀ O H vs aw Q m d _ _ hv h q;cases aw with
 |nil=>cases h
 |cons a l =>
  obtain⟨ma,da⟩:=a;cases l with
  |cons b l=>cases da<;>cases h
  |nil =>
   obtain⟨v,rfl,hw⟩:=hv.one;cases da<;>try (cases h;done)
   ·change (if _ then _ else _)=_ at h;split at h
    ·rename_i hz;cases h;obtain rfl:=hw.str;exact⟨_,_,rfl,⟨hz,rfl⟩,q _ H (ax.refl H) gZ⟩
    ·cases h
   ·cases h;obtain⟨a,xs,rfl,r,s⟩:=hw.tup;exact⟨_,_,rfl,.inr ⟨xs,r,s.len.symm⟩,q _ H (ax.refl H) gZ⟩
   ·cases h;obtain⟨a,xs,rfl,r,s⟩:=hw.lst;exact⟨_,_,rfl,.inl ⟨xs,r,s.len.symm⟩,q _ H (ax.refl H) gZ⟩
noncomputable def pW:List (M×D)→Option (M×D)
 |[(_,.int i)]=>some (.fr,.int (if i<0 then -i else i))
 |_=>none
theorem Om:jL K (λxs H Q=>∃i,xs=[.int i]∧Q (.int (if i<0 then -i else i)) H) pW:=by
 intro H₀ O H vs aw Q m d _ _ hv h q;unfold pW at h;split at h
 ·cases h;obtain⟨v,rfl,hw⟩:=hv.one;obtain rfl:=hw.int;exact⟨_,rfl,q _ H (ax.refl H) gZ⟩
 ·cases h
noncomputable def lE:List (M×D)→Option (M×D)
 |[(_,.int i)]=>some (.fr,.int i)
 |[(_,.bl k)]=>some (.fr,.int (if k then 1 else 0))
 |_=>none
theorem Oo:jL K (λxs H Q=>(∃i,xs=[.int i]∧Q (.int i) H)∨∃k,xs=[.bl k]∧Q (.int (if k then 1 else 0)) H) lE:=by
 intro H₀ O H vs aw Q m d _ _ hv h q;rcases aw with _|⟨⟨ma,da⟩,_|⟨b,l⟩⟩
 ·cases h
 ·obtain⟨v,rfl,hw⟩:=hv.one;cases da<;>try (cases h;done)
  ·cases h;obtain rfl:=hw.bl;exact .inr ⟨_,rfl,q _ H (ax.refl H) gZ⟩
  ·cases h;obtain rfl:=hw.int;exact .inl ⟨_,rfl,q _ H (ax.refl H) gZ⟩
 ·cases da<;>cases h
noncomputable def lF:List (M×D)→Option (M×D)
 |[(_,.int i),(_,.int j)]=>some (.fr,.int (if j>i then j else i))
 |_=>none
theorem Oq:jL K (λxs H Q=>∃i j,xs=[.int i,.int j]∧Q (.int (if j>i then j else i)) H) lF:=by
 intro H₀ O H vs aw Q m d _ _ hv h q;unfold lF at h;split at h
 ·cases h;obtain⟨v,w,rfl,hx,hw⟩:=hv.two;obtain rfl:=hx.int;obtain rfl:=hw.int;exact⟨_,_,rfl,q _ H (ax.refl H) gZ⟩
 ·cases h
def qy(K:PySem.W.Frag)(t:TO)(f:Ev→Option (Option Int)):Prop :=
 ∀H₀ O H σ env Q b,cM K H₀ O H σ env→f env=some b→(∀H',ax H H'→Q b H')→t σ H Q
noncomputable def dS:Ev→Option (Option Int):=λ_=>some none
noncomputable def nC:M×D→Option Int
 | (_,.int i)=>some i
 |_=>none
theorem Ck{a:M×D}{b:Int}(h:nC a=some b):a.2=.int b:=by
 obtain⟨m,d⟩:=a;cases d<;>simp only[nC]at h<;>first | (cases h;rfl)|cases h
def cy(f:Ev→Option (M×D)):Ev→Option (Option Int):=λe=>(f e).bind λx=>(nC x).map some
theorem MT:qy K B4 dS:=by
 intro H₀ O H σ env Q b R h q;cases h;exact q H (ax.refl H)
theorem MV{t:TE}{f:Ev→Option (M×D)}(h:JT K t f):qy K (Eg t) (cy f):=by
 intro H₀ O H σ env Q b R e q;obtain⟨a,ea,e⟩:=aq e;cases ei:nC a with
 |none=>rw[ei]at e;cases e
 |some i =>
  rw[ei]at e;cases e;refine h H₀ O H σ env _ a.1 a.2 R ea λx H1 s1 h1=>?_;rw[Ck ei]at h1;exact⟨i,h1.int,q H1 s1⟩
def kM(K:PySem.W.Frag)(r:V→Option Int→Option Int→Hp→VK→Prop)(g:M×D→Option Int→Option Int→Option (M×D)):Prop :=
 ∀H₀ O H x lo hi a Q m d,(∀a,O a→∃o,H a=some o)→(∀a o,H₀ a=some o→∃o',H a=some o')→Val K H₀ O HE H (Prod.fst a) a.2 x→g a lo hi=some (m,d)→(∀v H',ax H H'→Val K H₀ O H H' m d v→Q v H')→r x lo hi H Q
noncomputable def de(g:M×D→Option Int→Option Int→Option (M×D))(f:Ev→Option (M×D))(l u:Ev→Option (Option Int)):Ev→Option (M×D):=λe=>(f e).bind λx=>(l e).bind λlo=>(u e).bind λhi=>g x lo hi
theorem Tc{r:V→Option Int→Option Int→Hp→VK→Prop}{g:M×D→Option Int→Option Int→Option (M×D)}{te:TE}{tl th:TO}{f:Ev→Option (M×D)}{l u:Ev→Option (Option Int)}(hr:kM K r g)(he:JT K te f)(hl:qy K tl l)(hu:qy K th u):JT K (Gi r te tl th) (de g f l u):=by
 intro H₀ O H σ env Q m d R h q;obtain⟨x,ex,h⟩:=aq h;obtain⟨lo,el,h⟩:=aq h;obtain⟨hi,eh,h⟩:=aq h;refine he H₀ O H σ env _ x.1 x.2 R ex λv H1 s1 h1=>?_;refine hl H₀ O H1 σ env _ lo (R.keep s1) el λH2 s2=>?_;refine hu H₀ O H2 σ env _ hi ((R.keep s1).keep s2) eh λH3 s3=>?_;have R3:=((R.keep s1).keep s2).keep s3;exact hr H₀ O H3 v lo hi x Q m d R3.od R3.hd ((h1.keep s2).keep s3).h0 h λv H4 s4 h4=>q v H4 (((s1.trans s2).trans s3).trans s4) (h4.hb λa z=>((s1.trans s2).trans s3).free z)
def cut{α:Type}(xs:List α)(lo hi:Option Int):List α:=(xs.drop (HT.aF xs.length 0 lo)).take (HT.aF xs.length xs.length hi-HT.aF xs.length 0 lo)
def FJ:M×D→Option Int→Option Int→Option (M×D)
 | (m,.lst ds),lo,hi=>f9 m (cut ds lo hi)
 |_,_,_=>none
theorem ao.cut{N:Addr→Prop}{xs:List V}{ds:List D}{lo hi:Option Int}(r:ao K N H xs ds):ao K N H (hJ xs lo hi) (J.cut ds lo hi):=by
 unfold hJ J.cut;rw[r.len];exact(r.drop _).take _
theorem MX:kM K (xX K) FJ:=by
 intro H₀ O H x lo hi a Q m d od hd h1 h q;obtain⟨ma,da⟩:=a;cases da<;>try (cases h;done)
 obtain⟨p,xs,rfl,r,s⟩:=h1.lst;exact⟨p,xs,rfl,r,λl hl=>q _ _ (cx hl) (Cj od hd hl s.cut h)⟩
noncomputable def mJ:M→M→M
 |.al,_=>.al
 |_,.al=>.al
 |.rb,_=>.rb
 |_,.rb=>.rb
 |_,_=>.fr
theorem NM.GD{a b:M}{x:Addr}(ha:aN a≠.rb)(hb:aN b≠.rb)(h:NM H₀ O (aN a) x):NM H₀ O (aN (mJ a b)) x:=by
 cases a<;>cases b<;>first|exact h|exact h.1|exact absurd rfl ha|exact absurd rfl hb
theorem NM.GF{a b:M}{x:Addr}(ha:aN a≠.rb)(hb:aN b≠.rb)(h:NM H₀ O (aN b) x):NM H₀ O (aN (mJ a b)) x:=by
 cases a<;>cases b<;>first|exact h|exact h.1|exact absurd rfl ha|exact absurd rfl hb
def x9:M×D→M×D→Option (M×D)
 | (m,.lst ds),(n,.lst es)=>if aN m=.rb∨aN n=.rb then none else if ds.length+es.length≤sizeLine then f9 (mJ m n) (ds++es)else none
 |_,_=>none
def sk(K:PySem.W.Frag):R2:=λx y H Q=>∃l b xs zs,x=.ref l∧y=.ref b∧bj K H l xs∧bj K H b zs∧xs.length+zs.length≤sizeLine∧∀p,H p=none→Q (.ref p) (upd H p (.lst (xs++zs)))
theorem QH:JR K (sk K) x9:=by
 intro H₀ O H x y a b Q m d od hd h1 h2 h q;obtain⟨ma,da⟩:=a;obtain⟨mb,db⟩:=b;cases da<;>try (cases h;done)
 cases db<;>try (cases h;done)
 change (if _ then _ else _)=_ at h;split at h
 ·cases h
 ·rename_i hn;split at h
  ·rename_i hl;obtain⟨p,xs,rfl,r,s⟩:=h1.lst;obtain⟨p',zu,rfl,r',s'⟩:=h2.lst;have n1:aN ma≠.rb:=λz=>hn (.inl z);have n2:aN mb≠.rb:=λz=>hn (.inr z);refine⟨p,p',xs,zu,rfl,rfl,r,r',by rw[s.len,s'.len];exact hl,λl hl=>q _ _ (cx hl) (Cj od hd hl (ao.app (s.wk λ_ h _=>NM.GD n1 n2 h) (s'.wk λ_ h _=>NM.GF n1 n2 h)) h)⟩
  ·cases h
end
noncomputable def own:M→Bool
 |.bo=>true
 |.bi=>true
 |_=>false
theorem Ot{m:M}(h:own m=true):f6 m=true:=by cases m<;>first|rfl|cases h
theorem oP{α β:Type}{F:α→β→Prop}:∀{l:List α}{r:List β},l.length=r.length→(∀(j:Nat) a b,l[j]?=some a→r[j]?=some b→F a b)→Paired F l r
 |[],[],_,_=>.nil
 |a::l,b::r,e,h=>.cons (h 0 a b rfl rfl) (oP (by simpa using e) λj x y h1 h2=>h (j+1) x y (by simpa using h1) (by simpa using h2))
 |[],_::_,e,_=>by simp at e
 |_::_,[],e,_=>by simp at e
def uK(H:Hp)(σ:St)(env:Ev):Prop :=
 (∀(i j:Nat) (d d':D),env[i]?=some (some (.nb,d))→env[j]?=some (some (.nb,d'))→i=j) ∧
 ∀(i j:Nat) (d:D) (x:M×D) (p q:Addr) (xs:List V),env[i]?=some (some (.nb,d))→σ[i]?=some (some (.ref p))→env[j]?=some (some x)→own x.1=true→σ[j]?=some (some (.ref q))→H p=some (.lst xs)→q≠p∧V.ref q∉xs
structure Rel (K:PySem.W.Frag)(H₀:Hp)(I:Nat→Option Addr)(O:Addr→Prop)(H:Hp)(σ:St)(env:Ev):Prop where
 e:cM K H₀ O H σ env
 fr:∀a o,(∀i,I i≠some a)→H₀ a=some o→H a=some o
 ow:∀a,O a→(∃i,I i=some a)∨H₀ a=none
 ba:∀(i:Nat) d p,env[i]?=some (some (.bi,d))→σ[i]?=some (some (.ref p))→I i=some p
 dj:∀(i j:Nat) (x y:M×D) (p:Addr),env[i]?=some (some x)→env[j]?=some (some y)→own x.1=true→own y.1=true→σ[i]?=some (some (.ref p))→σ[j]?=some (some (.ref p))→i=j
 nd:uK H σ env
def aR(O:Addr→Prop)(H:Hp)(O':Addr→Prop)(H':Hp):Prop:=∀a o,H a=some o→¬O a→H' a=some o∧¬O' a
inductive Fl where
 |nx (e:Ev)|bk (e:Ev)|ct (e:Ev)|rt (e:Ev) (m:M) (d:D)|rz (d:D)
def nD(K:PySem.W.Frag)(Z0:XK)(H₀:Hp)(I:Nat→Option Addr)(O:Addr→Prop)(H:Hp)(Ds:Ends):Fl→Prop
 |.nx e=>∀O' H' σ',Rel K H₀ I O' H' σ' e→aR O H O' H'→Ds.nx σ' H'
 |.bk e=>∀O' H' σ',Rel K H₀ I O' H' σ' e→aR O H O' H'→Ds.bk σ' H'
 |.ct e=>∀O' H' σ',Rel K H₀ I O' H' σ' e→aR O H O' H'→Ds.ct σ' H'
 |.rt e m d=>∀O' H' σ' v,Rel K H₀ I O' H' σ' e→aR O H O' H'→Val K H₀ O' HE H' m d v→Ds.rt v H'
 |.rz d=>∀H' e o,(∀a x,(∀i,I i≠some a)→H₀ a=some x→H' a=some x)→Rp K (λa=>H₀ a=none) H' (.ref e) d→Z0 (.ref e) o H'
def JS(K:PySem.W.Frag)(Z0:XK)(ts:TS)(g:Ev→Option Fl):Prop :=
 ∀H₀ I O H σ env Ds fl,Rel K H₀ I O H σ env→g env=some fl→nD K Z0 H₀ I O H Ds fl→ts Ds σ H
section
variable {Z0:XK}{K:PySem.W.Frag}{H H' H₀:Hp}{I:Nat→Option Addr}{O O':Addr→Prop}{σ:St}{env:Ev}
theorem aR.refl:aR O H O H:=λa o h n=>⟨h,n⟩
theorem aR.trans{O1 O2:Addr→Prop}{H1 H2:Hp}(a:aR O H O1 H1)(b:aR O1 H1 O2 H2):aR O H O2 H2:=λx o h n=>b x o (a x o h n).1 (a x o h n).2
theorem aR.same(s:ax H H'):aR O H O H':=λa o h n=>⟨s a o h,n⟩
theorem uK.keep(h:uK H σ env)(w:∀(i:Nat) d p,env[i]?=some (some (.nb,d))→σ[i]?=some (some (.ref p))→H' p=H p):uK H' σ env :=
 ⟨h.1,λi j d x p q xs h1 h2 h3 h4 h5 h6=>h.2 i j d x p q xs h1 h2 h3 h4 h5 (by rw[←w i d p h1 h2];exact h6)⟩
theorem cM.nest(R:cM K H₀ O H σ env){i:Nat}{d:D}{p:Addr}(h1:env[i]?=some (some (.nb,d)))(h2:σ[i]?=some (some (.ref p))):∃(qs:List Addr) (bt:List (List D)),d=.lst (bt.map D.lst)∧O p∧H₀ p=none∧H p=some (.lst (qs.map V.ref))∧qs.Nodup∧(∀q∈qs,O q∧H₀ q=none∧q≠p) ∧
  Paired (λq ds=>∃xs,H q=some (.lst xs)∧ao K (λa=>¬O a∧H₀ a=none) H xs ds) qs bt:=by
 obtain⟨v,hv,_,hm⟩:=R.at h1;rw[h2]at hv;cases hv;obtain⟨p',qs,bt,e,r⟩:=hm;cases e;exact⟨qs,bt,r⟩
theorem Rel.keep(R:Rel K H₀ I O H σ env)(s:ax H H'):Rel K H₀ I O H' σ env:=⟨R.e.keep s,λa o n h=>s _ _ (R.fr a o n h),R.ow,R.ba,R.dj,R.nd.keep λi d p h1 h2=>by
 obtain⟨qs,bt,_,_,_,e,_⟩:=R.e.nest h1 h2;rw[s _ _ e,e]⟩
noncomputable def GH:M→Bool
 |.al=>true
 |.fr=>true
 |_=>false
theorem Ou{m:M}(h:GH m=true):f6 m=true:=by cases m<;>first|rfl|cases h
theorem nD.pre{O1:Addr→Prop}{H1:Hp}{Ds:Ends}{fl:Fl}(s:aR O H O1 H1)(h:nD K Z0 H₀ I O H Ds fl):nD K Z0 H₀ I O1 H1 Ds fl:=by
 cases fl<;>simp only[nD]at h ⊢
 ·exactλO' H' σ' R t=>h O' H' σ' R (s.trans t)
 ·exactλO' H' σ' R t=>h O' H' σ' R (s.trans t)
 ·exactλO' H' σ' R t=>h O' H' σ' R (s.trans t)
 ·exactλO' H' σ' v R t=>h O' H' σ' v R (s.trans t)
 ·exact h
noncomputable def aP:Ev→Option Fl:=λe=>some (.nx e)
theorem Cm:JS K Z0 wZ aP:=by
 intro H₀ I O H σ env Ds fl R h q;cases h;exact q O H σ R aR.refl
noncomputable def au(f g:Ev→Option Fl):Ev→Option Fl:=λe=>(f e).bind λr=>match r with
 |.nx e'=>g e'
 |.bk e'=>some (.bk e')
 |.ct e'=>some (.ct e')
 |.rt e' m d=>some (.rt e' m d)
 |.rz d=>some (.rz d)
theorem Dr{t u:TS}{f g:Ev→Option Fl}(ht:JS K Z0 t f)(hu:JS K Z0 u g):JS K Z0 (xN t u) (au f g):=by
 intro H₀ I O H σ env Ds fl R h q;obtain⟨r,er,h⟩:=aq h;refine ht H₀ I O H σ env _ r R er ?_;cases r with
 |nx e'=>exactλO' H' σ' R' s=>hu H₀ I O' H' σ' e' Ds fl R' h (q.pre s)
 |bk e'=>cases h;exact q
 |ct e'=>cases h;exact q
 |rt e' m d=>cases h;exact q
 |rz d=>cases h;exact q
noncomputable def aE(f:Ev→Option (M×D)):Ev→Option Fl:=λe=>(f e).bind λx=>some (.rt e x.1 x.2)
theorem QI{t:TE}{f:Ev→Option (M×D)}(h:JT K t f):JS K Z0 (xO t) (aE f):=by
 intro H₀ I O H σ env Ds fl R e q;obtain⟨x,ex,e⟩:=aq e;cases e;exact h H₀ O H σ env _ x.1 x.2 R.e ex λv H1 s1 h1=>q O H1 σ v (R.keep s1) (aR.same s1) h1.h0
noncomputable def Td:Ev→Option Fl:=λe=>some (.rt e .fr .non)
noncomputable def aS(c:Ev→Option Bool)(f g:Ev→Option Fl):Ev→Option Fl:=λe=>(c e).bind λb=>if b=true then f e else g e
theorem Te{c:TT}{t u:TS}{fc:Ev→Option Bool}{f g:Ev→Option Fl}(hc:dM K c fc)(ht:JS K Z0 t f)(hu:JS K Z0 u g):JS K Z0 (xP c t u) (aS fc f g):=by
 intro H₀ I O H σ env Ds fl R h q;obtain⟨b,eb,h⟩:=aq h;refine hc H₀ O H σ env _ b R.e eb λH1 s1=>?_;cases b with
 |true =>
  rw[if_pos rfl]at h ⊢;exact ht H₀ I O H1 σ env Ds fl (R.keep s1) h (q.pre (aR.same s1))
 |false =>
  rw[if_neg aU]at h ⊢;exact hu H₀ I O H1 σ env Ds fl (R.keep s1) h (q.pre (aR.same s1))
noncomputable def Es:M→Option M
 |.al=>some .al
 |.fr=>some .fr
 |.un=>some .bo
 |.ut=>some .fr
 |_=>none
def iJ(x:M×D):Option (M×D):=match Es x.1 with
 |some m=>some (m,x.2)
 |none=>if x.2.b8=true then some (.fr,x.2)else none
theorem tI{α β:Type}{F:α→β→Prop}{a:α}{b:β}(q:F a b):∀{l:List α}{r:List β} (i:Nat),Paired F l r→Paired F (l.set i a) (r.set i b)
 |_,_,_,.nil=>.nil
 |_,_,0,.cons _ t=>.cons q t
 |_,_,i+1,.cons h t=>.cons h (tI q i t)
theorem get_set{α:Type}{l:List α}{i j:Nat}{a b:α}(h:(l.set i a)[j]?=some b):(j=i∧b=a)∨(j≠i∧l[j]?=some b):=by
 rw[List.getElem?_set]at h;split at h
 ·rename_i e;split at h
  ·exact .inl ⟨e.symm,(eR h).symm⟩
  ·cases h
 ·rename_i e;exact .inr ⟨λz=>e z.symm,h⟩
theorem Rel.o8{i:Nat}{x:M×D}{p:Addr}(R:Rel K H₀ I O H σ env)(hx:env[i]?=some (some x))(ho:own x.1=true)(hp:σ[i]?=some (some (.ref p))):O p∧Cell K (λa=>¬O a∧H₀ a=none) H p x.2:=by
 obtain⟨m,d⟩:=x;obtain⟨v,hv,n,hm⟩:=R.e.at hx;rw[hp]at hv;cases hv;cases m<;>simp only[own]at ho<;>try (cases ho;done)
 ·obtain⟨p',e,h1,_,c⟩:=hm;cases e;exact⟨h1,c⟩
 ·obtain⟨p',e,h1,c⟩:=hm;cases e;exact⟨h1,c⟩
theorem vI{F:Addr→List D→Prop}:∀{qs:List Addr}{bt:List (List D)}{q:Addr},Paired F qs bt→q∈qs→∃ds,F q ds
 |_,_,_,.nil,h=>nomatch h
 |_,_,_,.cons a t,h=>by
  rcases cH.mp h with rfl|h
  ·exact⟨_,a⟩
  ·exact vI t h
theorem Rel.set_plain{i:Nat}{m:M}{d:D}{v:V}(R:Rel K H₀ I O H σ env)(hm:own m=false)(hu:GH m=true)(h:Val K H₀ O HE H m d v):Rel K H₀ I O H (σ.set i (some v)) (env.set i (some (m,d))):=by
 refine⟨⟨tI (λm' d' q=>?_) i R.e.sl,R.e.od,R.e.hd,R.e.on⟩,R.fr,R.ow,λi' d' p h1 p1=>?_,λi' j x y p h1 h2 o1 o2 p1 p2=>?_,⟨λi' j d1 d2 h1 h2=>?_,λi' j d1 x p q xs h1 p1 h2 o2 p2 e=>?_⟩⟩
 ·cases q;exact⟨Ou hu,v,rfl,h⟩
 ·rcases get_set h1 with⟨rfl,q⟩|⟨n1,q1⟩
  ·cases q;cases hm
  ·rw[cP (λz=>n1 z.symm)]at p1;exact R.ba i' d' p q1 p1
 ·rcases get_set h1 with⟨rfl,q⟩|⟨n1,q1⟩
  ·cases q;rw[hm]at o1;cases o1
  ·rcases get_set h2 with⟨rfl,q⟩|⟨n2,q2⟩
   ·cases q;rw[hm]at o2;cases o2
   ·rw[cP (λz=>n1 z.symm)]at p1;rw[cP (λz=>n2 z.symm)]at p2;exact R.dj i' j x y p q1 q2 o1 o2 p1 p2
 ·rcases get_set h1 with⟨rfl,q⟩|⟨n1,q1⟩
  ·cases q;cases hu
  ·rcases get_set h2 with⟨rfl,q⟩|⟨n2,q2⟩
   ·cases q;cases hu
   ·exact R.nd.1 i' j d1 d2 q1 q2
 ·rcases get_set h1 with⟨rfl,q⟩|⟨n1,q1⟩
  ·cases q;cases hu
  ·rcases get_set h2 with⟨rfl,q⟩|⟨n2,q2⟩
   ·cases q;rw[hm]at o2;cases o2
   ·rw[cP (λz=>n1 z.symm)]at p1;rw[cP (λz=>n2 z.symm)]at p2;exact R.nd.2 i' j d1 x p q xs q1 p1 q2 o2 p2 e
theorem Rel.QJ{i:Nat}{d:D}{v:V}{H1:Hp}(R:Rel K H₀ I O H σ env)(s:ax H H1)(h:Val K H₀ O H H1 .un d v):∃O',Rel K H₀ I O' H1 (σ.set i (some v)) (env.set i (some (.bo,d)))∧aR O H O' H1:=by
 obtain⟨p,rfl,hp,h0,ho,c⟩:=h;have np:∀a,(∃o,H a=some o)→a≠p:=λa ⟨o,e⟩=>cJ e hp;have wk:∀{N:Addr→Prop}{d:D}{v:V},Rp K N H v d→Rp K (λa=>N a∧a≠p) H1 v d:=λr=>(r.wk λa n e=>⟨n,np a e⟩).keep (.same s);have qz:∀{N:Addr→Prop}{d:D}{q:Addr},Cell K N H q d→Cell K (λa=>N a∧a≠p) H1 q d:=λ{N d q} r=>by
  obtain⟨o,e,_⟩:=r.some;exact(r.wk λa n e=>⟨n,np a e⟩).keep (.same s) ((s _ _ e).trans e.symm)
 obtain⟨o,eo,VA⟩:=c.some;refine⟨λa=>O a∨a=p,⟨⟨tI (λm' d' q=>?_) i (ly (λe x h m d q=>?_) R.e.sl),?_,?_,?_⟩,?_,?_,?_,?_,?_⟩,?_⟩
 ·cases q;exact⟨rfl,_,rfl,p,rfl,.inr rfl,h0,c.wk λa h _=>⟨λz=>z.elim h.1.1 h.2,h.1.2⟩⟩
 ·obtain⟨n,v,rfl,z⟩:=h m d q;refine⟨n,v,rfl,?_⟩;cases m
  ·exact(wk z).wk λa h _=>λz=>z.elim h.1 h.2
  ·exact(wk z).wk λa h _=>⟨λz=>z.elim h.1.1 h.2,h.1.2⟩
  ·cases n
  ·obtain⟨q,rfl,h1,h2,c'⟩:=z;exact⟨q,rfl,.inl h1,h2,(qz c').wk λa h _=>⟨λz=>z.elim h.1.1 h.2,h.1.2⟩⟩
  ·obtain⟨q,rfl,h1,c'⟩:=z;exact⟨q,rfl,.inl h1,(qz c').wk λa h _=>⟨λz=>z.elim h.1.1 h.2,h.1.2⟩⟩
  ·cases n
  ·obtain⟨q,qs,bt,e1,e2,h1,h2,h3,h4,h5,h6⟩:=z;exact⟨q,qs,bt,e1,e2,.inl h1,h2,s _ _ h3,h4,λx hx=>⟨.inl (h5 x hx).1,(h5 x hx).2⟩,mU (λx ds _ ⟨xs,a,r⟩=>⟨xs,s _ _ a,((r.wk λa n e=>(⟨n,np a e⟩:(¬O a∧H₀ a=none)∧a≠p)).keep (.same s)).wk λa h _=>⟨λz=>z.elim h.1.1 h.2,h.1.2⟩⟩) h6⟩
  ·cases n
 ·intro a ha;rcases ha with ha|rfl
  ·obtain⟨o,e⟩:=R.e.od a ha;exact⟨o,s _ _ e⟩
  ·exact⟨o,eo⟩
 ·exactλa o h=>let ⟨o,e⟩:=R.e.hd a o h;⟨o,s _ _ e⟩
 ·intro a u ha e;rcases ha with ha|rfl
  ·exact(R.e.keep s).on a u ha e
  ·rw[eo]at e;cases e;exact VA
 ·exactλa o n h=>s _ _ (R.fr a o n h)
 ·intro a ha;rcases ha with ha|rfl
  ·exact R.ow a ha
  ·exact .inr h0
 ·intro i' d' p' h1 p1;rcases get_set h1 with⟨rfl,q⟩|⟨n1,q1⟩
  ·cases q
  ·rw[cP (λz=>n1 z.symm)]at p1;exact R.ba i' d' p' q1 p1
 ·intro i' j x y q h1 h2 o1 o2 p1 p2;rcases get_set h1 with⟨rfl,q1⟩|⟨n1,q1⟩
  ·rcases get_set h2 with⟨rfl,q2⟩|⟨n2,q2⟩
   ·rfl
   ·exfalso;rw[cP (λz=>n2 z.symm)]at p2;rcases get_set p1 with⟨_,z⟩|⟨z,_⟩
    ·cases z;obtain⟨_,c'⟩:=R.o8 q2 o2 p2;obtain⟨o',e',_⟩:=c'.some;rw[hp]at e';cases e'
    ·exact z rfl
  ·rcases get_set h2 with⟨rfl,q2⟩|⟨n2,q2⟩
   ·exfalso;rw[cP (λz=>n1 z.symm)]at p1;rcases get_set p2 with⟨_,z⟩|⟨z,_⟩
    ·cases z;obtain⟨_,c'⟩:=R.o8 q1 o1 p1;obtain⟨o',e',_⟩:=c'.some;rw[hp]at e';cases e'
    ·exact z rfl
   ·rw[cP (λz=>n1 z.symm)]at p1;rw[cP (λz=>n2 z.symm)]at p2;exact R.dj i' j x y q q1 q2 o1 o2 p1 p2
 ·refine⟨λi' j d1 d2 h1 h2=>?_,λi' j d1 x p' q xs h1 p1 h2 o2 p2 e=>?_⟩
  ·rcases get_set h1 with⟨rfl,z⟩|⟨n1,q1⟩
   ·cases z
   ·rcases get_set h2 with⟨rfl,z⟩|⟨n2,q2⟩
    ·cases z
    ·exact R.nd.1 i' j d1 d2 q1 q2
  ·rcases get_set h1 with⟨rfl,z⟩|⟨n1,q1⟩
   ·cases z
   ·rw[cP (λz=>n1 z.symm)]at p1;obtain⟨qs,bt,_,_,_,e3,_,_,h6⟩:=R.e.nest q1 p1;rw[s _ _ e3]at e;cases e;rcases get_set h2 with⟨rfl,z⟩|⟨n2,q2⟩
    ·rcases get_set p2 with⟨_,z⟩|⟨z,_⟩
     ·cases z;refine⟨(λz=>by rw[z,e3]at hp;cases hp),λz=>?_⟩;obtain⟨a,ha,ea⟩:=cX.mp z;cases ea;obtain⟨ds,xs,hx,_⟩:=vI h6 ha;rw[hp]at hx;cases hx
     ·exact absurd rfl z
    ·rw[cP (λz=>n2 z.symm)]at p2;exact R.nd.2 i' j d1 x p' q _ q1 p1 q2 o2 p2 e3
 ·intro a o h n;exact⟨s a o h,λz=>z.elim n (np a ⟨o,h⟩)⟩
theorem Rel.give{i:Nat}{x y:M×D}{v:V}{H1:Hp}(R:Rel K H₀ I O H σ env)(s:ax H H1)(h:Val K H₀ O H H1 x.1 x.2 v)(e:iJ x=some y):∃O',Rel K H₀ I O' H1 (σ.set i (some v)) (env.set i (some y))∧aR O H O' H1:=by
 obtain⟨m,d⟩:=x;unfold iJ at e;cases m<;>simp only[Es]at e
 ·cases e;exact⟨O,(R.keep s).set_plain rfl rfl h,.same s⟩
 ·cases e;exact⟨O,(R.keep s).set_plain rfl rfl h,.same s⟩
 ·cases e;exact R.QJ s h
 ·split at e
  ·rename_i hi;cases e;exact⟨O,(R.keep s).set_plain rfl rfl (show Rp K _ H1 v d from h.weak.im hi),.same s⟩
  ·cases e
 ·split at e
  ·rename_i hi;cases e;exact⟨O,(R.keep s).set_plain rfl rfl (show Rp K _ H1 v d from h.weak.im hi),.same s⟩
  ·cases e
 ·split at e
  ·rename_i hi;cases e;exact⟨O,(R.keep s).set_plain rfl rfl (show Rp K _ H1 v d from h.weak.im hi),.same s⟩
  ·cases e
 ·split at e
  ·rename_i hi;cases e;exact⟨O,(R.keep s).set_plain rfl rfl (show Rp K _ H1 v d from h.weak.im hi),.same s⟩
  ·cases e
 ·cases e;exact⟨O,(R.keep s).set_plain rfl rfl (show Rp K _ H1 v d from h.bU rfl),.same s⟩
def aJ(i:Nat)(f:Ev→Option (M×D)):Ev→Option Fl:=λe=>(f e).bind λx=>(iJ x).bind λy=>some (.nx (e.set i (some y)))
theorem wG{i:Nat}{t:TE}{f:Ev→Option (M×D)}(h:JT K t f):JS K Z0 (g8 t (iL i)) (aJ i f):=by
 intro H₀ I O H σ env Ds fl R e q;obtain⟨x,ex,e⟩:=aq e;obtain⟨y,ey,e⟩:=aq e;cases e;refine h H₀ O H σ env _ x.1 x.2 R.e ex λv H1 s1 h1=>?_;obtain⟨O',R',st⟩:=R.give (i:=i) s1 h1 ey;exact q O' H1 _ R' st
theorem Rel.mut{i:Nat}{m:M}{d d':D}{p:Addr}{o:HO}(R:Rel K H₀ I O H σ env)(hx:env[i]?=some (some (m,d)))(ho:own m=true)(hp:σ[i]?=some (some (.ref p)))
  (c:Cell K (λa=>¬O a∧H₀ a=none) (upd H p o) p d'):Rel K H₀ I O (upd H p o) σ (env.set i (some (m,d')))∧aR O H O (upd H p o):=by
 obtain⟨hO,c0⟩:=R.o8 hx ho hp;obtain⟨o0,e0,nt⟩:=c0.some;have kp:∀{N:Addr→Prop},(∀a,N a→¬O a)→Keeps N H (upd H p o):=λw a u h z=>by
  have gP:a≠p:=by
   rintro rfl;rcases z with z|z
   ·exact w _ z hO
   ·rw[e0]at h;cases h;exact nt z
  rw[aK gP];exact h
 have hi:i<env.length:=by
  rcases yL i env.length with h|h
  ·exact h
  ·rw[yM h]at hx;cases hx
 have hσ:σ=σ.set i (some (.ref p)):=by
  refine List.ext_getElem? λj=>?_;rw[List.getElem?_set];split
  ·rename_i z;subst z;have hl:i<σ.length:=by rw[←fD R.e.sl];exact hi
   rw[if_pos hl,hp]
  ·rfl
 refine⟨⟨⟨?_,?_,?_,?_⟩,?_,R.ow,?_,?_,?_⟩,?_⟩
 ·
  have base:∀(j:Nat) (e:Option (M×D)) (x:Option V),(env.set i (some (m,d')))[j]?=some e→σ[j]?=some x→∀m d,e=some (m,d)→f6 m=true∧∃v,x=some v∧Val K H₀ O HE (upd H p o) m d v:=by
   intro j e x he qA m1 d1 q;subst q;rcases get_set he with⟨rfl,q⟩|⟨nj,q⟩
   ·cases q;rw[hp]at qA;cases qA;refine⟨Ot ho,_,rfl,?_⟩;cases m<;>simp only[own]at ho<;>try (cases ho;done)
    ·obtain⟨v,hv,n,hm⟩:=R.e.at hx;rw[hp]at hv;cases hv;obtain⟨p',e,h1,h2,_⟩:=hm;cases e;exact⟨p,rfl,h1,h2,c⟩
    ·exact⟨p,rfl,hO,c⟩
   ·obtain⟨v,hv,n,hm⟩:=R.e.at q;rw[qA]at hv;cases hv;refine⟨n,v,rfl,?_⟩;have nq:∀{p':Addr},own m1=true→v=.ref p'→p'≠p:=λ{p'} zv ev z=>by
     subst ev;subst z;exact nj (R.dj j i _ _ p' q hx zv ho qA hp)
    cases m1
    ·exact Rp.keep (kp λa h=>h) hm
    ·exact Rp.keep (kp λa h=>h.1) hm
    ·cases n
    ·obtain⟨p',rfl,h1,h2,c'⟩:=hm;exact⟨p',rfl,h1,h2,c'.keep (kp λa h=>h.1) (aK (nq rfl rfl))⟩
    ·obtain⟨p',rfl,h1,c'⟩:=hm;exact⟨p',rfl,h1,c'.keep (kp λa h=>h.1) (aK (nq rfl rfl))⟩
    ·cases n
    ·obtain⟨p',qs,bt,rfl,e2,h1,h2,h3,h4,h5,h6⟩:=hm;obtain⟨z1,z2⟩:=R.nd.2 j i d1 (m,d) p' p _ q qA hx ho hp h3;refine⟨p',qs,bt,rfl,e2,h1,h2,by rw[aK (λz=>z1 z.symm)];exact h3,h4,h5,mU (λx ds hx ⟨xs,a,r⟩=>⟨xs,?_,r.keep (kp λa h=>h.1)⟩) h6⟩;rw[aK (λz=>z2 (cX.mpr ⟨x,hx,by rw[z]⟩))];exact a
    ·cases n
  refine oP ?_ λj e x h1 h2=>base j e x h1 h2;rw[nL];exact fD R.e.sl
 ·intro a ha;by_cases z:a=p
  ·subst z;exact⟨o,bD⟩
  ·rw[aK z];exact R.e.od a ha
 ·intro a u h;by_cases z:a=p
  ·subst z;exact⟨o,bD⟩
  ·rw[aK z];exact R.e.hd a u h
 ·intro a u ha e;by_cases z:a=p
  ·subst z;obtain⟨o1,e1,n1⟩:=c.some;rw[e]at e1;cases e1;exact n1
  ·rw[aK z]at e;exact R.e.on a u ha e
 ·intro a u n h;have z:a≠p:=by
   rintro rfl;rcases R.ow a hO with⟨i,q⟩|q
   ·exact n i q
   ·rw[h]at q;cases q
  rw[aK z];exact R.fr a u n h
 ·intro i' e' p' h1 p1;rcases get_set h1 with⟨rfl,q⟩|⟨n1,q1⟩
  ·cases q;exact R.ba _ d p' hx p1
  ·exact R.ba i' e' p' q1 p1
 ·intro i' j x y q h1 h2 o1 o2 p1 p2;have f:∀{k:Nat}{x:M×D},(env.set i (some (m,d')))[k]?=some (some x)→own x.1=true→∃x',env[k]?=some (some x')∧own x'.1=true:=λ{k x} h o=>by
   rcases get_set h with⟨rfl,q⟩|⟨_,q⟩
   ·exact⟨_,hx,ho⟩
   ·exact⟨x,q,o⟩
  obtain⟨x',a1,b1⟩:=f h1 o1;obtain⟨y',a2,b2⟩:=f h2 o2;exact R.dj i' j x' y' q a1 a2 b1 b2 p1 p2
 ·have g:∀{k:Nat}{d1:D},(env.set i (some (m,d')))[k]?=some (some (.nb,d1))→env[k]?=some (some (.nb,d1)):=λ{k d1} h=>by
   rcases get_set h with⟨rfl,q⟩|⟨_,q⟩
   ·cases q;cases ho
   ·exact q
  refine⟨λi' j d1 d2 h1 h2=>R.nd.1 i' j d1 d2 (g h1) (g h2),λi' j d1 x p' q xs h1 p1 h2 o2 p2 e=>?_⟩;obtain⟨qs,bt,_,_,_,e3,_⟩:=R.e.nest (g h1) p1;obtain⟨z1,_⟩:=R.nd.2 i' i d1 (m,d) p' p _ (g h1) p1 hx ho hp e3;rw[aK (λz=>z1 z.symm)]at e;rcases get_set h2 with⟨rfl,z⟩|⟨_,z⟩
  ·cases z;exact R.nd.2 i' j d1 (m,d) p' q xs (g h1) p1 hx ho p2 e
  ·exact R.nd.2 i' j d1 x p' q xs (g h1) p1 z o2 p2 e
 ·intro a u h n;have z:a≠p:=by rintro rfl;exact n hO
  exact⟨by rw[aK z];exact h,n⟩
end
section
variable {K:PySem.W.Frag}{H H' H₀:Hp}{I:Nat→Option Addr}{O O':Addr→Prop}{σ:St}{env:Ev}
def jx(i:Nat)(e:Ev):Option (M×List D):=match e[i]? with
 |some (some (m,.lst ds))=>if own m=true then some (m,ds)else none
 |_=>none
theorem Cp{i:Nat}{e:Ev}{m:M}{ds:List D}(h:jx i e=some (m,ds)):e[i]?=some (some (m,.lst ds))∧own m=true:=by
 unfold jx at h;split at h
 ·rename_i e;split at h
  ·cases h;exact⟨e,by assumption⟩
  ·cases h
 ·cases h
theorem Rel.lst{i:Nat}{m:M}{ds:List D}(R:Rel K H₀ I O H σ env)(h:jx i env=some (m,ds)):∃p xs,σ[i]?=some (some (.ref p))∧O p∧H p=some (.lst xs)∧ao K (λa=>¬O a∧H₀ a=none) H xs ds:=by
 obtain⟨e,o⟩:=Cp h;obtain⟨v,hv,n,hm⟩:=R.e.at e;cases m<;>simp only[own]at o<;>try (cases o;done)
 ·obtain⟨p,rfl,h1,h2,xs,c,r⟩:=hm;exact⟨p,xs,hv,h1,c,r⟩
 ·obtain⟨p,rfl,h1,xs,c,r⟩:=hm;exact⟨p,xs,hv,h1,c,r⟩
theorem ao.upd{xs:List V}{ds:List D}{p:Addr}{o:HO}{o0:HO}(hO:O p)(h0:H p=some o0)(nt:¬iE o0)(r:ao K (λa=>¬O a∧H₀ a=none) H xs ds):ao K (λa=>¬O a∧H₀ a=none) (L2.upd H p o) xs ds:=by
 refine r.keep λa u e z=>?_;have gP:a≠p:=by
  rintro rfl;rcases z with z|z
  ·exact z.1 hO
  ·rw[h0]at e;cases e;exact nt z
 rw[aK gP];exact e
theorem Rel.FK{i:Nat}{m:M}{ds:List D}{p:Addr}{xs ys:List V}{es:List D}(R:Rel K H₀ I O H σ env)(h:jx i env=some (m,ds))(hp:σ[i]?=some (some (.ref p)))(hx:H p=some (.lst xs))(r:ao K (λa=>¬O a∧H₀ a=none) H ys es) :
  Rel K H₀ I O (L2.upd H p (.lst ys)) σ (env.set i (some (m,.lst es)))∧aR O H O (L2.upd H p (.lst ys)):=by
 obtain⟨e,o⟩:=Cp h;have hO:=(R.o8 e o hp).1;exact R.mut e o hp ⟨ys,bD,r.upd hO hx (λz=>z)⟩
def eO(i:Nat)(f:Ev→Option (M×D)):Ev→Option Fl:=λe=>(f e).bind λx=>if bU x.1 x.2=true then (jx i e).bind λy=>if y.2.length<sizeLine then some (.nx (e.set i (some (y.1,.lst (y.2++[x.2])))))else none else none
theorem QK{i:Nat}{t:TE}{f:Ev→Option (M×D)}(h:JT K t f):JS K Z0 (w6 (nZ K "list" vU (pN i) (jZ t j5))) (eO i f):=by
 intro H₀ I O H σ env Ds fl R e q;obtain⟨x,ex,e⟩:=aq e;split at e
 ·rename_i hs;obtain⟨⟨m,ds⟩,ey,e⟩:=aq e;split at e
  ·rename_i hl;cases e;obtain⟨p,xs,hp,hO,hx,r⟩:=R.lst ey;refine⟨.ref p,hp,.inl ⟨rfl,xs,.inl (.inl hx)⟩,?_⟩;refine h H₀ O H σ env _ x.1 x.2 R.e ex λv H1 s1 h1=>?_;refine⟨p,xs,v,rfl,rfl,s1 _ _ hx,by rw[r.len];exact hl,?_⟩;have R1:=R.keep s1;obtain⟨R2,st⟩:=R1.FK (ys:=xs++[v]) (es:=ds++[x.2]) ey hp (s1 _ _ hx) ((r.keep (.same s1)).app (.cons (h1.bU hs) .nil));exact q O _ σ R2 ((aR.same s1).trans st)
  ·cases e
 ·cases e
def rQ(i:Nat)(fk fe:Ev→Option (M×D)):Ev→Option Fl:=λe=>(fe e).bind λx=>(fk e).bind λk=>(nC k).bind λk=>if bU x.1 x.2=true then (jx i e).bind λy=>(fY y.2.length k).bind λj=>some (.nx (e.set i (some (y.1,.lst (y.2.set j x.2)))))else none
theorem MY{i:Nat}{t tk:TE}{f fk:Ev→Option (M×D)}(h:JT K t f)(hk:JT K tk fk):JS K Z0 (g8 t (Fm (pN i) tk Eh)) (rQ i fk f):=by
 intro H₀ I O H σ env Ds fl R e q;obtain⟨x,ex,e⟩:=aq e;obtain⟨k,ek,e⟩:=aq e;obtain⟨k',VC,e⟩:=aq e;split at e
 ·rename_i hs;obtain⟨⟨m,ds⟩,ey,e⟩:=aq e;obtain⟨j,ej,e⟩:=aq e;cases e;obtain⟨p,xs,hp,hO,hx,r⟩:=R.lst ey;refine h H₀ O H σ env _ x.1 x.2 R.e ex λv H1 s1 h1=>?_;refine⟨.ref p,hp,?_⟩;refine hk H₀ O H1 σ env _ k.1 k.2 (R.keep s1).e ek λw H2 s2 h2=>?_;rw[Ck VC]at h2;have s:=s1.trans s2;refine⟨p,xs,k',j,rfl,h2.int,s _ _ hx,by rw[r.len];exact ej,?_⟩;obtain⟨R2,st⟩:=(R.keep s).FK (ys:=xs.set j v) (es:=ds.set j x.2) ey hp (s _ _ hx) ((r.keep (.same s)).set ((h1.keep s2).bU hs) j);exact q O _ σ R2 ((aR.same s).trans st)
 ·cases e
noncomputable def cQ(i:Nat)(e:Ev):Ev:=match e[i]? with
 |some (some (.bo,d))=>e.set i (some (.fr,d))
 |_=>e
def pX(i:Nat)(g:Ev→Option Fl):Ev→Option Fl:=λe=>g (cQ i e)
set_option tactic.hygienic true in
theorem Rel.cQ{i:Nat}(R:Rel K H₀ I O H σ env):∃O',Rel K H₀ I O' H σ (J.cQ i env)∧aR O H O' H:=by
 unfold J.cQ;split
 ·rename_i d e;obtain⟨v,hv,n,p,rfl,hO,h0,c⟩:=R.e.at e;have hi:i<env.length:=by
   rcases yL i env.length with h|h
   ·exact h
   ·rw[yM h]at e;cases e
  have W:∀{a:Addr},¬O a→¬(O a∧a≠p):=λh z=>h z.1;refine⟨λa=>O a∧a≠p,⟨⟨?_,λa h=>R.e.od a h.1,R.e.hd,λa o h=>R.e.on a o h.1⟩,R.fr,λa h=>R.ow a h.1,?_,?_,?_⟩,λa o h n=>⟨h,W n⟩⟩
  ·have base:∀(j:Nat) (y:Option (M×D)) (x:Option V),(env.set i (some (.fr,d)))[j]?=some y→σ[j]?=some x→∀m d,y=some (m,d)→f6 m=true∧∃v,x=some v∧Val K H₀ (λa=>O a∧a≠p) HE H m d v:=by
    intro j y x hy hx m1 d1 q;subst q;rcases get_set hy with⟨rfl,q⟩|⟨nj,q⟩
    ·cases q;rw[hv]at hx;cases hx;exact⟨rfl,_,rfl,(c.wk λa h _=>(⟨W h.1,h.2⟩:¬(O a∧a≠p)∧H₀ a=none)).rp ⟨λz=>z.2 rfl,h0⟩⟩
    ·obtain⟨v,lZ,n1,hm⟩:=R.e.at q;rw[hx]at lZ;cases lZ;refine⟨n1,v,rfl,?_⟩;have nq:∀{p':Addr},own m1=true→v=.ref p'→p'≠p:=λ{p'} zv ev z=>by
      subst ev;subst z;exact nj (R.dj j i _ _ p' q e zv rfl hx hv)
     cases m1
     ·exact Rp.wk (λa h _=>W h) hm
     ·exact Rp.wk (λa h _=>⟨W h.1,h.2⟩) hm
     ·cases n1
     ·obtain⟨p',rfl,h1,h2,c'⟩:=hm;exact⟨p',rfl,⟨h1,nq rfl rfl⟩,h2,c'.wk λa h _=>⟨W h.1,h.2⟩⟩
     ·obtain⟨p',rfl,h1,c'⟩:=hm;exact⟨p',rfl,⟨h1,nq rfl rfl⟩,c'.wk λa h _=>⟨W h.1,h.2⟩⟩
     ·cases n1
     ·obtain⟨p',qs,bt,rfl,e2,h1,h2,h3,h4,h5,h6⟩:=hm;obtain⟨z1,z2⟩:=R.nd.2 j i d1 (.bo,d) p' p _ q hx e rfl hv h3;exact⟨p',qs,bt,rfl,e2,⟨h1,λz=>z1 z.symm⟩,h2,h3,h4,λx hx=>⟨⟨(h5 x hx).1,λz=>z2 (cX.mpr ⟨x,hx,by rw[z]⟩)⟩,(h5 x hx).2⟩,mU (λx ds _ ⟨xs,a,r⟩=>⟨xs,a,r.wk λa h _=>⟨W h.1,h.2⟩⟩) h6⟩
     ·cases n1
   refine oP ?_ λj e x h1 h2=>base j e x h1 h2;rw[nL];exact fD R.e.sl
  ·intro i' d' p' h1 p1;rcases get_set h1 with⟨rfl,z⟩|⟨_,z1⟩
   ·cases z
   ·exact R.ba i' d' p' z1 p1
  ·intro i' j x y q h1 h2 o1 o2 p1 p2;rcases get_set h1 with⟨rfl,z⟩|⟨_,z1⟩
   ·cases z;cases o1
   ·rcases get_set h2 with⟨rfl,z⟩|⟨_,z2⟩
    ·cases z;cases o2
    ·exact R.dj i' j x y q z1 z2 o1 o2 p1 p2
  ·refine⟨λi' j d1 d2 h1 h2=>?_,λi' j d1 x p' q xs h1 p1 h2 o2 p2 e'=>?_⟩
   ·rcases get_set h1 with⟨rfl,z⟩|⟨_,z1⟩
    ·cases z
    ·rcases get_set h2 with⟨rfl,z⟩|⟨_,z2⟩
     ·cases z
     ·exact R.nd.1 i' j d1 d2 z1 z2
   ·rcases get_set h1 with⟨rfl,z⟩|⟨_,z1⟩
    ·cases z
    ·rcases get_set h2 with⟨rfl,z⟩|⟨_,z2⟩
     ·cases z;cases o2
     ·exact R.nd.2 i' j d1 x p' q xs z1 p1 z2 o2 p2 e'
 ·exact⟨O,R,aR.refl⟩
theorem QL{i:Nat}{t:TS}{g:Ev→Option Fl}(h:JS K Z0 t g):JS K Z0 t (pX i g):=by
 intro H₀ I O H σ env Ds fl R e q;obtain⟨O',R',st⟩:=R.cQ (i:=i);exact h H₀ I O' H σ _ Ds fl R' e (q.pre st)
theorem Rp.VD{N:Addr→Prop}{v:V}{d:D}{O2:Addr→Prop}{H2:Hp}(on:∀a o,O a→H a=some o→¬iE o)(st:aR O H O2 H2)(w:∀a,N a→¬O a)(r:Rp K N H v d):Rp K (λa=>N a∧¬O2 a) H2 v d:=by
 refine(Rp.wk (N':=λa=>N a∧¬O2 a) (λa n ⟨o,e⟩=>⟨n,(st a o e (w a n)).2⟩) r).keep λa o e z=>?_;refine(st a o e ?_).1;rcases z with z|z
 ·exact w a z.1
 ·exactλh=>on a o h e z
structure lG (K:PySem.W.Frag)(H₀:Hp)(O:Addr→Prop)(J:It)(H:Hp)(m:M)(ds:List D):Prop where
 go:∀O2 H2 i,aR O H O2 H2→i<ds.length→J.go i H2
 iU:∀O2 H2 i x H3,aR O H O2 H2→i<ds.length→J.iU i H2 x H3→ax H2 H3∧∃d,ds[i]?=some d∧Val K H₀ O2 HE H3 m d x
 stop:∀O2 H2,aR O H O2 H2→J.stop ds.length H2
noncomputable def fC:M→Bool
 |.al=>true
 |.fr=>true
 |_=>false
def JI(K:PySem.W.Frag)(wi:TI)(it:Ev→Option (M×List D)):Prop :=
 ∀H₀ O H σ env R m ds,cM K H₀ O H σ env→it env=some (m,ds)→(∀J H',ax H H'→fC m=true→lG K H₀ O J H' m ds→R J H')→wi σ H R
noncomputable def gR:M→Option M
 |.al=>some .al
 |.fr=>some .fr
 |.un=>some .fr
 |_=>none
def kN(f:Ev→Option (M×D)):Ev→Option (M×List D):=λe=>(f e).bind λx=>match x.2 with
 |.lst ds=>(gR x.1).map λm=>(m,ds)
 |_=>none
theorem Cq{m n:M}{ds:List D}{v:V}{Hb:Hp}(e:gR m=some n)(h:Val K H₀ O Hb H m (.lst ds) v):fC n=true∧∃a xs,v=.ref a∧((Rd H a (.lst xs)∧¬O a)∨uH K a xs)∧ao K (NM H₀ O n) H xs ds:=by
 cases m<;>simp only[gR]at e<;>cases e
 ·cases h with
  |lst r n q=>exact⟨rfl,_,_,rfl,.inl ⟨r,n⟩,q⟩
  |lstK r q=>exact⟨rfl,_,_,rfl,.inr r,q⟩
 ·cases h with
  |lst r n q=>exact⟨rfl,_,_,rfl,.inl ⟨r,n.1⟩,q⟩
  |lstK r q=>exact⟨rfl,_,_,rfl,.inr r,q⟩
 ·obtain⟨p,rfl,_,_,h2,xs,q,r⟩:=h;exact⟨rfl,_,_,rfl,.inl ⟨.inl q,h2⟩,r.wk λa h _=>h.1⟩
theorem NM.no{n:M}{a:Addr}(e:fC n=true)(h:NM H₀ O n a):¬O a:=by
 cases n<;>first|exact h|exact h.1|cases e
theorem vW{n:M}{d:D}{v:V}{O2:Addr→Prop}{H2:Hp}(e:fC n=true)(on:∀a o,O a→H a=some o→¬iE o)(st:aR O H O2 H2)(r:Rp K (NM H₀ O n) H v d):Val K H₀ O2 HE H2 n d v:=by
 have z:=Rp.VD on st (λa h=>NM.no e h) r;cases n
 ·exact z.wk λa h _=>h.2
 ·exact z.wk λa h _=>⟨h.2,h.1.2⟩
 ·cases e
 ·cases e
 ·cases e
 ·cases e
 ·cases e
 ·cases e
theorem Ly{a:Addr}{xs:List V}{ds:List D}{n:M}(e:fC n=true)(on:∀a o,O a→H a=some o→¬iE o)(hr:(Rd H a (.lst xs)∧¬O a)∨uH K a xs)(r:ao K (NM H₀ O n) H xs ds):lG K H₀ O (yW K a) H n ds:=by
 have st:∀{O2:Addr→Prop}{H2:Hp},aR O H O2 H2→bj K H2 a xs:=λ{O2 H2} s=>by
  rcases hr with⟨h|⟨o,h⟩,ha⟩|h
  ·exact .inl (.inl (s _ _ h ha).1)
  ·exact .inl (.inr ⟨o,(s _ _ h ha).1⟩)
  ·exact .inr h
 refine⟨λO2 H2 i s hi=>?_,λO2 H2 i x H3 s hi y=>?_,λO2 H2 s=>⟨xs,st s,by rw[r.len];exact a7 _⟩⟩
 ·exact⟨xs,xs[i]'(by rw[r.len];exact hi),st s,by simp⟩
 ·obtain⟨rfl,y⟩:=y;have y:=y xs (st s);obtain⟨v,hv,rv⟩:=r.get (i:=i) (d:=ds[i]) (by simp[hi]);rw[y]at hv;cases hv;exact⟨ax.refl _,ds[i],by simp[hi],vW e on s rv⟩
theorem Ov{t:TE}{f:Ev→Option (M×D)}(h:JT K t f):JI K (w9 K t) (kN f):=by
 intro H₀ O H σ env R m ds Re e q;obtain⟨⟨m0,d0⟩,ex,e⟩:=aq e;cases d0<;>simp only at e<;>try (cases e;done)
 cases em:gR m0 with
 |none=>rw[em]at e;cases e
 |some n =>
  rw[em]at e;cases e;refine h H₀ O H σ env _ _ _ Re ex λv H1 s1 h1=>?_;obtain⟨e1,a,xs,rfl,hr,r⟩:=Cq em h1;exact⟨a,rfl,⟨xs,hr.elim (λz=>.inl z.1) .inr⟩,q _ H1 s1 e1 (Ly e1 (Re.keep s1).on hr r)⟩
theorem MZ{a:Addr}{xs:List V}{ds:List D}{n:M}(e:fC n=true)(on:∀a o,O a→H a=some o→¬iE o)(hr:aZ K H a xs)(r:ao K (NM H₀ O n) H xs ds):lG K H₀ O (yX K a) H n ds:=by
 have st:∀{O2:Addr→Prop}{H2:Hp},aR O H O2 H2→aZ K H2 a xs:=λ{O2 H2} s=>by
  rcases hr with h|h
  ·exact .inl (s _ _ h λz=>on _ _ z h trivial).1
  ·exact .inr h
 refine⟨λO2 H2 i s hi=>?_,λO2 H2 i x H3 s hi y=>?_,λO2 H2 s=>⟨xs,st s,by rw[r.len];exact a7 _⟩⟩
 ·exact⟨xs,xs[i]'(by rw[r.len];exact hi),st s,by simp⟩
 ·obtain⟨rfl,y⟩:=y;have y:=y xs (st s);obtain⟨v,hv,rv⟩:=r.get (i:=i) (d:=ds[i]) (by simp[hi]);rw[y]at hv;cases hv;exact⟨ax.refl _,ds[i],by simp[hi],vW e on s rv⟩
def GK(f:Ev→Option (M×D)):Ev→Option (M×List D):=λe=>(f e).bind λx=>match x.2 with
 |.tup ds=>(gR x.1).map λm=>(m,ds)
 |_=>none
theorem QM{t:TE}{f:Ev→Option (M×D)}(h:JT K t f):JI K (xR K t) (GK f):=by
 intro H₀ O H σ env R m ds Re e q;obtain⟨⟨m0,d0⟩,ex,e⟩:=aq e;cases d0<;>simp only at e<;>try (cases e;done)
 cases em:gR m0 with
 |none=>rw[em]at e;cases e
 |some n =>
  rw[em]at e;cases e;refine h H₀ O H σ env _ _ _ Re ex λv H1 s1 h1=>?_;obtain⟨a,xs,rfl,hr,r⟩:=h1.tup;have e1:aN m0=m∧fC m=true:=by clear ex h1 r;cases m0<;>cases em<;>exact⟨rfl,rfl⟩
  rw[e1.1]at r;exact⟨a,rfl,⟨xs,hr⟩,q _ H1 s1 e1.2 (MZ e1.2 (Re.keep s1).on hr r)⟩
noncomputable def cZ(lo:Int)(n:Nat):List D:=(List.range n).map λ(k:Nat)=>.int (lo+(k:Int))
theorem M0{lo:Int}{n:Nat}:lG K H₀ O (uq lo n) H .fr (cZ lo n):=by
 have l:(cZ lo n).length=n:=by simp[cZ]
 refine⟨λO2 H2 i s hi=>by rw[l]at hi;exact hi,λO2 H2 i x H3 s hi y=>?_,λO2 H2 s=>by rw[l];exact a7 n⟩;obtain⟨rfl,rfl⟩:=y;rw[l]at hi;exact⟨ax.refl _,.int (lo+i),by simp[cZ,hi],Rp.int _⟩
theorem GO:(2:Int)^62=4611686018427387904:=by decide
def j9(fs:Ev→Option (List (M×D))):Ev→Option (M×List D):=λe=>(fs e).bind λl=>match l with
 |[(_,.int j)]=>if -4611686018427387904≤j∧j<4611686018427387904 then some (.fr,cZ 0 j.toNat)else none
 |_=>none
theorem Ow{t:TA}{fs:Ev→Option (List (M×D))}(h:eY K t fs):JI K (Ef t) (j9 fs):=by
 intro H₀ O H σ env R m ds Re e q;obtain⟨l,el,e⟩:=aq e;split at e
 ·split at e
  ·rename_i hj;cases e;refine h H₀ O H σ env _ _ Re el λvs H1 s1 h1=>?_;obtain⟨v,rfl,hv⟩:=h1.one;obtain rfl:=hv.int;exact⟨_,rfl,by rw[GO];exact hj.1,by rw[GO];exact hj.2,q _ H1 s1 rfl M0⟩
  ·cases e
 ·cases e
end
section
variable {K:PySem.W.Frag}{H H' H₀:Hp}{I:Nat→Option Addr}{O O':Addr→Prop}{σ:St}{env:Ev}
def JG(K:PySem.W.Frag)(g:TG)(fg:M×D→Ev→Option Ev):Prop :=
 ∀H₀ I O H σ env x v cW Q,Rel K H₀ I O H σ env→fC (Prod.fst x)=true→Val K H₀ O HE H (Prod.fst x) x.2 v→fg x env=some cW→(∀σ',Rel K H₀ I O H σ' cW→Q σ' H)→g v σ H Q
def oa(K:PySem.W.Frag)(g:fW)(fg:M→List D→Ev→Option Ev):Prop :=
 ∀H₀ I O H σ env m ds vs cW Q,Rel K H₀ I O H σ env→fC m=true→ao K (NM H₀ O m) H vs ds→fg m ds env=some cW→(∀σ',Rel K H₀ I O H σ' cW→Q σ' H)→g vs σ H Q
noncomputable def gN(i:Nat):M×D→Ev→Option Ev:=λx e=>some (e.set i (some x))
theorem Ox{i:Nat}:JG K (iL i) (gN i):=by
 intro H₀ I O H σ env x v cW Q R hm hv e q;cases e;obtain⟨m,d⟩:=x;exact q _ (R.set_plain (by cases m<;>first|rfl|cases hm) (by cases m<;>first|rfl|cases hm) hv)
noncomputable def jm:M→List D→Ev→Option Ev:=λ_ ds e=>match ds with
 |[]=>some e
 |_=>none
noncomputable def di(f:M×D→Ev→Option Ev)(g:M→List D→Ev→Option Ev):M→List D→Ev→Option Ev:=λm ds e=>match ds with
 |d::r=>(f (m,d) e).bind λe'=>g m r e'
 |[]=>none
theorem Oy:oa K Fg jm:=by
 intro H₀ I O H σ env m ds vs cW Q R hm hv e q;cases hv with
 |nil=>cases e;exact⟨rfl,q _ R⟩
 |cons=>cases e
theorem M3{g:TG}{gs:fW}{f:M×D→Ev→Option Ev}{fs:M→List D→Ev→Option Ev}(h:JG K g f)(hs:oa K gs fs):oa K (Ee g gs) (di f fs):=by
 intro H₀ I O H σ env m ds vs cW Q R hm hv e q;cases hv with
 |nil=>cases e
 |@cons v d vs ds hv r =>
  obtain⟨e',e1,e⟩:=aq e;refine⟨v,vs,rfl,?_⟩;have lZ:Val K H₀ O HE H m d v:=by cases m<;>first|exact hv|cases hm
  exact h H₀ I O H σ env (m,d) v e' _ R hm lZ e1 λσ' R'=>hs H₀ I O H σ' e' m ds vs cW Q R' hm r e q
def gT(n:Nat)(f:M→List D→Ev→Option Ev):M×D→Ev→Option Ev:=λx e=>match x.2 with
 |.tup ds=>if ds.length=n then f (aN x.1) ds e else none
 |_=>none
theorem QN{n:Nat}{gs:fW}{fs:M→List D→Ev→Option Ev}(hs:oa K gs fs):JG K (Fh K n gs) (gT n fs):=by
 intro H₀ I O H σ env x v cW Q R hm hv e q;obtain⟨m,d⟩:=x;cases d<;>simp only[gT]at e<;>try (cases e;done)
 split at e
 ·rename_i hl;obtain⟨a,xs,rfl,zx,r⟩:=hv.tup;exact⟨a,xs,rfl,zx,by rw[r.len];exact hl,hs H₀ I O H σ env (aN m) _ xs cW Q R (by cases m<;>first|rfl|cases hm) r e q⟩
 ·cases e
def gL(n:Nat)(f:M→List D→Ev→Option Ev):M×D→Ev→Option Ev:=λx e=>match x.2 with
 |.lst ds=>if ds.length=n then f (aN x.1) ds e else none
 |_=>none
noncomputable def ya:M→M
 |.un=>.fr
 |.ut=>.fr
 |m=>m
def tJ(fg:M×D→Ev→Option Ev)(f:Ev→Option (M×D)):Ev→Option Fl:=λe=>(f e).bind λx=>if fC (ya x.1)=true then (fg (ya x.1,x.2) e).bind λe'=>some (.nx e')else none
theorem QO{t:TE}{g:TG}{f:Ev→Option (M×D)}{fg:M×D→Ev→Option Ev}(h:JT K t f)(hg:JG K g fg):JS K Z0 (g8 t g) (tJ fg f):=by
 intro H₀ I O H σ env Ds fl R e q;obtain⟨⟨m,d⟩,ex,e⟩:=aq e;split at e
 ·rename_i hm;obtain⟨e',e1,e⟩:=aq e;cases e;refine h H₀ O H σ env _ m d R.e ex λv H1 s1 h1=>?_;refine hg H₀ I O H1 σ env _ v e' _ (R.keep s1) hm ?_ e1 λσ' R'=>q O H1 σ' R' (aR.same s1);cases m
  ·exact h1
  ·exact h1
  ·exact h1.bU rfl
  ·cases hm
  ·cases hm
  ·cases hm
  ·cases hm
  ·exact h1.bU rfl
 ·cases e
noncomputable def forL(g:M×D→Ev→Option Ev)(b:Ev→Option Fl)(m:M):List D→Ev→Option Fl
 |[],e=>some (.nx e)
 |d::ds,e=>(g (m,d) e).bind λe1=>(b e1).bind λr=>match r with
  |.nx e2=>forL g b m ds e2
  |.ct e2=>forL g b m ds e2
  |.bk e2=>some (.nx e2)
  |.rt e2 m' d'=>some (.rt e2 m' d')
  |.rz d'=>some (.rz d')
def fU(it:Ev→Option (M×List D))(g:M×D→Ev→Option Ev)(b:Ev→Option Fl):Ev→Option Fl:=λe=>(it e).bind λx=>forL g b x.1 x.2 e
theorem QP{wi:TI}{g:TG}{tb:TS}{it:Ev→Option (M×List D)}{fg:M×D→Ev→Option Ev}{b:Ev→Option Fl}(hi:JI K wi it)(hg:JG K g fg)(hb:JS K Z0 tb b):JS K Z0 (xS wi g tb) (fU it fg b):=by
 intro H₀ I O H σ env Ds fl R e q;obtain⟨⟨m,ds⟩,ei,e⟩:=aq e;refine hi H₀ O H σ env _ m ds R.e ei λJ H1 s1 hm ok=>?_;have q1:=q.pre (aR.same s1);refine⟨λi n σ2 H2=>∃O2 lH,Rel K H₀ I O2 H2 σ2 lH∧aR O H1 O2 H2∧i≤ds.length∧n=ds.length-i∧forL fg b m (ds.drop i) lH=some fl,⟨_,O,env,R.keep s1,aR.refl,kj _,rfl,e⟩,?_⟩;rintro i n σ2 H2 ⟨O2,lH,R2,st,hle,rfl,ef⟩;by_cases ck:i<ds.length
 ·refine .inr ⟨ok.go O2 H2 i st ck,λσ' H'=>∃O2 lH,Rel K H₀ I O2 H' σ' lH∧aR O H1 O2 H'∧forL fg b m (ds.drop (i+1)) lH=some fl,?_,?_⟩
  ·rintro σ' H' ⟨O3,UB,R3,ku,VF⟩;exact⟨ds.length-(i+1),by omega,O3,UB,R3,ku,ck,rfl,VF⟩
  ·intro x H3 y;obtain⟨s3,d,hd,hv⟩:=ok.iU O2 H2 i x H3 st ck y;have zy:ds.drop i=d::ds.drop (i+1):=by
    rw[F7 ck];rw[iR ck]at hd;cases hd;rfl
   rw[zy]at ef;simp only[forL]at ef;obtain⟨e1,g1,ef⟩:=aq ef;obtain⟨r,br,ef⟩:=aq ef;refine hg H₀ I O2 H3 σ2 lH (m,d) x e1 _ (R2.keep s3) hm hv g1 λσ4 R4=>?_;have uL:=st.trans (aR.same (O:=O2) s3);refine hb H₀ I O2 H3 σ4 e1 _ r R4 br ?_;cases r with
   |nx e2=>exactλO5 H5 σ5 R5 iz=>⟨O5,e2,R5,uL.trans iz,ef⟩
   |ct e2=>exactλO5 H5 σ5 R5 iz=>⟨O5,e2,R5,uL.trans iz,ef⟩
   |bk e2=>cases ef;exact(q1.pre uL)
   |rt e2 m' d'=>cases ef;exact(q1.pre uL)
   |rz d'=>cases ef;exact q1
 ·have hi:i=ds.length:=by omega
  subst hi;rw[yN]at ef;cases ef;exact .inl ⟨ok.stop O2 H2 st,q1 O2 H2 σ2 R2 st⟩
noncomputable def wH(c:Ev→Option Bool)(b:Ev→Option Fl):Nat→Ev→Option Fl
 |0,_=>none
 |n+1,e=>(c e).bind λk=>if k=true then (b e).bind λr=>(match r with
  |.nx e2=>wH c b n e2
  |.ct e2=>wH c b n e2
  |.bk e2=>some (.nx e2)
  |.rt e2 m' d'=>some (.rt e2 m' d')
  |.rz d'=>some (.rz d'))else some (.nx e)
open Classical in
def Xx(c:Ev→Option Bool)(b:Ev→Option Fl):Ev→Option Fl:=λe=>if h:∃n fl,wH c b n e=some fl then some (Classical.choose (Classical.choose_spec h))else none
def m7(K:PySem.W.Frag)(H H':Hp):M→D→V→Prop
 |.un,d,v=>∃p,v=.ref p∧H p=none∧Cell K (λa=>H a=none∧a≠p) H' p d
 |.fr,d,v=>Rp K (λa=>H a=none) H' v d
 |.ut,d,v=>cf K (λq=>H q=none) H' d v
 |_,_,_=>False
def mj(K:PySem.W.Frag)(n:Nat)(F:List D→Option (M×D)):Sp:=λvs H Q _=>vs.length=n∧∃ds m d,ao K (λ_=>True) H vs ds∧F ds=some (m,d)∧∀v H',ax H H'→m7 K H H' m d v→Q v H'
def out:Fl→Option (M×D)
 |.nx _=>some (.fr,.non)
 |.rt _ .un d=>some (.un,d)
 |.rt _ .bo d=>some (.un,d)
 |.rt _ .fr d=>some (.fr,d)
 |.rt _ .rb d=>some (.fr,d)
 |.rt _ .nb d=>some (.fr,d)
 |.rt _ .ut d=>some (.ut,d)
 |.rt _ .al d=>if d.b8=true then some (.fr,d)else none
 |_=>none
def fn(L:Nat)(g:Ev→Option Fl):List D→Option (M×D):=λds=>(g (ds.map (λd=>some (.al,d))++List.replicate (L-ds.length) none)).bind out
theorem Lz{vs:List V}{ds:List D}(r:ao K (λ_=>True) H vs ds)(k:Nat):Paired (λ(e:Option (M×D)) (x:Option V)=>∀m d,e=some (m,d)→f6 m=true∧∃v,x=some v∧Val K H (λ_=>False) HE H m d v) (ds.map (λd=>some (.al,d))++List.replicate k none) (vs.map some++List.replicate k none):=by
 have rep:∀k,Paired (λ(e:Option (M×D)) (x:Option V)=>∀m d,e=some (m,d)→f6 m=true∧∃v,x=some v∧Val K H (λ_=>False) HE H m d v) (List.replicate k none) (List.replicate k none):=λk=>by
  induction k with
  |zero=>exact .nil
  |succ k ih=>exact .cons (λm d e=>nomatch e) ih
 have go:∀{vs:List V}{ds:List D},ao K (λ_=>True) H vs ds→Paired (λ(e:Option (M×D)) (x:Option V)=>∀m d,e=some (m,d)→f6 m=true∧∃v,x=some v∧Val K H (λ_=>False) HE H m d v) (ds.map (λd=>some (.al,d))++List.replicate k none) (vs.map some++List.replicate k none):=by
  intro vs ds
  induction vs generalizing ds with
  |nil=>intro r;cases r;exact rep k
  |cons v vs ih=>intro r;cases r with|cons h r=>exact .cons (λm d e=>by cases e;exact⟨rfl,v,rfl,h.wk λ_ _ _ z=>z⟩) (ih r)
 exact go r
theorem LC{ds:List D}{k i:Nat}{d:D}(h:(ds.map (λd=>some (M.al,d))++List.replicate k none)[i]?=some (some (M.bi,d))):False:=by
 have hm:=fE h;rcases ic.mp hm with z|z
 ·obtain⟨d,_,e⟩:=cX.mp z;cases e
 ·have:=qi z;cases this
theorem Aw{ds:List D}{k i:Nat}{d:D}(h:(ds.map (λd=>some (M.al,d))++List.replicate k none)[i]?=some (some (M.nb,d))):False:=by
 have hm:=fE h;rcases ic.mp hm with z|z
 ·obtain⟨d,_,e⟩:=cX.mp z;cases e
 ·have:=qi z;cases this
theorem Cr{N:List Str}{vs:List V}{ds:List D}(r:ao K (λ_=>True) H vs ds):Rel K H (λ_=>none) (λ_=>False) H (L2.start N vs) (ds.map (λd=>some (.al,d))++List.replicate (N.length-ds.length) none) :=
 ⟨⟨by unfold L2.start;rw[r.len];exact Lz r _,λ_ z=>z.elim,λa o e=>⟨o,e⟩,λ_ _ z=>z.elim⟩,λa o _ e=>e,λ_ z=>z.elim,λi d p h1=>(LC h1).elim,(λi j x y p h1 h2 o1 o2=>by
  exfalso;have k:∀{i:Nat}{x:M×D},(ds.map (λd=>some (M.al,d))++List.replicate (N.length-ds.length) none)[i]?=some (some x)→x.1=.al:=λ{i x} h=>by
   have hm:=fE h;rcases ic.mp hm with z|z
   ·obtain⟨d,_,e⟩:=cX.mp z;cases e;rfl
   ·have:=qi z;cases this
  rw[k h1]at o1;cases o1),⟨λi j d d' h1=>(Aw h1).elim,λi j d x p q xs h1=>(Aw h1).elim⟩⟩
theorem vX{ts:TS}{g:Ev→Option Fl}{n:Nat}{N:List Str}{vs:List V}{Q:VK}{E:XK}(h:JS K Z0 ts g)(hs:mj K n (fn N.length g) vs H Q E):ts { nx:=λ_ H'=>Q .non H',rt:=Q } (L2.start N vs) H:=by
 obtain⟨hl,ds,m,d,r,e,q⟩:=hs;obtain⟨fl,ef,eo⟩:=aq e;refine h H (λ_=>none) (λ_=>False) H _ _ _ fl (Cr r) ef ?_;cases fl with
 |nx e'=>cases eo;exactλO' H' σ' R' st=>q .non H' (λa o e=>R'.fr a o (λ_ z=>nomatch z) e) Rp.non
 |bk e'=>cases eo
 |ct e'=>cases eo
 |rz d'=>cases eo
 |rt e' m' d' =>
  intro O' H' σ' v R' st hv;have sm:ax H H':=λa o e=>R'.fr a o (λ_ z=>nomatch z) e;cases m'
  ·change (if _ then _ else _)=_ at eo;split at eo
   ·rename_i hi;cases eo;exact q v H' sm (show Rp K _ H' v d from hv.weak.im hi)
   ·cases eo
  ·cases eo;exact q v H' sm (show Rp K _ H' v d from Rp.wk (λa h _=>h.2) hv)
  ·cases eo;obtain⟨p,rfl,_,h0,_,c⟩:=hv;exact q _ H' sm ⟨p,rfl,h0,c.wk λa h _=>⟨h.1.2,h.2⟩⟩
  ·cases eo;obtain⟨p,rfl,hO,h0,c⟩:=hv;exact q _ H' sm ⟨p,rfl,h0,c.wk λa h _=>⟨h.2,λz=>h.1 (z▸hO)⟩⟩
  ·cases eo
  ·cases eo;exact q v H' sm (show Rp K _ H' v d from hv)
  ·cases eo;exact q v H' sm (show Rp K _ H' v d from fS.rp (λ_ z=>z) hv)
  ·cases eo;exact q v H' sm (show cf K _ H' d v from cf.wk (λq z=>z.2.1) hv)
noncomputable def aB(F:List D→Option (M×D))(fs:Ev→Option (List (M×D))):Ev→Option (M×D):=λe=>(fs e).bind λaw=>F (aw.map (·.2))
theorem Ct{m:M}{d:D}{v:V}(od:∀a,O a→∃o,H a=some o)(hd:∀a o,H₀ a=some o→∃o',H a=some o')(h:m7 K H H' m d v):Val K H₀ O H H' m d v:=by
 cases m<;>try exact h.elim
 ·exact Rp.wk (λa h _=>⟨iI od h,kZ hd h⟩) h
 ·obtain⟨p,rfl,hp,c⟩:=h;exact⟨p,rfl,hp,kZ hd hp,iI od hp,c.wk λa h _=>⟨⟨iI od h.1,kZ hd h.1⟩,h.2⟩⟩
 ·exact cf.wk (λq z=>⟨z,kZ hd z,iI od z⟩) h
theorem Oz{n:Nat}{F:List D→Option (M×D)}{ta:TA}{fs:Ev→Option (List (M×D))}{E:XK}(ha:eY K ta fs)(hl:∀e aw,fs e=some aw→aw.length=n):JT K (xh (mj K n F) [] E ta) (aB F fs):=by
 intro H₀ O H σ env Q m d R h q;obtain⟨aw,e,h⟩:=aq h;refine ha H₀ O H σ env _ aw R e λvs H1 s1 h1=>?_;have R1:=R.keep s1;rw[ip];refine⟨by rw[←fD h1];exact hl _ _ e,aw.map (·.2),m,d,h1.eD (λmd hm v hv=>hv.weak),h,λv H2 s2 h2=>?_⟩;exact q v H2 (s1.trans s2) ((Ct R1.od R1.hd h2).hb λa z=>s1.free z)
end
section
variable {K:PySem.W.Frag}{H H' H₀:Hp}{O O':Addr→Prop}{σ:St}{env:Ev}
noncomputable def tK:M×D→Option (M×D)
 | (_,.int i)=>some (.fr,.int (-i))
 |_=>none
theorem QQ:JU K (rU λi=>.int (-i)) tK:=by
 intro H₀ O H x a Q m d _ _ h1 h q;obtain⟨ma,da⟩:=a;cases da<;>cases h;exact⟨_,h1.int,q _ H (ax.refl H) gZ⟩
def Et(i j:Int):Prop:=0<j∧j<1606938044258990275541962092341162602522202993782792835301376
noncomputable def cz:=gI (λ_ j=>0<j∧j<1606938044258990275541962092341162602522202993782792835301376) (· / ·)
theorem OB:JR K (rI Et λi j=>.int (i/j)) cz:=tH λ_ _ h=>h
theorem log2_lt{n:Nat}(h:n<2^200):n.log2<9000:=by
 rcases Nat.eq_zero_or_pos n with rfl|h0
 ·decide
 ·exact Nat.lt_trans ((Nat.log2_lt (by omega)).mpr h) (by decide)
theorem M4{X:Cx}:bq X (binaryOp .FloorDiv) (rI Et λi j=>.int (i/j)):=uv λi j _ _ _ _ _ hc q=>by
 have e:i/j=i.fdiv j:=(Int.fdiv_eq_ediv_of_nonneg i (Int.le_of_lt hc.1)).symm;rw[e]at q;have h1:=hc.1;have h2:=hc.2;have hl:j.natAbs<2^200:=by
  have e2:(2:Nat)^200=1606938044258990275541962092341162602522202993782792835301376:=by decide
  rw[e2];omega
 exact PyProof.Rows.floordiv_int (Int.ne_of_gt hc.1) q (.inl (PyProof.noPylong_of_log2 (log2_lt hl)))
theorem OD{X:Cx}:bq X (binaryOp .Add) (sk X.K):=by
 intro pins s σ H x y v u Q I rx ry h;obtain⟨l,b,xs,zs,rfl,rfl,hl,hb,hz,q⟩:=h;cases (show v=Value.ref l from rx);cases (show u=Value.ref b from ry);obtain⟨its,r,pl,_⟩:=I.list hl;obtain⟨pQ,r2,pm,_⟩:=I.list hb;obtain⟨⟨cls,dd,data,sl⟩,ho,hc,n,hd⟩:=pl.isList;obtain⟨⟨Uj,uw,data2,lV⟩,iV,kz,n2,hd2⟩:=pm.isList;simp only at hc hd kz hd2;subst hc hd kz hd2;have ea:its.toArray++pQ.toArray=(its++pQ).toArray:=by simp
 have e1:=r.length;have e2:=r2.length;refine t7 ⟨_,ho,rfl⟩ ⟨_,iV,rfl⟩ noFill_list_add seq_list_add PySem.F.slot_list_add PySem.F.entry_list_add (PySem.F.args_list_add_2 _ _) (PyProof.Rows.list_addW l b its.toArray pQ.toArray n n2 dd uw sl lV (by rw[dY,dY];omega)) ⟨ho,iV,?_⟩;rw[ea];exact⟨.ref _,_,I.Fw (t':=s.toks) (r.append r2) (by rw[bN];omega),rfl,q _ I.fresh⟩
theorem M5{X:Cx}(h:X.K=K):bq X (binaryOp .Add) (sk K):=by subst h;exact OD
theorem Bl{r r':R2}{g g':M×D→M×D→Option (M×D)}{ta tb tc:TE}{fa fb fc:Ev→Option (M×D)}(hr:JR K r g)(VG:JR K r' g')(ha:JT K ta fa)(hb:JT K tb fb)(hc:JT K tc fc):JT K (wz r r' ta tb tc) (o7 g g' fa fb fc):=by
 intro H₀ O H σ env Q m d R h q;obtain⟨a,ea,h⟩:=aq h;obtain⟨b,eb,h⟩:=aq h;obtain⟨z,ez,h⟩:=aq h;obtain⟨k,ek,h⟩:=aq h;refine ha H₀ O H σ env _ a.1 a.2 R ea λx H1 s1 h1=>?_;refine hb H₀ O H1 σ env _ b.1 b.2 (R.keep s1) eb λy H2 s2 h2=>?_;have R2:=(R.keep s1).keep s2;refine hr H₀ O H2 x y a b _ z.1 z.2 R2.od R2.hd (h1.keep s2).h0 h2.h0 ez λv H3 s3 h3=>?_;rw[mV ek]at h3;refine⟨k,h3.bl,?_⟩;cases k with
 |false =>
  rw[if_neg aU]at h ⊢;cases h;exact q _ H3 ((s1.trans s2).trans s3) dB
 |true =>
  rw[if_pos rfl]at h ⊢;obtain⟨c,ec,h⟩:=aq h;refine hc H₀ O H3 σ env _ c.1 c.2 (R2.keep s3) ec λw H4 s4 h4=>?_;have R4:=(R2.keep s3).keep s4;refine VG H₀ O H4 y w b c Q m d R4.od R4.hd ((h2.keep s3).keep s4).h0 h4.h0 h λv H5 s5 h5=>?_;have s:=((s1.trans s2).trans s3).trans s4;exact q v H5 (s.trans s5) (h5.hb λa z=>s.free z)
def kc:List D→Option (List V)
 |[]=>some []
 |d::ds=>(c7 d).bind λv=>(kc ds).bind λr=>some (v::r)
theorem vY{N:Addr→Prop}:∀{ds:List D}{vs ws:List V},ao K N H vs ds→kc ds=some ws→vs=ws∧ws.all gA=true
 |_,_,_,.nil,e=>by cases e;exact⟨rfl,rfl⟩
 |d::ds,v::vs,ws,.cons h r,e=>by
  obtain⟨w,ew,e⟩:=aq e;obtain⟨r',er,e⟩:=aq e;cases e;obtain⟨rfl,f⟩:=vY r er;obtain rfl:=lA h ew;refine⟨rfl,?_⟩;rw[lP,f,Bool.and_true];cases h<;>simp only[c7]at ew<;>first|rfl|cases ew
noncomputable def lI:D→Option (List D)
 |.lst ds=>some ds
 |.tup ds=>some ds
 |_=>none
def hU(neg:Bool):M×D→M×D→Option (M×D):=λa b=>(c7 a.2).bind λx=>(lI b.2).bind λds=>(kc ds).bind λvs=>some (.fr,.bl (if neg then !dJ x vs else dJ x vs))
theorem seq_val{m:M}{d:D}{ds:List D}{v:V}{Hb:Hp}(e:lI d=some ds)(h:Val K H₀ O Hb H m d v):∃p xs,v=.ref p∧(bj K H p xs∨aZ K H p xs)∧ao K (NM H₀ O (aN m)) H xs ds:=by
 cases d<;>simp only[lI]at e<;>cases e
 ·obtain⟨p,xs,rfl,h,r⟩:=h.tup;exact⟨p,xs,rfl,.inr h,r⟩
 ·obtain⟨p,xs,rfl,h,r⟩:=h.lst;exact⟨p,xs,rfl,.inl h,r⟩
theorem Bm{d:D}{x:V}(e:c7 d=some x):gA x=true:=by
 cases d<;>simp only[c7]at e<;>cases e<;>rfl
theorem Tf{neg:Bool}:JR K (y7 K neg) (hU neg):=by
 intro H₀ O H x y a b Q m d _ _ h1 h2 h q;obtain⟨x',ex,h⟩:=aq h;obtain⟨ds,ed,h⟩:=aq h;obtain⟨vs,ev,h⟩:=aq h;cases h;obtain⟨p,xs,rfl,hs,r⟩:=seq_val ed h2;obtain⟨rfl,f⟩:=vY r ev;obtain rfl:=lA h1.weak ex;exact⟨p,_,rfl,hs,Bm ex,f,q _ H (ax.refl H) dB⟩
theorem M6{m:M}(h:fC m=true):f6 m=true:=by cases m<;>first|rfl|cases h
noncomputable def eQ:Ev→Option Bool:=λ_=>some true
theorem Cu:dM K tF eQ:=by
 intro H₀ O H σ env Q b R h q;cases h;exact q H (ax.refl H)
noncomputable def iF(e:Ev)(ix:List Nat):Ev:=ix.map λi=>(e[i]?).getD none
noncomputable def cU(fc:Ev→Option Bool)(fe:Ev→Option (M×D))(m:M)(fr:Ev):List D→Option (List (M×D))
 |[]=>some []
 |d::ds=>(fc (some (m,d)::fr)).bind λb=>if b=true then (fe (some (m,d)::fr)).bind λx=>(cU fc fe m fr ds).bind λr=>some (x::r)else cU fc fe m fr ds
def fA(it:Ev→Option (M×List D))(ix:List Nat)(fc:Ev→Option Bool)(fe:Ev→Option (M×D)):Ev→Option (M×D):=λe=>(it e).bind λx=>(cU fc fe x.1 (iF e ix) x.2).bind g6
theorem cM.fr{ix:List Nat}(R:cM K H₀ O H σ env):Paired (λ(e:Option (M×D)) (x:Option V)=>∀m d,e=some (m,d)→f6 m=true∧∃v,x=some v∧Val K H₀ O HE H m d v) (iF env ix) (dD σ ix):=by
 unfold iF dD
 induction ix with
 |nil=>exact .nil
 |cons i ix ih =>
  refine .cons (λm d e=>?_) ih;have e':env[i]?=some (some (m,d)):=by
   have e:(env[i]?).getD none=some (m,d):=e;cases q:env[i]? with
   |none=>rw[q]at e;cases e
   |some z=>rw[q]at e;exact bX some e
  obtain⟨v,hv,n,h⟩:=R.at e';exact⟨n,v,by show(σ[i]?).getD none=_;rw[hv];rfl,h⟩
theorem cM.more{C:Addr}(R:cM K H₀ O H σ env)(hC:H C=none){H2:Hp}(s:ax H H2)(ys:List V)(e:H2 C=some (.lst ys)):cM K H₀ (λa=>O a∨a=C) H2 σ env:=by
 have np:∀a,(∃o,H a=some o)→a≠C:=λa ⟨o,e⟩=>cJ e hC;have w:∀{N:Addr→Prop}{d:D}{v:V},Rp K N H v d→Rp K (λa=>N a∧a≠C) H2 v d:=λr=>(r.wk λa n e=>⟨n,np a e⟩).keep (.same s);have ws:∀{N:Addr→Prop}{d:D}{q:Addr},Cell K N H q d→Cell K (λa=>N a∧a≠C) H2 q d:=λ{N d q} r=>by
  obtain⟨o,e,_⟩:=r.some;exact(r.wk λa n e=>⟨n,np a e⟩).keep (.same s) ((s _ _ e).trans e.symm)
 refine⟨ly (λe x h m d q=>?_) R.sl,λa h=>?_,λa o h=>?_,λa o h q=>?_⟩
 ·obtain⟨n,v,rfl,z⟩:=h m d q;refine⟨n,v,rfl,?_⟩;cases m
  ·exact(w z).wk λa h _=>λz=>z.elim h.1 h.2
  ·exact(w z).wk λa h _=>⟨λz=>z.elim h.1.1 h.2,h.1.2⟩
  ·cases n
  ·obtain⟨q,rfl,h1,h2,c'⟩:=z;exact⟨q,rfl,.inl h1,h2,(ws c').wk λa h _=>⟨λz=>z.elim h.1.1 h.2,h.1.2⟩⟩
  ·obtain⟨q,rfl,h1,c'⟩:=z;exact⟨q,rfl,.inl h1,(ws c').wk λa h _=>⟨λz=>z.elim h.1.1 h.2,h.1.2⟩⟩
  ·cases n
  ·obtain⟨q,qs,bt,e1,e2,h1,h2,h3,h4,h5,h6⟩:=z;exact⟨q,qs,bt,e1,e2,.inl h1,h2,s _ _ h3,h4,λx hx=>⟨.inl (h5 x hx).1,(h5 x hx).2⟩,mU (λx ds _ ⟨xs,a,r⟩=>⟨xs,s _ _ a,((r.wk λa n e=>(⟨n,np a e⟩:(¬O a∧H₀ a=none)∧a≠C)).keep (.same s)).wk λa h _=>⟨λz=>z.elim h.1.1 h.2,h.1.2⟩⟩) h6⟩
  ·cases n
 ·rcases h with h|rfl
  ·obtain⟨o,q⟩:=R.od a h;exact⟨o,s _ _ q⟩
  ·exact⟨_,e⟩
 ·obtain⟨o',q⟩:=R.hd a o h;exact⟨o',s _ _ q⟩
 ·rcases h with h|rfl
  ·exact(R.keep s).on a o h q
  ·rw[e]at q;cases q;exactλz=>z
theorem A6{J:It}{m:M}{ds:List D}{tc:TT}{te:TE}{fc:Ev→Option Bool}{fe:Ev→Option (M×D)}{H1:Hp}{ix:List Nat}{ml:List (M×D)}{bb:Bool}{Q:Addr→Hp→Prop}{C:Addr}
  (R:cM K H₀ O H1 σ env) (hm:fC m=true) (ok:lG K H₀ O J H1 m ds) (hc:dM K tc fc) (he:JT K te fe) (hl:ml.length≤sizeLine) (et:cU fc fe m (iF env ix) ds=some ml)
  (hs:∀x∈ml,(if bb then bU x.1 x.2 else i6 x.1 x.2)=true) (hC:H1 C=none)
  (q:∀ys H',ax H1 H'→H' C=some (.lst ys)→ao K (λa=>¬(O a∨a=C)∧(bb=true→H₀ a=none)) H' ys (ml.map (·.2))→Q C H'):pF J C H1 (dD σ ix) tc te Q:=by
 have hN:∀{N:Addr→Prop}{Ha Hb:Hp},(∀a,N a→a≠C)→(∀b o,b≠C→Ha b=some o→Hb b=some o)→(∀o,Ha C=some o→¬iE o)→Keeps N Ha Hb:=λw s nt a o e z=>s a o (by
  rcases z with z|z
  ·exact w a z
  ·rintro rfl;exact nt o e z) e
 refine⟨λi n H2=>n=ds.length-i∧i≤ds.length∧ax H1 H2∧∃ys acc rest,H2 C=some (.lst ys)∧cU fc fe m (iF env ix) (ds.drop i)=some rest∧ml=acc++rest∧ao K (λa=>¬(O a∨a=C)∧(bb=true→H₀ a=none)) H2 ys (acc.map (·.2)),⟨_,rfl,kj _,cx hC,[],[],ml,bD,et,rfl,.nil⟩,?_⟩;rintro i n H2 ⟨rfl,hle,s2,ys,acc,rest,lY,er,nE,rr⟩;have cj:aR O H1 O H2:=aR.same s2;by_cases ck:i<ds.length
 ·refine .inr ⟨ok.go O H2 i cj ck,λx H3 y=>?_⟩;have UC:aR O H1 (λa=>O a∨a=C) H2:=λa o e n=>⟨s2 a o e,λz=>z.elim n (cJ e hC)⟩;obtain⟨s3,d,hd,hv⟩:=ok.iU (λa=>O a∨a=C) H2 i x H3 UC ck y;have R2:=R.more hC s2 ys lY;have R3:=R2.keep s3;have GP:cM K H₀ (λa=>O a∨a=C) H3 (some x::dD σ ix) (some (m,d)::iF env ix) :=
   ⟨.cons (λm' d' e=>by cases e;exact⟨M6 hm,x,rfl,hv⟩) R3.fr,R3.od,R3.hd,R3.on⟩
  have zy:ds.drop i=d::ds.drop (i+1):=by
   rw[F7 ck];rw[iR ck]at hd;cases hd;rfl
  rw[zy]at er;simp only[cU]at er;obtain⟨b,eb,er⟩:=aq er;refine hc H₀ _ H3 _ _ _ b GP eb λH4 s4=>?_;cases b with
  |true =>
   rw[if_pos rfl]at er ⊢;obtain⟨z,ez,er⟩:=aq er;obtain⟨r',VH,er⟩:=aq er;cases er;refine he H₀ _ H4 _ _ _ z.1 z.2 (GP.keep s4) ez λw H5 s5 h5=>?_;have uM:ax H2 H5:=(s3.trans s4).trans s5;have GQ:ys.length=acc.length:=by rw[rr.len,iq]
   have VJ:acc.length<sizeLine:=by
    have e1:=bX List.length nE;rw[bN,b7]at e1;omega
   refine⟨ys,uM _ _ lY,by rw[GQ];exact VJ,ds.length-(i+1),by omega,rfl,ck,?_,ys++[w],acc++[z],r',bD,VH,by rw[nE,List.append_assoc];rfl,?_⟩
   ·intro a o e;rw[aK (cJ e hC)];exact uM _ _ (s2 _ _ e)
   ·rw[kl];have hz:Rp K (λa=>¬(O a∨a=C)∧(bb=true→H₀ a=none)) H5 w z.2:=by
     have h:=hs z (by rw[nE];exact il _ bC);cases bb with
     |true=>exact(h5.bU h).wk λa h _=>⟨h.1,λ_=>h.2⟩
     |false=>exact(h5.i6 h).wk λa h _=>⟨h,λz=>nomatch z⟩
    have kp:Keeps (λa=>¬(O a∨a=C)∧(bb=true→H₀ a=none)) H5 (upd H5 C (.lst (ys++[w]))):=hN (λa h z=>h.1 (.inr z)) (λb o ne e=>by rw[aK ne];exact e) (λo e=>by rw[uM _ _ lY]at e;cases e;exactλz=>z);exact((rr.keep (.same uM)).keep kp).app (.cons (hz.keep kp) .nil)
  |false =>
   rw[if_neg aU]at er ⊢;have zz:=s3.trans s4;exact⟨ds.length-(i+1),by omega,rfl,ck,s2.trans zz,ys,acc,rest,zz _ _ lY,er,nE,rr.keep (.same zz)⟩
 ·have hi:i=ds.length:=by omega
  subst hi;rw[yN]at er;cases er;rw[ip]at nE;subst nE;exact .inl ⟨ok.stop O H2 cj,q ys H2 s2 lY rr⟩
theorem rE{wi:TI}{ix:List Nat}{tc:TT}{te:TE}{it:Ev→Option (M×List D)}{fc:Ev→Option Bool}{fe:Ev→Option (M×D)}(hi:JI K wi it)(hc:dM K tc fc)(he:JT K te fe):JT K (m6 wi ix tc te) (fA it ix fc fe):=by
 intro H₀ O H σ env Q m d R e q;obtain⟨⟨mi,ds⟩,ei,e⟩:=aq e;obtain⟨ml,et,e⟩:=aq e;refine hi H₀ O H σ env _ mi ds R ei λJ H1 s1 hm ok C hC=>?_;have R1:=R.keep s1;unfold g6 at e;split at e
 ·rename_i hl;split at e
  ·rename_i ha;cases e;rw[bY]at ha;refine A6 (bb:=true) R1 hm ok hc he hl et (λx hx=>ha x hx) hC λys H' s' hy r=>?_;refine q _ H' (s1.trans s') ⟨C,rfl,s1.free hC,kZ R1.hd hC,iI R1.od hC,ys,hy,r.wk λa h _=>⟨⟨λz=>h.1 (.inl z),h.2 rfl⟩,λz=>h.1 (.inr z)⟩⟩
  ·split at e
   ·rename_i ha;cases e;rw[bY]at ha;refine A6 (bb:=false) R1 hm ok hc he hl et (λx hx=>ha x hx) hC λys H' s' hy r=>?_;exact q _ H' (s1.trans s') (Rp.lst (.inl hy) (iI R1.od hC) (r.wk λa h _=>λz=>h.1 (.inl z)))
   ·cases e
 ·cases e
theorem OG:∀e aw,ah e=some aw→aw.length=0:=λe aw h=>by cases h;rfl
theorem M7{n:Nat}{f:Ev→Option (M×D)}{g:Ev→Option (List (M×D))}(h:∀e aw,g e=some aw→aw.length=n):∀e aw,ae f g e=some aw→aw.length=n+1:=λe aw q=>by
 obtain⟨x,ex,q⟩:=aq q;obtain⟨r,er,q⟩:=aq q;cases q;rw[b7,h e r er]
end
section
variable {K:PySem.W.Frag}{H H' H₀:Hp}{O O':Addr→Prop}{σ:L2.St}{env:Ev}
theorem yb{X:Cx}{f:Value→Value→Sem Value}{r r':R2}(h:bq X f r)(h':bq X f r'):bq X f (λx y H Q=>r x y H Q∨r' x y H Q) :=
 λpins s σ H x y v u Q I rx ry q=>q.elim (h pins s σ H x y v u Q I rx ry) (h' pins s σ H x y v u Q I rx ry)
noncomputable def mv(g g':M×D→M×D→Option (M×D)):M×D→M×D→Option (M×D):=λa b=>match g a b with
 |some z=>some z
 |none=>g' a b
set_option tactic.hygienic true in
theorem xu{r r':R2}{g g':M×D→M×D→Option (M×D)}(h:JR K r g)(h':JR K r' g'):JR K (λx y H Q=>r x y H Q∨r' x y H Q) (mv g g'):=by
 intro H₀ O H x y a b Q m d od hd h1 h2 e q;unfold mv at e;split at e
 ·rename_i z ez;cases e;exact .inl (h H₀ O H x y a b Q m d od hd h1 h2 ez q)
 ·exact .inr (h' H₀ O H x y a b Q m d od hd h1 h2 e q)
noncomputable def xv:M×D→M×D→Option (M×D)
 | (_,.str x),(_,.str y)=>if x.length+y.length≤sizeLine then some (.fr,.str (x++y))else none
 |_,_=>none
theorem OI:JR K (λx y H Q=>∃i j,x=.str i∧y=.str j∧i.length+j.length≤sizeLine∧Q (.str (i++j)) H) xv:=by
 intro H₀ O H x y a b Q m d _ _ h1 h2 h q;obtain⟨ma,da⟩:=a;obtain⟨mb,db⟩:=b;cases da<;>try (cases h;done)
 cases db<;>try (cases h;done)
 change (if _ then _ else _)=_ at h;split at h
 ·rename_i hl;cases h;exact⟨_,_,h1.str,h2.str,hl,q _ H (ax.refl H) lz⟩
 ·cases h
noncomputable def sv(K:PySem.W.Frag):R2:=λx y H Q=>∃a b xs ys,x=.ref a∧y=.ref b∧aZ K H a xs∧aZ K H b ys∧xs.length+ys.length≤sizeLine∧∀p H',ax H H'→aZ K H' p (xs++ys)→Q (.ref p) H'
theorem OJ{X:Cx}:bq X (binaryOp .Add) (sv X.K):=by
 intro pins s σ H x y v u Q I rx ry h;obtain⟨a,b,xs,ys,rfl,rfl,ha,hb,hz,q⟩:=h;by_cases e:xs=[]
 ·subst e;cases rx;cases ry;obtain⟨its,r1,p1,_⟩:=I.tuple ha;obtain⟨pQ,r2,p2,_⟩:=I.tuple hb;cases r1;exact MK p1 p2 ⟨.ref b,H,I,rfl,q b H (ax.refl H) hb⟩
 ·refine N1 pins s σ H (.ref a) (.ref b) v u Q I rx ry ⟨a,b,xs,ys,rfl,rfl,ha,hb,e,hz,λe2=>?_,λ_ p hp=>q p _ (cx hp) (aZ.of bD)⟩;subst e2;exact q a H (ax.refl H) (by rw[ip];exact ha)
theorem M8{X:Cx}(h:X.K=K):bq X (binaryOp .Add) (sv K):=by subst h;exact OJ
def xx:M×D→M×D→Option (M×D)
 | (m,.tup ds),(n,.tup es)=>if aN m=.rb∨aN n=.rb then none else if ds.length+es.length≤sizeLine then some (aN (mJ m n),.tup (ds++es))else none
 |_,_=>none
theorem OL:JR K (sv K) xx:=by
 intro H₀ O H x y a b Q m d od hd h1 h2 h q;obtain⟨ma,da⟩:=a;obtain⟨mb,db⟩:=b;cases da<;>try (cases h;done)
 cases db<;>try (cases h;done)
 change (if _ then _ else _)=_ at h;split at h
 ·cases h
 ·rename_i hn;split at h
  ·rename_i hl;cases h;obtain⟨p,xs,rfl,r,s⟩:=h1.tup;obtain⟨p',zu,rfl,r',s'⟩:=h2.tup;have n1:aN ma≠.rb:=λz=>hn (.inl z);have n2:aN mb≠.rb:=λz=>hn (.inr z);refine⟨p,p',xs,zu,rfl,rfl,r,r',by rw[s.len,s'.len];exact hl,λl H' sm hq=>q _ _ sm (Val.el (Rp.tup hq ?_))⟩;exact(ao.app (s.wk λ_ h _=>NM.GD n1 n2 h) (s'.wk λ_ h _=>NM.GF n1 n2 h)).keep (.same sm)
  ·cases h
def yc(K:PySem.W.Frag):V→Option Int→Option Int→Hp→VK→Prop:=λx lo hi H Q=>∃a xs,x=.ref a∧aZ K H a xs∧∀p H',ax H H'→aZ K H' p (hJ xs lo hi)→Q (.ref p) H'
theorem OO{X:Cx}:jF X (yc X.K):=by
 intro pins s σ H x v vl vu lo hi sl Q I rx hs pl pu h;obtain⟨a,xs,rfl,hx,q⟩:=h;by_cases e:HT.aF xs.length 0 lo=0∧HT.aF xs.length xs.length hi=xs.length
 ·cases rx;obtain⟨its,r,ht,hz⟩:=I.tuple hx;have hlen:its.toArray.size=xs.length:=by rw[dY];exact r.length.symm
  refine⟨"tuple",_,nJ.lookup,ht.typeIs,IV ht hs pl pu (by rw[hlen];exact e.1) (by rw[hlen];exact e.2) ⟨.ref a,H,I,rfl,q a H (ax.refl H) ?_⟩⟩;have ec:hJ xs lo hi=xs:=by unfold hJ;rw[e.1,e.2,List.drop_zero,Nat.sub_zero];exact List.take_of_length_le (a7 _)
  rw[ec];exact hx
 ·exact Qi pins s σ H (.ref a) v vl vu lo hi sl Q I rx hs pl pu ⟨a,xs,rfl,hx,e,λp hp=>q p _ (cx hp) (aZ.of bD)⟩
def FL:M×D→Option Int→Option Int→Option (M×D)
 | (m,.tup ds),lo,hi=>some (aN m,.tup (cut ds lo hi))
 |_,_,_=>none
theorem OQ:kM K (yc K) FL:=by
 intro H₀ O H x lo hi a Q m d od hd h1 h q;obtain⟨ma,da⟩:=a;cases da<;>try (cases h;done)
 cases h;obtain⟨p,xs,rfl,r,s⟩:=h1.tup;exact⟨p,xs,rfl,r,λl H' sm hq=>q _ _ sm (Val.el (Rp.tup hq (s.cut.keep (.same sm))))⟩
noncomputable def yd:M×D→Option Int→Option Int→Option (M×D)
 | (_,.str z),lo,hi=>if z.length≤sizeLine then some (.fr,.str (Txt.slice z lo hi))else none
 |_,_,_=>none
theorem OS:kM K (λx lo hi H Q=>∃z:Str,x=.str z∧z.length≤sizeLine∧Q (.str (Txt.slice z lo hi)) H) yd:=by
 intro H₀ O H x lo hi a Q m d od hd h1 h q;obtain⟨ma,da⟩:=a;cases da<;>try (cases h;done)
 simp only[yd]at h;split at h
 ·rename_i hl;cases h;exact⟨_,h1.str,hl,q _ H (ax.refl H) lz⟩
 ·cases h
noncomputable def tL(g g':M×D→Option Int→Option Int→Option (M×D)):M×D→Option Int→Option Int→Option (M×D):=λa l h=>match g a l h with
 |some z=>some z
 |none=>g' a l h
set_option tactic.hygienic true in
theorem Dt{r r':V→Option Int→Option Int→Hp→VK→Prop}{g g':M×D→Option Int→Option Int→Option (M×D)}(h:kM K r g)(h':kM K r' g'):kM K (λx l u H Q=>r x l u H Q∨r' x l u H Q) (tL g g'):=by
 intro H₀ O H x lo hi a Q m d od hd h1 e q;unfold tL at e;split at e
 ·rename_i z ez;cases e;exact .inl (h H₀ O H x lo hi a Q m d od hd h1 ez q)
 ·exact .inr (h' H₀ O H x lo hi a Q m d od hd h1 e q)
theorem Du{X:Cx}{r r':V→Option Int→Option Int→Hp→VK→Prop}(h:jF X r)(h':jF X r'):jF X (λx l u H Q=>r x l u H Q∨r' x l u H Q) :=
 λpins s σ H x v vl vu lo hi sl Q I rx hs pl pu q=>q.elim (h pins s σ H x v vl vu lo hi sl Q I rx hs pl pu) (h' pins s σ H x v vl vu lo hi sl Q I rx hs pl pu)
abbrev xV(K:PySem.W.Frag):R2:=λx y H Q=>dI (λi j=>.int (i+j)) x y H Q∨(λx y H Q=>(λx y H Q=>∃i j,x=.str i∧y=.str j∧i.length+j.length≤sizeLine∧Q (.str (i++j)) H) x y H Q∨(λx y H Q=>sk K x y H Q∨sv K x y H Q) x y H Q) x y H Q
def a6:=mv FI (mv xv (mv x9 xx))
theorem OU{X:Cx}(h:X.K=K):bq X (binaryOp .Add) (xV K):=yb P7 (yb Kq (yb (M5 h) (M8 h)))
theorem OV:JR K (xV K) a6:=xu Qw (xu OI (xu QH OL))
abbrev GR(K:PySem.W.Frag):V→Option Int→Option Int→Hp→VK→Prop:=λx l u H Q=>xX K x l u H Q∨(λx l u H Q=>yc K x l u H Q∨(λx lo hi H Q=>∃z:Str,x=.str z∧z.length≤sizeLine∧Q (.str (Txt.slice z lo hi)) H) x l u H Q) x l u H Q
def cS:=tL FJ (tL FL yd)
theorem UD{X:Cx}(h:X.K=K):jF X (GR K):=by subst h;exact Du N3 (Du OO Qr)
theorem Tg:kM K (GR K) cS:=Dt MX (Dt OQ OS)
def mw(K:PySem.W.Frag)(T:String)(r:V→List V→Hp→VK→Prop)(g:M×D→List (M×D)→Option (M×D)):Prop :=
 ∀H₀ O H x vs a aw Q m d,(∀a,O a→∃o,H a=some o)→(∀a o,H₀ a=some o→∃o',H a=some o')→Val K H₀ O HE H (Prod.fst a) a.2 x→fT K H₀ O HE H aw vs→g a aw=some (m,d)→(∀v H',ax H H'→Val K H₀ O H H' m d v→Q v H')→r x vs H Q
noncomputable def bp(ty:D→Bool)(g:M×D→List (M×D)→Option (M×D))(f:Ev→Option (M×D))(fs:Ev→Option (List (M×D))):Ev→Option (M×D):=λe=>(f e).bind λx=>if ty x.2=true then (fs e).bind λl=>g x l else none
noncomputable def a8:D→Bool
 |.str _=>true
 |_=>false
theorem QR {r:V→List V→Hp→VK→Prop}{g:M×D→List (M×D)→Option (M×D)}{te:TE}{ta:TA}{f:Ev→Option (M×D)}{fs:Ev→Option (List (M×D))} (hr:mw K "str" r g) (he:JT K te f) (ha:eY K ta fs):JT K (nZ K "str" r te ta) (bp a8 g f fs):=by
 intro H₀ O H σ env Q m d R h q;obtain⟨⟨mx,dx⟩,ex,h⟩:=aq h;split at h
 ·rename_i hs;obtain⟨l,el,h⟩:=aq h;refine he H₀ O H σ env _ mx dx R ex λv H1 s1 h1=>?_;cases dx<;>simp only[a8]at hs<;>try (cases hs;done)
  obtain rfl:=h1.str;refine⟨rfl,ha H₀ O H1 σ env _ l (R.keep s1) el λvs H2 s2 h2=>?_⟩;have R2:=(R.keep s1).keep s2;exact hr H₀ O H2 _ vs (mx,.str _) l Q m d R2.od R2.hd (h1.keep s2).h0 (ly (λ_ _ z=>z.h0) h2) h λv H3 s3 h3=>q v H3 ((s1.trans s2).trans s3) (h3.hb λa z=>(s1.trans s2).free z)
 ·cases h
theorem Bn{X:Cx}:kC X "str.index" (λx xs H Q=>∃(z y:Str) (i:Nat) (rest:List Nat),x=.str z∧xs=[.str y]∧Builtin.Str.occurrences z y 0 z.length 1=i::rest∧Q (.int i) H):=by
 intro pins s σ H x xs v us Q I rx r h;obtain⟨z,y,i,rest,rfl,rfl,ho,q⟩:=h;obtain⟨u,rfl,ru⟩:=vals1 r;obtain⟨tk,rfl⟩:=(show ∃t,v=Value.str z t from rx);obtain⟨my,rfl⟩:=(show ∃t,u=Value.str y t from ru);exact SC.index ho ⟨.int i,H,I.tok _,⟨_,rfl⟩,q⟩
noncomputable def mW:M×D→List (M×D)→Option (M×D)
  | (_,.str z),[(_,.str y)]=>match Builtin.Str.occurrences z y 0 z.length 1 with
    |i::_=>some (.fr,.int i)
    |[]=>none
  |_,_=>none
set_option tactic.hygienic true in
theorem LD:mw K "str" (λx xs H Q=>∃(z y:Str) (i:Nat) (rest:List Nat),x=.str z∧xs=[.str y]∧Builtin.Str.occurrences z y 0 z.length 1=i::rest∧Q (.int i) H) mW:=by
 intro H₀ O H x vs a aw Q m d _ _ h1 h2 h q;unfold mW at h;split at h
 ·split at h
  ·rename_i i rest ho;cases h;obtain⟨v,rfl,hv⟩:=h2.one;exact⟨_,_,i,rest,h1.str,by rw[hv.str],ho,q _ H (ax.refl H) gZ⟩
  ·cases h
 ·cases h
noncomputable def dN:D→String
 |.non => "NoneType"
 |.bl _ => "bool"
 |.int _ => "int"
 |.str _ => "str"
 |.ty _ => "type"
 |.tup _ => "tuple"
 |.lst _ => "list"
 |.dk _ => "dict"
 |.dt _ => "dict"
 |.exc _ _ _ => "type"
def bx:List (M×D)→Option (M×D)
 |[(_,d),(_,.ty T)]=>if dN d = "type" then none else if ["bool", "int", "str", "tuple", "list", "dict"].contains T=true then some (.fr,.bl (dN d==T||(dN d == "bool" && T == "int")))else none
 |_=>none
end
inductive TyJ (K:PySem.W.Frag)(H:Hp):V→String→Prop where
 |non:TyJ K H .non "NoneType"
 |bl (x:Bool):TyJ K H (.bl x) "bool"
 |int (i:Int):TyJ K H (.int i) "int"
 |str (x:Str):TyJ K H (.str x) "str"
 |lst {a:Addr}{xs:List V} (e:bj K H a xs):TyJ K H (.ref a) "list"
 |tup {a:Addr}{xs:List V} (e:aZ K H a xs):TyJ K H (.ref a) "tuple"
 |dK {a:Addr}{ai:List (Key×V)} (e:Rd H a (.dK ai)):TyJ K H (.ref a) "dict"
 |dT {a:Addr}{ai:List (List Key×V)} (e:Rd H a (.dT ai)):TyJ K H (.ref a) "dict"
noncomputable def qB(t T:String):Bool:=t==T||(t == "bool" && T == "int")
theorem QS (K:PySem.W.Frag) {t T:String} (h1:["NoneType", "bool", "int", "str", "tuple", "list", "dict"].contains t=true) (h2:["bool", "int", "str", "tuple", "list", "dict"].contains T=true):PySem.W.kitOne K (.type t) (.type T)=some (qB t T):=by
 simp only[List.contains_cons,List.contains_nil,Bool.or_false,Bool.or_eq_true,beq_iff_eq]at h1 h2;rcases h1 with rfl|rfl|rfl|rfl|rfl|rfl|rfl<;>rcases h2 with rfl|rfl|rfl|rfl|rfl|rfl<;>rfl
section
variable {K:PySem.W.Frag}{H H' H₀:Hp}{O O':Addr→Prop}{σ:L2.St}{env:Ev}
theorem Dv{x:V}{t:String}(h:TyJ K H x t):["NoneType", "bool", "int", "str", "tuple", "list", "dict"].contains t=true:=by cases h<;>decide
theorem LJ{X:Cx}(hK:X.K=K):fM X (.builtin "isinstance") (λxs H Q=>∃x T t,xs=[x,.ty T]∧TyJ K H x t∧["bool", "int", "str", "tuple", "list", "dict"].contains T=true∧Q (.bl (qB t T)) H):=by
 subst hK;intro pins s σ H xs us Q I r h;obtain⟨x,T,t,rfl,ty,hT,q⟩:=h;obtain⟨u,u',rfl,rx,ry⟩:=vals2 r;cases (show u'=Value.type T from ry);have e:=QS X.K (Dv ty) hT;have fin:∀tk,EP X pins σ Q (.bool (qB t T)) { s with toks:=tk }:=λtk=>⟨.bl (qB t T),H,I.tok tk,rfl,q⟩;cases ty with
 |non=>cases (show u=Value.none from rx);exact dG PySem.W.kitx_none I.bz True.intro e (λz=>nomatch z) fin
 |bl y=>cases (show u=Value.bool y from rx);exact dG PySem.W.kitx_bool I.bz True.intro e (λz=>nomatch z) fin
 |int i=>obtain⟨t,q⟩:=(show ∃t,u=Value.int i t from rx);cases q;exact dG PySem.W.kitx_int I.bz True.intro e (λz=>nomatch z) fin
 |str y=>obtain⟨t,q⟩:=(show ∃t,u=Value.str y t from rx);cases q;exact dG PySem.W.kitx_str I.bz True.intro e (λz=>nomatch z) fin
 |@lst a xs ea =>
  cases (show u=Value.ref a from rx);obtain⟨its,_,⟨o,n,h1,h2,_⟩,_⟩:=I.list ea;exact dG PySem.W.kitx_list I.bz ⟨o,h1,h2⟩ e (λz=>nomatch z) fin
 |@tup a xs ea =>
  cases (show u=Value.ref a from rx);obtain⟨its,_,p,_⟩:=I.tuple ea;obtain⟨o,h1,h2,_⟩:=p;exact dG PySem.W.kitx_tuple I.bz ⟨o,h1,h2⟩ e (λz=>nomatch z) fin
 |@dK a ai ea =>
  cases (show u=Value.ref a from rx);obtain⟨_,_,vs,_,p⟩:=ea.ok I.ay;obtain⟨o,es,ep,h1,h2,_⟩:=p;exact dG PySem.W.kitx_dict I.bz ⟨o,h1,h2.1⟩ e (λz=>nomatch z) fin
 |@dT a ai ea =>
  cases (show u=Value.ref a from rx);obtain⟨_,_,vs,_,o,es,ep,h1,h2,_⟩:=ea.ok I.ay;exact dG PySem.W.kitx_dict I.bz ⟨o,h1,h2.1⟩ e (λz=>nomatch z) fin
theorem Dw {N:Addr→Prop}{v:V}{d:D} (h:Rp K N H v d) (n:dN d ≠ "type"):TyJ K H v (dN d):=by
 cases h with
 |non=>exact .non
 |bl b=>exact .bl b
 |int i=>exact .int i
 |str x=>exact .str x
 |ty x=>exact absurd rfl n
 |exc _ _ _ _ _=>exact absurd rfl n
 |tup h _=>exact .tup h
 |lst h _ _=>exact .lst (.inl h)
 |lstK h _=>exact .lst (.inr h)
 |dk h _ _ _=>exact .dK h
 |dt h _ _ _=>exact .dT h
theorem OW:jL K (λxs H Q=>∃x T t,xs=[x,.ty T]∧TyJ K H x t∧["bool", "int", "str", "tuple", "list", "dict"].contains T=true∧Q (.bl (qB t T)) H) bx:=by
 intro H₀ O H vs aw Q m d _ _ hv h q;rcases aw with _|⟨⟨ma,da⟩,_|⟨⟨mb,db⟩,_|⟨b,l⟩⟩⟩
 ·cases h
 ·cases h
 ·cases db<;>try (cases h;done)
  change (if _ then _ else if _ then _ else _)=_ at h;split at h
  ·cases h
  ·rename_i hn;split at h
   ·rename_i hT;cases h;obtain⟨v,w,rfl,hx,hw⟩:=hv.two;obtain rfl:=hw.ty;exact⟨v,_,_,rfl,Dw hx.weak hn,hT,q _ H (ax.refl H) dB⟩
   ·cases h
 ·cases db<;>cases h
end
section
variable {K:PySem.W.Frag}{H:Hp}
theorem vZ{N:Addr→Prop}:∀(ns:List Int),ao K N H (ns.map V.int) (ns.map D.int)
 |[]=>.nil
 |n::ns=>.cons (.int n) (vZ ns)
theorem QT{F:List D→Option (M×D)}{a:Addr}{ns:List Int}{E:XK}(h:bj K H a (ns.map V.int))(e:∃m,F [.lst (ns.map .int)]=some (m,.bl true)):mj K 1 F [.ref a] H (λv _=>v=.bl true) E:=by
 obtain⟨m,e⟩:=e;refine⟨rfl,_,m,_,.cons ?_ .nil,e,λv H' _ r=>?_⟩
 ·rcases h with h|h
  ·exact .lst h trivial (vZ ns)
  ·exact .lstK h (vZ ns)
 ·cases m<;>try exact r.elim
  ·exact Rp.wF r
  ·obtain⟨p,_,_,c⟩:=r;exact c.elim
  ·obtain⟨_,_,_,_,e,_⟩:=r;cases e
end
section
variable {m n:M}{i j:Int}{x y:Str}{b c:Bool}{ds es:List D}{d:D}
theorem cV:aO (m,.int i) (n,.int j)=some (.fr,.bl (decide (i=j))):=by
 show(if true=true then some (M.fr,D.bl (decide (V.int i=V.int j)))else none)=_;simp
theorem Eu:aO (m,.str x) (n,.str y)=some (.fr,.bl (decide (x=y))):=by
 show(if true=true then some (M.fr,D.bl (decide (V.str x=V.str y)))else none)=_;simp
theorem Ti:aO (m,.bl b) (n,.bl c)=some (.fr,.bl (decide (b=c))):=by
 show(if true=true then some (M.fr,D.bl (decide (V.bl b=V.bl c)))else none)=_;simp
theorem m8:c9 (m,.int i) (n,.int j)=some (.fr,.bl (!decide (i=j))):=by
 show(if true=true then some (M.fr,D.bl (!decide (V.int i=V.int j)))else none)=_;simp
theorem sx:c9 (m,.str x) (n,.str y)=some (.fr,.bl (!decide (x=y))):=by
 show(if true=true then some (M.fr,D.bl (!decide (V.str x=V.str y)))else none)=_;simp
theorem lh:a6 (m,.int i) (n,.int j)=some (.fr,.int (i+j)):=rfl
theorem QV(h:x.length+y.length≤sizeLine):a6 (m,.str x) (n,.str y)=some (.fr,.str (x++y)):=by
 show(match (none:Option (M×D)) with|some z=>some z|none=>mv xv (mv x9 xx) (m,.str x) (n,.str y))=_
 show(match (if x.length+y.length≤sizeLine then some (M.fr,D.str (x++y))else none) with|some z=>some z|none=>_)=_
 rw[if_pos h]
theorem QW(hm:aN m≠.rb)(hn:aN n≠.rb)(h:ds.length+es.length≤sizeLine):a6 (m,.lst ds) (n,.lst es)=f9 (mJ m n) (ds++es):=by
 show(match (if aN m=.rb∨aN n=.rb then none else if ds.length+es.length≤sizeLine then f9 (mJ m n) (ds++es)else none) with|some z=>some z|none=>none)=_
 rw[if_neg λz=>z.elim hm hn,if_pos h];cases f9 (mJ m n) (ds++es)<;>rfl
theorem Dx:j8 (m,.int i) (n,.int j)=some (.fr,.int (i-j)):=rfl
theorem mul_r(h:-18446744073709551616<j∧j<18446744073709551616):gE (m,.int i) (n,.int j)=some (.fr,.int (i*j)):=by show(if _ then _ else _)=_;rw[if_pos (.inr h)]
theorem dz(h:0<j):bM (m,.int i) (n,.int j)=some (.fr,.int (i%j)):=by show(if _ then _ else _)=_;rw[if_pos h]
theorem div_ii(h:0<j∧j<1606938044258990275541962092341162602522202993782792835301376):cz (m,.int i) (n,.int j)=some (.fr,.int (i/j)):=by show(if _ then _ else _)=_;rw[if_pos h]
theorem QX(h:0≤j∧j≤1000000∧i.natAbs<2^64):pV (m,.int i) (n,.int j)=some (.fr,.int (i^j.toNat)):=by show(if _ then _ else _)=_;rw[if_pos h]
theorem Ew:pV (m,.int 2) (n,.int 64)=some (.fr,.int 18446744073709551616):=by
 rw[QX (by decide)];have:(2:Int)^(64:Int).toNat=18446744073709551616:=by decide
 rw[this]
theorem Ex:jK (m,.int i) (n,.int j)=some (.fr,.bl (decide (i<j))):=rfl
theorem Tj:uI (m,.int i) (n,.int j)=some (.fr,.bl (decide (i≤j))):=rfl
theorem pH:f7 (m,.int i) (n,.int j)=some (.fr,.bl (decide (j<i))):=rfl
theorem Tn:uJ (m,.int i) (n,.int j)=some (.fr,.bl (decide (j≤i))):=rfl
theorem Ey:tK (m,.int i)=some (.fr,.int (-i)):=rfl
theorem sC:aC (m,.lst ds) (n,.int i)=(aM ds i).map λd=>(aN m,d):=rfl
theorem Ez:aC (m,.tup ds) (n,.int i)=(aM ds i).map λd=>(aN m,d):=rfl
theorem sE(h:x.length≤sizeLine):aC (m,.str x) (n,.int i)=(aM x.cps.toList i).map λc=>(.fr,.str ⟨#[c]⟩):=if_pos h
theorem j0:aY [(m,.lst ds)]=some (.fr,.int ds.length):=rfl
theorem sF:aY [(m,.tup ds)]=some (.fr,.int ds.length):=rfl
theorem EA(h:x.length≤sizeLine):aY [(m,.str x)]=some (.fr,.int x.length):=if_pos h
theorem Tp:pW [(m,.int i)]=some (.fr,.int (if i<0 then -i else i)):=rfl
theorem Tq:lE [(m,.int i)]=some (.fr,.int i):=rfl
theorem Tr:lE [(m,.bl b)]=some (.fr,.int (if b then 1 else 0)):=rfl
theorem dm:kJ (m,.bl b)=some b:=rfl
theorem QY:nC (m,.int i)=some i:=rfl
theorem wa:iJ (.fr,d)=some (.fr,d):=rfl
theorem OX:iJ (.al,d)=some (.al,d):=rfl
theorem Cv:iJ (.un,d)=some (.bo,d):=rfl
theorem Dy{e:Ev}:out (.rt e .fr d)=some (.fr,d):=rfl
theorem Dz{e:Ev}:out (.rt e .un d)=some (.un,d):=rfl
theorem QZ{e:Ev}:out (.rt e .bo d)=some (.un,d):=rfl
theorem Q0{e:Ev}:out (.nx e)=some (.fr,.non):=rfl
theorem DB{e:Ev}(h:d.b8=true):out (.rt e .al d)=some (.fr,d):=if_pos h
theorem Q5:bU .fr d=true:=rfl
theorem Q6:bU .un d=true:=rfl
theorem Q7:bU .al d=d.b8:=rfl
theorem ye:D.b8 (.int i)=true:=by simp only[D.b8]
theorem tM:D.b8 (.str x)=true:=by simp only[D.b8]
theorem UE:D.b8 (.bl b)=true:=by simp only[D.b8]
theorem UG:D.b8 .non=true:=by simp only[D.b8]
theorem OY:D.cB []=true:=by simp only[D.cB]
theorem M9:D.cB (d::ds)=(d.b8&&D.cB ds):=by simp only[D.cB]
theorem DC:aN .al=.al:=rfl
theorem DF:aN .fr=.fr:=rfl
theorem Q8:aN .un=.fr:=rfl
theorem Q9:aN .bo=.fr:=rfl
theorem Ra(h:D.cB ds=true):f9 .al ds=some (.un,.lst ds):=by simp[f9,aN,h]
theorem aG{f g:Ev→Option Fl}{e e':Ev}(h:f e=some (.nx e')):au f g e=g e':=by simp[au,h]
theorem gY{f g:Ev→Option Fl}{e e':Ev}(h:f e=some (.rt e' m d)):au f g e=some (.rt e' m d):=by simp[au,h]
theorem dU{c:Ev→Option Bool}{f g:Ev→Option Fl}{e:Ev}(h:c e=some true):aS c f g e=f e:=by simp[aS,h]
theorem bO{c:Ev→Option Bool}{f g:Ev→Option Fl}{e:Ev}(h:c e=some false):aS c f g e=g e:=by simp[aS,h]
theorem A7:∀ns:List Int,D.cB (ns.map .int)=true
 |[]=>by simp only[List.map_nil,D.cB]
 |n::ns=>by simp only[List.map_cons,D.cB,D.b8,A7 ns,Bool.and_self]
theorem mR{α:Type}{l:List α}{k:Nat}(h:k<l.length):L2.aM l (k:Int)=some l[k]:=by
 unfold L2.aM L2.fY;rw[if_pos (Int.natCast_nonneg k),if_pos (by omega)];simp[h]
theorem jU{α:Type}{l:List α}{k:Int}(h0:0≤k)(h1:k<l.length):L2.aM l k=some (l[k.toNat]'(by omega)):=by
 unfold L2.aM L2.fY;rw[if_pos h0,if_pos h1];have:k.toNat<l.length:=by omega
 simp[this]
theorem Bp{ns:List Int}{k:Int}(h0:0≤k)(h1:k<ns.length):∃c,L2.aM (ns.map D.int) k=some (.int c):=by
 rw[jU h0 (by simpa using h1)];exact⟨ns[k.toNat]'(by omega),by simp⟩
end
theorem vJ{g:M×D→Ev→Option Ev}{b:Ev→Option Fl}{m:M}:∀{ds:List D}{e:Ev} (Iv:Nat→Ev→Prop),Iv 0 e →
  (∀(k:Nat) d e,ds[k]?=some d→Iv k e→∃e1 e2,g (m,d) e=some e1∧b e1=some (.nx e2)∧Iv (k+1) e2)→∃e',forL g b m ds e=some (.nx e')∧Iv ds.length e'
 |[],e,Iv,h0,_=>⟨e,rfl,h0⟩
 |d::ds,e,Iv,h0,hs=>by
  obtain⟨e1,e2,h1,h2,h3⟩:=hs 0 d e rfl h0;obtain⟨e',h4,h5⟩:=vJ (ds:=ds) (e:=e2) (λk e=>Iv (k+1) e) h3 λk d e hd hi=>hs (k+1) d e (by simpa using hd) hi;refine⟨e',?_,h5⟩;simp only[forL,h1,h2,Option.bind_some];exact h4
theorem DG{lo:Int}{n k:Nat}{d:D}(h:(cZ lo n)[k]?=some d):k<n∧d=.int (lo+k):=by
 unfold cZ at h;rw[jy]at h;have hk:k<n:=by
  rcases yL k n with z|z
  ·exact z
  ·rw[yM (by simpa using z)]at h;cases h
 rw[List.getElem?_range hk]at h;cases h;exact⟨hk,rfl⟩
theorem Cw{lo:Int}{n:Nat}:(cZ lo n).length=n:=by simp[cZ]
theorem VL{n:Nat}(h:n≤1000):(n≤sizeLine)=True:=eq_true (aQ h (by decide))
theorem UH{n:Nat}(h:n≤1000):(n<sizeLine)=True:=eq_true (lQ h (by decide))
end J
namespace J
open PySem PySem.Spec PyProof.Rows L2
section
variable {X:Cx}{pins:List (Addr×Obj)}{σ:L2.St}{H:Hp}{s:Shared}{h':Heap}
theorem Kz{fp:List Addr}{t':Nat}(I:L2.Inv X pins σ H s)(k:∀b o,b∉fp→s.heap.get? b=some o→h'.get? b=some o)(hf:∀b∈fp,g9 X pins H b):L2.Inv X pins σ H { s with heap:=h',toks:=t' }:=by
 have ko:∀b u,H b=some u→b∉fp:=λb u e z=>by rw[(hf b z).1]at e;cases e
 refine I.step (g':=s.gens) (d':=s.drawn) (ch:=fp) (λb hb=>?_) (λb o _ _ hc e _=>k b o hc e) (λb o _ _ hc e _=>⟨o.slots,k b o hc e⟩) (λ_ _ _ _ n=>n)
  (λb o hc e=>⟨o,k b o hc e⟩) (λ_ _ e=>e) (λ_ _ _ e=>e) (λb ps e=>⟨#[],by rw[e];simp⟩) (λm hm=>?_) (λb u e=>?_) I.bare
 ·obtain⟨f0,f1,f2,f3,f4,f5⟩:=hf b hb;exact⟨f3,f1,f4,f5⟩
 ·obtain⟨o,es,ep,ho,r⟩:=hm;exact⟨o,es,ep,k _ o (λz=>(hf _ z).2.1 rfl) ho,r⟩
 ·refine(I.ay b u e).jt (λc v hc q=>k c v ?_ q) (λ_ q=>q) λ_ _ q=>q;rcases hc with z|z
  ·rw[z];exact ko b u e
  ·exact ko c _ z
theorem JY{fp:List Addr}{t':Nat}{o:HO}(I:L2.Inv X pins σ H s)(k:∀b o,b∉fp→s.heap.get? b=some o→h'.get? b=some o)(hf:∀b∈fp,g9 X pins H b)(new:cL X.prog X.w (upd H s.heap.objs.size o) h' s.heap.objs.size o) :
  L2.Inv X pins σ (upd H s.heap.objs.size o) { s with heap:=h',toks:=t' }:=by
 have ko:∀b u,H b=some u→b∉fp:=λb u e z=>by rw[(hf b z).1]at e;cases e
 have hT:H s.heap.objs.size=none:=I.ay.fresh (a7 _);have neT:∀b u,H b=some u→b≠s.heap.objs.size:=λb u e=>cJ e hT;have VM:∀b o,s.heap.get? b=some o→b≠s.heap.objs.size:=λb o e=>cO (aV e);refine I.step (g':=s.gens) (d':=s.drawn) (ch:=fp) (λb hb=>?_) (λb o _ _ hc e _=>k b o hc e) (λb o _ _ hc e _=>⟨o.slots,k b o hc e⟩) (λb o _ e n=>by rw[aK (VM b o e)];exact n)
  (λb o hc e=>⟨o,k b o hc e⟩) (λb xs e=>by rw[aK (neT b _ e)];exact e) (λb _ _ e=>by rw[aK (neT b _ e)];exact e) (λb ps e=>⟨#[],by rw[aK (neT b _ e),e];simp⟩) (λm hm=>?_) (λb u e=>?_) I.bare
 ·obtain⟨f0,f1,f2,f3,f4,f5⟩:=hf b hb;exact⟨f3,f1,f4,f5⟩
 ·obtain⟨o,es,ep,ho,r⟩:=hm;exact⟨o,es,ep,k _ o (λz=>(hf _ z).2.1 rfl) ho,r⟩
 ·by_cases hb:b=s.heap.objs.size
  ·subst hb;rw[bD]at e;cases e;exact new
  ·rw[aK hb]at e;refine(I.ay b u e).jt (λc v hc q=>k c v ?_ q) (λc q=>by rw[aK (neT c _ q)];exact q) λc xs q=>by rw[aK (neT c _ q)];exact q
   rcases hc with z|z
   ·rw[z];exact ko b u e
   ·exact ko c _ z
end
def zA(K:PySem.W.Frag)(a:Addr):It :=
 ⟨λi H=>∃xs x,bj K H a xs∧xs[i]?=some x,λi H x H'=>∃t y,x=.ref t∧H t=none∧H'=upd H t (.tup [.int i,y])∧∀xs,bj K H a xs→xs[i]?=some y,λi H=>∃xs,bj K H a xs∧xs.length≤i⟩
theorem LK{P:Program}{w:World}{K:PySem.W.Frag}{elts:List Expr}{x1}{pos:Pos}(a e it:Addr)(GU:e≠it):Turn P w K (.Tuple elts x1 pos) (zA K a) [e,it] e (λi h=>(∃old,IsEnum h e it i old)∧h.IsListIter it a i) where
 mem:=by simp
 obj:=λi h st b hb=>by
  obtain⟨⟨old,he⟩,o,ho,c,d⟩:=st;rcases cH.mp hb with rfl|hb
  ·exact⟨_,he,λv z=>nomatch z⟩
  ·have e:b=it:=by simpa using hb
   subst e;exact⟨o,ho,λv z=>by rw[d]at z;cases z⟩
 keep:=λi h h' st k=>by
  obtain⟨⟨old,he⟩,hit⟩:=st;exact⟨⟨old,k e (by simp) _ he⟩,hit.at λo q=>k it (by simp) o q⟩
 item:=by
  intro X hP hw hK hc i pins s σ H E I hf st hg;subst hP hw hK;obtain⟨xs,x,hq,hx⟩:=hg;obtain⟨its,rv,p,hz⟩:=I.list hq;obtain⟨u,hu,ru⟩:=rv.get hx;obtain⟨⟨old,he⟩,hit⟩:=st;have GX:e<s.heap.objs.size:=aV he;have VN:it<s.heap.objs.size:=by obtain⟨_,q,_⟩:=hit;exact aV q
  have hT:H s.heap.objs.size=none:=I.ay.fresh (a7 _);refine wpAny_pyNext_enum_item he hit p.isList (x:=u) (by simpa using hu) GU λh1 ho UI ht nY hk=>⟨_,rfl,?_⟩;refine wpAny_letOwnedTupleGo_enum ho λh2 VP sb=>?_;have VQ:h2.get? s.heap.objs.size=some { cls:=.type "tuple",data:=.seq #[.int i s.toks,u] }:=(sb.2 _ (Nat.ne_of_gt GX)).trans ht;have k2:∀b o,b∉[e,it]→s.heap.get? b=some o→h2.get? b=some o:=λb o nb q=>by
   have n1:b≠e:=λz=>nb (by simp[z]);have n2:b≠it:=λz=>nb (by simp[z]);exact(sb.2 b n1).trans (hk b o n1 n2 q)
  refine⟨.ref s.heap.objs.size,upd H s.heap.objs.size (.tup [.int i,x]),?_,rfl,⟨s.heap.objs.size,x,rfl,hT,rfl,λys hy=>by rw[I.Bf hy hq];exact hx⟩,⟨⟨_,by simpa using VP⟩,UI.at λo q=>(sb.2 it GU.symm).trans q⟩,λb hb=>?_⟩
  ·refine JY (t':=s.toks+1) I k2 hf ⟨by show 2≤sizeLine;decide,[.int i s.toks,u],.cons ⟨_,rfl⟩ (.cons ru .nil),⟨_,VQ,rfl,rfl,_,rfl⟩⟩
  ·have jJ:b<s.heap.objs.size:=by
    rcases cH.mp hb with rfl|hb
    ·exact GX
    ·have e:b=it:=by simpa using hb
     rw[e];exact VN
   rw[aK (cO jJ)];exact(hf b hb).1
 done:=by
  intro X hP hw hK hc i pins s σ H E I hf st hg;subst hP hw hK;obtain⟨xs,hq,hx⟩:=hg;obtain⟨its,rv,p,hz⟩:=I.list hq;obtain⟨⟨old,he⟩,hit⟩:=st;have hl:=rv.length;refine wpAny_pyNext_enum_end (I.ok.hd hc) he hit p.isList (by simp;omega) λh1 eb=>⟨rfl,?_⟩;exact Kz (fp:=[e,it]) (t':=s.toks) I (λb o nb q=>eb b o (λz=>nb (by simp[z])) q) hf
 self:=λA i s Q E st h=>by
  obtain⟨⟨old,he⟩,_⟩:=st;exact wpAny_pyIter_enum he h
section
variable {X:Cx}
def xA(K:PySem.W.Frag)(ta:TA):TI:=λσ H R=>ta σ H λvs H1=>∃a xs,vs=[.ref a]∧bj K H1 a xs∧R (zA K a) H1
theorem OZ {a:Expr}{ta:TA}{p pos pos':Pos}{elts:List Expr} {x1} (hg:Gl X "enumerate") (hm:X.mg "enumerate" = none) (ha:PA X [a] ta) (hs:starEach [a] X.env=[(false,eval a X.env)]:=by rfl):PI X (.Tuple elts x1 pos') (.Call (.Name "enumerate" p) [a] [] pos) (xA X.K ta):=by
 intro pins s σ H R I h;refine Call_ (oX I hg hm PyProof.Rows.Boot.«enumerate» (yA (az (ha pos pins s σ H _ I h) λus s1 ⟨vs,H1,I1,r1,q1⟩=>?_) hs rfl));obtain⟨l,xs,e,hq,q⟩:=q1;subst e;cases r1 with
 |cons r rr =>
  cases rr;cases r;obtain⟨its,rv,pl,hz⟩:=I1.list hq;refine call_enumerate_list pl.isList λh1 he hit nY hk=>?_;have I2:L2.Inv X pins σ H1 { s1 with heap:=h1 }:=I1.kept (t':=s1.toks) hk;refine wpAny_pyIter_enum he ?_;have n1:s1.heap.objs.size+1≠s1.heap.objs.size:=by omega
  refine⟨s1.heap.objs.size+1,[s1.heap.objs.size+1,s1.heap.objs.size],_,_,H1,rfl,I2,LK l _ _ n1,⟨⟨_,he⟩,hit⟩,λb hb=>?_,q⟩;have jJ:s1.heap.objs.size≤b:=by
   rcases cH.mp hb with rfl|hb
   ·omega
   ·have e:b=s1.heap.objs.size:=by simpa using hb
    exact nM e.symm
  have z:=I1.pO (H':=H1) jJ (I1.ay.fresh jJ);exact z
theorem Nb {K:PySem.W.Frag}{a:Expr}{ta:TA}{p pos pos':Pos}{elts:List Expr} {x1} (hK:X.K=K) (hg:Gl X "enumerate") (hm:X.mg "enumerate" = none) (ha:PA X [a] ta) (hs:starEach [a] X.env=[(false,eval a X.env)]:=by rfl):PI X (.Tuple elts x1 pos') (.Call (.Name "enumerate" p) [a] [] pos) (xA K ta):=by subst hK;exact OZ hg hm ha hs
end
noncomputable def iM(ds:List D):List D:=ds.mapIdx λi d=>.tup [.int i,d]
def jM(fs:Ev→Option (List (M×D))):Ev→Option (M×List D):=λe=>(fs e).bind λl=>match l with
 |[(m,.lst ds)]=>(gR m).map λn=>(n,iM ds)
 |_=>none
section
variable {K:PySem.W.Frag}{H H' H₀:Hp}{O O':Addr→Prop}{σ:L2.St}{env:Ev}
theorem LQ{a:Addr}{xs:List V}{ds:List D}{n:M}(e:fC n=true)(on:∀a o,O a→H a=some o→¬iE o)(hr:(Rd H a (.lst xs)∧¬O a)∨uH K a xs)(r:ao K (NM H₀ O n) H xs ds):lG K H₀ O (zA K a) H n (iM ds):=by
 have st:∀{O2:Addr→Prop}{H2:Hp},aR O H O2 H2→bj K H2 a xs:=λ{O2 H2} s=>by
  rcases hr with⟨h|⟨o,h⟩,ha⟩|h
  ·exact .inl (.inl (s _ _ h ha).1)
  ·exact .inl (.inr ⟨o,(s _ _ h ha).1⟩)
  ·exact .inr h
 have l:(iM ds).length=ds.length:=by simp[iM]
 refine⟨λO2 H2 i s hi=>?_,λO2 H2 i x H3 s hi y=>?_,λO2 H2 s=>⟨xs,st s,by rw[r.len,l];exact a7 _⟩⟩
 ·rw[l]at hi;exact⟨xs,xs[i]'(by rw[r.len];exact hi),st s,by simp⟩
 ·rw[l]at hi;obtain⟨t,z,rfl,ht,rfl,y⟩:=y;have y:=y xs (st s);obtain⟨v,hv,rv⟩:=r.get (i:=i) (d:=ds[i]) (by simp[hi]);rw[y]at hv;cases hv;have sm:ax H2 (upd H2 t (.tup [.int i,z])):=cx ht;have hz:=(vW e on s rv).keep sm;refine⟨sm,.tup [.int i,ds[i]],by simp[iM,hi],?_⟩;cases n
  ·exact Rp.tup (aZ.of bD) (.cons (.int _) (.cons hz .nil))
  ·exact Rp.tup (aZ.of bD) (.cons (.int _) (.cons hz .nil))
  ·cases e
  ·cases e
  ·cases e
  ·cases e
  ·cases e
  ·cases e
set_option tactic.hygienic true in
theorem O4{t:TA}{fs:Ev→Option (List (M×D))}(h:eY K t fs):JI K (xA K t) (jM fs):=by
 intro H₀ O H σ env R m ds Re e q;obtain⟨l,el,e⟩:=aq e;split at e
 ·rename_i m0 d0;cases em:gR m0 with
  |none=>rw[em]at e;cases e
  |some n =>
   rw[em]at e;cases e;refine h H₀ O H σ env _ _ Re el λvs H1 s1 h1=>?_;obtain⟨v,rfl,hv⟩:=h1.one;obtain⟨e1,a,xs,rfl,hr,r⟩:=Cq em hv;exact⟨a,xs,rfl,hr.elim (λz=>.inl z.1) .inr,q _ H1 s1 e1 (LQ e1 (Re.keep s1).on hr r)⟩
 ·cases e
end
end J
namespace J
open PySem L2
def og:D→Bool
 |.lst ds=>D.cB ds
 |.dk ks=>D.cB (ks.map (·.2))
 |.dt ks=>D.cB (ks.map (·.2))
 |_=>false
def kO(io:List Nat)(vs:List V)(a:Addr):Prop:=∃i,i∈io∧vs[i]?=some (.ref a)
structure wI (K:PySem.W.Frag)(H:Hp)(io:List Nat)(vs:List V)(ds:List D):Prop where
 len:vs.length=ds.length
 rd:∀(i:Nat) v d,i∉io→vs[i]?=some v→ds[i]?=some d→Rp K (λa=>¬kO io vs a) H v d
 cl:∀(i:Nat) d,i∈io→ds[i]?=some d→∃p,vs[i]?=some (.ref p)∧Cell K (λ_=>False) H p d
 dj:∀(i j:Nat) p,i∈io→j∈io→vs[i]?=some (.ref p)→vs[j]?=some (.ref p)→i=j
def FN(K:PySem.W.Frag)(n:Nat)(io:List Nat)(F:List D→Option (M×D×List D)):Sp:=λvs H Q _=>vs.length=n∧∃ds m d outs,wI K H io vs ds∧F ds=some (m,d,outs) ∧
 ∀v H',(∀a o,¬kO io vs a→H a=some o→H' a=some o)→outs.length=io.length→(∀(k i:Nat) o,io[k]?=some i→outs[k]?=some o→∃p,vs[i]?=some (.ref p)∧Cell K (λ_=>False) H' p o)→m7 K H H' m d v→Q v H'
noncomputable def envOf:Fl→Ev
 |.nx e=>e
 |.bk e=>e
 |.ct e=>e
 |.rt e _ _=>e
 |.rz _=>[]
def collect:List Nat→Ev→Option (List D)
 |[],_=>some []
 |i::io,e=>match e[i]? with
  |some (some (.bi,d))=>if og d=true then (collect io e).bind λr=>some (d::r)else none
  |_=>none
def Ts(io:List Nat)(fl:Fl):Option (M×D×List D):=(out fl).bind λx=>(collect io (envOf fl)).bind λo=>some (x.1,x.2,o)
noncomputable def jW(io:List Nat)(ds:List D):Ev:=ds.mapIdx λi d=>some (if i∈io then M.bi else M.al,d)
def yf(L:Nat)(io:List Nat)(g:Ev→Option Fl):List D→Option (M×D×List D):=λds=>(g (jW io ds++List.replicate (L-ds.length) none)).bind (Ts io)
section
variable {K:PySem.W.Frag}{H H' H₀:Hp}{I:Nat→Option Addr}{O O':Addr→Prop}{σ:L2.St}{env:Ev}
theorem Cell.im{N N':Addr→Prop}{p:Addr}{d:D}(e:og d=true)(h:Cell K N H p d):Cell K N' H p d:=by
 cases d<;>simp only[og]at e<;>try (cases e;done)
 ·obtain⟨xs,q,r⟩:=h;exact⟨xs,q,r.im e⟩
 ·obtain⟨xs,q,z,r⟩:=h;exact⟨xs,q,z,r.im e⟩
 ·obtain⟨xs,q,z,r⟩:=h;exact⟨xs,q,z,r.im e⟩
theorem Ak:∀{io:List Nat}{e:Ev}{r:List D},collect io e=some r→r.length=io.length
 |[],_,_,h=>by cases h;rfl
 |i::io,e,r,h=>by
  simp only[collect]at h;split at h
  ·split at h
   ·obtain⟨r',er,h⟩:=aq h;cases h;rw[b7,b7,Ak er]
   ·cases h
  ·cases h
set_option tactic.hygienic true in
theorem Ax:∀{io:List Nat}{e:Ev}{r:List D}{k i:Nat}{o:D},collect io e=some r→io[k]?=some i→r[k]?=some o→e[i]?=some (some (.bi,o))∧og o=true
 |[],_,_,_,_,_,_,h1,_=>by simp at h1
 |j::io,e,r,k,i,o,h,h1,h2=>by
  simp only[collect]at h;split at h
  ·rename_i d hd;split at h
   ·rename_i hc;obtain⟨r',er,h⟩:=aq h;cases h;cases k with
    |zero=>simp at h1 h2;subst h1;subst h2;exact⟨hd,hc⟩
    |succ k=>exact Ax er (by simpa using h1) (by simpa using h2)
   ·cases h
  ·cases h
set_option tactic.hygienic true in
theorem Al{io:List Nat}{N:List Str}{vs:List V}{ds:List D}(A:wI K H io vs ds):∃I0:Nat→Option Addr,(∀{i p},I0 i=some p→i∈io∧vs[i]?=some (.ref p))∧Rel K H I0 (kO io vs) H (L2.start N vs) (jW io ds++List.replicate (N.length-ds.length) none):=by
 let I0:Nat→Option Addr:=λi=>if i∈io then (match vs[i]? with|some (.ref p)=>some p|_=>none)else none
 have i7:∀{i p},I0 i=some p→i∈io∧vs[i]?=some (.ref p):=λ{i p} z=>by
  simp only[I0]at z;split at z
  ·rename_i hi;split at z
   ·rename_i w hw;cases z;exact⟨hi,hw⟩
   ·cases z
  ·cases z
 have GY:∀{i p},i∈io→vs[i]?=some (.ref p)→I0 i=some p:=λ{i p} hi hv=>by simp only[I0,if_pos hi,hv]
 have o9:∀{i:Nat}{y:M×D},(jW io ds++List.replicate (N.length-ds.length) none)[i]?=some (some y)→ds[i]?=some y.2∧y.1=(if i∈io then M.bi else M.al):=λ{i y} z=>by
  rw[List.getElem?_append]at z;split at z
  ·rename_i hi;simp only[jW,List.getElem?_mapIdx,List.length_mapIdx]at z hi;rw[iR hi]at z ⊢;simp only[Option.map_some,Option.some.injEq]at z;subst z;exact⟨rfl,rfl⟩
  ·have:=fE z;have:=qi this;cases this
 have tN:∀{i:Nat}{v:V},vs[i]?=some v→(L2.start N vs)[i]?=some (some v):=λ{i v} z=>by
  unfold L2.start;have hi:i<vs.length:=(ig.mp z).1;rw[tZ (by simpa using hi),jy,z];rfl
 refine⟨I0,i7,?_⟩;show Rel K H I0 (kO io vs) H (L2.start N vs) (jW io ds++List.replicate (N.length-ds.length) none);refine⟨⟨oP ?_ ?_,?_,λa o e=>⟨o,e⟩,?_⟩,λa o _ e=>e,?_,?_,?_,?_⟩
 ·unfold L2.start jW;simp[A.len]
 ·intro j y z hy hz m' d' ey;subst ey;obtain⟨hd,hm⟩:=o9 hy;have hj:j<vs.length:=by rw[A.len];exact(ig.mp hd).1
  have hv:vs[j]?=some vs[j]:=iR hj;rw[tN hv]at hz;cases hz;simp only at hm hd;by_cases hi:j∈io
  ·rw[if_pos hi]at hm;subst hm;obtain⟨p,hp,c⟩:=A.cl j d' hi hd;rw[hv]at hp;refine⟨rfl,_,rfl,p,eR hp,⟨j,hi,by rw[hv,hp]⟩,c.wk λ_ z _=>z.elim⟩
  ·rw[if_neg hi]at hm;subst hm;exact⟨rfl,_,rfl,A.rd j _ d' hi hv hd⟩
 ·rintro a ⟨i,hi,hv⟩;have ck:i<ds.length:=by rw[←A.len];exact(ig.mp hv).1
  obtain⟨p,hp,c⟩:=A.cl i ds[i] hi (iR ck);rw[hv]at hp;cases hp;obtain⟨o,eo,_⟩:=c.some;exact⟨o,eo⟩
 ·rintro a o ⟨i,hi,hv⟩ eo;have ck:i<ds.length:=by rw[←A.len];exact(ig.mp hv).1
  obtain⟨p,hp,c⟩:=A.cl i ds[i] hi (iR ck);rw[hv]at hp;cases hp;obtain⟨o',GZ,nt⟩:=c.some;rw[eo]at GZ;cases GZ;exact nt
 ·rintro a ⟨i,hi,hv⟩;exact .inl ⟨i,GY hi hv⟩
 ·intro i d' p h1 p1;obtain⟨hd,hm⟩:=o9 h1;by_cases hi:i∈io
  ·obtain⟨p',hp,_⟩:=A.cl i d' hi hd;rw[tN hp]at p1;cases p1;exact GY hi hp
  ·rw[if_neg hi]at hm;cases hm
 ·intro i j y z p h1 h2 o1 o2 p1 p2;obtain⟨d1,m1⟩:=o9 h1;obtain⟨d2,m2⟩:=o9 h2;have hi:i∈io:=by
   by_cases hi:i∈io
   ·exact hi
   ·rw[if_neg hi]at m1;rw[m1]at o1;cases o1
  have hj:j∈io:=by
   by_cases hj:j∈io
   ·exact hj
   ·rw[if_neg hj]at m2;rw[m2]at o2;cases o2
  obtain⟨q1,G0,_⟩:=A.cl i _ hi d1;obtain⟨q2,G3,_⟩:=A.cl j _ hj d2;rw[tN G0]at p1;cases p1;rw[tN G3]at p2;cases p2;exact A.dj i j p hi hj G0 G3
 ·have no:∀{i:Nat}{d:D},(jW io ds++List.replicate (N.length-ds.length) none)[i]?=some (some (M.nb,d))→False:=λ{i d} z=>by
   obtain⟨_,hm⟩:=o9 z;simp only at hm;split at hm<;>cases hm
  exact⟨λi j d d' h1=>(no h1).elim,λi j d x p q xs h1=>(no h1).elim⟩
theorem LR{ts:TS}{g:Ev→Option Fl}{n:Nat}{io:List Nat}{N:List Str}{vs:List V}{Q:VK}{E:XK}(h:JS K Z0 ts g)(hs:FN K n io (yf N.length io g) vs H Q E):ts { nx:=λ_ H'=>Q .non H',rt:=Q } (L2.start N vs) H:=by
 obtain⟨hl,ds,m,d,outs,A,e,q⟩:=hs;obtain⟨fl,ef,eo⟩:=aq e;obtain⟨x,ex,eo⟩:=aq eo;obtain⟨oo,ec,eo⟩:=aq eo;cases eo;obtain⟨I0,i7,R⟩:=Al (N:=N) A;have fin:∀(O':Addr→Prop) (H':Hp) (σ':L2.St) (v:V),Rel K H I0 O' H' σ' (envOf fl)→m7 K H H' x.1 x.2 v→Q v H':=by
  intro O' H' σ' v R' ro;refine q v H' (λa o n e=>R'.fr a o (λi z=>n ⟨i,(i7 z).1,(i7 z).2⟩) e) (Ak ec) (λk i o h1 h2=>?_) ro;obtain⟨he,hc⟩:=Ax ec h1 h2;obtain⟨w,hw,_,p,rfl,_,c⟩:=R'.e.at he;have:=R'.ba i o p he hw;exact⟨p,(i7 this).2,c.im hc⟩
 refine h H I0 (kO io vs) H _ _ _ fl R ef ?_;cases fl with
 |nx e'=>cases ex;exactλO' H' σ' R' st=>fin O' H' σ' .non R' Rp.non
 |bk e'=>cases ex
 |ct e'=>cases ex
 |rz d'=>cases ex
 |rt e' m' d' =>
  intro O' H' σ' v R' st hv;refine fin O' H' σ' v R' ?_;cases m'
  ·change (if _ then _ else _)=_ at ex;split at ex
   ·rename_i hi;cases ex;exact(show Rp K _ H' v d' from hv.weak.im hi)
   ·cases ex
  ·cases ex;exact(show Rp K _ H' v d' from Rp.wk (λa h _=>h.2) hv)
  ·cases ex;obtain⟨p,rfl,_,h0,_,c⟩:=hv;exact⟨p,rfl,h0,c.wk λa h _=>⟨h.1.2,h.2⟩⟩
  ·cases ex;obtain⟨p,rfl,hO,h0,c⟩:=hv;exact⟨p,rfl,h0,c.wk λa h _=>⟨h.2,λz=>h.1 (z▸hO)⟩⟩
  ·cases ex
  ·cases ex;exact(show Rp K _ H' v d' from hv)
  ·cases ex;exact(show Rp K _ H' v d' from fS.rp (λ_ z=>z) hv)
  ·cases ex;exact(show cf K _ H' d' v from cf.wk (λq z=>z.2.1) hv)
end
section
variable {K:PySem.W.Frag}{H H' H₀:Hp}{I:Nat→Option Addr}{O O':Addr→Prop}{σ:L2.St}{env:Ev}
end
section
variable {K:PySem.W.Frag}{H H' H₀:Hp}{I:Nat→Option Addr}{O O':Addr→Prop}{σ:L2.St}{env:Ev}
theorem fT.at{Hb:Hp}:∀{aw:List (M×D)}{vs:List V}{i:Nat}{x:M×D},fT K H₀ O Hb H aw vs→aw[i]?=some x→∃v,vs[i]?=some v∧Val K H₀ O Hb H x.1 x.2 v
 |_,_,_,_,.nil,e=>by simp at e
 |_,_,0,_,.cons h _,e=>by simp at e;subst e;exact⟨_,rfl,h⟩
 |_,_,i+1,x,.cons _ r,e=>by
  obtain⟨v,h1,h2⟩:=fT.at (i:=i) (x:=x) r (by simpa using e);exact⟨v,by simpa using h1,h2⟩
theorem mO{α:Type}:∀{l:List α}{i j:Nat}{a:α},l.Nodup→l[i]?=some a→l[j]?=some a→i=j
 |[],_,_,_,_,h,_=>by simp at h
 |x::l,0,0,_,_,_,_=>rfl
 |x::l,0,j+1,a,nd,h1,h2=>by
  simp at h1;subst h1;exact absurd (fE (show l[j]?=some x by simpa using h2)) (gH.mp nd).1
 |x::l,i+1,0,a,nd,h1,h2=>by
  simp at h2;subst h2;exact absurd (fE (show l[i]?=some x by simpa using h1)) (gH.mp nd).1
 |x::l,i+1,j+1,a,nd,h1,h2=>by
  rw[mO (gH.mp nd).2 (show l[i]?=some a by simpa using h1) (by simpa using h2)]
structure XB (io sl:List Nat)(pos:List (Nat×Nat))(aw:List (M×D)):Prop where
 c1:∀(k i:Nat),io[k]?=some i→∃j,sl[k]?=some j∧(i,j)∈pos
 c2:sl.Nodup
 c3:∀(i:Nat) x,i∉io→aw[i]?=some x→i6 x.1 x.2=true∨(own x.1=true∧∃j,(i,j)∈pos∧j∉sl)
 c4:∀(i:Nat) x,i∈io→aw[i]?=some x→own x.1=true∧og x.2=true
 c5:sl.length=io.length
end
mutual
noncomputable def plain:D→Bool
 |.tup ds=>wJ ds
 |.lst ds=>wJ ds
 |.ty _=>false
 |.dk _=>false
 |.dt _=>false
 |.exc _ _ _=>false
 |.non=>true
 |.bl _=>true
 |.int _=>true
 |.str _=>true
noncomputable def wJ:List D→Bool
 |[]=>true
 |d::ds=>plain d&&wJ ds
end
section
variable {K:PySem.W.Frag}{H H' H₀:Hp}{O O':Addr→Prop}{σ:L2.St}{env:Ev}
theorem Rb{n:Nat}{gs:fW}{fs:M→List D→Ev→Option Ev}(hs:oa K gs fs):JG K (Fz K n gs) (gL n fs):=by
 intro H₀ I O H σ env x v cW Q R hm hv e q;obtain⟨m,d⟩:=x;cases d<;>simp only[gL]at e<;>try (cases e;done)
 split at e
 ·rename_i hl;obtain⟨a,xs,rfl,zx,r⟩:=hv.lst;exact⟨a,xs,rfl,zx,by rw[r.len];exact hl,hs H₀ I O H σ env (aN m) _ xs cW Q R (by cases m<;>first|rfl|cases hm) r e q⟩
 ·cases e
noncomputable def m9:List D→Option (List Str)
 |[]=>some []
 |.str x::r=>(m9 r).bind λxs=>some (x::xs)
 |_=>none
theorem Bq{N:Addr→Prop}:∀{ds:List D}{vs:List V}{ys:List Str},ao K N H vs ds→m9 ds=some ys→vs=ys.map V.str
 |_,_,_,.nil,e=>by cases e;rfl
 |d::ds,v::vs,ys,.cons h r,e=>by
  cases d<;>simp only[m9]at e<;>try (cases e;done)
  obtain⟨xs,ex,e⟩:=aq e;cases e;rw[Bq r ex,h.str_inv];rfl
def bJ:M×D→List (M×D)→Option (M×D)
 | (_,.str z),[(_,.lst ds)]=>(m9 ds).bind λys=>if (ys.map (·.length)).sum+ys.length*z.length≤16777216 then some (.fr,.str (Txt.join z ys))else none
 |_,_=>none
theorem Br{X:Cx}(h:X.K=K):kC X "str.join" (λx xs H Q=>∃(z:Str) (p:Addr) (ys:List Str),x=.str z∧xs=[.ref p]∧bj K H p (ys.map V.str)∧(ys.map (·.length)).sum+ys.length*z.length≤16777216∧Q (.str (Txt.join z ys)) H):=by subst h;exact N7
theorem Nc:mw K "str" (λx xs H Q=>∃(z:Str) (p:Addr) (ys:List Str),x=.str z∧xs=[.ref p]∧bj K H p (ys.map V.str)∧(ys.map (·.length)).sum+ys.length*z.length≤16777216∧Q (.str (Txt.join z ys)) H) bJ:=by
 intro H₀ O H x vs a aw Q m d _ _ h1 h2 h q;unfold bJ at h;split at h
 ·obtain⟨ys,ey,h⟩:=aq h;split at h
  ·rename_i hl;cases h;obtain⟨v,rfl,hv⟩:=h2.one;obtain⟨p,xs,rfl,hs,r⟩:=hv.lst;rw[Bq r ey]at hs;exact⟨_,p,ys,h1.str,rfl,hs,hl,q _ H (ax.refl H) lz⟩
  ·cases h
 ·cases h
theorem O6{X:Cx}{tg l:Expr}{tl:TE}(h:X.K=K)(hl:PE X l tl):PI X tg l (xR K tl):=by subst h;exact P5 hl
end
theorem wc{xs:List D}(h:xs.length≤1000):g6 (xs.map λx=>(M.fr,x))=some (.un,.lst xs):=by
 unfold g6;rw[if_pos (by rw[iq];exact aQ h (by decide)),if_pos (by rw[List.all_map];exact bY.mpr λ_ _=>rfl),fF];congr 3;exact List.map_id xs
theorem vC:∀ys:List Str,m9 (ys.map D.str)=some ys
 |[]=>rfl
 |y::ys=>by rw[gJ,m9,vC ys];rfl
theorem Bs:∀{ys:List Str},(∀y∈ys,y.length=1)→(ys.map (·.length)).sum=ys.length
 |[],_=>rfl
 |y::ys,h=>by rw[gJ,List.sum_cons,Bs λz hz=>h z (b6 _ hz),h y bC,b7];omega
noncomputable abbrev Ko:=Sum Int Str
noncomputable def kD:Ko→D
 |.inl i=>.int i
 |.inr x=>.str x
inductive Row where
 |rk (x s:Str) (a b:Ko)|cp (x:Str) (a:Ko)|sy (a:Ko)|go (t:Int)|pt (a:Ko) (t:Int)|en
noncomputable def Row.ds:Row→List D
 |.rk x s a b=>[.str "reckon",.str x,.str s,kD a,kD b]
 |.cp x a=>[.str "copy",.str x,kD a]
 |.sy a=>[.str "say",kD a]
 |.go t=>[.str "go",.int t]
 |.pt a t=>[.str "part",kD a,.int t]
 |.en=>[.str "end"]
noncomputable def Row.d(r:Row):D:=.tup r.ds
noncomputable def Row.word:Row→Str
 |.rk _ _ _ _ => "reckon"
 |.cp _ _ => "copy"
 |.sy _ => "say"
 |.go _ => "go"
 |.pt _ _ => "part"
 |.en => "end"
section
variable {K:PySem.W.Frag}{H H' H₀:Hp}{O:Addr→Prop}{σ:L2.St}{env:Ev}
noncomputable def fV(j i:Str):Bool:=!(Builtin.Str.occurrences j i 0 j.length 1).isEmpty
def dE(neg:Bool):M×D→M×D→Option (M×D)
 | (_,.str i),(_,.str j)=>some (.fr,.bl (if neg then !fV j i else fV j i))
 |_,_=>none
theorem Rc:JR K (λx y H Q=>∃i j,x=.str i∧y=.str j∧Q (.bl (!(Builtin.Str.occurrences j i 0 j.length 1).isEmpty)) H) (dE false):=by
 intro H₀ O H x y a b Q m d _ _ h1 h2 h q;obtain⟨ma,da⟩:=a;obtain⟨mb,db⟩:=b;cases da<;>try (cases h;done)
 cases db<;>try (cases h;done)
 cases h;exact⟨_,_,h1.str,h2.str,q _ H (ax.refl H) dB⟩
theorem LV:JR K (λx y H Q=>∃i j,x=.str i∧y=.str j∧Q (.bl (!(!(Builtin.Str.occurrences j i 0 j.length 1).isEmpty))) H) (dE true):=by
 intro H₀ O H x y a b Q m d _ _ h1 h2 h q;obtain⟨ma,da⟩:=a;obtain⟨mb,db⟩:=b;cases da<;>try (cases h;done)
 cases db<;>try (cases h;done)
 cases h;exact⟨_,_,h1.str,h2.str,q _ H (ax.refl H) dB⟩
noncomputable def nF:List D→Option (List Bool)
 |[]=>some []
 |.bl x::r=>(nF r).bind λxs=>some (x::xs)
 |_=>none
theorem Cy{N:Addr→Prop}:∀{ds:List D}{vs:List V}{ys:List Bool},ao K N H vs ds→nF ds=some ys→vs=ys.map V.bl
 |_,_,_,.nil,e=>by cases e;rfl
 |d::ds,v::vs,ys,.cons h r,e=>by
  cases d<;>simp only[nF]at e<;>try (cases e;done)
  obtain⟨xs,ex,e⟩:=aq e;cases e;rw[Cy r ex,h.wF];rfl
def lJ:List (M×D)→Option (M×D)
 |[(_,.lst ds)]=>(nF ds).bind λbs=>some (.fr,.bl (bs.all id))
 |_=>none
theorem KC{X:Cx}(h:X.K=K)(hc:X.calm=true):fM X (.builtin "all") (λxs H Q=>∃(p:Addr) (bs:List Bool),xs=[.ref p]∧bj K H p (bs.map V.bl)∧Q (.bl (bs.all id)) H):=by subst h;exact Js hc
theorem O7:jL K (λxs H Q=>∃(p:Addr) (bs:List Bool),xs=[.ref p]∧bj K H p (bs.map V.bl)∧Q (.bl (bs.all id)) H) lJ:=by
 intro H₀ O H vs aw Q m d _ _ hv h q;unfold lJ at h;split at h
 ·obtain⟨bs,eb,h⟩:=aq h;cases h;obtain⟨v,rfl,hw⟩:=hv.one;obtain⟨a,xs,rfl,r,s⟩:=hw.lst;rw[Cy s eb]at r;exact⟨_,_,rfl,r,q _ H (ax.refl H) dB⟩
 ·cases h
noncomputable def UJ(ty:D→Bool)(g:M×D→List (M×D)→Option (M×D))(f:Ev→Option (M×D)):Ev→Option (M×D):=λe=>(f e).bind λx=>if ty x.2=true then g x [] else none
theorem Rf{a:Addr}{xs:List V}{ds:List D}(w:∀H:Hp,aZ K H a xs)(r:∀(N:Addr→Prop) (H:Hp),ao K N H xs ds):JT K (tC (.ref a)) (jC (.tup ds)):=by
 intro H₀ O H σ env Q m d' R h q;cases h;exact q _ H (ax.refl H) (Rp.tup (w H) (r _ H))
theorem vw{N:Addr→Prop}:∀(ys:List Str),ao K N H (ys.map V.str) (ys.map D.str)
 |[]=>.nil
 |y::ys=>.cons (.str y) (vw ys)
end
theorem O8{u:Value}{y:Str}(h:nA u=some (V.str y)):RelV (.str y) u:=by
 cases u<;>cases h;exact⟨_,rfl⟩
theorem vK:∀{us:List Value}{ys:List Str},us.map nA=ys.map (λy=>some (V.str y))→Vals (ys.map V.str) us
 |[],[],_=>.nil
 |[],_::_,h=>by cases h
 |_::_,[],h=>by cases h
 |u::us,y::ys,h=>by
  rw[gJ,gJ]at h;exact .cons (O8 (yO h).1) (vK (yO h).2)
theorem O9 {K:PySem.W.Frag}{a:Addr}{its:Array Value}{n:Nat}{sl:Array (Option Value)}{ys:List Str} (l:K.lookup a=some ⟨.type "tuple",none,.seq its n,sl⟩) (v:its.toList.map nA=ys.map (λy=>some (V.str y))) (hz:4≤ys.length∧ys.length≤1000) (H:Hp):aZ K H a (ys.map V.str):=by
 have r:=vK v;have e:=r.length;simp only[List.length_map,Array.length_toList]at e;exact .inr ⟨_,its,n,l,rfl,rfl,rfl,aQ (by omega) (show 1000≤sizeLine by decide),by omega,r⟩
section
variable {K:PySem.W.Frag}{H H₀:Hp}{O:Addr→Prop}
noncomputable def gS(z:Str):List D:=z.cps.toList.map λc=>.str ⟨#[c]⟩
theorem Nf{z:Str}:lG K H₀ O (uC z) H .fr (gS z):=by
 have l:(gS z).length=z.cps.size:=by simp[gS]
 refine⟨λO2 H2 i s hi=>by rw[l]at hi;exact hi,λO2 H2 i x H3 s hi y=>?_,λO2 H2 s=>by rw[l];exact a7 z.cps.size⟩;obtain⟨rfl,c,hc,rfl⟩:=y;refine⟨ax.refl _,.str ⟨#[c]⟩,?_,Rp.str _⟩;unfold gS;rw[jy,Array.getElem?_toList,hc];rfl
def oh(f:Ev→Option (M×D)):Ev→Option (M×List D):=λe=>(f e).bind λx=>match x.2 with
 |.str z=>some (.fr,gS z)
 |_=>none
theorem Rg{t:TE}{f:Ev→Option (M×D)}(h:JT K t f):JI K (FC t) (oh f):=by
 intro H₀ O H σ env R m ds Re e q;obtain⟨⟨m0,d0⟩,ex,e⟩:=aq e;cases d0<;>simp only at e<;>try (cases e;done)
 cases e;refine h H₀ O H σ env _ _ _ Re ex λv H1 s1 h1=>?_;exact⟨_,h1.str,q _ H1 s1 rfl Nf⟩
end
end J
namespace L2
open PySem
end L2
namespace J
open PySem L2
theorem vD{fe:Ev→Option (M×D)}{m:M}{fr:Ev}{F:D→D}:∀{ds:List D},(∀d∈ds,fe (some (m,d)::fr)=some (.fr,F d))→cU eQ fe m fr ds=some ((ds.map F).map λx=>(M.fr,x))
 |[],_=>rfl
 |d::ds,h=>by
  have ih:=vD (ds:=ds) λe he=>h e (b6 _ he);rw[cU,show eQ (some (m,d)::fr)=some true from rfl,ud,if_pos rfl,h d bC,ud,ih,ud];rfl
theorem vL:∀l:List Bool,nF (l.map D.bl)=some l
 |[]=>rfl
 |b::l=>by rw[gJ,nF,vL l];rfl
theorem wd(z:Str)(c:Nat):fV z ⟨#[c]⟩=decide (c∈z.cps.toList):=StrLaws.found_one z c
theorem Pa{e:Ev}:iF e []=[]:=rfl
section
variable {m n:M}{z:Str}{i:Int}{b:Bool}{ds:List D}{ks:List (Key×D)}{kt:List (List Key×D)}
theorem JZ:bx [(m,.str z),(n,.ty "str")]=some (.fr,.bl true):=rfl
theorem J0:bx [(m,.str z),(n,.ty "int")]=some (.fr,.bl false):=rfl
theorem Jt:bx [(m,.str z),(n,.ty "bool")]=some (.fr,.bl false):=rfl
theorem Je:bx [(m,.str z),(n,.ty "tuple")]=some (.fr,.bl false):=rfl
theorem J1:bx [(m,.int i),(n,.ty "str")]=some (.fr,.bl false):=rfl
theorem J2:bx [(m,.int i),(n,.ty "int")]=some (.fr,.bl true):=rfl
theorem Ju:bx [(m,.int i),(n,.ty "bool")]=some (.fr,.bl false):=rfl
theorem Jf:bx [(m,.int i),(n,.ty "tuple")]=some (.fr,.bl false):=rfl
theorem KD:bx [(m,.bl b),(n,.ty "str")]=some (.fr,.bl false):=rfl
theorem KG:bx [(m,.bl b),(n,.ty "int")]=some (.fr,.bl true):=rfl
theorem J3:bx [(m,.bl b),(n,.ty "bool")]=some (.fr,.bl true):=rfl
theorem Jv:bx [(m,.bl b),(n,.ty "tuple")]=some (.fr,.bl false):=rfl
theorem J4:bx [(m,.non),(n,.ty "str")]=some (.fr,.bl false):=rfl
theorem J5:bx [(m,.non),(n,.ty "int")]=some (.fr,.bl false):=rfl
theorem Jw:bx [(m,.non),(n,.ty "bool")]=some (.fr,.bl false):=rfl
theorem Jg:bx [(m,.non),(n,.ty "tuple")]=some (.fr,.bl false):=rfl
theorem J6:bx [(m,.tup ds),(n,.ty "str")]=some (.fr,.bl false):=rfl
theorem J7:bx [(m,.tup ds),(n,.ty "int")]=some (.fr,.bl false):=rfl
theorem Jh:bx [(m,.tup ds),(n,.ty "tuple")]=some (.fr,.bl true):=rfl
theorem J8:bx [(m,.lst ds),(n,.ty "str")]=some (.fr,.bl false):=rfl
theorem J9:bx [(m,.lst ds),(n,.ty "int")]=some (.fr,.bl false):=rfl
theorem Ji:bx [(m,.lst ds),(n,.ty "tuple")]=some (.fr,.bl false):=rfl
theorem KH:bx [(m,.dk ks),(n,.ty "str")]=some (.fr,.bl false):=rfl
theorem KJ:bx [(m,.dk ks),(n,.ty "int")]=some (.fr,.bl false):=rfl
theorem Jx:bx [(m,.dk ks),(n,.ty "tuple")]=some (.fr,.bl false):=rfl
theorem KL:bx [(m,.dt kt),(n,.ty "str")]=some (.fr,.bl false):=rfl
theorem KN:bx [(m,.dt kt),(n,.ty "int")]=some (.fr,.bl false):=rfl
theorem Jy:bx [(m,.dt kt),(n,.ty "tuple")]=some (.fr,.bl false):=rfl
theorem UK{lo hi:Option Int}:cS (m,.tup ds) lo hi=some (aN m,.tup (cut ds lo hi)):=rfl
end
theorem IW:decide (("reckon" : Str) = "reckon")=true:=rfl
theorem IZ:decide (("reckon" : Str) = "copy")=false:=rfl
theorem Jj:decide (("reckon" : Str) = "say")=false:=rfl
theorem Jz:decide (("reckon" : Str) = "go")=false:=rfl
theorem Ja:decide (("reckon" : Str) = "part")=false:=rfl
theorem Jk:decide (("reckon" : Str) = "end")=false:=rfl
theorem Jb:decide (("copy" : Str) = "reckon")=false:=rfl
theorem JA:decide (("copy" : Str) = "copy")=true:=rfl
theorem Ka:decide (("copy" : Str) = "say")=false:=rfl
theorem KP:decide (("copy" : Str) = "go")=false:=rfl
theorem JB:decide (("copy" : Str) = "part")=false:=rfl
theorem Kc:decide (("copy" : Str) = "end")=false:=rfl
theorem Jl:decide (("say" : Str) = "reckon")=false:=rfl
theorem Kd:decide (("say" : Str) = "copy")=false:=rfl
theorem KQ:decide (("say" : Str) = "say")=true:=rfl
theorem LW:decide (("say" : Str) = "go")=false:=rfl
theorem Ke:decide (("say" : Str) = "part")=false:=rfl
theorem KR:decide (("say" : Str) = "end")=false:=rfl
theorem JC:decide (("go" : Str) = "reckon")=false:=rfl
theorem KS:decide (("go" : Str) = "copy")=false:=rfl
theorem LX:decide (("go" : Str) = "say")=false:=rfl
theorem Ng:decide (("go" : Str) = "go")=true:=rfl
theorem KW:decide (("go" : Str) = "part")=false:=rfl
theorem LY:decide (("go" : Str) = "end")=false:=rfl
theorem Jc:decide (("part" : Str) = "reckon")=false:=rfl
theorem JD:decide (("part" : Str) = "copy")=false:=rfl
theorem Kf:decide (("part" : Str) = "say")=false:=rfl
theorem KY:decide (("part" : Str) = "go")=false:=rfl
theorem JF:decide (("part" : Str) = "part")=true:=rfl
theorem Kg:decide (("part" : Str) = "end")=false:=rfl
theorem Jm:decide (("end" : Str) = "reckon")=false:=rfl
theorem Kh:decide (("end" : Str) = "copy")=false:=rfl
theorem KZ:decide (("end" : Str) = "say")=false:=rfl
theorem LZ:decide (("end" : Str) = "go")=false:=rfl
theorem Ki:decide (("end" : Str) = "part")=false:=rfl
theorem K0:decide (("end" : Str) = "end")=true:=rfl
section
variable {K:PySem.W.Frag}
end
structure fI (X:Cx)(st:Stmt)(t:TS):Prop where
 go:PS X st t
structure ke (X:Cx)(ss:List Stmt)(t:TS):Prop where
 go:cR X ss t
section
variable {X:Cx}{st:Stmt}{rest a b body:List Stmt}{t u tb:TS}{e c iter tg o i value:Expr}{te td ty tv:TE}{tc:TT}{g:TG}{wi:TI}{pos pos':Pos}{k:Nat}{x:Str}
theorem Pb:ke X [] wZ:=⟨BU⟩
theorem Nh(h1:fI X st t)(h2:ke X rest u):ke X (st::rest) (xN t u):=⟨Bg h1.go h2.go⟩
theorem Pg(h1:fI X st t):ke X [st] t:=⟨NP h1.go⟩
theorem Ph(he:PE X e te)(hs:swapsWith e none pos.line X.env=pure false:=by rfl):fI X (.Expr e pos) (w6 te):=⟨NQ he hs⟩
theorem Rh(he:PE X e te):fI X (.Return (some e) pos) (xO te):=⟨P0 he⟩
theorem Tt(hc:PT X c tc)(ha:ke X a t)(hb:ke X b u):fI X (.If c a b pos) (xP tc t u):=⟨Ss hc ha.go hb.go⟩
theorem DH(he:PE X e te)(hg:PG X tg g)(hs:swapsWithSole [tg] e pos.line X.env=pure false:=by rfl)(hw:swappedStores [tg] e X.env=pure none:=by rfl)
 (h1:(assignEach [tg] X.env).map (·.2)=[assign tg X.env]:=by rfl):fI X (.Assign [tg] e pos) (g8 te g):=⟨P4 he hg hs hw h1⟩
theorem Ri{i:Nat}(hN:X.N.Nodup)(hi:X.N[i]?=some x)(hx:Loc X.env.scope x)(he:PE X e te)(hs:swapsWith e (some (.Name x pos')) pos.line X.env=pure false:=by rfl)(hf:X.fn x=true∨X.env.scope.names.lookup x=some .local:=by first|exact .inl rfl|exact .inr rfl|assumption) :
 fI X (.Assign [.Name x pos'] e pos) (g8 te (iL i)):=⟨C6 hN hi hx he hs hf⟩
theorem Rj(hp:PassesOwn (model X.prog X.w) X.A X.env X.xe)(hc:X.calm=true)(hi:PI X tg iter wi)(hg:PG X tg g)(hb:ke X body tb)
 (hs:∀x,foldedSetIterable iter X.env x=pure x:=by intro _;rfl):fI X (.For tg iter body [] pos) (xS wi g tb):=⟨P6 hp hc hi hg hb.go hs⟩
theorem Ay{N':List Str}{aj:Scope}{ix:List Nat}{elt:Expr}{ifs:List Expr}{px:Pos}{i:Nat}{y:Str}{py pT:Pos}(hN:X.N.Nodup)(zk:X.N[i]?=some y)(hy:X.env.scope.names.lookup y=some .local)(ok:jh X.N N' X.env.scope aj x ix)(hc:X.calm=true)(hi:PI X (.Name x px) iter wi)(fH:∀C s₂ H₂ fp pn,kE (X.bG N' aj C s₂ H₂ fp pn) ifs tc)
 (jG:∀C s₂ H₂ fp pn,PE (X.bG N' aj C s₂ H₂ fp pn) elt te) (zl:swapsWith (.ListComp elt [⟨.Name x px,iter,ifs,0⟩] aj pos) (some (.Name y py)) pT.line X.env=pure true:=by rfl)
 (hs:∀x,foldedSetIterable iter X.env x=pure x:=by intro _;rfl):fI X (.Assign [.Name y py] (.ListComp elt [⟨.Name x px,iter,ifs,0⟩] aj pos) pT) (g8 (m6 wi ix tc te) (iL i)):=⟨Kw hN zk hy ok hc hi fH jG zl hs⟩
theorem Ni:fI X st (λ_ _ _=>False):=⟨λ_ _ _ _ _ _ h=>h.elim⟩
end
noncomputable def keyOf:D→Option Key
 |.int i=>some (.inl i)
 |.str x=>some (.inr x)
 |.non=>some .non
 |_=>none
noncomputable def aX{κ:Type}[DecidableEq κ](ks:List (κ×D))(k:κ):Option D:=(ks.find? λkv=>decide (kv.1=k)).map (·.2)
section
variable {K:PySem.W.Frag}{H H' H₀:Hp}{I:Nat→Option Addr}{O:Addr→Prop}{σ:L2.St}{env:Ev}
theorem vE{N:Addr→Prop}{d:D}{k:Key}{v:V}(e:keyOf d=some k)(h:Rp K N H v d):v=kV k:=by
 cases d<;>simp only[keyOf]at e<;>cases e
 ·exact h.Cg
 ·exact h.int_inv
 ·exact h.str_inv
def Ent{κ:Type}(K:PySem.W.Frag)(N:Addr→Prop)(H:Hp)(ai:List (κ×V))(ks:List (κ×D)):Prop:=ai.map (·.1)=ks.map (·.1)∧ao K N H (ai.map (·.2)) (ks.map (·.2))
theorem Ent.cons_inv{κ:Type}{N:Addr→Prop}{p:κ×V}{ai:List (κ×V)}{q:κ×D}{ks:List (κ×D)}(h:Ent K N H (p::ai) (q::ks)):p.1=q.1∧Rp K N H p.2 q.2∧Ent K N H ai ks:=by
 obtain⟨e,r⟩:=h;rw[gJ,gJ]at e r;obtain⟨e1,e2⟩:=yO e;cases r with|cons a b=>exact⟨e1,a,e2,b⟩
theorem Ent.len{κ:Type}{N:Addr→Prop}{ai:List (κ×V)}{ks:List (κ×D)}(h:Ent K N H ai ks):ai.length=ks.length:=by
 have:=bX List.length h.1;simpa using this
theorem Ent.val{κ:Type}[DecidableEq κ]{N:Addr→Prop}:∀{ai:List (κ×V)}{ks:List (κ×D)} (k:κ),Ent K N H ai ks→(aX ks k=none∧dn ai k=none)∨∃d v,aX ks k=some d∧dn ai k=some v∧Rp K N H v d
 |[],[],k,_=>.inl ⟨rfl,rfl⟩
 |[],_::_,k,h=>absurd h.len (by simp)
 |_::_,[],k,h=>absurd h.len (by simp)
 |p::ai,q::ks,k,h=>by
  obtain⟨e,r,t⟩:=h.cons_inv;by_cases z:q.1=k
  ·exact .inr ⟨q.2,p.2,by simp[aX,List.find?_cons,z],vG (e.trans z),r⟩
  ·have e1:aX (q::ks) k=aX ks k:=by simp[aX,List.find?_cons,z]
   rw[e1,vH (λw=>z (e.symm.trans w))];exact Ent.val k t
theorem Val.dk{m:M}{ks:List (Key×D)}{v:V}{Hb:Hp}(h:Val K H₀ O Hb H m (.dk ks) v):∃a ai,v=.ref a∧Rd H a (.dK ai)∧Ent K (NM H₀ O (aN m)) H ai ks:=by
 cases m<;>simp only[Val,Cell]at h
 ·cases h with|dk r n e q=>exact⟨_,_,rfl,r,e,q⟩
 ·cases h with|dk r n e q=>exact⟨_,_,rfl,r,e,q⟩
 ·obtain⟨p,rfl,_,_,_,xs,q,e,r⟩:=h;exact⟨_,_,rfl,.inl q,e,r.wk λa h _=>h.1⟩
 ·obtain⟨p,rfl,_,_,xs,q,e,r⟩:=h;exact⟨_,_,rfl,.inl q,e,r⟩
 ·obtain⟨p,rfl,_,xs,q,e,r⟩:=h;exact⟨_,_,rfl,.inl q,e,r⟩
 ·cases h with|dk r n e q=>exact⟨_,_,rfl,r,e,q⟩
 ·obtain⟨p,qs,bt,rfl,e2,_⟩:=h;cases e2
 ·obtain⟨_,_,_,_,e2,_⟩:=h;cases e2
noncomputable def yg:D→Option (List (Key×D))
 |.dk ks=>some ks
 |_=>none
theorem Cz{d:D}{ks:List (Key×D)}(h:yg d=some ks):d=.dk ks:=by cases d<;>simp only[yg]at h<;>cases h;rfl
def yh(neg:Bool)(fk fd:Ev→Option (M×D)):Ev→Option (M×D):=λe=>(fk e).bind λy=>(fd e).bind λx=>(yg x.2).bind λks=>(keyOf y.2).bind λk=>some (.fr,.bl (if neg then !(aX ks k).isSome else (aX ks k).isSome))
theorem Ent.isSome{κ:Type}[DecidableEq κ]{N:Addr→Prop}{ai:List (κ×V)}{ks:List (κ×D)}{k:κ}(h:Ent K N H ai ks):(dn ai k).isSome=(aX ks k).isSome:=by
 rcases h.val k with⟨a,b⟩|⟨d,v,a,b,_⟩<;>rw[a,b]<;>rfl
theorem Rk{td ty:TE}{fd fk:Ev→Option (M×D)}(hk:JT K ty fk)(hd:JT K td fd):JT K (xY ty td) (yh false fk fd):=by
 intro H₀ O H σ env Q m d R h q;obtain⟨y,ey,h⟩:=aq h;obtain⟨x,ex,h⟩:=aq h;obtain⟨ks,mz,h⟩:=aq h;obtain⟨k,ek,h⟩:=aq h;cases h;refine hk H₀ O H σ env _ y.1 y.2 R ey λw H1 s1 h1=>?_;refine hd H₀ O H1 σ env _ x.1 x.2 (R.keep s1) ex λv H2 s2 h2=>?_;rw[Cz mz]at h2;obtain⟨a,ai,rfl,rd,en⟩:=h2.dk;obtain rfl:=vE ek h1.weak;refine⟨a,dn ai k,rfl,.inl ⟨ai,k,rd,rfl,rfl⟩,?_⟩;rw[en.isSome];exact q _ H2 (s1.trans s2) dB
theorem L0{td ty:TE}{fd fk:Ev→Option (M×D)}(hk:JT K ty fk)(hd:JT K td fd):JT K (vV ty td) (yh true fk fd):=by
 intro H₀ O H σ env Q m d R h q;obtain⟨y,ey,h⟩:=aq h;obtain⟨x,ex,h⟩:=aq h;obtain⟨ks,mz,h⟩:=aq h;obtain⟨k,ek,h⟩:=aq h;cases h;refine hk H₀ O H σ env _ y.1 y.2 R ey λw H1 s1 h1=>?_;refine hd H₀ O H1 σ env _ x.1 x.2 (R.keep s1) ex λv H2 s2 h2=>?_;rw[Cz mz]at h2;obtain⟨a,ai,rfl,rd,en⟩:=h2.dk;obtain rfl:=vE ek h1.weak;refine⟨a,dn ai k,rfl,.inl ⟨ai,k,rd,rfl,rfl⟩,?_⟩;rw[en.isSome];exact q _ H2 (s1.trans s2) dB
end
section
variable {K:PySem.W.Frag}{H H' H₀:Hp}{I:Nat→Option Addr}{O:Addr→Prop}{σ:L2.St}{env:Ev}
theorem Rel.Rl{i:Nat}{C:Addr}{qs:List Addr}{bt:List (List D)}{H1:Hp}(R:Rel K H₀ I O H σ env)(s:ax H H1)(nn:∀(j:Nat) d,j≠i→env[j]?≠some (some (.nb,d)))(hC:H C=none)(hq:∀q∈qs,H q=none∧q≠C)(nd:qs.Nodup)
  (e:H1 C=some (.lst (qs.map V.ref))) (hp:Paired (λq ds=>∃xs,H1 q=some (.lst xs)∧ao K (λa=>¬(O a∨a=C∨a∈qs)∧H₀ a=none) H1 xs ds) qs bt) :
  Rel K H₀ I (λa=>O a∨a=C∨a∈qs) H1 (σ.set i (some (.ref C))) (env.set i (some (.nb,.lst (bt.map D.lst))))∧aR O H (λa=>O a∨a=C∨a∈qs) H1:=by
 have np:∀a,(∃o,H a=some o)→¬(a=C∨a∈qs):=λa ⟨o,ea⟩ z=>by
  rcases z with rfl|z
  ·rw[hC]at ea;cases ea
  ·rw[(hq a z).1]at ea;cases ea
 have n0:∀a,(a=C∨a∈qs)→H₀ a=none:=λa z=>by
  cases h0:H₀ a with
  |none=>rfl
  |some o=>exact absurd z (np a (R.e.hd a o h0))
 have nO:∀a,(a=C∨a∈qs)→¬O a:=λa z ho=>np a (R.e.od a ho) z;have wk:∀{N:Addr→Prop}{d:D}{v:V},Rp K N H v d→Rp K (λa=>N a∧¬(a=C∨a∈qs)) H1 v d:=λr=>(r.wk λa n e=>⟨n,np a e⟩).keep (.same s);have qz:∀{N:Addr→Prop}{d:D}{q:Addr},Cell K N H q d→Cell K (λa=>N a∧¬(a=C∨a∈qs)) H1 q d:=λ{N d q} r=>by
  obtain⟨o,e,_⟩:=r.some;exact(r.wk λa n e=>⟨n,np a e⟩).keep (.same s) ((s _ _ e).trans e.symm)
 have zB:∀{j:Nat}{d:D},(env.set i (some (M.nb,D.lst (bt.map D.lst))))[j]?=some (some (.nb,d))→j=i:=λ{j d} h=>by
  rcases get_set h with⟨z,_⟩|⟨z,q⟩
  ·exact z
  ·exact absurd q (nn j d z)
 have G4:∀a,(a=C∨a∈qs)→∃o,H1 a=some o∧¬iE o:=λa z=>by
  rcases z with rfl|z
  ·exact⟨_,e,λz=>z⟩
  ·obtain⟨ds,xs,hx,_⟩:=vI hp z;exact⟨_,hx,λz=>z⟩
 refine⟨⟨⟨oP ?_ ?_,?_,?_,?_⟩,?_,?_,?_,?_,?_⟩,?_⟩
 ·rw[nL,nL];exact fD R.e.sl
 ·intro j y x hy hx m d ey;subst ey;rcases get_set hy with⟨rfl,z⟩|⟨nj,q⟩
  ·cases z;rcases get_set hx with⟨_,z⟩|⟨z,_⟩
   ·subst z;exact⟨rfl,_,rfl,C,qs,bt,rfl,rfl,.inr (.inl rfl),n0 C (.inl rfl),e,nd,λq hm=>⟨.inr (.inr hm),n0 q (.inr hm),(hq q hm).2⟩,hp⟩
   ·exact absurd rfl z
  ·rw[cP (λz=>nj z.symm)]at hx;obtain⟨v,hv,n,z⟩:=R.e.at q;rw[hx]at hv;cases hv;refine⟨n,v,rfl,?_⟩;cases m
   ·exact(wk z).wk λa h _=>λz=>z.elim h.1 h.2
   ·exact(wk z).wk λa h _=>⟨λz=>z.elim h.1.1 h.2,h.1.2⟩
   ·cases n
   ·obtain⟨q,rfl,h1,h2,c'⟩:=z;exact⟨q,rfl,.inl h1,h2,(qz c').wk λa h _=>⟨λz=>z.elim h.1.1 h.2,h.1.2⟩⟩
   ·obtain⟨q,rfl,h1,c'⟩:=z;exact⟨q,rfl,.inl h1,(qz c').wk λa h _=>⟨λz=>z.elim h.1.1 h.2,h.1.2⟩⟩
   ·cases n
   ·exact absurd q (nn j d nj)
   ·cases n
 ·intro a ha;rcases ha with ha|ha
  ·obtain⟨o,e⟩:=R.e.od a ha;exact⟨o,s _ _ e⟩
  ·obtain⟨o,eo,_⟩:=G4 a ha;exact⟨o,eo⟩
 ·exactλa o h=>let ⟨o,e⟩:=R.e.hd a o h;⟨o,s _ _ e⟩
 ·intro a u ha eu;rcases ha with ha|ha
  ·exact(R.e.keep s).on a u ha eu
  ·obtain⟨o,eo,nt⟩:=G4 a ha;rw[eu]at eo;cases eo;exact nt
 ·exactλa o n h=>s _ _ (R.fr a o n h)
 ·intro a ha;rcases ha with ha|ha
  ·exact R.ow a ha
  ·exact .inr (n0 a ha)
 ·intro i' d' p' h1 p1;rcases get_set h1 with⟨rfl,q⟩|⟨n1,q1⟩
  ·cases q
  ·rw[cP (λz=>n1 z.symm)]at p1;exact R.ba i' d' p' q1 p1
 ·intro i' j x y q h1 h2 o1 o2 p1 p2;rcases get_set h1 with⟨rfl,q1⟩|⟨n1,q1⟩
  ·cases q1;cases o1
  ·rcases get_set h2 with⟨rfl,q2⟩|⟨n2,q2⟩
   ·cases q2;cases o2
   ·rw[cP (λz=>n1 z.symm)]at p1;rw[cP (λz=>n2 z.symm)]at p2;exact R.dj i' j x y q q1 q2 o1 o2 p1 p2
 ·refine⟨λi' j d1 d2 h1 h2=>(zB h1).trans (zB h2).symm,λi' j d1 x p' q xs h1 p1 h2 o2 p2 ex=>?_⟩;have hi:=zB h1;subst hi;have qC:p'=C:=by
   rcases get_set p1 with⟨_,z⟩|⟨z,_⟩
   ·cases z;rfl
   ·exact absurd rfl z
  subst qC;rw[e]at ex;cases ex;rcases get_set h2 with⟨rfl,z⟩|⟨n2,q2⟩
  ·cases z;cases o2
  ·rw[cP (λz=>n2 z.symm)]at p2;have hO:=(R.o8 q2 o2 p2).1;refine⟨λz=>nO q (.inl z) hO,λz=>?_⟩;obtain⟨a,ha,ea⟩:=cX.mp z;exact nO q (.inr (by cases ea;exact ha)) hO
 ·intro a o h n;exact⟨s a o h,λz=>z.elim n (np a ⟨o,h⟩)⟩
noncomputable def FP(i:Nat)(e:Ev):Bool:=(List.range e.length).all λj=>decide (j=i)||(match e[j]? with
 |some (some (.nb,_))=>false
 |_=>true)
theorem Pj{i:Nat}{e:Ev}(h:FP i e=true)(j:Nat)(d:D)(hj:j≠i):e[j]?≠some (some (.nb,d)):=λz=>by
 have hl:j<e.length:=(ig.mp z).1;have:=bY.mp h j (lN.mpr hl);rw[z,bF hj]at this;cases this
def EB(i:Nat)(it:Ev→Option (M×List D)):Ev→Option Fl:=λe=>(it e).bind λy=>if FP i e=true∧y.2.length<sizeLine then some (.nx (e.set i (some (.nb,.lst ((y.2.map λ_=>([]:List D)).map D.lst)))))else none
theorem Pk{i:Nat}{wi:TI}{ix:List Nat}{it:Ev→Option (M×List D)}(hi:JI K wi it):JS K Z0 (g8 (m6 wi ix tF (tm j5)) (iL i)) (EB i it):=by
 intro H₀ I O H σ env Ds fl R e q;obtain⟨⟨mi,ds⟩,ei,e⟩:=aq e;split at e
 ·rename_i hc;obtain⟨hn,hl⟩:=hc;cases e;refine hi H₀ O H σ env _ mi ds R.e ei λJ H1 s1 hm ok C hC=>?_;refine⟨λk n H2=>n=ds.length-k∧k≤ds.length∧ax H1 H2∧∃qs:List Addr,H2 C=some (.lst (qs.map V.ref))∧qs.length=k∧qs.Nodup∧∀q∈qs,H1 q=none∧q≠C∧H2 q=some (.lst []),⟨_,rfl,kj _,cx hC,[],bD,rfl,List.nodup_nil,λ_ h=>nomatch h⟩,?_⟩;rintro k n H2 ⟨rfl,hle,s2,qs,G5,zC,G6,qD⟩;have cj:aR O H1 O H2:=aR.same s2;by_cases ck:k<ds.length
  ·refine .inr ⟨ok.go O H2 k cj ck,λx H3 y=>?_⟩;obtain⟨s3,_⟩:=ok.iU O H2 k x H3 cj ck y;refine My.Uv (σ:=some x::dD σ ix) (H:=H3) (A:=λH3=>tm j5 (some x::dD σ ix) H3 _) (B:=λH3=>_) ?_;refine⟨kj _,λp hp=>?_⟩;have c3:H3 C=some (.lst (qs.map V.ref)):=s3 _ _ G5;have qC:C≠p:=cJ c3 hp;have VR:p∉qs:=λz=>by rw[s3 _ _ (qD p z).2.2]at hp;cases hp
   refine⟨qs.map V.ref,by rw[aK qC];exact c3,by rw[iq,zC];exact Nat.lt_trans ck hl,ds.length-(k+1),by omega,rfl,ck,λa o ha=>?_,qs++[p],?_,by rw[bN,zC];rfl,?_,λa ha=>?_⟩
   ·rw[aK (cJ ha hC)];have h3:=s3 _ _ (s2 _ _ ha);rw[aK (cJ h3 hp)];exact h3
   ·rw[bD,kl];rfl
   ·rw[List.nodup_append];refine⟨G6,by simp,λa ha b hb=>?_⟩;have:b=p:=by simpa using hb
    subst this;exactλz=>VR (z▸ha)
   ·rcases ic.mp ha with ha|ha
    ·obtain⟨z1,z2,z3⟩:=qD a ha;refine⟨z1,z2,?_⟩;have h3:=s3 _ _ z3;rw[aK z2,aK (cJ h3 hp)];exact h3
    ·have:a=p:=by simpa using ha
     subst this;have VW:H1 a=none:=by
      cases h1:H1 a with
      |none=>rfl
      |some o=>rw[s3 _ _ (s2 _ _ h1)]at hp;cases hp
     exact⟨VW,λz=>qC z.symm,by rw[aK (λz=>qC z.symm),bD]⟩
  ·have hk:k=ds.length:=by omega
   subst hk;refine .inl ⟨ok.stop O H2 cj,?_⟩;have pr:∀(qs:List Addr) (ds:List D) (N:Addr→Prop),qs.length=ds.length→(∀q∈qs,H2 q=some (.lst []))→Paired (λq (es:List D)=>∃xs,H2 q=some (.lst xs)∧ao K N H2 xs es) qs (ds.map λ_=>([]:List D)):=by
    intro qs
    induction qs with
    |nil=>intro ds N h _;cases ds with
     |nil=>exact .nil
     |cons _ _=>cases h
    |cons a qs ih=>intro ds N h hh;cases ds with
     |nil=>cases h
     |cons d ds=>exact .cons ⟨[],hh a bC,.nil⟩ (ih ds N (by simpa using h) λq hq=>hh q (b6 _ hq))
   obtain⟨R',st⟩:=(R.keep s1).Rl (i:=i) (C:=C) (qs:=qs) (bt:=ds.map λ_=>[]) s2 (λj d hj=>Pj hn j d hj) hC (λa ha=>⟨(qD a ha).1,(qD a ha).2.1⟩) G6 G5 (pr qs ds _ zC λa ha=>(qD a ha).2.2);exact q _ H2 _ R' ((aR.same s1).trans st)
 ·cases e
end
section
variable {K:PySem.W.Frag}
noncomputable def mX:Ev→Option Fl:=λ_=>none
theorem Nj:JS K Z0 (λ_ _ _=>False) mX:=by
 intro H₀ I O H σ env Ds fl R h q;cases h
end
section
variable {K:PySem.W.Frag}{H H' H₀:Hp}{O:Addr→Prop}{σ:L2.St}{env:Ev}
end
end J
namespace J
open PySem PySem.Spec PyProof.Rows L2
section
variable {X:Cx}{pins:List (Addr×Obj)}{σ:L2.St}{H:Hp}{s:Shared}{a d it:Addr}
end
noncomputable def nT:HO→Bool
 |.tup _=>true
 |.ext _=>true
 |_=>false
section
variable {K:PySem.W.Frag}{N:Addr→Prop}{H H' H₀ H₁:Hp}{I:Nat→Option Addr}{O:Addr→Prop}{σ:L2.St}{env:Ev}
theorem Ent.at{ai:List (Key×V)}{ks:List (Key×D)}{i:Nat}{kv:Key×V}(h:Ent K N H ai ks)(e:ai[i]?=some kv):∃d,ks[i]?=some (kv.1,d)∧Rp K N H kv.2 d:=by
 induction ai generalizing ks i with
 |nil=>simp at e
 |cons p ai ih =>
  cases ks with
  |nil=>exact absurd h.len (by simp)
  |cons q ks =>
   obtain⟨e1,r,t⟩:=h.cons_inv;cases i with
   |zero=>simp only[List.getElem?_cons_zero,Option.some.injEq]at e;subst e;exact⟨q.2,by rw[List.getElem?_cons_zero,e1],r⟩
   |succ i=>obtain⟨d,h1,h2⟩:=ih t (by simpa using e);exact⟨d,by simpa using h1,h2⟩
end
end J
namespace J
open PySem
end J
namespace J
open PySem PySem.Spec PyProof.Rows L2
section
variable {X:Cx}{pins:List (Addr×Obj)}{σ:L2.St}{H:Hp}{s:Shared}{N N':Addr→Prop}{A:Around}{a b:Addr}{ai XX:List (Key×V)}{ks ls:List (Key×D)}
end
section
variable {X:Cx}{K:PySem.W.Frag}
end
section
variable {K:PySem.W.Frag}{H:Hp}
end
structure tO (K:PySem.W.Frag)(x:Str)(st:Stmt)(f:Addr)(fd:FuncData):Prop where
 ex:∃(oc:Value) (od:Option Addr) (dV kV doc pm:Value) (an:Option Addr) (aL ct:Value) (du:Array (Option Value)),
  fd=PySem.W.fnOf x x (dy st) (cu st) (aW st) dV kV doc pm an aL ct∧K.lookup f=some ⟨oc,od,.func fd,du⟩∧PySem.W.codeIn K aL x=true
 kp:PySem.W.keepIn K (.ref f)=true
theorem tO.ok{P:Program}{w:World}{K:PySem.W.Frag}{mg:Str→Option Value}{base:Heap}{x:Str}{st:Stmt}{f:Addr}{fd:FuncData}{N ps:List Str}{k:Nat}{sp:Sp}(F:tO K x st f fd)(S:mQ N ps (aW st))(len:∀vs H Q E,sp vs H Q E→vs.length=ps.length)
  (pE:∀(aL:Value) (A:Around) (outer:List Env) (s:Shared) (H:Hp) (vs:List V) (Q:VK) (E:XK),bS k (A.deeper (envOfC x (aW st) s.heap.objs.size f aL))→sp vs H Q E →
   ∃t,cR (dC (cI P w) P w K mg base N x (aW st) f aL A outer s H E).iT (cu st) t∧t { nx:=λ_ H'=>Q .non H',rt:=Q } (L2.start N vs) H):fQ P w K mg base (cI P w) (k+1) f fd ps sp:=by
 obtain⟨oc,od,dV,kV,doc,pm,an,aL,ct,du,rfl,lk,eC⟩:=F.ex;refine xj lk eC S len λA outer s H vs Q E hr gM=>?_;obtain⟨t,h,q⟩:=pE aL A outer s H vs Q E hr gM;exact⟨t,h.iT,q⟩
structure XY (K:PySem.W.Frag)(mg:Str→Option Value)(x:Str)(st:Stmt)(ps:List Str)(dv:Value)(f:Addr)(fd:FuncData):Prop where
 mg:mg x=some (.ref f)
 fn:tO K x st f fd
 bd:Binds K fd ps []
 jN:Binds K fd ps [dv]
end J
namespace J
open PySem PySem.Spec PyProof.Rows L2
open Builtin Builtin.Str
theorem A8:∀(l:List (Str×Tok)),Vals ((l.map (·.1)).map V.str) (strValues l)
 |[]=>.nil
 |p::l=>.cons ⟨p.2,rfl⟩ (A8 l)
theorem Bt{X:Cx}:kC X "str.split" (λx xs H Q=>∃z y:Str,x=.str z∧xs=[.str y]∧(y.length==0)=false∧z.length≤sizeLine∧(Txt.split z y).length≤sizeLine∧∀l,H l=none→Q (.ref l) (upd H l (.lst ((Txt.split z y).map V.str)))):=by
 intro pins s σ H x xs v us Q I rx r h;obtain⟨z,y,rfl,rfl,hy,hz,hl,q⟩:=h;obtain⟨u,rfl,ru⟩:=vals1 r;obtain⟨tk,rfl⟩:=(show ∃t,v=Value.str z t from rx);obtain⟨my,rfl⟩:=(show ∃t,u=Value.str y t from ru);have fin:∀(l:List (Str×Tok)) (k:Nat),l.map (·.1)=Txt.split z y→EP X pins σ Q (.ref s.heap.objs.size) { s with toks:=k,heap:=s.heap.push { cls:=.type "list",data:=.seq (strValues l).toArray } }:=λl k e =>
  ⟨.ref _,_,I.Fw (t':=k) (A8 l) (by rw[e,iq];exact hl),rfl,by rw[e];exact q _ I.fresh⟩
 cases h1:(decide (z.length<y.length)||decide (strKind z<strKind y))
 ·cases hf:(occurrences z y 0 z.length (z.length+1)).isEmpty
  ·have e:Txt.split z y=partsBetween z (occurrences z y 0 z.length (z.length+1)) y.length:=(if_neg (ne_true_of_eq_false h1)).trans (if_neg (ne_true_of_eq_false hf));refine call_meets F.slot_str_split (typeIs_str _ _ _) F.entry_str_split (F.args_str_split_2 _ _) (meets_str_split_sep z y tk my h1 hy hf hz (by rw[←e];exact hl)) ?_;show wants _ _ _ { s with toks:=_,heap:=s.heap.push { cls:=.type "list",data:=.seq (strsFrom s.toks (partsBetween z (occurrences z y 0 z.length (z.length+1)) y.length)).toArray } };rw[strsFrom_eq];exact fin (numbered s.toks _) _ ((numbered_texts _ _).trans e.symm)
  ·exact call_meets F.slot_str_split (typeIs_str _ _ _) F.entry_str_split (F.args_str_split_2 _ _) (meets_str_split_not_found z y tk my h1 hy hf)
    (fin [(z,tk)] _ ((if_neg (ne_true_of_eq_false h1)).trans (if_pos hf)).symm)
 ·exact call_meets F.slot_str_split (typeIs_str _ _ _) F.entry_str_split (F.args_str_split_2 _ _) (meets_str_split_cannot_occur z y tk my h1)
   (fin [(z,tk)] _ (if_pos h1).symm)
theorem Ae{X:Cx}:kC X "str.partition" (λx xs H Q=>∃z y:Str,x=.str z∧xs=[.str y]∧(y.length==0)=false∧z.length≤sizeLine∧∀l,H l=none→Q (.ref l) (upd H l (.tup [.str (Txt.partition z y).1,.str (Txt.partition z y).2.1,.str (Txt.partition z y).2.2]))):=by
 intro pins s σ H x xs v us Q I rx r h;obtain⟨z,y,rfl,rfl,hy,hz,q⟩:=h;obtain⟨u,rfl,ru⟩:=vals1 r;obtain⟨tk,rfl⟩:=(show ∃t,v=Value.str z t from rx);obtain⟨my,rfl⟩:=(show ∃t,u=Value.str y t from ru);have fin:∀(ta tb tc:Tok) (k:Nat),EP X pins σ Q (.ref s.heap.objs.size) { s with toks:=k,heap:=s.heap.push { cls:=.type "tuple",data:=.seq [.str (Txt.partition z y).1 ta,.str (Txt.partition z y).2.1 tb,.str (Txt.partition z y).2.2 tc].toArray } }:=λta tb tc k =>
  ⟨.ref _,_,I.laid (o:=.tup [.str (Txt.partition z y).1,.str (Txt.partition z y).2.1,.str (Txt.partition z y).2.2]) (t':=k) (λ_ _ q=>bQ _ q) (a7 _) ⟨(by show 3≤sizeLine;decide),_,.cons ⟨_,rfl⟩ (.cons ⟨_,rfl⟩ (.cons ⟨_,rfl⟩ .nil)),_,dX _ rfl,rfl,rfl,_,rfl⟩,rfl,q _ I.fresh⟩
 refine call_meets F.slot_str_partition (typeIs_str _ _ _) F.entry_str_partition (F.args_str_partition_2 _ _) (meets_str_partition z y tk my hy hz) ?_;have h':=fin;unfold Txt.partition at h';revert h';cases occurrences z y 0 z.length 1 with
 |nil=>intro h';exact h' _ _ _ _
 |cons i r=>intro h';exact h' _ _ _ _
theorem L1{X:Cx}:fM X (.type "str") (λxs H Q=>(∃i,xs=[.int i]∧i.natAbs.log2<1920∧Q (.str (toString i)) H)∨∃z:Str,xs=[.str z]∧Q (.str z) H):=by
 intro pins s σ H xs us Q I r h;rcases h with h|⟨z,rfl,q⟩
 ·exact Jp pins s σ H xs us Q I r h
 ·obtain⟨u,rfl,t,rfl⟩:=vals1 r;exact PySem.P.str_of_str ⟨.str z,H,I,⟨_,rfl⟩,q⟩
section
variable {K:PySem.W.Frag}{H:Hp}
theorem Am{N:Addr→Prop}:∀(ns:List Str),ao K N H (ns.map V.str) (ns.map D.str)
 |[]=>.nil
 |n::ns=>.cons (.str n) (Am ns)
noncomputable def dA:M×D→List (M×D)→Option (M×D)
 | (_,.str z),[(_,.str y)]=>if (y.length==0)=false∧z.length≤sizeLine∧(Txt.split z y).length≤sizeLine then some (.un,.lst ((Txt.split z y).map D.str))else none
 |_,_=>none
theorem L3:mw K "str" (λx xs H Q=>∃z y:Str,x=.str z∧xs=[.str y]∧(y.length==0)=false∧z.length≤sizeLine∧(Txt.split z y).length≤sizeLine∧∀l,H l=none→Q (.ref l) (upd H l (.lst ((Txt.split z y).map V.str)))) dA:=by
 intro H₀ O H x vs a aw Q m d od hd h1 h2 h q;unfold dA at h;split at h
 ·split at h
  ·rename_i ho;cases h;obtain⟨v,rfl,hv⟩:=h2.one;exact⟨_,_,h1.str,by rw[hv.str],ho.1,ho.2.1,ho.2.2,λl hn=>q _ _ (cx hn) ⟨l,rfl,hn,kZ hd hn,iI od hn,_,bD,Am _⟩⟩
  ·cases h
 ·cases h
noncomputable def mH:M×D→List (M×D)→Option (M×D)
 | (_,.str z),[(_,.str y)]=>if (y.length==0)=false∧z.length≤sizeLine then some (.fr,.tup [.str (Txt.partition z y).1,.str (Txt.partition z y).2.1,.str (Txt.partition z y).2.2])else none
 |_,_=>none
theorem Jn:mw K "str" (λx xs H Q=>∃z y:Str,x=.str z∧xs=[.str y]∧(y.length==0)=false∧z.length≤sizeLine∧∀l,H l=none→Q (.ref l) (upd H l (.tup [.str (Txt.partition z y).1,.str (Txt.partition z y).2.1,.str (Txt.partition z y).2.2]))) mH:=by
 intro H₀ O H x vs a aw Q m d od hd h1 h2 h q;unfold mH at h;split at h
 ·split at h
  ·rename_i ho;cases h;obtain⟨v,rfl,hv⟩:=h2.one;exact⟨_,_,h1.str,by rw[hv.str],ho.1,ho.2,λl hn=>q _ _ (cx hn) (Rp.tup (.inl bD) (.cons (.str _) (.cons (.str _) (.cons (.str _) .nil))))⟩
  ·cases h
 ·cases h
noncomputable def hV:List (M×D)→Option (M×D)
 |[(_,.int i)]=>if i.natAbs.log2<1920 then some (.fr,.str (toString i))else none
 |[(_,.str z)]=>some (.fr,.str z)
 |_=>none
theorem Pl:jL K (λxs H Q=>(∃i,xs=[.int i]∧i.natAbs.log2<1920∧Q (.str (toString i)) H)∨∃z:Str,xs=[.str z]∧Q (.str z) H) hV:=by
 intro H₀ O H vs aw Q m d _ _ hv h q;unfold hV at h;split at h
 ·split at h
  ·rename_i hl;cases h;obtain⟨v,rfl,hw⟩:=hv.one;exact .inl ⟨_,by rw[hw.int],hl,q _ H (ax.refl H) lz⟩
  ·cases h
 ·cases h;obtain⟨v,rfl,hw⟩:=hv.one;exact .inr ⟨_,by rw[hw.str],q _ H (ax.refl H) lz⟩
 ·cases h
end
end J
namespace J
open PySem PySem.Spec PyProof.Rows L2
section
variable {prog:Program}{w:World}{A:Around}{E:Value→Shared→Prop}{s:Shared}{d:Addr}
end
section
variable {prog:Program}{w:World}{A:Around}{E:Value→Shared→Prop}{s:Shared}
inductive sH {κ:Type}[DecidableEq κ](A:Around)(s:Shared)(kb:List (κ×Addr×Value)):List (κ×Addr×Value)→Bool→Prop
 |nil:sH A s kb [] true
 |miss {k:κ}{p:Addr×Value}{r:List (κ×Addr×Value)}:atKey kb k=none→sH A s kb ((k,p)::r) false
 |hit {k:κ}{p q:Addr×Value}{r:List (κ×Addr×Value)}{e b:Bool}:atKey kb k=some q→SeqAt.EqAt A s p.2 q.2 e→sH A s kb r b→sH A s kb ((k,p)::r) (e&&b)
end
def Raw(h:Heap)(d:Addr)(es:Array DictEntry)(ep:Nat):Prop:=∃o,h.get? d=some o∧o.ExactDict∧o.data=.dict es ep
theorem Raw.ty{s:Shared}{d:Addr}{es:Array DictEntry}{ep:Nat}(h:Raw s.heap d es ep):s.TypeIs (.ref d) "dict" := let ⟨o,a,b,_⟩:=h;⟨o,a,b.1⟩
section
variable {prog:Program}{w:World}{A:Around}{E:Value→Shared→Prop}{s:Shared}{d it:Addr}{es:Array DictEntry}{ep i n:Nat}
end
noncomputable def UL:HO→Bool
 |.dK _=>true
 |.dT _=>true
 |_=>false
noncomputable def UM:HO→List V
 |.dK ai=>ai.map (·.2)
 |.dT ai=>ai.map (·.2)
 |_=>[]
section
variable {X:Cx}{pins:List (Addr×Obj)}{σ:L2.St}{H:Hp}{s:Shared}{a it:Addr}
end
end J
namespace J
open PySem L2
section
variable {K:PySem.W.Frag}{N:Addr→Prop}{H H' H₀ H₁:Hp}{I:Nat→Option Addr}{O:Addr→Prop}{σ:L2.St}{env:Ev}
noncomputable def VX:D→Option (List D)
 |.dk ks=>some (ks.map (·.2))
 |.dt ks=>some (ks.map (·.2))
 |_=>none
noncomputable def DR(K:PySem.W.Frag)(N:Addr→Prop)(H:Hp):HO→D→Prop
 |.dK ai,.dk ks=>Ent K N H ai ks
 |.dT ai,.dt ks=>Ent K N H ai ks
 |_,_=>False
theorem DR.dc{u:HO}{d:D}(h:DR K N H u d):UL u=true:=by cases u<;>cases d<;>first|rfl|exact h.elim
theorem DR.vs{u:HO}{d:D}{ds:List D}(h:DR K N H u d)(e:VX d=some ds):ao K N H (UM u) ds:=by
 cases u<;>cases d<;>first|exact h.elim|skip
 ·cases e;exact h.2
 ·cases e;exact h.2
theorem DR.mono{N':Addr→Prop}{u:HO}{d:D}(h:DR K N H u d)(w:∀{vs:List V}{ds:List D},ao K N H vs ds→ao K N' H' vs ds):DR K N' H' u d:=by
 cases u<;>cases d<;>first|exact h.elim|exact⟨h.1,w h.2⟩
end
end J
namespace J
open PySem PySem.Spec PyProof.Rows L2
def keysOf:List D→Option (List Key)
 |[]=>some []
 |d::ds=>(keyOf d).bind λk=>(keysOf ds).map λks=>k::ks
def yi:D→Option (List Key)
 |.tup ds=>if ds.length<4 then keysOf ds else none
 |_=>none
noncomputable def yj:D→Option (List (List Key×D))
 |.dt ks=>some ks
 |_=>none
theorem CB{d:D}{ks:List (List Key×D)}(h:yj d=some ks):d=.dt ks:=by cases d<;>simp only[yj]at h<;>cases h;rfl
section
variable {K:PySem.W.Frag}{N:Addr→Prop}{H H' H₀:Hp}{I:Nat→Option Addr}{O:Addr→Prop}{σ:L2.St}{env:Ev}
theorem Az:∀{ds:List D}{ks:List Key}{vs:List V},keysOf ds=some ks→ao K N H vs ds→vs=ks.map kV
 |[],_,_,e,.nil=>by cases e;rfl
 |d::ds,_,_,e,.cons h r=>by
  obtain⟨k,e1,e⟩:=aq e;cases e2:keysOf ds with
  |none=>rw[e2]at e;cases e
  |some l=>rw[e2]at e;cases e;rw[Az e2 r,vE e1 h];rfl
set_option tactic.hygienic true in
theorem Bu{d:D}{ks:List Key}{v:V}(e:yi d=some ks)(h:Rp K N H v d):∃b,v=.ref b∧H b=some (.tup (ks.map kV)):=by
 cases d<;>try (cases e;done)
 rename_i ds;simp only[yi]at e;split at e
 ·rename_i hl;cases h with
  |tup q r =>
   have:=r.len;have z:=q.own (by omega);rw[Az e r]at z;exact⟨_,rfl,z⟩
 ·cases e
theorem Val.dt{m:M}{ks:List (List Key×D)}{v:V}{Hb:Hp}(h:Val K H₀ O Hb H m (.dt ks) v):∃a ai,v=.ref a∧Rd H a (.dT ai)∧Ent K (NM H₀ O (aN m)) H ai ks:=by
 cases m<;>simp only[Val,Cell]at h
 ·cases h with|dt r n e q=>exact⟨_,_,rfl,r,e,q⟩
 ·cases h with|dt r n e q=>exact⟨_,_,rfl,r,e,q⟩
 ·obtain⟨p,rfl,_,_,_,xs,q,e,r⟩:=h;exact⟨_,_,rfl,.inl q,e,r.wk λa h _=>h.1⟩
 ·obtain⟨p,rfl,_,_,xs,q,e,r⟩:=h;exact⟨_,_,rfl,.inl q,e,r⟩
 ·obtain⟨p,rfl,_,xs,q,e,r⟩:=h;exact⟨_,_,rfl,.inl q,e,r⟩
 ·cases h with|dt r n e q=>exact⟨_,_,rfl,r,e,q⟩
 ·obtain⟨p,qs,bt,rfl,e2,_⟩:=h;cases e2
 ·obtain⟨_,_,_,_,e2,_⟩:=h;cases e2
end
section
variable {K:PySem.W.Frag}{N:Addr→Prop}{H H' H₀:Hp}{I:Nat→Option Addr}{O:Addr→Prop}{σ:L2.St}{env:Ev}
end
section
variable {K:PySem.W.Frag}{N:Addr→Prop}{H H' H₀:Hp}{I:Nat→Option Addr}{O:Addr→Prop}{σ:L2.St}{env:Ev}
theorem qZ:∀{n:Nat}{acc:List Value}{c:Int},acc.length=n→(∀(j:Nat) v,acc[j]?=some v→∃t,v=.int (c+(j:Int)) t)→Vals ((List.range n).map λ(k:Nat)=>V.int (c+(k:Int))) acc
 |_,[],_,e,_=>by subst e;exact .nil
 |_,v::acc,c,e,h=>by
  subst e;rw[b7,List.range_succ_eq_map,gJ,fF];refine .cons (h 0 v rfl) ?_;have:=qZ (c:=c+1) (acc:=acc) rfl λj w hw=>by
   obtain⟨t,e⟩:=h (j+1) w (by simpa using hw);exact⟨t,by rw[e];congr 1;omega⟩
  have e2:((λ(k:Nat)=>V.int (c+(k:Int)))∘Nat.succ)=λ(k:Nat)=>V.int (c+1+(k:Int)):=funext λk=>by
   show V.int (c+((k+1:Nat):Int))=_;congr 1;omega
  rw[e2];exact this
end
end J
namespace J
open PySem L2
def FQ(K:PySem.W.Frag)(n:Nat)(F:List D→Option D):Sp:=λvs H Q _=>vs.length=n∧∃ds d,wI K H [0] vs ds∧F ds=some d ∧
 ∀p H',(kO [0] vs p∨H p=none)→(∀a o,¬kO [0] vs a→H a=some o→H' a=some o)→(∀a o,H a=some o→∃o',H' a=some o')→Cell K (λ_=>False) H' p d→Q (.ref p) H'
def EC:Fl→Option D
 |.rt _ m d=>if own m=true∧og d=true then some d else none
 |_=>none
def yk(L:Nat)(g:Ev→Option Fl):List D→Option D:=λds=>(g (jW [0] ds++List.replicate (L-ds.length) none)).bind EC
section
variable {K:PySem.W.Frag}{H H' H₀:Hp}{I:Nat→Option Addr}{O O':Addr→Prop}{σ:L2.St}{env:Ev}
theorem L4{ts:TS}{g:Ev→Option Fl}{n:Nat}{N:List Str}{vs:List V}{Q:VK}{E:XK}(h:JS K Z0 ts g)(hs:FQ K n (yk N.length g) vs H Q E):ts { nx:=λ_ H'=>Q .non H',rt:=Q } (L2.start N vs) H:=by
 obtain⟨hl,ds,d,A,e,q⟩:=hs;obtain⟨fl,ef,eo⟩:=aq e;obtain⟨I0,i7,R⟩:=Al (N:=N) A;refine h H I0 (kO [0] vs) H _ _ _ fl R ef ?_;cases fl with
 |nx e'=>cases eo
 |bk e'=>cases eo
 |ct e'=>cases eo
 |rz d'=>cases eo
 |rt e' m' d' =>
  intro O' H' σ' v R' st hv;unfold EC at eo;simp only at eo;split at eo
  ·rename_i hm;cases eo;have hc:∃p,v=.ref p∧O' p∧Cell K (λ_=>False) H' p d:=by
    cases m'<;>try (cases hm.1;done)
    ·obtain⟨p,rfl,o,_,c⟩:=hv;exact⟨p,rfl,o,c.im hm.2⟩
    ·obtain⟨p,rfl,o,c⟩:=hv;exact⟨p,rfl,o,c.im hm.2⟩
   obtain⟨p,rfl,o,c⟩:=hc;refine q p H' ?_ (λa o n e=>R'.fr a o (λi z=>n ⟨i,(i7 z).1,(i7 z).2⟩) e) R'.e.hd c;rcases R'.ow p o with⟨i,z⟩|z
   ·exact .inl ⟨i,(i7 z).1,(i7 z).2⟩
   ·exact .inr z
  ·cases eo
end
section
variable {K:PySem.W.Frag}{H H' H₀:Hp}{O:Addr→Prop}{σ:L2.St}{env:Ev}
end
def yl(neg:Bool)(fk fd:Ev→Option (M×D)):Ev→Option (M×D):=λe=>(fk e).bind λy=>(fd e).bind λx=>(yj x.2).bind λks=>(yi y.2).bind λk=>some (.fr,.bl (if neg then !(aX ks k).isSome else (aX ks k).isSome))
section
variable {K:PySem.W.Frag}{H H' H₀:Hp}{O:Addr→Prop}{σ:L2.St}{env:Ev}
theorem Rm{td ty:TE}{fd fk:Ev→Option (M×D)}(hk:JT K ty fk)(hd:JT K td fd):JT K (xY ty td) (yl false fk fd):=by
 intro H₀ O H σ env Q m d R h q;obtain⟨y,ey,h⟩:=aq h;obtain⟨x,ex,h⟩:=aq h;obtain⟨ks,mz,h⟩:=aq h;obtain⟨k,ek,h⟩:=aq h;cases h;refine hk H₀ O H σ env _ y.1 y.2 R ey λw H1 s1 h1=>?_;refine hd H₀ O H1 σ env _ x.1 x.2 (R.keep s1) ex λv H2 s2 h2=>?_;rw[CB mz]at h2;obtain⟨a,ai,rfl,rd,en⟩:=h2.dt;obtain⟨b,rfl,hb⟩:=Bu ek (h1.keep s2).weak;refine⟨a,dn ai k,rfl,.inr ⟨ai,k,b,rd,rfl,hb,rfl⟩,?_⟩;rw[en.isSome];exact q _ H2 (s1.trans s2) dB
theorem L5{td ty:TE}{fd fk:Ev→Option (M×D)}(hk:JT K ty fk)(hd:JT K td fd):JT K (vV ty td) (yl true fk fd):=by
 intro H₀ O H σ env Q m d R h q;obtain⟨y,ey,h⟩:=aq h;obtain⟨x,ex,h⟩:=aq h;obtain⟨ks,mz,h⟩:=aq h;obtain⟨k,ek,h⟩:=aq h;cases h;refine hk H₀ O H σ env _ y.1 y.2 R ey λw H1 s1 h1=>?_;refine hd H₀ O H1 σ env _ x.1 x.2 (R.keep s1) ex λv H2 s2 h2=>?_;rw[CB mz]at h2;obtain⟨a,ai,rfl,rd,en⟩:=h2.dt;obtain⟨b,rfl,hb⟩:=Bu ek (h1.keep s2).weak;refine⟨a,dn ai k,rfl,.inr ⟨ai,k,b,rd,rfl,hb,rfl⟩,?_⟩;rw[en.isSome];exact q _ H2 (s1.trans s2) dB
end
section
variable {K:PySem.W.Frag}{H H' H₀:Hp}{I:Nat→Option Addr}{O:Addr→Prop}{σ:L2.St}{env:Ev}
theorem UT.keep{F:Addr→Prop}{d:D}{v:V}(s:ax H H')(h:UT K F H d v):UT K F H' d v:=by
 rcases h with⟨z1,z2⟩|⟨q,z1,z2,c⟩
 ·exact .inl ⟨z1,z2.keep (.same s)⟩
 ·obtain⟨o,e,_⟩:=c.some;exact .inr ⟨q,z1,z2,c.keep (.same s) ((s _ _ e).trans e.symm)⟩
def Cs(Hb H:Hp)(xs:List V)(ds:List D)(n:Nat):Prop:=∀(k:Nat) (d:D),ds[k]?=some d→(∀l,d=.lst l→∃q ys,xs[k]?=some (.ref q)∧Hb q=none∧H q=some (.lst ys)∧ys.length≤l.length+n)∧∀ks,d=.dk ks→∃q ai,xs[k]?=some (.ref q)∧Hb q=none∧H q=some (.dK ai)∧ai.length≤ks.length+n
theorem Cs.keep{Hb:Hp}{xs:List V}{ds:List D}{n:Nat}(s:ax H H')(h:Cs Hb H xs ds n):Cs Hb H' xs ds n:=λk d e=>⟨λl el=>let ⟨q,ys,a,b,c,z⟩:=(h k d e).1 l el;⟨q,ys,a,b,s _ _ c,z⟩,λks el=>let ⟨q,ys,a,b,c,z⟩:=(h k d e).2 ks el;⟨q,ys,a,b,s _ _ c,z⟩⟩
theorem Cs.of{Hb:Hp}{F:Addr→Prop}{xs:List V}{ds:List D}(w:∀q,F q→Hb q=none)(h:Paired (UT K F H) ds xs):Cs Hb H xs ds 0:=λk d e=>by
 obtain⟨v,hv,z⟩:=x6 h e;refine⟨λl el=>?_,λks el=>?_⟩
 ·subst el;rcases z with⟨z,_⟩|⟨q,rfl,f,c⟩
  ·cases z
  ·obtain⟨ys,c,r⟩:=c;exact⟨q,ys,hv,w q f,c,nM r.len⟩
 ·subst el;rcases z with⟨z,_⟩|⟨q,rfl,f,c⟩
  ·cases z
  ·obtain⟨ys,c,e,r⟩:=c;have:=bX List.length e;rw[iq,iq]at this;exact⟨q,ys,hv,w q f,c,nM this⟩
def VY(K:PySem.W.Frag)(i:Nat)(ts:TS)(c:Ev→Nat→List D→Bool):Prop :=
 ∀H₀ I O Hb H σ env Ds a xs ds n,Rel K H₀ I O Hb σ env→σ[i]?=some (some (.ref a))→ax Hb H→aZ K H a xs→xs.length=ds.length→Cs Hb H xs ds n→c env n ds=true→(∀H',ax Hb H'→aZ K H' a xs→Cs Hb H' xs ds (n+1)→Ds.nx σ H')→ts Ds σ H
inductive ym (K:PySem.W.Frag)(i:Nat):List TS→List (Ev→Nat→List D→Bool)→Prop
 |nil:ym K i [] []
 |cons {t:TS}{c:Ev→Nat→List D→Bool}{ts:List TS}{cs:List (Ev→Nat→List D→Bool)}:VY K i t c→ym K i ts cs→ym K i (t::ts) (c::cs)
end
end J
namespace J
open PySem PySem.Spec PyProof.Rows L2
section
variable {X:Cx}{pins:List (Addr×Obj)}{σ:L2.St}{H:Hp}{s:Shared}{a it:Addr}
end
section
variable {K:PySem.W.Frag}{N:Addr→Prop}{H H' H₀:Hp}{I:Nat→Option Addr}{O:Addr→Prop}{σ:L2.St}{env:Ev}
end
section
variable {K:PySem.W.Frag}{N:Addr→Prop}{H H' H₀:Hp}{I:Nat→Option Addr}{O:Addr→Prop}{σ:L2.St}{env:Ev}
section
variable {prog:Program}{w:World}{A:Around}{d r:Addr}{es:Array DictEntry}{ep:Nat}
end
noncomputable abbrev Fj:=Ev→Option (M×D)
inductive uN (K:PySem.W.Frag):List (TE×TE)→List (Fj×Fj)→Prop
 |nil:uN K [] []
 |cons {tk tv:TE}{fk fv:Fj}{ts:List (TE×TE)}{fs:List (Fj×Fj)}:JT K tk fk→JT K tv fv→uN K ts fs→uN K ((tk,tv)::ts) ((fk,fv)::fs)
noncomputable def qE:Option Int→Tok→Value
 |some n,t=>.int n t
 |none,_=>.none
end
noncomputable def G7{α:Type}(c:Nat→Nat→Bool):PySem.W.KasT α→α
 |.ret a=>a
 |.ask i j k=>G7 c (k (c i j))
noncomputable def Bd{α:Type}(n:Nat)(R:α→Prop):PySem.W.KasT α→Prop
 |.ret a=>R a
 |.ask i j k=>i<n∧j<n∧∀b,Bd n R (k b)
def Lq(n:Nat)(p:Array Nat):Prop:=0<n∧p.size=n∧∀x∈p,x<n
theorem Lq.at{n:Nat}{p:Array Nat}(h:Lq n p)(i:Nat):p.getD i 0<n:=by
 by_cases hi:i<p.size
 ·rw[show p.getD i 0=p[i] by simp[hi]];exact h.2.2 _ (Array.getElem_mem hi)
 ·rw[show p.getD i 0=0 by simp[hi]];exact h.1
noncomputable def VZ(x y:Int×Int):Bool:=if x.1=y.1 then decide (x.2<y.2)else decide (x.1<y.1)
def Rn(ps:List (Int×Int)):List Nat:=if ps.length<2 then List.range ps.length else (G7 (λi j=>VZ (ps.getD i (0,0)) (ps.getD j (0,0))) (PySem.W.kas_sort ps.length)).toList
section
variable {prog:Program}{w:World}{A:Around}{E:Value→Shared→Prop}{s:Shared}
theorem range_getD:∀(vs:List Value),(List.range vs.length).map (vs.getD · Value.none)=vs:=λvs=>by
 refine List.ext_getElem (by simp) λi h1 h2=>?_;simp[h2]
end
section
variable {K:PySem.W.Frag}{N:Addr→Prop}{H H' H₀:Hp}{I:Nat→Option Addr}{O:Addr→Prop}{σ:L2.St}{env:Ev}
noncomputable def kP(p:Int×Int):List Key:=[.inl p.1,.inl p.2]
noncomputable def V0(p:Int×Int):D:=.tup [.int p.1,.int p.2]
noncomputable def two:List Int→Option (Int×Int)
 |[a,b]=>some (a,b)
 |_=>none
noncomputable def kI:Key→Option Int
 |.inl i=>some i
 |_=>none
def zD(ps:List (Int×Int)):Option (M×D):=if ps.length<64 then some (.un,.lst ((Rn ps).map λi=>V0 (ps.getD i (0,0))))else none
end
section
variable {K:PySem.W.Frag}{H H' H₀:Hp}{I:Nat→Option Addr}{O:Addr→Prop}{σ:L2.St}{env:Ev}
def CD:V→List V→Hp→VK→Prop:=λx vs H Q=>∃l xs i y,x=.ref l∧vs=[.int i,y]∧H l=some (.lst xs)∧0≤i∧i≤xs.length∧xs.length<sizeLine∧Q .non (upd H l (.lst (xs.take i.toNat++y::xs.drop i.toNat)))
theorem L6{xs:List V}{us:List Value}(r:Vals xs us):∀k,Vals (xs.take k) (us.take k):=by
 induction r with
 |nil=>intro k;rw[List.take_nil,List.take_nil];exact .nil
 |cons a t ih=>intro k;cases k with
  |zero=>exact .nil
  |succ k=>exact .cons a (ih k)
theorem L7{xs:List V}{us:List Value}(r:Vals xs us):∀k,Vals (xs.drop k) (us.drop k):=by
 induction r with
 |nil=>intro k;rw[List.drop_nil,List.drop_nil];exact .nil
 |cons a t ih=>intro k;cases k with
  |zero=>exact .cons a t
  |succ k=>exact ih k
theorem L8{X:Cx}:Gj X "list.insert" CD:=by
 intro pins s σ H x vs v us Q I rx rv h;obtain⟨l,xs,i,y,rfl,rfl,hH,h0,h1,hz,q⟩:=h;cases rx;obtain⟨u,w,rfl,⟨tk,rfl⟩,ru⟩:=rv.two;obtain⟨z,its,n,r,hl,e⟩:=I.Fx hH;have hn:xs.length=its.length:=r.length;have hs:xs.length≤16777216:=Nat.le_of_lt hz;refine call_meets F.slot_list_insert ⟨_,e,rfl⟩ F.entry_list_insert (F.args_list_insert_3 _ _ _) (AutoSeq1.list_insert_list_int_val_1 l its.toArray n i tk w (by
  have:Builtin.List.listFitsIndex i=true:=by
   unfold Builtin.List.listFitsIndex;rw[jA];exact⟨bR (by omega),bR (by omega)⟩
  rw[this];decide) (by rw[dY];omega)) ⟨e,?_⟩
 refine⟨.non,_,I.Fv (its':=its.take i.toNat++w::its.drop i.toNat) hH e ?_ ((L6 r _).append (.cons ru (L7 r _))) ?_,rfl,q⟩
 ·show(its.toArray.extract 0 (if i<0 then (i+(its.toArray.size:Int)).toNat else min i.toNat its.toArray.size)).push w++its.toArray.extract (if i<0 then (i+(its.toArray.size:Int)).toNat else min i.toNat its.toArray.size)=_;rw[if_neg (by omega),dY,Nat.min_eq_left (by omega)];apply Array.toList_inj.mp;simp;exact List.take_of_length_le (by simp)
 ·rw[bN,b7,kg,List.length_drop];omega
end
section
variable {K:PySem.W.Frag}{H H' H₀:Hp}{I:Nat→Option Addr}{O:Addr→Prop}{σ:L2.St}{env:Ev}
end
section
variable {X:Cx}{tg:Expr}
end
section
variable {K:PySem.W.Frag}{H H' H₀:Hp}{O:Addr→Prop}{σ:L2.St}{env:Ev}
end
section
variable {K:PySem.W.Frag}{H H' H₀:Hp}{I:Nat→Option Addr}{O:Addr→Prop}{σ:L2.St}{env:Ev}
end
end J
namespace L2
open PySem PySem.Spec PyProof.Rows
section
variable {X:Cx}
end
end L2
namespace J
open PySem PySem.Spec PyProof.Rows L2
section
variable {K:PySem.W.Frag}{H H' H₀:Hp}{I:Nat→Option Addr}{O:Addr→Prop}{σ:L2.St}{env:Ev}
end
section
variable {K:PySem.W.Frag}{H H' H₀:Hp}{I:Nat→Option Addr}{O:Addr→Prop}{σ:L2.St}{env:Ev}
end
section
variable {K:PySem.W.Frag}{N:Addr→Prop}{H H' H₀:Hp}{I:Nat→Option Addr}{O:Addr→Prop}{σ:L2.St}{env:Ev}
noncomputable def V1(lo st:Option Int)(n:Nat):List Nat:=sliceRange (sliceBounds lo none st n).1 (sliceBounds lo none st n).2.1 (sliceBounds lo none st n).2.2
def pk{α:Type}(lo st:Option Int)(xs:List α):List α:=(V1 lo st xs.length).filterMap λi=>xs[i]?
end
section
variable {X:Cx}{tg:Expr}
end
section
variable {K:PySem.W.Frag}{H H' H₀:Hp}{O:Addr→Prop}{σ:L2.St}{env:Ev}
end
section
variable {K:PySem.W.Frag}{H H' H₀:Hp}{I:Nat→Option Addr}{O:Addr→Prop}{σ:L2.St}{env:Ev}
end
section
variable {prog:Program}{w:World}{A:Around}{E:Value→Shared→Prop}{s:Shared}{d it:Addr}{es:Array DictEntry}{ep i n:Nat}
end
section
variable {X:Cx}{pins:List (Addr×Obj)}{σ:L2.St}{H:Hp}{s:Shared}{a it:Addr}
end
section
variable {K:PySem.W.Frag}{N:Addr→Prop}{H H' H₀:Hp}{I:Nat→Option Addr}{O:Addr→Prop}{σ:L2.St}{env:Ev}
end
end J
namespace L2
open PySem PySem.Spec PyProof.Rows
section
variable {X:Cx}
end
end L2
namespace J
open PySem PySem.Spec PyProof.Rows L2
section
variable {K:PySem.W.Frag}{H H' H₀:Hp}{I:Nat→Option Addr}{O:Addr→Prop}{σ:L2.St}{env:Ev}
end
end J
namespace J
open PySem L2
section
variable {K:PySem.W.Frag}{H H' H₀:Hp}{I:Nat→Option Addr}{O O':Addr→Prop}{σ:St}{env:Ev}
open Classical in
noncomputable def oi(N:Addr→Prop)(H:Hp):Hp:=λa=>if N a then none else H a
theorem Bv{N:Addr→Prop}{a:Addr}{o:HO}(h:oi N H a=some o):H a=some o:=by
 unfold oi at h;split at h
 ·cases h
 ·exact h
def G8(K:PySem.W.Frag)(n:Nat)(F:List D→Option (M×D)):Sp:=λvs H Q _=>vs.length=n∧∃(N:Addr→Prop) (ds:List D) (m:M) (d:D),ao K N H vs ds∧F ds=some (m,d)∧∀v H',ax H H'→m7 K (oi N H) H' m d v→Q v H'
def zE(L:Nat)(g:Ev→Option Fl):List D→Option (M×D):=λds=>(g (ds.map (λd=>some (.fr,d))++List.replicate (L-ds.length) none)).bind out
theorem Ro{N:Addr→Prop}{vs:List V}{ds:List D}(r:ao K N H vs ds)(k:Nat):Paired (λ(e:Option (M×D)) (x:Option V)=>∀m d,e=some (m,d)→f6 m=true∧∃v,x=some v∧Val K (oi N H) (λ_=>False) HE H m d v) (ds.map (λd=>some (.fr,d))++List.replicate k none) (vs.map some++List.replicate k none):=by
 induction vs generalizing ds with
 |nil =>
  cases r;show Paired _ (List.replicate k none) (List.replicate k none)
  induction k with
  |zero=>exact .nil
  |succ k ih=>exact .cons (λm d e=>nomatch e) ih
 |cons v vs ih=>cases r with|cons h r=>exact .cons (λm d e=>by cases e;exact⟨rfl,v,rfl,h.wk λa z _=>⟨λq=>q,if_pos z⟩⟩) (ih r)
theorem Nk{ts:TS}{g:Ev→Option Fl}{n:Nat}{N:List Str}{vs:List V}{Q:VK}{E:XK}(h:JS K Z0 ts g)(hs:G8 K n (zE N.length g) vs H Q E):ts { nx:=λ_ H'=>Q .non H',rt:=Q } (L2.start N vs) H:=by
 obtain⟨hl,B,ds,m,d,r,e,q⟩:=hs;obtain⟨fl,ef,eo⟩:=aq e;have k:∀{i:Nat}{x:M×D},(ds.map (λd=>some (M.fr,d))++List.replicate (N.length-ds.length) none)[i]?=some (some x)→x.1=.fr:=λ{i x} h=>by
  have hm:=fE h;rcases ic.mp hm with z|z
  ·obtain⟨d,_,e⟩:=cX.mp z;cases e;rfl
  ·have:=qi z;cases this
 have R:Rel K (oi B H) (λ_=>none) (λ_=>False) H (L2.start N vs) (ds.map (λd=>some (.fr,d))++List.replicate (N.length-ds.length) none) :=
  ⟨⟨by unfold L2.start;rw[r.len];exact Ro r _,λ_ z=>z.elim,λa o e=>⟨o,Bv e⟩,λ_ _ z=>z.elim⟩,λa o _ e=>Bv e,λ_ z=>z.elim,λi d p h1=>(nomatch k h1),(λi j x y p h1 h2 o1 o2=>by
   rw[k h1]at o1;cases o1),⟨λi j d d' h1=>(nomatch k h1),λi j d x p q xs h1=>(nomatch k h1)⟩⟩
 refine h (oi B H) (λ_=>none) (λ_=>False) H _ _ _ fl R ef ?_;have sm:∀{O':Addr→Prop}{H':Hp},aR (λ_=>False) H O' H'→ax H H':=λst a o e=>(st a o e λz=>z).1;cases fl with
 |nx e'=>cases eo;exactλO' H' σ' R' st=>q .non H' (sm st) Rp.non
 |bk e'=>cases eo
 |ct e'=>cases eo
 |rz d'=>cases eo
 |rt e' m' d' =>
  intro O' H' σ' v R' st hv;cases m'
  ·change (if _ then _ else _)=_ at eo;split at eo
   ·rename_i hi;cases eo;exact q v H' (sm st) (show Rp K _ H' v d from hv.weak.im hi)
   ·cases eo
  ·cases eo;exact q v H' (sm st) (show Rp K _ H' v d from Rp.wk (λa h _=>h.2) hv)
  ·cases eo;obtain⟨p,rfl,_,h0,_,c⟩:=hv;exact q _ H' (sm st) ⟨p,rfl,h0,c.wk λa h _=>⟨h.1.2,h.2⟩⟩
  ·cases eo;obtain⟨p,rfl,hO,h0,c⟩:=hv;exact q _ H' (sm st) ⟨p,rfl,h0,c.wk λa h _=>⟨h.2,λz=>h.1 (z▸hO)⟩⟩
  ·cases eo
  ·cases eo;exact q v H' (sm st) (show Rp K _ H' v d from hv)
  ·cases eo;exact q v H' (sm st) (show Rp K _ H' v d from fS.rp (λ_ z=>z) hv)
  ·cases eo;exact q v H' (sm st) (show cf K _ H' d v from cf.wk (λq z=>z.2.1) hv)
end
end J
namespace L2
open PySem PySem.Spec PyProof.Rows
section
variable {X:Cx}
end
end L2
namespace J
open PySem PySem.Spec PyProof.Rows L2
section
variable {K:PySem.W.Frag}{H H' H₀:Hp}{I:Nat→Option Addr}{O:Addr→Prop}{σ:L2.St}{env:Ev}
end
end J
namespace L2
open PySem PySem.Spec PyProof.Rows
section
variable {X:Cx}
end
end L2
namespace J
open PySem PySem.Spec L2
section
variable {K:PySem.W.Frag}
end
end J
namespace J
open PySem PySem.Spec PyProof.Rows L2
section
variable {X:Cx}{pins:List (Addr×Obj)}{σ:L2.St}{H:Hp}{s:Shared}{a it:Addr}
end
section
variable {K:PySem.W.Frag}{N:Addr→Prop}{H H' H₀:Hp}{I:Nat→Option Addr}{O:Addr→Prop}{σ:L2.St}{env:Ev}
end
def KU(K:PySem.W.Frag)(a:Addr)(xs:List V):Prop:=∃(its:Array Value) (n:Nat) (sl:Array (Option Value)),K.lookup a=some ⟨.type "tuple",none,.seq its n,sl⟩∧Vals xs its.toList
def FU(K:PySem.W.Frag):R2:=λx y H Q=>∃p xs,y=.ref p∧KU K p xs∧gA x=true∧xs.all gA=true∧Q (.bl (dJ x xs)) H
theorem Rq{K:PySem.W.Frag}{X:Cx}(h:X.K=K):bq X (compareOp .In) (FU K):=by
 subst h;intro pins s σ H x y v u Q I rx ry h;obtain⟨p,xs,rfl,⟨its,n,sl,hk,r⟩,fx,fs,q⟩:=h;cases ry;refine SeqAt.in_tupleAt (gO x) ⟨_,I.bz p _ hk,rfl,n,rfl⟩ (λw hw=>rj rx fx r fs w (by simpa using hw)) ⟨.bl _,H,I,rfl,?_⟩;rw[show its.any (gO x)=its.toList.any (gO x) by simp,rB r fs];exact q
theorem Rr{K:PySem.W.Frag}{a:Addr}{l:List Str}{ta:TE}{fa:Ev→Option (M×D)}(hu:KU K a (l.map V.str))(ha:JT K ta fa):JT K (nX (FU K) ta (tC (.ref a))) (ag (hU false) fa (jC (.tup (l.map .str)))):=by
 intro H₀ O H σ env Q m d R h q;obtain⟨x,ex,h⟩:=aq h;obtain⟨y,ey,h⟩:=aq h;cases ey;obtain⟨x',e1,h⟩:=aq h;obtain⟨vs,e2,h⟩:=aq (show((kc (l.map D.str)).bind λvs=>some (M.fr,D.bl (dJ x' vs)))=some (m,d)from h);cases h;refine ha H₀ O H σ env _ x.1 x.2 R ex λv H1 s1 h1=>?_;obtain⟨rfl,f⟩:=vY (K:=K) (H:=H1) (N:=λ_=>True) (vw l) e2;obtain rfl:=lA h1.weak e1;exact⟨a,_,rfl,hu,Bm e1,f,q _ H1 s1 dB⟩
end J
namespace J
open PySem L2
inductive Rs where|ok (m:M) (d:D)|ex (d:D)
def uO(K:PySem.W.Frag)(n:Nat)(F:List D→Option Rs):Sp:=λvs H Q E=>vs.length=n∧∃ds r,ao K (λ_=>True) H vs ds∧F ds=some r∧match r with
 |.ok m d=>∀v H',ax H H'→m7 K H H' m d v→Q v H'
 |.ex d=>∀e o H',ax H H'→Rp K (λa=>H a=none) H' (.ref e) d→E (.ref e) o H'
def tP:Fl→Option Rs
 |.rz d=>some (.ex d)
 |fl=>(out fl).bind λx=>some (.ok x.1 x.2)
def fnX(L:Nat)(g:Ev→Option Fl):List D→Option Rs:=λds=>(g (ds.map (λd=>some (.al,d))++List.replicate (L-ds.length) none)).bind tP
section
variable {K:PySem.W.Frag}{H H' H₀:Hp}{I:Nat→Option Addr}{O O':Addr→Prop}{σ:L2.St}{env:Ev}
theorem body_okX{ts:TS}{g:Ev→Option Fl}{n:Nat}{N:List Str}{vs:List V}{Q:VK}{E:XK}(h:JS K E ts g)(hs:uO K n (fnX N.length g) vs H Q E):ts { nx:=λ_ H'=>Q .non H',rt:=Q } (L2.start N vs) H:=by
 obtain⟨hl,ds,r,rp,e,q⟩:=hs;obtain⟨fl,ef,eo⟩:=aq e;by_cases hz:∃d,fl=.rz d
 ·obtain⟨d,rfl⟩:=hz;cases eo;refine h H (λ_=>none) (λ_=>False) H _ _ _ (.rz d) (Cr rp) ef λH' e o fr hr=>q e o H' (λa x z=>fr a x (λ_ z=>nomatch z) z) hr
 ·have eo:∃x,out fl=some x∧r=.ok x.1 x.2:=by
   cases fl<;>first|exact absurd ⟨_,rfl⟩ hz | (simp only[tP]at eo;obtain⟨x,e1,e2⟩:=aq eo;cases e2;exact⟨x,e1,rfl⟩)
  obtain⟨x,ex,rfl⟩:=eo;refine vX (g:=g) (n:=n) (E:=E) h ⟨hl,ds,x.1,x.2,rp,?_,q⟩;unfold fn;rw[ef];exact ex
def mB(n:Str)(ns:List Str)(fs:Ev→Option (List (M×D))):Ev→Option Fl:=λe=>(fs e).bind λaw=>if aw.length=ns.length∧aw.all (λx=>mh x.1 x.2)=true then some (.rz (.exc n ns (aw.map (·.2))))else none
theorem Tv{Z:XK}{C:Addr}{n:Str}{ns:List Str}{ta:TA}{fs:Ev→Option (List (M×D))}(hn:PySem.W.nsIn K mainGlobals n=some (some (.ref C)))(ha:eY K ta fs):JS K Z (zr C ns Z ta) (mB n ns fs):=by
 intro H₀ I O H σ env Ds fl R e q;obtain⟨aw,em,e⟩:=aq e;split at e
 ·rename_i hs;cases e;refine ha H₀ O H σ env _ aw R.e em λvs H1 s1 h1=>?_;have R1:=R.keep s1;have hl:vs.length=ns.length:=by rw[←fD h1];exact hs.1
  refine⟨hl,λe dx e1 e2 ne=>q _ e (some dx) (λa x z y=>?_) ?_⟩
  ·have:=R1.fr a x z y;rw[aK (cJ this e1),aK (cJ this e2)];exact this
  ·have kp:ax H1 (upd (upd H1 dx (.ext (xd dx (ns.zip vs)))) e (.ext (xo e C dx))):=λa o z=>by rw[aK (cJ z e1),aK (cJ z e2)];exact z
   refine .exc (C:=C) (dx:=dx) (gs:=ns.zip vs) bD (by rw[aK ne,bD]) hn (by rw[List.map_fst_zip (by omega)]) ?_;rw[List.map_snd_zip (by omega)];exact(h1.eD λmd hm v hv=>hv.mh (bY.mp hs.2 md hm)).keep (.same kp)
 ·cases e
def oj(K:PySem.W.Frag)(tb:(L2.St→XK)→TS)(g:Ev→Option Fl):Prop :=
 ∀(Zs:L2.St→XK) H₀ I O H σ env Ds fl,Rel K H₀ I O H σ env→g env=some fl→(match fl with
  |.rz d=>∀H' e o,Rel K H₀ I O H' σ env→aR O H O H'→Rp K (λa=>¬O a∧H₀ a=none) H' (.ref e) d→Zs σ (.ref e) o H'
  |fl=>nD K (λ_ _ _=>False) H₀ I O H Ds fl)→tb Zs Ds σ H
theorem oj.js{Z:XK}{tb:(L2.St→XK)→TS}{g:Ev→Option Fl}(h:oj K tb g):JS K Z (tb λ_=>Z) g:=by
 intro H₀ I O H σ env Ds fl R e q;refine h _ H₀ I O H σ env Ds fl R e ?_;cases fl with
 |rz d=>exactλH' e o R' _ hr=>q H' e o (λa x z y=>R'.fr a x z y) (hr.wk λa z _=>z.2)
 |nx e'=>exact q
 |bk e'=>exact q
 |ct e'=>exact q
 |rt e' m d=>exact q
def JK(K:PySem.W.Frag)(tk:V→L2.St→Hp→(L2.St→Hp→Prop)→Prop)(gk:M×D→Ev→Option Ev):Prop :=
 ∀H₀ I O H H1 σ env x v cW Q,Rel K H₀ I O H σ env→ax H H1→Val K H₀ O H H1 (Prod.fst x) x.2 v→gk x env=some cW→(∀O' H2 σ',Rel K H₀ I O' H2 σ' cW→aR O H O' H2→Q σ' H2)→tk v σ H1 Q
noncomputable def om(F:List D→Option Rs)(fs:Ev→Option (List (M×D)))(gk:M×D→Ev→Option Ev):Ev→Option Fl:=λe=>(fs e).bind λaw=>(F (aw.map (·.2))).bind λr=>match r with
 |.ok m d=>(gk (m,d) e).bind λe'=>some (.nx e')
 |.ex d=>some (.rz d)
theorem xB{n:Nat}{F:List D→Option Rs}{ta:TA}{fs:Ev→Option (List (M×D))}{tk:V→L2.St→Hp→(L2.St→Hp→Prop)→Prop}{gk:M×D→Ev→Option Ev}(ha:eY K ta fs)(hl:∀e aw,fs e=some aw→aw.length=n)(hk:JK K tk gk) :
  oj K (λZ D σ H=>wD (uO K n F) ta Z σ H λv H1=>tk v σ H1 D.nx) (om F fs gk):=by
 intro Zs H₀ I O H σ env Ds fl R e q;obtain⟨aw,em,e⟩:=aq e;obtain⟨r,er,e⟩:=aq e;refine ha H₀ O H σ env _ aw R.e em λvs H1 s1 h1=>⟨by rw[←fD h1];exact hl _ _ em,aw.map (·.2),r,h1.eD (λmd hm v hv=>hv.weak),er,?_⟩;have R1:=R.keep s1;cases r with
 |ok m d =>
  obtain⟨e',ek,e⟩:=aq e;cases e;intro v H2 s2 h2;exact hk H₀ I O H1 H2 σ env (m,d) v e' _ R1 s2 (Ct R1.e.od R1.e.hd h2) ek λO' H3 σ' R3 st=>q O' H3 σ' R3 ((aR.same s1).trans st)
 |ex d =>
  cases e;intro e o H2 s2 h2;exact q H2 e o (R1.keep s2) (aR.same (s1.trans s2)) (h2.wk λa z _=>⟨iI R1.e.od z,kZ R1.e.hd z⟩)
theorem Pm:JK K (λ_ σ H Q=>Q σ H) (λ_ e=>some e):=by
 intro H₀ I O H H1 σ env x v cW Q R s hv e q;cases e;exact q O H1 σ (R.keep s) (aR.same s)
theorem Rt{i:Nat}:JK K (λv σ H Q=>Q (σ.set i (some v)) H) (λx e=>(iJ x).bind λy=>some (e.set i (some y))):=by
 intro H₀ I O H H1 σ env x v cW Q R s hv e q;obtain⟨y,ey,e⟩:=aq e;cases e;obtain⟨O',R',st⟩:=R.give (i:=i) s hv ey;exact q O' H1 _ R' st
theorem Pn{i:Nat}{a:Str}:JK K (λv σ H Q=>∀c,H c=none→Q (σ.set i (some (.ref c))) (upd H c (.tup [.str a,v]))) (λx e=>if bU x.1 x.2=true then some (e.set i (some (.fr,.tup [.str a,x.2])))else none):=by
 intro H₀ I O H H1 σ env x v cW Q R s hv e q c hc;change (if _ then _ else _)=_ at e;split at e
 ·rename_i hs;cases e;have R1:=R.keep s;have s2:=cx (o:=.tup [.str a,v]) hc;obtain⟨O',R',st⟩:=R.give (i:=i) (x:=(.fr,.tup [.str a,x.2])) (y:=(.fr,.tup [.str a,x.2])) (v:=.ref c) (s.trans s2) (show Rp K _ _ _ _ from Rp.tup (.inl bD) (.cons (.str a) (.cons ((hv.bU hs).keep (.same s2)) .nil))) rfl;exact q O' _ _ R' st
 ·cases e
end
section
variable {K:PySem.W.Frag}{H H' H₀:Hp}{I:Nat→Option Addr}{O O':Addr→Prop}{σ:L2.St}{env:Ev}
theorem Rel.unset{i:Nat}(R:Rel K H₀ I O H σ env):Rel K H₀ I O H (σ.set i none) (env.set i none):=by
 have g:∀{j:Nat}{x:M×D},(env.set i none)[j]?=some (some x)→j≠i∧env[j]?=some (some x):=λ{j x} h=>by
  rcases get_set h with⟨_,z⟩|z
  ·cases z
  ·exact z
 have s:∀{j:Nat}{v:V},(σ.set i none)[j]?=some (some v)→σ[j]?=some (some v):=λ{j v} h=>by
  rcases get_set h with⟨_,z⟩|z
  ·cases z
  ·exact z.2
 exact⟨⟨tI (λm d z=>nomatch z) i R.e.sl,R.e.od,R.e.hd,R.e.on⟩,R.fr,R.ow,λj d p h1 h2=>R.ba j d p (g h1).2 (s h2),λj k x y p h1 h2 o1 o2 p1 p2=>R.dj j k x y p (g h1).2 (g h2).2 o1 o2 (s p1) (s p2),
  λj k d d' h1 h2=>R.nd.1 j k d d' (g h1).2 (g h2).2,λj k d x p q xs h1 h2 h3 h4 h5 h6=>R.nd.2 j k d x p q xs (g h1).2 (s h2) (g h3).2 h4 (s h5) h6⟩
noncomputable def G9(gb:Str→Bool):D→Bool
 |.exc n _ _=>gb n
 |_=>false
def pY(i:Nat)(gb:Str→Bool)(fb fh:Ev→Option Fl):Ev→Option Fl:=λenv=>(fb env).bind λr=>match r with
 |.rz d=>if G9 gb d=true then (fh (env.set i (some (.fr,d)))).bind λq=>match q with
  |.nx e'=>some (.nx (e'.set i none))
  |_=>none else none
 |r=>some r
def zF(K:PySem.W.Frag)(C':Addr)(gb:Str→Bool):Prop:=∀n C,gb n=true→PySem.W.nsIn K mainGlobals n=some (some (.ref C))→PySem.W.mroIn K C (.ref C')=some true
set_option tactic.hygienic true in
theorem Ru{Z0:XK}{C':Addr}{i:Nat}{gb:Str→Bool}{tb:(L2.St→XK)→TS}{ts:TS}{fb fh:Ev→Option Fl}(hc:zF K C' gb)(hb:oj K tb fb)(hh:JS K E0 ts fh):JS K Z0 (x5 K C' i tb ts) (pY i gb fb fh):=by
 intro H₀ I O H σ env Ds fl R e q;obtain⟨r,er,e⟩:=aq e;refine hb _ H₀ I O H σ env Ds r R er ?_;cases r with
 |nx e'=>cases e;exact q
 |bk e'=>cases e;exact q
 |ct e'=>cases e;exact q
 |rt e' m d=>cases e;exact q
 |rz d =>
  change (if _ then _ else _)=_ at e;split at e
  ·rename_i hx;obtain⟨f2,ef,e⟩:=aq e;cases f2<;>try (cases e;done)
   rename_i e2;cases e;intro H' a o R' st hr;have V2:=hr;cases d<;>try (cases hx;done)
   cases hr with
   |exc h1 h2 hn iA r =>
    refine⟨rfl,a,_,_,rfl,h1,hc _ _ hx hn,?_⟩;refine hh H₀ I O H' _ _ _ (.nx e2) (R'.set_plain (m:=.fr) rfl rfl V2) ef λO2 H2 σ2 R2 cj=>?_;exact q O2 H2 _ R2.unset (st.trans cj)
  ·cases e
def ED(gb:Str→Bool)(fb fh:Ev→Option Fl):Ev→Option Fl:=λenv=>(fb env).bind λr=>match r with
 |.rz d=>if G9 gb d=true then (fh env).bind λq=>match q with
  |.nx e'=>some (.nx e')
  |_=>none else none
 |r=>some r
set_option tactic.hygienic true in
theorem Pq{Z0:XK}{C':Addr}{gb:Str→Bool}{tb:(L2.St→XK)→TS}{ts:TS}{fb fh:Ev→Option Fl}(hc:zF K C' gb)(hb:oj K tb fb)(hh:JS K E0 ts fh):JS K Z0 (xr K C' tb ts) (ED gb fb fh):=by
 intro H₀ I O H σ env Ds fl R e q;obtain⟨r,er,e⟩:=aq e;refine hb _ H₀ I O H σ env Ds r R er ?_;cases r with
 |nx e'=>cases e;exact q
 |bk e'=>cases e;exact q
 |ct e'=>cases e;exact q
 |rt e' m d=>cases e;exact q
 |rz d =>
  change (if _ then _ else _)=_ at e;split at e
  ·rename_i hx;obtain⟨f2,ef,e⟩:=aq e;cases f2<;>try (cases e;done)
   rename_i e2;cases e;intro H' a o R' st hr;cases d<;>try (cases hx;done)
   cases hr with
   |exc h1 h2 hn iA r =>
    exact⟨rfl,a,_,_,rfl,h1,hc _ _ hx hn,hh H₀ I O H' _ _ _ (.nx e2) R' ef λO2 H2 σ2 R2 cj=>q O2 H2 _ R2 (st.trans cj)⟩
  ·cases e
def Hc(K:PySem.W.Frag)(dO:Str→Bool)(f:Str):Prop:=∀n C,dO n=true→PySem.W.nsIn K mainGlobals n=some (some (.ref C))→i5 K C∧PySem.W.findIn K (.ref C) f=some none
noncomputable def uP(K:PySem.W.Frag)(ta:TE)(f:Str):TE:=λσ H Q=>ta σ H λx H1=>∃a C dx fs v,x=.ref a∧H1 a=some (.ext (xo a C dx))∧H1 dx=some (.ext (xd dx fs))∧i5 K C∧PySem.W.findIn K (.ref C) f=some none∧fs.lookup f=some v∧Q v H1
noncomputable def uQ(f:Str):List Str→List D→Option D
 |n::ns,d::ds=>if f=n then some d else uQ f ns ds
 |_,_=>none
def Hd(dO:Str→Bool)(f:Str):M×D→Option (M×D)
 | (.fr,.exc n ns ds)=>if dO n=true then (uQ f ns ds).bind λd=>some (.fr,d)else none
 |_=>none
def qF(dO:Str→Bool)(f:Str)(fa:Ev→Option (M×D)):Ev→Option (M×D):=λe=>(fa e).bind (Hd dO f)
theorem DI{N:Addr→Prop}{f:Str}{d:D}:∀{gs:List (Str×V)}{ds:List D},ao K N H (gs.map (·.2)) ds→uQ f (gs.map (·.1)) ds=some d→∃v,gs.lookup f=some v∧Rp K N H v d
  |[],_,_,e=>by cases e
  | (n,v)::gs,_,.cons h r,e=>by
    change (if _ then _ else _)=_ at e;split at e
    · rename_i z
      cases e;exact⟨v,by rw[eU,z];simp,h⟩
    · rename_i z
      obtain⟨w,h1,h2⟩:=DI r e;exact⟨w,by rw[eU,beq_eq_false_iff_ne.mpr z];exact h1,h2⟩
set_option tactic.hygienic true in
theorem EE{dO:Str→Bool}{f:Str}{ta:TE}{fa:Ev→Option (M×D)}(hk:Hc K dO f)(ha:JT K ta fa):JT K (uP K ta f) (qF dO f fa):=by
 intro H₀ O H σ env Q m d R e q;obtain⟨⟨m',d'⟩,ex,e⟩:=aq e;refine ha H₀ O H σ env _ m' d' R ex λv H1 s1 h1=>?_;unfold Hd at e;split at e
 ·rename_i n ns ds z;cases z;split at e
  ·rename_i hn;obtain⟨x,el,e⟩:=aq e;cases e;have h1:Rp K _ H1 v (.exc n ns ds):=h1;cases h1 with
   |@exc a C dx _ _ gs _ a1 a2 a3 a4 r =>
    subst a4;obtain⟨w,lw,qt⟩:=DI r el;obtain⟨k1,k2⟩:=hk n C hn a3;exact⟨a,C,dx,gs,w,rfl,a1,a2,k1,k2,lw,q w H1 s1 qt⟩
  ·cases e
 ·cases e
end
section
variable {X:Cx}{e:Expr}{f:Str}{pos:Pos}{ta:TE}
theorem EF(he:PE X e ta)(hb:attributeBase e f X.env (eval e X.env)=eval e X.env):PE X (.Attribute e f pos) (uP X.K ta f):=by
 intro pins s σ H Q I h;refine NV hb (az (he pins s σ H _ I h) λu s1 ⟨x,H1,I1,rx,a,C,dx,fs,v,ex,e1,e2,c,nf,l,q⟩=>?_);subst ex;obtain rfl:u=Value.ref a:=rx;obtain⟨⟨oe,vs,he,hc,hd,hv⟩,_⟩:=I1.ay a _ e1;obtain⟨⟨mA,n1,rl,_⟩,_⟩:=I1.ay dx _ e2;obtain⟨od,ho,hl⟩:=AW n1;obtain⟨u,hu,ru⟩:=dR.some_of (v:=v) (o:=mA f) (by rw[←l];exact rl f);refine S0 (od:=od) I1.bz ⟨he,hc,by unfold PySem.W.notCls;rw[hv],by rw[hd];exact ho⟩ c (PySem.W.findObj_own c.hd nf rfl (by rw[hl,hu])) (Li ru) ⟨v,H1,I1.tok _,ru,q⟩
end
inductive uR (K:PySem.W.Frag)(H:Hp):V→Value→Prop where
 |j {x:V}{t:String} (h:TyJ K H x t):uR K H x (.type t)
 |x {a C dx:Addr}{gs:List (Str×V)} (h1:H a=some (.ext (xo a C dx))) (h2:H dx=some (.ext (xd dx gs))) (c:i5 K C):uR K H (.ref a) (.ref C)
section
variable {K:PySem.W.Frag}{H H' H₀:Hp}{I:Nat→Option Addr}{O O':Addr→Prop}{σ:L2.St}{env:Ev}
theorem Bw{X:Cx}(hK:X.K=K){vc:V}{c:Value}(rc:∀u,RelV vc u→u=c):fM X (.builtin "isinstance") (λxs H Q=>∃x t b,xs=[x,vc]∧uR K H x t∧PySem.W.kitOne K t c=some b∧Q (.bl b) H):=by
 subst hK;intro pins s σ H xs us Q I r h;obtain⟨x,t,b,rfl,ty,e,q⟩:=h;obtain⟨u,u',rfl,rx,ry⟩:=vals2 r;cases rc u' ry;have fin:∀tk,EP X pins σ Q (.bool b) { s with toks:=tk }:=λtk=>⟨.bl b,H,I.tok tk,rfl,q⟩;cases ty with
 |j ty =>
  cases ty with
  |non=>cases (show u=Value.none from rx);exact dG PySem.W.kitx_none I.bz True.intro e (λz=>nomatch z) fin
  |bl y=>cases (show u=Value.bool y from rx);exact dG PySem.W.kitx_bool I.bz True.intro e (λz=>nomatch z) fin
  |int i=>obtain⟨t,q⟩:=(show ∃t,u=Value.int i t from rx);cases q;exact dG PySem.W.kitx_int I.bz True.intro e (λz=>nomatch z) fin
  |str y=>obtain⟨t,q⟩:=(show ∃t,u=Value.str y t from rx);cases q;exact dG PySem.W.kitx_str I.bz True.intro e (λz=>nomatch z) fin
  |@lst a xs ea =>
   cases (show u=Value.ref a from rx);obtain⟨its,_,⟨o,n,h1,h2,_⟩,_⟩:=I.list ea;exact dG PySem.W.kitx_list I.bz ⟨o,h1,h2⟩ e (λz=>nomatch z) fin
  |@tup a xs ea =>
   cases (show u=Value.ref a from rx);obtain⟨its,_,p,_⟩:=I.tuple ea;obtain⟨o,h1,h2,_⟩:=p;exact dG PySem.W.kitx_tuple I.bz ⟨o,h1,h2⟩ e (λz=>nomatch z) fin
  |@dK a ai ea =>
   cases (show u=Value.ref a from rx);obtain⟨_,_,vs,_,p⟩:=ea.ok I.ay;obtain⟨o,es,ep,h1,h2,_⟩:=p;exact dG PySem.W.kitx_dict I.bz ⟨o,h1,h2.1⟩ e (λz=>nomatch z) fin
  |@dT a ai ea =>
   cases (show u=Value.ref a from rx);obtain⟨_,_,vs,_,o,es,ep,h1,h2,_⟩:=ea.ok I.ay;exact dG PySem.W.kitx_dict I.bz ⟨o,h1,h2.1⟩ e (λz=>nomatch z) fin
 |@x a C dx gs h1 h2 cl =>
  cases (show u=Value.ref a from rx);obtain⟨⟨oe,vs,he,hc,hd,hv⟩,_⟩:=I.ay a _ h1;obtain⟨⟨mA,n1,_⟩,_⟩:=I.ay dx _ h2;obtain⟨od,ho,_⟩:=AW n1;exact dG (Qt (ox:=oe) (od:=od) cl) I.bz ⟨he,hc,by unfold PySem.W.notCls;rw[hv],by rw[hd];exact ho⟩ e (λz=>nomatch z) fin
noncomputable def ot:List String:=["NoneType", "bool", "int", "str", "tuple", "list", "dict"]
structure zG (K:PySem.W.Frag)(c:Value)(dO:Str→Option Bool):Prop where
 no:∀t∈ot,PySem.W.kitOne K (.type t) c=some false
 cl:∀n C b,dO n=some b→PySem.W.nsIn K mainGlobals n=some (some (.ref C))→i5 K C∧PySem.W.kitOne K (.ref C) c=some b
def FV(dO:Str→Option Bool):M×D→Option (M×D):=λx=>match x.2 with
 |.exc n _ _=>(dO n).bind λb=>some (.fr,.bl b)
 |d=>if dN d = "type" then none else some (.fr,.bl false)
def hX(dO:Str→Option Bool)(fa:Ev→Option (M×D)):Ev→Option (M×D):=λe=>(fa e).bind (FV dO)
theorem DJ{dO:Str→Option Bool}{vc:V}{c:Value}{ta:TE}{fa:Ev→Option (M×D)}(hk:zG K c dO)(ha:JT K ta fa):JT K (qp (λxs H Q=>∃x t b,xs=[x,vc]∧uR K H x t∧PySem.W.kitOne K t c=some b∧Q (.bl b) H) (jZ ta (jZ (tC vc) j5))) (hX dO fa):=by
 intro H₀ O H σ env Q m d R e q;obtain⟨⟨m',d'⟩,ex,e⟩:=aq e;refine ha H₀ O H σ env _ m' d' R ex λv H1 s1 h1=>?_;have hw:=h1.weak;by_cases hx:∃n ns ds,d'=.exc n ns ds
 ·obtain⟨n,ns,ds,rfl⟩:=hx;obtain⟨b,eb,e⟩:=aq e;cases e;cases hw with
  |exc a1 a2 a3 a4 r =>
   obtain⟨k1,k2⟩:=hk.cl n _ b eb a3;exact⟨_,_,b,rfl,.x a1 a2 k1,k2,q _ H1 s1 (show Rp K _ H1 _ _ from Rp.bl b)⟩
 ·have e':(if dN d' = "type" then none else some (M.fr,D.bl false))=some (m,d):=by
   unfold FV at e;cases d'<;>first|exact e|exact absurd ⟨_,_,_,rfl⟩ hx
  split at e'
  ·cases e'
  ·rename_i hn;cases e';have ty:=Dw hw hn;exact⟨_,_,false,rfl,.j ty,hk.no _ (by have:=Dv ty;simpa[ot]using this),q _ H1 s1 (show Rp K _ H1 _ _ from Rp.bl false)⟩
end
end J
namespace J
open PySem PySem.Spec PyProof.Rows L2
theorem Bx{X:Cx}:kC X "str.strip" (λx xs H Q=>∃z y:Str,x=.str z∧xs=[.str y]∧z.length≤sizeLine∧Q (.str (Txt.stripChars z y)) H):=by
 intro pins s σ H x xs v us Q I rx r h;obtain⟨z,y,rfl,rfl,hz,q⟩:=h;obtain⟨u,rfl,ru⟩:=vals1 r;obtain⟨tk,rfl⟩:=(show ∃t,v=Value.str z t from rx);obtain⟨my,rfl⟩:=(show ∃t,u=Value.str y t from ru);exact SC.stripChars (λt' k=>⟨.str (Txt.stripChars z y),H,I.tok k,⟨_,rfl⟩,q⟩) hz
section
variable {K:PySem.W.Frag}
noncomputable def jY:M×D→List (M×D)→Option (M×D)
 | (_,.str z),[(_,.str y)]=>if z.length≤sizeLine then some (.fr,.str (Txt.stripChars z y))else none
 |_,_=>none
theorem L9:mw K "str" (λx xs H Q=>∃z y:Str,x=.str z∧xs=[.str y]∧z.length≤sizeLine∧Q (.str (Txt.stripChars z y)) H) jY:=by
 intro H₀ O H x vs a aw Q m d _ _ h1 h2 h q;unfold jY at h;split at h
 ·split at h
  ·rename_i ho;cases h;obtain⟨v,rfl,hv⟩:=h2.one;exact⟨_,_,h1.str,by rw[hv.str],ho,q _ H (ax.refl H) lz⟩
  ·cases h
 ·cases h
end
section
variable {K:PySem.W.Frag}{H:Hp}
end
end J
set_option genInjectivity false
set_option genSizeOf false
namespace C
open PySem PySem.Spec L2 J
inductive Bo where|add|sub|mul|div|mod|pow
inductive Co where|lt|le|gt|ge|eq|ne|qG|ou|uS
inductive Uo where|neg
inductive Fb where|int|len|abs|i9|max|all|str
inductive Ms where|index|join|split|partition|strip
noncomputable def Bo.op:Bo→Operator
 |.add=>.Add
 |.sub=>.Sub
 |.mul=>.Mult
 |.div=>.FloorDiv
 |.mod=>.Mod
 |.pow=>.Pow
def Bo.g:Bo→M×D→M×D→Option (M×D)
 |.add=>a6
 |.sub=>j8
 |.mul=>gE
 |.div=>cz
 |.mod=>bM
 |.pow=>pV
theorem Bo.ok{K:PySem.W.Frag}:∀o:Bo,∃r,(∀Z:Cx,Z.K=K→bq Z (binaryOp o.op) r)∧JR K r o.g
 |.add=>⟨_,λ_ h=>OU h,OV⟩
 |.sub=>⟨_,λ_ _=>P8,Qx⟩
 |.mul=>⟨_,λ_ _=>P9,Qy⟩
 |.div=>⟨_,λ_ _=>M4,OB⟩
 |.mod=>⟨_,λ_ _=>Qa,Qz⟩
 |.pow=>⟨_,λ_ _=>Qb,QB⟩
noncomputable def Co.op:Co→CmpOp
 |.lt=>.Lt
 |.le=>.LtE
 |.gt=>.Gt
 |.ge=>.GtE
 |.eq=>.Eq
 |.ne=>.NotEq
 |.qG=>.In
 |.ou=>.In
 |.uS=>.NotIn
def Co.g:Co→M×D→M×D→Option (M×D)
 |.lt=>jK
 |.le=>uI
 |.gt=>f7
 |.ge=>uJ
 |.eq=>aO
 |.ne=>c9
 |.qG=>hU false
 |.ou=>dE false
 |.uS=>dE true
theorem Co.ok{K:PySem.W.Frag}:∀o:Co,∃r,(∀Z:Cx,Z.K=K→Z.A.units+64<cLine→bq Z (compareOp o.op) r)∧JR K r o.g
 |.lt=>⟨_,λ_ _ _=>Sz,S3⟩
 |.le=>⟨_,λ_ _ _=>SD,S4⟩
 |.gt=>⟨_,λ_ _ _=>SJ,S5⟩
 |.ge=>⟨_,λ_ _ _=>SK,S6⟩
 |.eq=>⟨_,λ_ _ _=>Sx,S7⟩
 |.ne=>⟨_,λ_ _ _=>Sy,S8⟩
 |.qG=>⟨_,λ_ h _=>Ky h,Tf⟩
 |.ou=>⟨_,λ_ _ _=>Lf,Rc⟩
 |.uS=>⟨_,λ_ _ _=>Jo,LV⟩
noncomputable def Uo.op:Uo→UnaryOp
 |.neg=>.USub
def Uo.g:Uo→M×D→Option (M×D)
 |.neg=>tK
theorem Uo.ok{K:PySem.W.Frag}:∀o:Uo,∃r,(∀Z:Cx,ur Z (unaryOp o.op) r)∧JU K r o.g
 |.neg=>⟨_,λ_=>Qc,QQ⟩
noncomputable def Fb.nm:Fb→String
 |.int => "int"
 |.len => "len"
 |.abs => "abs"
 |.i9 => "isinstance"
 |.max => "max"
 |.all => "all"
 |.str => "str"
def Fb.g:Fb→List (M×D)→Option (M×D)
 |.int=>lE
 |.len=>aY
 |.abs=>pW
 |.i9=>bx
 |.max=>lF
 |.all=>lJ
 |.str=>hV
noncomputable def Ms.nm:Ms→String
 |.index => "index"
 |.join => "join"
 |.split => "split"
 |.partition => "partition"
 |.strip => "strip"
def Ms.g:Ms→M×D→List (M×D)→Option (M×D)
 |.index=>mW
 |.join=>bJ
 |.split=>dA
 |.partition=>mH
 |.strip=>jY
inductive Gv where|s (x:Str)|t (l:List Str)
noncomputable def Gv.d:Gv→D
 |.s x=>.str x
 |.t l=>.tup (l.map .str)
mutual
inductive X where|gc (i:Nat) (g:Gv)|v (i:Nat)|ki (i:Int)|ks (s:Str)|kb (b:Bool)|kn|ty (n:String)|bo (o:Bo) (a b:X)|co (o:Co) (a b:X)|uo (o:Uo) (a:X)|ch (o p:Co) (a b c:X)|an (a b:X)|or (a b:X)|nt (a:X)|ie (t:T) (a b:X)|tu (l:A)|li (l:A)|ix (a b:X)|sl (a:X) (lo hi:P)|ms (m:Ms) (o:X) (l:A)|fb (f:Fb) (l:A)|ca (f:Nat) (l:A)|cp (i:I) (ix:List Nat) (t:T) (e:X)|xa (a:X) (f:Str) (cs:List Str)|is (a:X) (cn:Str) (cs:List (Str×Bool))|gi (i:Nat) (l:List Str) (a:X)
inductive Pp where|n|c (a b:X) (l:Pp)
inductive A where|n|c (a:X) (l:A)
inductive T where|b (x:X)|c (o:Co) (a b:X)|d (n:Bool) (a b:X)|t (n:Bool) (a b:X)|h (o p:Co) (a b c:X)|an (a b:T)|or (a b:T)|nt (a:T)|y
inductive P where|n|s (x:X)
inductive I where|r1 (l:A)|en (l:A)|s (x:X)|t (x:X)|l (x:X)
end
mutual
inductive G where|n (i:Nat)|t (k:Nat) (l:Gs)|l (k:Nat) (l:Gs)
inductive Gs where|n|c (g:G) (l:Gs)
end
inductive Kx where|d|s (i:Nat)|p (i:Nat) (a:Str)
inductive L where|rz (n:Str) (ns:List Str) (l:A)|xc (k:Kx) (f:Nat) (l:A)|rt (x:X)|nv|st (i:Nat) (x:X)|sc (j:Nat) (i:I) (ix:List Nat) (q:T) (e:X)|as (g:G) (x:X)|si (k:Nat) (i x:X)|ap (k:Nat) (x:X)|ne (i:Nat) (it:I)
inductive Ch where|a (k x:X)|d (k y x:X)|c (k:X)
mutual
inductive S where|tr (b:L) (i:Option Nat) (cs:List Str) (h:List (Nat×X))|l (x:L)|ie (t:T) (a b:B)|fo (i:I) (g:G) (b:B)|fz (k:Nat) (s:S)
inductive B where|n|o (s:S)|c (s:S) (b:B)
end
inductive FT where
 |p (F:List D→Option (M×D))|io (l:List Nat) (F:List D→Option (M×D×List D))|oo (F:List D→Option D)|al (F:List D→Option (M×D))|x (F:List D→Option Rs)
noncomputable def FT.f:Option FT→List D→Option (M×D)
 |some (.p F)=>F
 |_=>λ_=>none
noncomputable def FT.l:Option FT→List Nat
 |some (.io l _)=>l
 |_=>[]
noncomputable def FT.o:Option FT→List D→Option (M×D×List D)
 |some (.io _ F)=>F
 |_=>λ_=>none
noncomputable def FT.g:Option FT→List D→Option (M×D)
 |some (.al F)=>F
 |_=>λ_=>none
noncomputable def FT.r:Option FT→List D→Option Rs
 |some (.x F)=>F
 |_=>λ_=>none
noncomputable def FT.q:Option FT→List D→Option D
 |some (.oo F)=>F
 |_=>λ_=>none
mutual
noncomputable def eX(t:List FT):X→Ev→Option (M×D)
 |.gc _ g=>jC g.d
 |.v i=>jV i
 |.ki i=>jC (.int i)
 |.ks s=>jC (.str s)
 |.kb b=>jC (.bl b)
 |.kn=>jC .non
 |.ty n=>jC (.ty n)
 |.bo o a b=>ag o.g (eX t a) (eX t b)
 |.co o a b=>ag o.g (eX t a) (eX t b)
 |.uo o a=>n9 o.g (eX t a)
 |.ch o p a b c=>o7 o.g p.g (eX t a) (eX t b) (eX t c)
 |.an a b=>cC (eX t a) (eX t b)
 |.or a b=>kK (eX t a) (eX t b)
 |.nt a=>nB (eX t a)
 |.ie c a b=>x8 (eT t c) (eX t a) (eX t b)
 |.tu l=>hR (eA t l)
 |.li l=>bh (eA t l)
 |.ix a b=>ag aC (eX t a) (eX t b)
 |.sl a lo hi=>de cS (eX t a) (eP t lo) (eP t hi)
 |.ms m o l=>bp a8 m.g (eX t o) (eA t l)
 |.fb f l=>aD f.g (eA t l)
 |.ca f l=>aB (FT.f t[f]?) (eA t l)
 |.cp i ix c e=>fA (eI t i) ix (eT t c) (eX t e)
 |.xa a f cs=>qF cs.contains f (eX t a)
 |.is a _ cs=>hX (λn=>cs.lookup n) (eX t a)
 |.gi _ l a=>ag (hU false) (eX t a) (jC (.tup (l.map .str)))
noncomputable def He(t:List FT):Pp→List (Fj×Fj)
 |.n=>[]
 |.c a b l=>(eX t a,eX t b)::He t l
noncomputable def eA(t:List FT):A→Ev→Option (List (M×D))
 |.n=>ah
 |.c a l=>ae (eX t a) (eA t l)
noncomputable def eT(t:List FT):T→Ev→Option Bool
 |.b x=>jB (eX t x)
 |.c o a b=>jB (ag o.g (eX t a) (eX t b))
 |.d n a b=>jB (yh n (eX t a) (eX t b))
 |.t n a b=>jB (yl n (eX t a) (eX t b))
 |.h o p a b c=>jB (o7 o.g p.g (eX t a) (eX t b) (eX t c))
 |.an a b=>bW (eT t a) (eT t b)
 |.or a b=>cw (eT t a) (eT t b)
 |.nt a=>cE (eT t a)
 |.y=>eQ
noncomputable def eP(t:List FT):P→Ev→Option (Option Int)
 |.n=>dS
 |.s x=>cy (eX t x)
noncomputable def eI(t:List FT):I→Ev→Option (M×List D)
 |.r1 l=>j9 (eA t l)
 |.en l=>jM (eA t l)
 |.s x=>oh (eX t x)
 |.t x=>GK (eX t x)
 |.l x=>kN (eX t x)
end
mutual
noncomputable def eG:G→M×D→Ev→Option Ev
 |.n i=>gN i
 |.t k l=>gT k (uT l)
 |.l k l=>gL k (uT l)
noncomputable def uT:Gs→M→List D→Ev→Option Ev
 |.n=>jm
 |.c g l=>di (eG g) (uT l)
end
def Kx.g:Kx→M×D→Ev→Option Ev
 |.d=>λ_ e=>some e
 |.s i=>λx e=>(iJ x).bind λy=>some (e.set i (some y))
 |.p i a=>λx e=>if bU x.1 x.2=true then some (e.set i (some (.fr,.tup [.str a,x.2])))else none
def eL(t:List FT):L→Ev→Option Fl
 |.rz n ns l=>mB n ns (eA t l)
 |.xc k f l=>om (FT.r t[f]?) (eA t l) k.g
 |.rt x=>aE (eX t x)
 |.nv=>mX
 |.st i x=>aJ i (eX t x)
 |.sc j i ix q e=>aJ j (eX t (.cp i ix q e))
 |.as g x=>tJ (eG g) (eX t x)
 |.si k i x=>rQ k (eX t i) (eX t x)
 |.ap k x=>eO k (eX t x)
 |.ne i it=>EB i (eI t it)
def eH(t:List FT):List (Nat×X)→Ev→Option Fl
 |[]=>aP
 | (i,x)::r=>au (aJ i (eX t x)) (eH t r)
def Hf:Option Nat→List Str→(Ev→Option Fl)→(Ev→Option Fl)→Ev→Option Fl
 |some i,cs=>pY i cs.contains
 |none,cs=>ED cs.contains
mutual
noncomputable def eS(t:List FT):S→Ev→Option Fl
 |.l x=>eL t x
 |.tr b i cs h=>Hf i cs (eL t b) (eH t h)
 |.ie c a b=>aS (eT t c) (eB t a) (eB t b)
 |.fo i g b=>fU (eI t i) (eG g) (eB t b)
 |.fz k s=>pX k (eS t s)
noncomputable def eB(t:List FT):B→Ev→Option Fl
 |.n=>aP
 |.o s=>eS t s
 |.c s b=>au (eS t s) (eB t b)
end
end C
set_option genInjectivity true
namespace C
open PySem PySem.Spec L2 J
noncomputable def b9:Expr→Bool
 |.Starred ..=>false
 |_=>true
noncomputable def uU:Expr→Bool
 |.Slice ..=>false
 |_=>true
noncomputable def qH:Expr→Bool
 |.Name ..=>true
 |.Call ..=>true
 |.Subscript ..=>true
 |_=>false
noncomputable def kQ:Expr→Bool
 |.Name ..=>true
 |.Constant ..=>true
 |.Subscript ..=>true
 |.Call _ (_::_) _ _=>true
 |_=>false
noncomputable def ia:Expr→Bool
 |.Set ..=>false
 |_=>true
noncomputable def pI:Expr→Bool
 |.ListComp ..=>false
 |.SetComp ..=>false
 |.DictComp ..=>false
 |_=>true
noncomputable def xC:Expr→Bool
 |.Tuple ..=>true
 |_=>false
theorem bu{e:Expr}(h:b9 e=true){es:List Expr}{env:Env}:starEach (e::es) env=(false,eval e env)::starEach es env:=by
 cases e<;>first|rfl|cases h
theorem nc{i:Expr}(h:uU i=true):B6 i:=by
 intro o v;cases i<;>first|rfl|cases h
theorem Rv{i o:Expr}{pos:Pos}{env:Env}(h:uU i=true)(v:Value):assign (Expr.Subscript o i pos) env v=(do
  let ov ←holding [v] (eval o env)
  let iv ←holding [v,ov] (eval i env)
  standAt pos
  holding [v,ov,iv] (setItem ov iv v)
  PySem.release [v,ov,iv] []):=by
 cases i<;>first|rfl|cases h
theorem Rx{a:Expr}{env:Env}(h:qH a=true)(whole:Sem Value):PySem.isTrue a env whole=(do
  let v ←whole
  standAt (Expr.pos a)
  holding [v] (truthy v)):=by
 cases a<;>first|rfl|cases h
set_option tactic.hygienic true in
theorem fq{o:Expr}{m:Str}{env:Env}{w:Sem Value}(h:kQ o=true):attributeBase o m env w=w:=by
 cases o<;>first|rfl | (cases h;done)|skip
 rename_i f l kw p;cases l with
 |nil=>cases h
 |cons a l=>cases f<;>rfl
theorem k8{op:CmpOp}{e:Expr}(h:ia e=true):behindInMarks op e=false:=by
 cases e<;>first|rfl|cases h
theorem k9{e:Expr}{env:Env}(h:ia e=true)(x:Value):foldedSetIterable e env x=pure x:=by
 cases e<;>first|rfl|cases h
noncomputable def zH(sc:Scope)(x:Str):Bool:=match sc.names.lookup x with
 |some .local=>true
 |some .cell=>true
 |some .free=>true
 |_=>false
theorem wK{sc:Scope}{x:Str}(h:zH sc x=true):nS sc x:=by
 unfold zH at h;unfold nS;split at h<;>first|exact absurd h aU|simp_all
noncomputable def gl(sc:Scope)(x:Str):Bool:=match sc.names.lookup x with
 |some .globalImplicit=>true
 |_=>false
theorem Tw{sc:Scope}{x:Str}(h:gl sc x=true):sc.names.lookup x=some .globalImplicit:=by
 unfold gl at h;split at h<;>first|exact absurd h aU|assumption
noncomputable def rl(sc aj:Scope):Scope :=
  { kind:=aj.kind,names:=aj.names.map (λ(n,k)=>if (k==NameKind.free&&sc.kind==ScopeKind.function&&sc.names.lookup n==some NameKind.cell)=true then (n,NameKind.cell)else (n,k)),
    isGenerator:=aj.isGenerator,isCoroutine:=aj.isCoroutine,more:=aj.more }
noncomputable def zI(N N':List Str)(sc aj:Scope)(x:Str)(ix:List Nat):Bool :=
 decide (aj.kind=.function∧(∀y∈aj.names,y.2≠.cell)∧(∀y∈aj.names,y.2=.local→aj.names.lookup y.1=some .local)∧aj.names.lookup x=some .local ∧
  (∀y∈aj.names,y.2=.free→sc.names.lookup y.1=some .cell)∧N'.Nodup∧N'[0]?=some x∧N'.length=ix.length+1 ∧
  (∀p∈ix.zip N'.tail,N[p.1]?=some p.2∧sc.names.lookup p.2=some .cell∧aj.names.lookup p.2=some .free))
theorem wL{N N':List Str}{sc aj:Scope}{x:Str}{ix:List Nat}(h:zI N N' sc aj x ix=true):jh N N' sc aj x ix:=by
 obtain⟨h1,h2,h3,h4,h5,h6,h7,h8,h9⟩:=aA h;exact⟨h1,h2,h3,h4,h5,h6,h7,h8,h9⟩
structure Fi where
 nm:Str
 ar:Nat
 lv:Nat
 io:Option (List Nat):=none
 df:Option (Option Int):=none
noncomputable def Gv.is:Gv→Gv→Bool
 |.s x,.s y=>decide (x=y)
 |.t x,.t y=>decide (x=y)
 |_,_=>false
noncomputable def Gv.big:Gv→Bool
 |.s _=>true
 |.t l=>decide (4≤l.length)
theorem Gv.EG:∀{a b:Gv},a.is b=true→a=b
 |.s _,.s _,h=>bX _ (aA h)
 |.t _,.t _,h=>bX _ (aA h)
 |.s _,.t _,h=>absurd h aU
 |.t _,.s _,h=>absurd h aU
structure Xk where
 nm:Str
 ns:List Str
 st:Stmt
 up:List Str
 qn:Str
structure Cf where
 bs:List String
 gs:List (Str×Gv)
 fs:List Fi
 xs:List Xk
noncomputable def ns(N:List Str)(x:Str)(ix:List Nat):List Str:=x::ix.map λi=>(N[i]?).getD ""
noncomputable def tys:List String:=["bool", "int", "str", "tuple", "list", "dict"]
noncomputable def nin(n:Bool):CmpOp:=if n then .NotIn else .In
noncomputable def on{α:Type}(o:Option α)(f:α→Bool):Bool:=match o with
 |some a=>f a
 |none=>false
theorem av{α:Type}{o:Option α}{f:α→Bool}(h:on o f=true):∃a,o=some a∧f a=true:=by
 cases o with
 |none=>cases h
 |some a=>exact⟨a,rfl,h⟩
noncomputable def jO:Expr→Option Str
 |.Name x _=>some x
 |_=>none
noncomputable def eK:Expr→Option Const
 |.Constant c _ _=>some c
 |_=>none
noncomputable def Hg:Const→Option Int
 |.int i=>some i
 |_=>none
noncomputable def Hh:Const→Option Str
 |.str i=>some i
 |_=>none
noncomputable def Hi:Const→Option Bool
 |.bool i=>some i
 |_=>none
noncomputable def Hj:Const→Bool
 |.none=>true
 |_=>false
noncomputable def Hk:Expr→Option (Expr×Operator×Expr)
 |.BinOp l op r _=>some (l,op,r)
 |_=>none
noncomputable def uV:Expr→Option (UnaryOp×Expr)
 |.UnaryOp op e _=>some (op,e)
 |_=>none
noncomputable def zJ:Expr→Option (Expr×List CmpOp×List Expr)
 |.Compare l ops rs _=>some (l,ops,rs)
 |_=>none
noncomputable def Hl:Expr→Option (Expr×Str)
 |.Attribute o f _=>some (o,f)
 |_=>none
noncomputable def l1{α:Type}:List α→Option α
 |[a]=>some a
 |_=>none
noncomputable def l2{α:Type}:List α→Option (α×α)
 |[a,b]=>some (a,b)
 |_=>none
noncomputable def kR{α:Type}:List α→Option (α×List α)
 |a::l=>some (a,l)
 |_=>none
def oz(e:Expr):Option (Expr×CmpOp×Expr):=(zJ e).bind λq=>(l1 q.2.1).bind λop=>(l1 q.2.2).map λr=>(q.1,op,r)
def zK(e:Expr):Option (Expr×CmpOp×CmpOp×Expr×Expr):=(zJ e).bind λq=>(l2 q.2.1).bind λop=>(l2 q.2.2).map λr=>(q.1,op.1,op.2,r.1,r.2)
noncomputable def Hm:Expr→Option (BoolOp×List Expr×Pos)
 |.BoolOp op vs pos=>some (op,vs,pos)
 |_=>none
def pZ(o:BoolOp)(e:Expr):Option (Expr×Expr):=(Hm e).bind λq=>if q.1=o then (kR q.2.1).bind λa=>(kR a.2).map λb=>(a.1,match b.2 with
 |[]=>b.1
 |_=>.BoolOp o (b.1::b.2) q.2.2)else none
noncomputable def Hn:Expr→Option (Expr×Expr×Expr)
 |.IfExp e l r _=>some (e,l,r)
 |_=>none
noncomputable def qI:Expr→Option (List Expr)
 |.Tuple es _ _=>some es
 |_=>none
noncomputable def Ho:Expr→Option (List Expr)
 |.List es _=>some es
 |_=>none
noncomputable def uW:Expr→Option (Expr×Expr)
 |.Subscript l r _=>some (l,r)
 |_=>none
noncomputable def Hq:Expr→Option (Option Expr×Option Expr)
 |.Slice lo hi none _=>some (lo,hi)
 |_=>none
noncomputable def zL:Expr→Option (Expr×List Expr×List Keyword×Pos)
 |.Call f as kw cp=>some (f,as,kw,cp)
 |_=>none
noncomputable def Hr:Expr→Option (Expr×Str×Pos)
 |.Attribute o m ap=>some (o,m,ap)
 |_=>none
def eM(nm:String)(e:Expr):Option (Expr×List Expr):=(zL e).bind λq=>(Hr q.1).bind λa=>if a.2.1=Str.ofString nm∧q.2.2.1.isEmpty=true∧kQ a.1=true∧(a.2.2.endLine==q.2.2.2.line)=true∧q.2.1.all b9=true then some (a.1,q.2.1)else none
def eN(e:Expr):Option (Str×List Expr):=(zL e).bind λq=>(jO q.1).bind λx=>if q.2.2.1.isEmpty=true∧q.2.1.all b9=true then some (x,q.2.1)else none
noncomputable def Hs:Expr→Option (Expr×List Comprehension×Scope×Pos)
 |.ListComp el gs sc p=>some (el,gs,sc,p)
 |_=>none
noncomputable def Ht:Expr→Option (Str×Pos)
 |.Name z p=>some (z,p)
 |_=>none
def Hu{α:Type}(f:Expr→Option α)(e:Expr):Option (Expr×α×Expr×List Expr×Scope×Pos):=(Hs e).bind λq=>(l1 q.2.1).bind λg=>(f g.1).bind λz=>if g.4=0 then some (q.1,z,g.2,g.3,q.2.2)else none
def yn(e:Expr):Option (Expr×Str×Pos×Expr×List Expr×Scope×Pos):=(Hu Ht e).map λq=>(q.1,q.2.1.1,q.2.1.2,q.2.2)
theorem fm{α β:Type}{o:Option α}{f:α→Option β}{b:β}(h:o.bind f=some b):∃a,o=some a∧f a=some b:=by
 cases o with
 |none=>cases h
 |some a=>exact⟨a,rfl,h⟩
theorem pf{α β:Type}{o:Option α}{f:α→β}{b:β}(h:o.map f=some b):∃a,o=some a∧f a=b:=by
 cases o with
 |none=>cases h
 |some a=>exact⟨a,rfl,by simpa using h⟩
theorem iK{e:Expr}{x:Str}(h:jO e=some x):∃p,e=.Name x p:=by
 cases e<;>cases h;exact⟨_,rfl⟩
theorem j1{e:Expr}{k:Const}(h:eK e=some k):∃j p,e=.Constant k j p:=by
 cases e<;>cases h;exact⟨_,_,rfl⟩
theorem Tx{k:Const}{i:Int}(h:Hg k=some i):k=.int i:=by
 cases k<;>cases h;rfl
theorem xD{k:Const}{i:Str}(h:Hh k=some i):k=.str i:=by
 cases k<;>cases h;rfl
theorem EH{k:Const}{i:Bool}(h:Hi k=some i):k=.bool i:=by
 cases k<;>cases h;rfl
theorem EI{k:Const}(h:Hj k=true):k=.none:=by
 cases k<;>first|rfl|exact absurd h aU
theorem Ry{e l r:Expr}{op:Operator}(h:Hk e=some (l,op,r)):∃p,e=.BinOp l op r p:=by
 cases e<;>cases h;exact⟨_,rfl⟩
theorem wM{e a:Expr}{op:UnaryOp}(h:uV e=some (op,a)):∃p,e=.UnaryOp op a p:=by
 cases e<;>cases h;exact⟨_,rfl⟩
theorem DK{e o:Expr}{f:Str}(h:Hl e=some (o,f)):∃p,e=.Attribute o f p:=by
 cases e<;>cases h;exact⟨_,rfl⟩
theorem j2{α:Type}{l:List α}{a:α}(h:l1 l=some a):l=[a]:=by
 cases l with
 |nil=>cases h
 |cons b l=>cases l<;>cases h;rfl
theorem sJ{α:Type}{l:List α}{a:α×α}(h:l2 l=some a):l=[a.1,a.2]:=by
 cases l with
 |nil=>cases h
 |cons b l =>
  cases l with
  |nil=>cases h
  |cons d l=>cases l<;>cases h;rfl
theorem jj{α:Type}{l:List α}{a:α×List α}(h:kR l=some a):l=a.1::a.2:=by
 cases l<;>cases h;rfl
theorem DL{e:Expr}{q:Expr×List CmpOp×List Expr}(h:zJ e=some q):∃p,e=.Compare q.1 q.2.1 q.2.2 p:=by
 cases e<;>cases h;exact⟨_,rfl⟩
theorem ph{e l r:Expr}{op:CmpOp}(h:oz e=some (l,op,r)):∃p,e=.Compare l [op] [r] p:=by
 obtain⟨q,h1,h⟩:=fm h;obtain⟨a,h2,h⟩:=fm h;obtain⟨b,h3,h⟩:=pf h;cases h;obtain⟨p,rfl⟩:=DL h1;exact⟨p,by rw[j2 h2,j2 h3]⟩
theorem DM{e l m r:Expr}{op op':CmpOp}(h:zK e=some (l,op,op',m,r)):∃p,e=.Compare l [op,op'] [m,r] p:=by
 obtain⟨q,h1,h⟩:=fm h;obtain⟨a,h2,h⟩:=fm h;obtain⟨b,h3,h⟩:=pf h;cases h;obtain⟨p,rfl⟩:=DL h1;exact⟨p,by rw[sJ h2,sJ h3]⟩
theorem Rz{e:Expr}{q:BoolOp×List Expr×Pos}(h:Hm e=some q):e=.BoolOp q.1 q.2.1 q.2.2:=by
 cases e<;>cases h;rfl
theorem rF{o:BoolOp}{e a b:Expr}(h:pZ o e=some (a,b)):∃m rest pos,e=.BoolOp o (a::m::rest) pos∧((rest=[]∧b=m)∨b=.BoolOp o (m::rest) pos):=by
 obtain⟨q,h1,g⟩:=fm h;have e0:=Rz h1;by_cases e:q.1=o
 ·rw[if_pos e]at g;obtain⟨x,h2,g⟩:=fm g;obtain⟨y,h3,g⟩:=pf g;have e2:q.2.1=x.1::y.1::y.2:=by rw[jj h2,jj h3]
  have ea:x.1=a:=bX Prod.fst g;have eb:=bX Prod.snd g;refine⟨y.1,y.2,q.2.2,by rw[e0,e2,e,ea],?_⟩;cases hy:y.2 with
  |nil=>rw[hy]at eb;exact .inl ⟨rfl,eb.symm⟩
  |cons z zs=>rw[hy]at eb;exact .inr eb.symm
 ·rw[if_neg e]at g;cases g
theorem RA{e a b d:Expr}(h:Hn e=some (a,b,d)):∃p,e=.IfExp a b d p:=by
 cases e<;>cases h;exact⟨_,rfl⟩
theorem pj{e:Expr}{es:List Expr}(h:qI e=some es):∃k p,e=.Tuple es k p:=by
 cases e<;>cases h;exact⟨_,_,rfl⟩
theorem DN{e:Expr}{es:List Expr}(h:Ho e=some es):∃p,e=.List es p:=by
 cases e<;>cases h;exact⟨_,rfl⟩
theorem wN{e l r:Expr}(h:uW e=some (l,r)):∃p,e=.Subscript l r p:=by
 cases e<;>cases h;exact⟨_,rfl⟩
theorem RB{e:Expr}{lo hi:Option Expr}(h:Hq e=some (lo,hi)):∃p,e=.Slice lo hi none p:=by
 cases e with
 |Slice a b st p=>cases st<;>cases h;exact⟨_,rfl⟩
 |_=>cases h
theorem DP{e:Expr}{q:Expr×List Expr×List Keyword×Pos}(h:zL e=some q):e=.Call q.1 q.2.1 q.2.2.1 q.2.2.2:=by
 cases e<;>cases h;rfl
theorem RC{e:Expr}{q:Expr×Str×Pos}(h:Hr e=some q):e=.Attribute q.1 q.2.1 q.2.2:=by
 cases e<;>cases h;rfl
theorem EJ{nm:String}{e o:Expr}{as:List Expr}(h:eM nm e=some (o,as)):∃ap cp,e=.Call (.Attribute o (Str.ofString nm) ap) as [] cp∧kQ o=true∧(ap.endLine==cp.line)=true∧as.all b9=true:=by
 obtain⟨q,h1,h⟩:=fm h;obtain⟨a,h2,h⟩:=fm h;split at h
 ·rename_i g;cases h;refine⟨a.2.2,q.2.2.2,?_,g.2.2.1,g.2.2.2.1,g.2.2.2.2⟩;rw[DP h1,RC h2,g.1,gK.mp g.2.1]
 ·cases h
theorem jo{e:Expr}{x:Str}{as:List Expr}(h:eN e=some (x,as)):∃p cp,e=.Call (.Name x p) as [] cp∧as.all b9=true:=by
 obtain⟨q,h1,h⟩:=fm h;obtain⟨y,h2,h⟩:=fm h;split at h
 ·rename_i g;cases h;obtain⟨p,e2⟩:=iK h2;exact⟨p,q.2.2.2,by rw[DP h1,e2,gK.mp g.1],g.2⟩
 ·cases h
theorem RD{e:Expr}{q:Expr×List Comprehension×Scope×Pos}(h:Hs e=some q):e=.ListComp q.1 q.2.1 q.2.2.1 q.2.2.2:=by
 cases e<;>cases h;rfl
theorem RG{e:Expr}{q:Str×Pos}(h:Ht e=some q):e=.Name q.1 q.2:=by
 cases e<;>cases h;rfl
theorem RH{α:Type}{f:Expr→Option α}{e el it:Expr}{z:α}{ifs:List Expr}{aj:Scope}{ep:Pos}(h:Hu f e=some (el,z,it,ifs,aj,ep)):∃t,f t=some z∧e=.ListComp el [⟨t,it,ifs,0⟩] aj ep:=by
 obtain⟨⟨q1,q2,q3,q4⟩,h1,h⟩:=fm h;obtain⟨⟨t,i,l,n⟩,h2,h⟩:=fm h;obtain⟨z',h3,h⟩:=fm h;by_cases g:n=0
 ·rw[if_pos g]at h;subst g;cases h;exact⟨t,h3,by rw[RD h1,j2 h2]⟩
 ·rw[if_neg g]at h;cases h
theorem wg{e el it:Expr}{z:Str}{pz ep:Pos}{ifs:List Expr}{aj:Scope}(h:yn e=some (el,z,pz,it,ifs,aj,ep)):e=.ListComp el [⟨.Name z pz,it,ifs,0⟩] aj ep:=by
 obtain⟨⟨a,⟨b,c⟩,d⟩,h1,h⟩:=pf h;cases h;obtain⟨t,h2,rfl⟩:=RH h1;rw[RG h2]
noncomputable def zM:T→Bool
 |.y=>true
 |_=>false
mutual
noncomputable def kX(c:Cf)(lv:Nat):X→Scope→List Str→Expr→Bool
 |.gc i g,sc,_,e=>on (jO e) λx=>on c.gs[i]? λy=>decide (x=y.1)&&gl sc x&&y.2.is g&&!(x == "__debug__")&&g.big
 |.gi i l a,sc,N,e=>on (oz e) λq=>decide (q.2.1=.In)&&ia q.2.2&&kX c lv a sc N q.1&&on (jO q.2.2) λx=>on c.gs[i]? λy=>decide (x=y.1)&&gl sc x&&y.2.is (.t l)&&!(x == "__debug__")
 |.v i,sc,N,e=>on (jO e) λx=>decide (N[i]?=some x)&&zH sc x&&!(x == "__debug__")&&!(x == "__classdict__")
 |.ki i,_,_,e=>on (eK e) λk=>on (Hg k) λj=>decide (i=j)
 |.ks i,_,_,e=>on (eK e) λk=>on (Hh k) λj=>decide (i=j)
 |.kb i,_,_,e=>on (eK e) λk=>on (Hi k) λj=>decide (i=j)
 |.kn,_,_,e=>on (eK e) Hj
 |.ty n,sc,_,e=>on (jO e) λx=>decide (x=Str.ofString n)&&gl sc x&&c.bs.contains n&&tys.contains n
 |.bo o a b,sc,N,e=>on (Hk e) λq=>decide (q.2.1=o.op)&&kX c lv a sc N q.1&&kX c lv b sc N q.2.2
 |.co o a b,sc,N,e=>on (oz e) λq=>decide (q.2.1=o.op)&&ia q.2.2&&kX c lv a sc N q.1&&kX c lv b sc N q.2.2
 |.uo o a,sc,N,e=>on (uV e) λq=>decide (q.1=o.op)&&kX c lv a sc N q.2
 |.ch o p a b d,sc,N,e=>on (zK e) λq=>decide (q.2.1=o.op)&&decide (q.2.2.1=p.op)&&!lastMarks [q.2.1,q.2.2.1] [q.2.2.2.1,q.2.2.2.2]&&kX c lv a sc N q.1&&kX c lv b sc N q.2.2.2.1&&kX c lv d sc N q.2.2.2.2
 |.an a b,sc,N,e=>on (pZ .And e) λq=>kX c lv a sc N q.1&&kX c lv b sc N q.2
 |.or a b,sc,N,e=>on (pZ .Or e) λq=>kX c lv a sc N q.1&&kX c lv b sc N q.2
 |.nt a,sc,N,e=>on (uV e) λq=>decide (q.1=.Not)&&kX c lv a sc N q.2
 |.ie t a b,sc,N,e=>on (Hn e) λq=>kT c lv t sc N q.1&&kX c lv a sc N q.2.1&&kX c lv b sc N q.2.2
 |.tu l,sc,N,e=>on (qI e) λes=>kA c lv l sc N es
 |.li l,sc,N,e=>on (Ho e) λes=>kA c lv l sc N es
 |.ix a b,sc,N,e=>on (uW e) λq=>uU q.2&&kX c lv a sc N q.1&&kX c lv b sc N q.2
 |.sl a lo hi,sc,N,e=>on (uW e) λq=>on (Hq q.2) λs=>kX c lv a sc N q.1&&kP c lv lo sc N s.1&&kP c lv hi sc N s.2
 |.xa a f cs,sc,N,e=>on (Hl e) λq=>decide (q.2=f)&&kQ q.1&&decide (cs=c.xs.map (·.nm))&&c.xs.any (λx=>x.ns.contains f)&&kX c lv a sc N q.1
 |.is a cn cs,sc,N,e=>on (eN e) λq=>decide (q.1 = "isinstance")&&gl sc "isinstance" && c.bs.contains "isinstance" && decide (cs=c.xs.map λe=>(e.nm,e.up.contains cn))&&on (l2 q.2) λz=>kX c lv a sc N z.1&&on (jO z.2) λx=>decide (x=cn)&&gl sc cn&&!(cn == "__debug__")&&(c.xs.any (·.nm==cn)||(cn == "ValueError" && c.bs.contains "ValueError"))
 |.ms m o l,sc,N,e=>on (eM m.nm e) λq=>on (l1 q.2) λa=>kX c lv o sc N q.1&&kA c lv l sc N [a]
 |.fb f l,sc,N,e=>on (eN e) λq=>decide (q.1=Str.ofString f.nm)&&gl sc q.1&&c.bs.contains f.nm&&!q.2.isEmpty&&kA c lv l sc N q.2
 |.ca f l,sc,N,e=>on (eN e) λq=>on c.fs[f]? λi=>decide (q.1=i.nm)&&gl sc q.1&&!(q.1 == "__debug__")&&decide (i.lv≤lv)&&decide (q.2.length=i.ar)&&decide (i.io=none)&&!q.2.isEmpty&&kA c lv l sc N q.2
 |.cp i ix t e,sc,N,x=>on (yn x) λq=>zI N (ns N q.2.1 ix) sc q.2.2.2.2.2.1 q.2.1 ix&&ia q.2.2.2.1&&kI c lv i false sc N q.2.2.2.1&&((q.2.2.2.2.1.isEmpty&&zM t)||on (l1 q.2.2.2.2.1) λy=>kT c lv t (rl sc q.2.2.2.2.2.1) (ns N q.2.1 ix) y)&&kX c lv e (rl sc q.2.2.2.2.2.1) (ns N q.2.1 ix) q.1
noncomputable def Hv(c:Cf)(lv:Nat):Pp→Scope→List Str→List (Option Expr)→List Expr→Bool
 |.n,_,_,ks,vs=>ks.isEmpty&&vs.isEmpty
 |.c a b l,sc,N,ks,vs=>on (kR ks) λk=>on k.1 λk1=>on (kR vs) λv=>kX c lv a sc N k1&&kX c lv b sc N v.1&&Hv c lv l sc N k.2 v.2
noncomputable def kA(c:Cf)(lv:Nat):A→Scope→List Str→List Expr→Bool
 |.n,_,_,es=>es.isEmpty
 |.c a l,sc,N,es=>on (kR es) λq=>b9 q.1&&kX c lv a sc N q.1&&kA c lv l sc N q.2
noncomputable def kT(c:Cf)(lv:Nat):T→Scope→List Str→Expr→Bool
 |.b x,sc,N,e=>qH e&&kX c lv x sc N e
 |.c o a b,sc,N,e=>on (oz e) λq=>decide (q.2.1=o.op)&&ia q.2.2&&kX c lv a sc N q.1&&kX c lv b sc N q.2.2
 |.d n a b,sc,N,e=>on (oz e) λq=>decide (q.2.1=nin n)&&ia q.2.2&&kX c lv a sc N q.1&&kX c lv b sc N q.2.2
 |.t n a b,sc,N,e=>on (oz e) λq=>decide (q.2.1=nin n)&&ia q.2.2&&kX c lv a sc N q.1&&kX c lv b sc N q.2.2
 |.h o p a b d,sc,N,e=>on (zK e) λq=>decide (q.2.1=o.op)&&decide (q.2.2.1=p.op)&&!lastMarks [q.2.1,q.2.2.1] [q.2.2.2.1,q.2.2.2.2]&&kX c lv a sc N q.1&&kX c lv b sc N q.2.2.2.1&&kX c lv d sc N q.2.2.2.2
 |.an a b,sc,N,e=>on (pZ .And e) λq=>kT c lv a sc N q.1&&kT c lv b sc N q.2
 |.or a b,sc,N,e=>on (pZ .Or e) λq=>kT c lv a sc N q.1&&kT c lv b sc N q.2
 |.nt a,sc,N,e=>on (uV e) λq=>decide (q.1=.Not)&&kT c lv a sc N q.2
 |.y,_,_,_=>false
noncomputable def kP(c:Cf)(lv:Nat):P→Scope→List Str→Option Expr→Bool
 |.n,_,_,o=>o.isNone
 |.s x,sc,N,o=>on o λe=>kX c lv x sc N e
noncomputable def kI(c:Cf)(lv:Nat):I→Bool→Scope→List Str→Expr→Bool
 |.r1 l,_,sc,N,e=>on (eN e) λq=>decide (q.1 = "range")&&gl sc q.1&&c.bs.contains "range" && decide (q.2.length=1)&&kA c lv l sc N q.2
 |.en l,tg,sc,N,e=>on (eN e) λq=>tg&&decide (q.1 = "enumerate")&&gl sc q.1&&c.bs.contains "enumerate" && decide (q.2.length=1)&&kA c lv l sc N q.2
 |.s x,_,sc,N,e=>kX c lv x sc N e
 |.t x,_,sc,N,e=>kX c lv x sc N e
 |.l x,_,sc,N,e=>kX c lv x sc N e
end
def qJ(P:Program)(w:World)(K:PySem.W.Frag)(mg:Str→Option Value)(base:Heap)(i:Fi)(sp:Sp):Prop :=
 ∃f fd ps,fQ P w K mg base (cI P w) i.lv f fd ps sp∧mg i.nm=some (.ref f)∧PySem.W.keepIn K (.ref f)=true∧Binds K fd ps []∧∀n,i.df=some n→∃t,Binds K fd ps [qE n t]
def eE(P:Program)(w:World)(K:PySem.W.Frag)(mg:Str→Option Value)(base:Heap)(i:Fi):FT→Prop
 |.p F=>i.io=none∧qJ P w K mg base i (mj K i.ar F)
 |.x F=>i.io=some [1001]∧qJ P w K mg base i (uO K i.ar F)
 |.al F=>i.io=some [1000]∧qJ P w K mg base i (G8 K i.ar F)
 |.oo F=>i.io=some []∧qJ P w K mg base i (FQ K i.ar F)
 |.io l F=>(i.io=some l∧l≠[]∧l≠[1000]∧l≠[1001])∧qJ P w K mg base i (FN K i.ar l F)
noncomputable def GJ(K:PySem.W.Frag)(x:V):Gv→Prop
 |.s y=>JT K (tC x) (jC (.str y))
 |.t l=>(∃a,x=.ref a∧KU K a (l.map V.str))∧(4≤l.length→JT K (tC x) (jC (.tup (l.map .str))))
def GV(K:PySem.W.Frag)(mg:Str→Option Value)(va:List V)(gs:List (Str×Gv)):Prop:=∀(i:Nat) g,gs[i]?=some g→∃x u,va[i]?=some x∧mg g.1=some u∧RelV x u∧GJ K x g.2
structure XE (K:PySem.W.Frag)(xs:List Xk)(e:Xk)(C:Addr):Prop where
 kp:PySem.W.keepIn K (.ref C)=true
 ex:n8 K C
 at_:i5 K C
 fld:∀e'∈xs,∀f∈e'.ns,PySem.W.findIn K (.ref C) f=some none
 ve:PySem.W.kitOne K (.ref C) (.type "ValueError")=some (e.up.contains "ValueError")
 ty:∀t∈ot,PySem.W.kitOne K (.type t) (.ref C)=some false
 ini:e.ns≠[]→∃f fd qual,gQ K C f e.ns∧iZ K "__init__" qual e.st f fd∧Binds K fd (("self" : Str)::e.ns) []
structure XT (K:PySem.W.Frag)(xs:List Xk):Prop where
 at_:∀e∈xs,∃C,PySem.W.nsIn K mainGlobals e.nm=some (some (.ref C))∧XE K xs e C
 rel:∀e∈xs,∀e'∈xs,∀C C',PySem.W.nsIn K mainGlobals e.nm=some (some (.ref C))→PySem.W.nsIn K mainGlobals e'.nm=some (some (.ref C'))→PySem.W.mroIn K C (.ref C')=some (e.up.contains e'.nm)∧PySem.W.kitOne K (.ref C) (.ref C')=some (e.up.contains e'.nm)
 vt:∀t∈ot,PySem.W.kitOne K (.type t) (.type "ValueError")=some false
 nd:(xs.map (·.nm)).Nodup
theorem XT.of{K:PySem.W.Frag}{xs:List Xk}(h:XT K xs){e:Xk}(he:e∈xs){C:Addr}(hn:PySem.W.nsIn K mainGlobals e.nm=some (some (.ref C))):XE K xs e C:=by
 obtain⟨C',h1,h2⟩:=h.at_ e he;rw[hn]at h1;cases h1;exact h2
theorem XT.one{K:PySem.W.Frag}{xs:List Xk}(h:XT K xs){e e':Xk}(he:e∈xs)(mC:e'∈xs)(hn:e.nm=e'.nm):e=e':=by
 obtain⟨i,hi⟩:=List.mem_iff_getElem?.mp he;obtain⟨j,hj⟩:=List.mem_iff_getElem?.mp mC;have:i=j:=mO h.nd (x:=e.nm) (by rw[jy,hi];rfl) (by rw[jy,hj,hn];rfl);subst this;rw[hi]at hj;cases hj;rfl
theorem XT.Hw{K:PySem.W.Frag}{xs:List Xk}(h:XT K xs){f:Str}(hf:xs.any (λx=>x.ns.contains f)=true):Hc K (xs.map (·.nm)).contains f:=λn C hn hC=>by
 obtain⟨e,he,rfl⟩:=cX.mp (by simpa using hn:n∈xs.map (·.nm));obtain⟨e',mC,hf⟩:=uf.mp hf;have x:=h.of he hC;exact⟨x.at_,x.fld e' mC f (by simpa using hf)⟩
theorem EK{xs:List Xk}{cn n:Str}{b:Bool}:(xs.map λe=>(e.nm,e.up.contains cn)).lookup n=some b→∃e∈xs,e.nm=n∧e.up.contains cn=b:=by
 induction xs with
 |nil=>intro h;cases h
 |cons e xs ih =>
  intro h;rw[gJ,eU]at h;by_cases z:n=e.nm
  ·rw[z]at h;simp at h;exact⟨e,.head _,z.symm,by simpa using h⟩
  ·rw[beq_eq_false_iff_ne.mpr z]at h;obtain⟨e',h1,h2⟩:=ih h;exact⟨e',.tail _ h1,h2⟩
theorem XT.V3{K:PySem.W.Frag}{xs:List Xk}(h:XT K xs){e':Xk}(he:e'∈xs){C':Addr}(hC:PySem.W.nsIn K mainGlobals e'.nm=some (some (.ref C'))):zG K (.ref C') (λn=>(xs.map λe=>(e.nm,e.up.contains e'.nm)).lookup n) :=
  ⟨(h.of he hC).ty,λn C b hb hn=>by
    obtain⟨e,h1,rfl,rfl⟩:=EK hb;exact⟨(h.of h1 hn).at_,(h.rel e h1 e' he C C' hn hC).2⟩⟩
theorem XT.V4{K:PySem.W.Frag}{xs:List Xk}(h:XT K xs):zG K (.type "ValueError") (λn=>(xs.map λe=>(e.nm,e.up.contains "ValueError")).lookup n) :=
 ⟨h.vt,λn C b hb hn=>by
  obtain⟨e,h1,rfl,rfl⟩:=EK hb;exact⟨(h.of h1 hn).at_,(h.of h1 hn).ve⟩⟩
theorem XT.Hx{K:PySem.W.Frag}{xs:List Xk}(h:XT K xs){e':Xk}(he:e'∈xs){C':Addr}(hC:PySem.W.nsIn K mainGlobals e'.nm=some (some (.ref C'))):zF K C' ((xs.filter λe=>e.up.contains e'.nm).map (·.nm)).contains:=λn C hn hc=>by
 obtain⟨e,h1,rfl⟩:=cX.mp (by simpa using hn:n∈(xs.filter λe=>e.up.contains e'.nm).map (·.nm));obtain⟨h1,h2⟩:=lM.mp h1;rw[(h.rel e h1 e' he C C' hc hC).1,h2]
structure CE (c:Cf)(lv:Nat)(K:PySem.W.Frag)(t:List FT)(va:List V)(sc:Scope)(N:List Str)(Z:Cx):Prop where
 k:Z.K=K
 sc:Z.env.scope=sc
 n:Z.N=N
 calm:Z.calm=true
 rm:bS lv Z.A
 bl:∀b,b∈c.bs→Z.mg (Str.ofString b)=none
 gv:GV K Z.mg va c.gs
 xt:XT K c.xs
 xm:∀e∈c.xs,∀C,PySem.W.nsIn K mainGlobals e.nm=some (some (.ref C))→Z.mg e.nm=some (.ref C)
 fs:∀(i:Nat) fi,c.fs[i]?=some fi→∃F,t[i]?=some F∧eE Z.prog Z.w Z.K Z.mg Z.base fi F
section
variable {c:Cf}{lv:Nat}{K:PySem.W.Frag}{t:List FT}{va:List V}{sc:Scope}{N:List Str}{Z:Cx}
theorem CE.bG(E:CE c lv K t va sc N Z){N':List Str}{aj:Scope}{C:Addr}{s₂:Shared}{H₂:Hp}{fp:List Addr}{pn:List (Addr×Obj)}:CE c lv K t va (rl sc aj) N' (Z.bG N' aj C s₂ H₂ fp pn) :=
 ⟨E.k,by rw[←E.sc];rfl,rfl,E.calm,E.rm,E.bl,E.gv,E.xt,E.xm,E.fs⟩
theorem CE.gl(E:CE c lv K t va sc N Z){x:Str}(h:gl sc x=true):Gl Z x:=by
 have:=Tw h;rw[←E.sc]at this;exact this
theorem CE.mg(E:CE c lv K t va sc N Z){b:String}(h:c.bs.contains b=true):Z.mg (Str.ofString b)=none:=E.bl b (by simpa using h)
theorem fK:∀{es:List Expr}{env:Env},es.all b9=true→∀pos:Pos,((backTo pos (starEach es env)).any λx=>x.1)=false
 |[],_,_,_=>rfl
 |e::es,env,h,pos=>by
  rw[lP,jA]at h;rw[bu h.1];show(false||(backTo pos (starEach es env)).any λx=>x.1)=false;rw[fK h.2,Bool.or_false]
theorem RJ{n:String}(h:tys.contains n=true):bootBuiltins (Str.ofString n)=some (.type n)∧Str.ofString n ≠ "__name__" ∧ (Str.ofString n==("__debug__" : Str))=false:=by
 have h:n∈tys:=by simpa using h
 simp only[tys,List.mem_cons,List.not_mem_nil,or_false]at h;rcases h with rfl|rfl|rfl|rfl|rfl|rfl
 ·exact⟨PyProof.Rows.Boot.«bool»,by decide,by decide⟩
 ·exact⟨PyProof.Rows.Boot.«int»,by decide,by decide⟩
 ·exact⟨PyProof.Rows.Boot.«str»,by decide,by decide⟩
 ·exact⟨PyProof.Rows.Boot.«tuple»,by decide,by decide⟩
 ·exact⟨PyProof.Rows.Boot.«list»,by decide,by decide⟩
 ·exact⟨PyProof.Rows.Boot.«dict»,by decide,by decide⟩
theorem Fb.ok:∀f:Fb,∃r,(∀{sc:Scope}{N:List Str} (Z:Cx),CE c lv K t va sc N Z→∀{p pos:Pos}{e:Expr}{es:List Expr}{ta:TA},C.gl sc (Str.ofString f.nm)=true→c.bs.contains f.nm=true→b9 e=true→es.all b9=true→PA Z (e::es) ta→PE Z (.Call (.Name (Str.ofString f.nm) p) (e::es) [] pos) (qp r ta))∧jL K r f.g
 |.int=>⟨_,λ_ E _ _ _ _ _ hg hb h1 h2 ha=>@A1 _ _ _ _ _ _ _ _ _ Lh (E.gl hg) (E.mg hb) PyProof.Rows.Boot.«int» ha (by decide) (by decide) (bu h1) (fK h2 _),Oo⟩
 |.len=>⟨_,λ_ E _ _ _ _ _ hg hb h1 h2 ha=>@kY _ _ _ _ _ _ _ _ _ (Lr E.k) (E.gl hg) (E.mg hb) PyProof.Rows.Boot.«len» ha (by decide) (by decide) (bu h1) (fK h2 _),Ol⟩
 |.abs=>⟨_,λ_ E _ _ _ _ _ hg hb h1 h2 ha=>@kY _ _ _ _ _ _ _ _ _ MA (E.gl hg) (E.mg hb) PyProof.Rows.Boot.«abs» ha (by decide) (by decide) (bu h1) (fK h2 _),Om⟩
 |.i9=>⟨_,λ_ E _ _ _ _ _ hg hb h1 h2 ha=>@kY _ _ _ _ _ _ _ _ _ (LJ E.k) (E.gl hg) (E.mg hb) PyProof.Rows.Boot.«isinstance» ha (by decide) (by decide) (bu h1) (fK h2 _),OW⟩
 |.max=>⟨_,λ_ E _ _ _ _ _ hg hb h1 h2 ha=>@kY _ _ _ _ _ _ _ _ _ (Lg E.calm) (E.gl hg) (E.mg hb) PyProof.Rows.Boot.«max» ha (by decide) (by decide) (bu h1) (fK h2 _),Oq⟩
 |.all=>⟨_,λ_ E _ _ _ _ _ hg hb h1 h2 ha=>@kY _ _ _ _ _ _ _ _ _ (KC E.k E.calm) (E.gl hg) (E.mg hb) PyProof.Rows.Boot.«all» ha (by decide) (by decide) (bu h1) (fK h2 _),O7⟩
 |.str=>⟨_,λ_ E _ _ _ _ _ hg hb h1 h2 ha=>@A1 _ _ _ _ _ _ _ _ _ L1 (E.gl hg) (E.mg hb) PyProof.Rows.Boot.«str» ha (by decide) (by decide) (bu h1) (fK h2 _),Pl⟩
theorem mY{a:Expr}{env:Env}{bV:Pos}(h:b9 a=true):(((List.all (backTo bV (starEach [a] env)) λx=>!x.1)&&List.all (backToKw bV (keywordEach [] env)) λx=>Option.isSome x.1)&&decide ((List.length [a]+List.length ([]:List Keyword)+if List.isEmpty ([]:List Keyword)=true then 0 else 1)<30))=true:=by
 rw[bu h];rfl
theorem mZ{env:Env}{cp:Pos}:((backTo cp (starEach [] env)).any λx=>x.1)=false:=rfl
theorem Ms.ok:∀m:Ms,∃r,(∀Z:Cx,Z.K=K→∀{ap cp:Pos}{e a:Expr}{te:TE}{ta:TA},kQ e=true→(ap.endLine==cp.line)=true→b9 a=true→PE Z e te→PA Z [a] ta→PE Z (.Call (.Attribute e (Str.ofString m.nm) ap) [a] [] cp) (nZ K "str" r te ta))∧(∀Z:Cx,Z.K=K→∀{ap cp:Pos}{e:Expr}{te:TE},kQ e=true→(ap.endLine==cp.line)=true→PE Z e te→PE Z (.Call (.Attribute e (Str.ofString m.nm) ap) [] [] cp) (Fu K "str" r te))∧mw K "str" r m.g
 |.index=>⟨_,λ_ k _ _ _ _ _ _ h0 hl h1 he ha=>k▸@lq _ _ _ _ _ _ _ _ _ _ _ _ PySem.F.plainAttrs_str PySem.F.slot_str_index PySem.F.type_str_index Bn he ha (fq h0) (mY h1) hl (bu h1) mZ,λ_ k _ _ _ _ h0 hl he=>k▸@oZ _ _ _ _ _ _ _ _ _ PySem.F.plainAttrs_str PySem.F.slot_str_index PySem.F.type_str_index Bn he (fq h0) hl,LD⟩
 |.split=>⟨_,λ_ k _ _ _ _ _ _ h0 hl h1 he ha=>k▸@lq _ _ _ _ _ _ _ _ _ _ _ _ PySem.F.plainAttrs_str PySem.F.slot_str_split PySem.F.type_str_split Bt he ha (fq h0) (mY h1) hl (bu h1) mZ,λ_ k _ _ _ _ h0 hl he=>k▸@oZ _ _ _ _ _ _ _ _ _ PySem.F.plainAttrs_str PySem.F.slot_str_split PySem.F.type_str_split Bt he (fq h0) hl,L3⟩
 |.partition=>⟨_,λ_ k _ _ _ _ _ _ h0 hl h1 he ha=>k▸@lq _ _ _ _ _ _ _ _ _ _ _ _ PySem.F.plainAttrs_str PySem.F.slot_str_partition PySem.F.type_str_partition Ae he ha (fq h0) (mY h1) hl (bu h1) mZ,λ_ k _ _ _ _ h0 hl he=>k▸@oZ _ _ _ _ _ _ _ _ _ PySem.F.plainAttrs_str PySem.F.slot_str_partition PySem.F.type_str_partition Ae he (fq h0) hl,Jn⟩
 |.strip=>⟨_,λ_ k _ _ _ _ _ _ h0 hl h1 he ha=>k▸@lq _ _ _ _ _ _ _ _ _ _ _ _ PySem.F.plainAttrs_str PySem.F.slot_str_strip PySem.F.type_str_strip Bx he ha (fq h0) (mY h1) hl (bu h1) mZ,λ_ k _ _ _ _ h0 hl he=>k▸@oZ _ _ _ _ _ _ _ _ _ PySem.F.plainAttrs_str PySem.F.slot_str_strip PySem.F.type_str_strip Bx he (fq h0) hl,L9⟩
 |.join=>⟨_,λ_ k _ _ _ _ _ _ h0 hl h1 he ha=>k▸@lq _ _ _ _ _ _ _ _ _ _ _ _ PySem.F.plainAttrs_str PySem.F.slot_str_join PySem.F.type_str_join (Br rfl) he ha (fq h0) (mY h1) hl (bu h1) mZ,λ_ k _ _ _ _ h0 hl he=>k▸@oZ _ _ _ _ _ _ _ _ _ PySem.F.plainAttrs_str PySem.F.slot_str_join PySem.F.type_str_join (Br rfl) he (fq h0) hl,Nc⟩
theorem yo:∀{l:A}{sc:Scope}{N:List Str}{es:List Expr},kA c lv l sc N es=true→∀(e:Ev) (aw:List (M×D)),eA t l e=some aw→aw.length=es.length
 |.n,_,_,es,h=>by cases gK.mp h;exact OG
 |.c a l,sc,N,es,h=>by
  have hh:=av h;clear h;obtain⟨⟨e,r⟩,q,h⟩:=hh;cases jj q;have h:(b9 e&&kX c lv a sc N e&&kA c lv l sc N r)=true:=h;rw[jA]at h;exact M7 (yo h.2)
end
section
variable {c:Cf}{lv:Nat}{K:PySem.W.Frag}{t:List FT}{va:List V}
theorem bL{a b:Bool}(h:(a&&b)=true):a=true∧b=true:=by simpa using h
theorem eZ{a b d:Bool}(h:(a&&b&&d)=true):a=true∧b=true∧d=true:=by simpa[and_assoc]using h
theorem eF{a b d e:Bool}(h:(a&&b&&d&&e)=true):a=true∧b=true∧d=true∧e=true:=by simpa[and_assoc]using h
theorem iG{a b d e f:Bool}(h:(a&&b&&d&&e&&f)=true):a=true∧b=true∧d=true∧e=true∧f=true:=by simpa[and_assoc]using h
theorem uX{a b d e f g:Bool}(h:(a&&b&&d&&e&&f&&g)=true):a=true∧b=true∧d=true∧e=true∧f=true∧g=true:=by simpa[and_assoc]using h
theorem uY{a b d e f g i:Bool}(h:(a&&b&&d&&e&&f&&g&&i)=true):a=true∧b=true∧d=true∧e=true∧f=true∧g=true∧i=true:=by simpa[and_assoc]using h
theorem zN{a b d e f g i j:Bool}(h:(a&&b&&d&&e&&f&&g&&i&&j)=true):a=true∧b=true∧d=true∧e=true∧f=true∧g=true∧i=true∧j=true:=by simpa[and_assoc]using h
theorem nb{a:Bool}(h:(!a)=true):a=false:=by simpa using h
theorem ER{Z:Cx}{op:BoolOp}{vs:List Expr}{pos:Pos}{tt:TT}(h:PT Z (.BoolOp op vs pos) tt):PW Z (.BoolOp op vs pos) tt:=λ_=>h
theorem all1{a:Expr}{l:List Expr}(h:(a::l).all b9=true):b9 a=true∧l.all b9=true:=by
 rw[lP,jA]at h;exact h
theorem rG{α:Type}{l:List α}(h:(!l.isEmpty)=true):∃a r,l=a::r:=by
 cases l with
 |nil=>cases h
 |cons a r=>exact⟨a,r,rfl⟩
theorem FW{α:Type}{l:List α}(h:l.length=1):∃a,l=[a]:=List.length_eq_one_iff.mp h
theorem Tz{x:V}{g:Gv}(h:g.big=true)(q:GJ K x g):JT K (tC x) (jC g.d):=by
 cases g with
 |s _=>exact q
 |t _=>exact q.2 (aA h)
mutual
theorem sX:∀(x:X) {sc:Scope}{N:List Str}{e:Expr},kX c lv x sc N e=true→∃te,(∀Z,CE c lv K t va sc N Z→PE Z e te)∧JT K te (eX t x)
 |.gc i g,sc,N,e,h=>by
  have hh:=av h;clear h;obtain⟨x,q,h⟩:=hh;obtain⟨p,rfl⟩:=iK q;have hh:=av h;clear h;obtain⟨⟨y,g'⟩,hf,h⟩:=hh;obtain⟨h1,h2,h3,h4,h0⟩:=iG h;cases aA h1;cases Gv.EG h3;by_cases hv:∃x,va[i]?=some x∧JT K (tC x) (jC g'.d)
  ·obtain⟨v,q1,q2⟩:=hv;refine⟨_,λZ E=>?_,q2⟩;obtain⟨v',u,k1,k2,k3,k4⟩:=E.gv i _ hf;rw[q1]at k1;cases k1;exact @vS _ _ _ _ _ (E.gl h2) k2 k3 (nb h4)
  ·refine⟨λ_ _ _=>True,λZ E=>?_,λ_ _ _ _ _ _ _ _ _ _ _=>trivial⟩;obtain⟨v',u,k1,k2,k3,k4⟩:=E.gv i _ hf;exact absurd ⟨v',k1,Tz h0 k4⟩ hv
 |.gi i l a,sc,N,e,h=>by
  have hh:=av h;clear h;obtain⟨⟨el,op,r⟩,q,h⟩:=hh;obtain⟨p,rfl⟩:=ph q;obtain⟨h1,h0,h2,h3⟩:=eF h;cases aA h1;obtain⟨ta,pa,ja⟩:=sX a h2;have hh:=av h3;clear h3;obtain⟨x,q,h3⟩:=hh;obtain⟨px,rfl⟩:=iK q;have hh:=av h3;clear h3;obtain⟨⟨y,g'⟩,hf,h3⟩:=hh;obtain⟨k1,k2,k3,k4⟩:=eF h3;cases aA k1;cases Gv.EG k3;by_cases hv:∃a,va[i]?=some (V.ref a)∧KU K a (l.map V.str)
  ·obtain⟨v,q1,q2⟩:=hv;refine⟨_,λZ E=>?_,Rr q2 ja⟩;obtain⟨v',u,w1,w2,w3,_⟩:=E.gv i _ hf;rw[q1]at w1;cases w1;exact B2 (Rq E.k) (pa Z E) (@vS _ _ _ _ _ (E.gl k2) w2 w3 (nb k4)) (k8 h0)
  ·refine⟨λ_ _ _=>True,λZ E=>?_,λ_ _ _ _ _ _ _ _ _ _ _=>trivial⟩;obtain⟨v',u,w1,w2,w3,w4⟩:=E.gv i _ hf;obtain⟨⟨b,rfl,w5⟩,_⟩:=w4;exact absurd ⟨b,w1,w5⟩ hv
 |.v i,sc,N,e,h=>by
  have hh:=av h;clear h;obtain⟨x,q,h⟩:=hh;obtain⟨p,rfl⟩:=iK q;obtain⟨h1,h2,h3,h4⟩:=eF h;have h1:=aA h1;have h2:=wK h2;exact⟨_,λZ E=>@lb _ _ _ _ (E.n▸h1) (E.sc▸h2) (nb h3) (nb h4),Dm⟩
 |.ki i,sc,N,e,h=>by
  have hh:=av h;clear h;obtain⟨k,q,h⟩:=hh;obtain⟨j,p,rfl⟩:=j1 q;have hh:=av h;clear h;obtain⟨y,q,h⟩:=hh;cases Tx q;cases aA h;exact⟨_,λZ E=>PN,jw rfl⟩
 |.ks i,sc,N,e,h=>by
  have hh:=av h;clear h;obtain⟨k,q,h⟩:=hh;obtain⟨j,p,rfl⟩:=j1 q;have hh:=av h;clear h;obtain⟨y,q,h⟩:=hh;cases xD q;cases aA h;exact⟨_,λZ E=>wy,jw rfl⟩
 |.kb i,sc,N,e,h=>by
  have hh:=av h;clear h;obtain⟨k,q,h⟩:=hh;obtain⟨j,p,rfl⟩:=j1 q;have hh:=av h;clear h;obtain⟨y,q,h⟩:=hh;cases EH q;cases aA h;exact⟨_,λZ E=>Eb,jw rfl⟩
 |.kn,sc,N,e,h=>by
  have hh:=av h;clear h;obtain⟨k,q,h⟩:=hh;obtain⟨j,p,rfl⟩:=j1 q;cases EI h;exact⟨_,λZ E=>C4,jw rfl⟩
 |.ty n,sc,N,e,h=>by
  have hh:=av h;clear h;obtain⟨x,q,h⟩:=hh;obtain⟨p,rfl⟩:=iK q;obtain⟨h1,h2,h3,h4⟩:=eF h;cases aA h1;obtain⟨q1,q2,q3⟩:=RJ h4;exact⟨_,λZ E=>@BR _ _ (.ty n) _ _ (E.gl h2) (E.mg h3) q1 rfl q2 q3,jw rfl⟩
 |.bo o a b,sc,N,e,h=>by
  have hh:=av h;clear h;obtain⟨⟨l,op,r⟩,q,h⟩:=hh;obtain⟨p,rfl⟩:=Ry q;obtain⟨h1,h2,h3⟩:=eZ h;cases aA h1;obtain⟨ta,pa,ja⟩:=sX a h2;obtain⟨tb,pb,jb⟩:=sX b h3;obtain⟨r,o1,o2⟩:=o.ok (K:=K);exact⟨_,λZ E=>Sv (o1 Z E.k) (pa Z E) (pb Z E),r9 o2 ja jb⟩
 |.co o a b,sc,N,e,h=>by
  have hh:=av h;clear h;obtain⟨⟨l,op,r⟩,q,h⟩:=hh;obtain⟨p,rfl⟩:=ph q;obtain⟨h1,h0,h2,h3⟩:=eF h;cases aA h1;obtain⟨ta,pa,ja⟩:=sX a h2;obtain⟨tb,pb,jb⟩:=sX b h3;obtain⟨r,o1,o2⟩:=o.ok (K:=K);exact⟨_,λZ E=>B2 (o1 Z E.k E.rm.units) (pa Z E) (pb Z E) (k8 h0),r9 o2 ja jb⟩
 |.uo o a,sc,N,e,h=>by
  have hh:=av h;clear h;obtain⟨⟨op,r⟩,q,h⟩:=hh;obtain⟨p,rfl⟩:=wM q;obtain⟨h1,h2⟩:=bL h;cases aA h1;obtain⟨ta,pa,ja⟩:=sX a h2;obtain⟨r,o1,o2⟩:=o.ok (K:=K);exact⟨_,λZ E=>Sw (o1 Z) (pa Z E),S2 o2 ja⟩
 |.ch o p a b d,sc,N,e,h=>by
  have hh:=av h;clear h;obtain⟨⟨l,op,op',m,r⟩,q,h⟩:=hh;obtain⟨p',rfl⟩:=DM q;obtain⟨h1,h2,h3,h4,h5,h6⟩:=uX h;cases aA h1;cases aA h2;obtain⟨ta,pa,ja⟩:=sX a h4;obtain⟨tb,pb,jb⟩:=sX b h5;obtain⟨td,pd,jd⟩:=sX d h6;obtain⟨r,o1,o2⟩:=o.ok (K:=K);obtain⟨r',zO,qK⟩:=p.ok (K:=K);exact⟨_,λZ E=>@Mw _ _ _ _ _ _ _ _ _ _ _ _ (o1 Z E.k E.rm.units) (zO Z E.k E.rm.units) (pa Z E) (pb Z E) (pd Z E) (nb h3),Bl o2 qK ja jb jd⟩
 |.an a b,sc,N,e,h=>by
  have hh:=av h;clear h;obtain⟨⟨x,y⟩,q,h⟩:=hh;obtain⟨m,rest,pos,rfl,w⟩:=rF q;obtain⟨h1,h2⟩:=bL h;obtain⟨ta,pa,ja⟩:=sX a h1;obtain⟨tb,pb,jb⟩:=sX b h2;refine⟨_,λZ E=>@PY _ _ _ _ tb _ _ (pa Z E) ?_,QC ja jb⟩;rcases w with⟨rfl,rfl⟩|rfl
  ·exact @C5 _ _ _ _ _ (pb Z E)
  ·exact pb Z E
 |.or a b,sc,N,e,h=>by
  have hh:=av h;clear h;obtain⟨⟨x,y⟩,q,h⟩:=hh;obtain⟨m,rest,pos,rfl,w⟩:=rF q;obtain⟨h1,h2⟩:=bL h;obtain⟨ta,pa,ja⟩:=sX a h1;obtain⟨tb,pb,jb⟩:=sX b h2;refine⟨_,λZ E=>@Sr _ _ _ _ tb _ _ (pa Z E) ?_,Ta ja jb⟩;rcases w with⟨rfl,rfl⟩|rfl
  ·exact @C5 _ _ _ _ _ (pb Z E)
  ·exact pb Z E
 |.nt a,sc,N,e,h=>by
  have hh:=av h;clear h;obtain⟨⟨op,r⟩,q,h⟩:=hh;obtain⟨p,rfl⟩:=wM q;obtain⟨h1,h2⟩:=bL h;cases aA h1;obtain⟨ta,pa,ja⟩:=sX a h2;exact⟨_,λZ E=>PZ (pa Z E),QD ja⟩
 |.ie t' a b,sc,N,e,h=>by
  have hh:=av h;clear h;obtain⟨⟨x,l,r⟩,q,h⟩:=hh;obtain⟨p,rfl⟩:=RA q;obtain⟨h1,h2,h3⟩:=eZ h;obtain⟨tq,pq,jq⟩:=sT t' h1;obtain⟨ta,pa,ja⟩:=sX a h2;obtain⟨tb,pb,jb⟩:=sX b h3;exact⟨_,λZ E=>Mt (pq Z E) (pa Z E) (pb Z E),QG jq ja jb⟩
 |.tu l,sc,N,e,h=>by
  have hh:=av h;clear h;obtain⟨es,q,h⟩:=hh;obtain⟨k,p,rfl⟩:=pj q;obtain⟨ta,pa,ja⟩:=sA l h;exact⟨_,λZ E=>C8 (pa Z E),Dq ja⟩
 |.li l,sc,N,e,h=>by
  have hh:=av h;clear h;obtain⟨es,q,h⟩:=hh;obtain⟨p,rfl⟩:=DN q;obtain⟨ta,pa,ja⟩:=sA l h;exact⟨_,λZ E=>rO (pa Z E),Dp ja⟩
 |.ix a b,sc,N,e,h=>by
  have hh:=av h;clear h;obtain⟨⟨l,r⟩,q,h⟩:=hh;obtain⟨p,rfl⟩:=wN q;obtain⟨h1,h2,h3⟩:=eZ h;obtain⟨ta,pa,ja⟩:=sX a h2;obtain⟨tb,pb,jb⟩:=sX b h3;exact⟨_,λZ E=>SQ (N8 E.k) (pa Z E) (pb Z E) (nc h1),r9 S9 ja jb⟩
 |.sl a lo hi,sc,N,e,h=>by
  have hh:=av h;clear h;obtain⟨⟨l,r⟩,q,h⟩:=hh;obtain⟨p,rfl⟩:=wN q;have hh:=av h;clear h;obtain⟨⟨XZ,X1⟩,q,h⟩:=hh;obtain⟨p',rfl⟩:=RB q;obtain⟨h1,h2,h3⟩:=eZ h;obtain⟨ta,pa,ja⟩:=sX a h1;obtain⟨tl,pl,jl⟩:=sP lo h2;obtain⟨tu,pu,ju⟩:=sP hi h3;exact⟨_,λZ E=>MD (UD E.k) (pa Z E) (pl Z E) (pu Z E),Tc Tg ja jl ju⟩
 |.xa a f cs,sc,N,e,h=>by
  have hh:=av h;clear h;obtain⟨⟨o,f'⟩,q,h⟩:=hh;obtain⟨p,rfl⟩:=DK q;obtain⟨h1,h2,h3,h4,h5⟩:=iG h;cases aA h1;cases aA h3;obtain⟨ta,pa,ja⟩:=sX a h5;by_cases hv:XT K c.xs
  ·exact⟨uP K ta f',λZ E=>E.k▸EF (pa Z E) (fq h2),EE (hv.Hw h4) ja⟩
  ·exact⟨λ_ _ _=>True,λZ E=>absurd E.xt hv,λ_ _ _ _ _ _ _ _ _ _ _=>trivial⟩
 |.is a cn cs,sc,N,e,h=>by
  have hh:=av h;clear h;obtain⟨⟨x,as⟩,q,h⟩:=hh;obtain⟨p,cp,rfl,mD⟩:=jo q;obtain⟨h1,h2,h3,h4,h5⟩:=iG h;cases aA h1;cases aA h4;have hh:=av h5;clear h5;obtain⟨⟨z1,z2⟩,q,h5⟩:=hh;cases sJ q;obtain⟨h5,h6⟩:=bL h5;have hh:=av h6;clear h6;obtain⟨x,q,h6⟩:=hh;obtain⟨px,rfl⟩:=iK q;obtain⟨k1,k2,k3,k4⟩:=eF h6;cases aA k1;obtain⟨ta,pa,ja⟩:=sX a h5;obtain⟨s1,s2⟩:=all1 mD;by_cases hv:XT K c.xs
  ·by_cases hm:∃e∈c.xs,e.nm=cn
   ·obtain⟨e',he,rfl⟩:=hm;obtain⟨C',hC,_⟩:=hv.at_ e' he;refine⟨_,λZ E=>?_,DJ (vc:=.ref C') (hv.V3 he hC) ja⟩;exact @kY _ _ _ _ _ _ _ _ _ (Bw E.k (vc:=.ref C') (c:=.ref C') λu z=>z) (E.gl h2) (E.mg h3) PyProof.Rows.Boot.«isinstance» (@jf _ _ _ _ _ (pa Z E) (@jf _ _ _ _ _ (@vS _ _ _ _ _ (E.gl k2) (E.xm e' he C' hC) rfl (nb k3)) jX (bu rfl)) (bu s1)) (by decide) (by decide) (bu s1) (fK s2 _)
   ·have k5:cn = "ValueError" ∧ c.bs.contains "ValueError" = true:=by
     rcases Bool.or_eq_true_iff.mp k4 with z|z
     ·obtain⟨e',he,hn⟩:=uf.mp z;exact absurd ⟨e',he,beq_iff_eq.mp hn⟩ hm
     ·obtain⟨z1,z2⟩:=bL z;exact⟨beq_iff_eq.mp z1,z2⟩
    obtain⟨rfl,k5⟩:=k5;refine⟨_,λZ E=>?_,DJ (vc:=.ty "ValueError") hv.V4 ja⟩;exact @kY _ _ _ _ _ _ _ _ _ (Bw E.k (vc:=.ty "ValueError") (c:=.type "ValueError") λu z=>z) (E.gl h2) (E.mg h3) PyProof.Rows.Boot.«isinstance» (@jf _ _ _ _ _ (pa Z E) (@jf _ _ _ _ _ (@BR _ _ _ _ _ (E.gl k2) (E.mg k5) PyProof.Rows.Boot.«ValueError» rfl (by decide) (nb k3)) jX (bu rfl)) (bu s1)) (by decide) (by decide) (bu s1) (fK s2 _)
  ·exact⟨λ_ _ _=>True,λZ E=>absurd E.xt hv,λ_ _ _ _ _ _ _ _ _ _ _=>trivial⟩
 |.ms m o l,sc,N,e,h=>by
  have hh:=av h;clear h;obtain⟨⟨o',as⟩,q,h⟩:=hh;obtain⟨ap,cp,rfl,h2,h3,h4⟩:=EJ q;have hh:=av h;clear h;obtain⟨a,q1,h⟩:=hh;cases j2 q1;obtain⟨h5,h6⟩:=bL h;obtain⟨td,pd,jd⟩:=sX o h5;obtain⟨tk,pk,jk⟩:=sA l h6;obtain⟨r,q1,_,q2⟩:=Ms.ok (K:=K) m;exact⟨_,λZ E=>q1 Z E.k h2 h3 (all1 h4).1 (pd Z E) (pk Z E),QR q2 jd jk⟩
 |.fb f l,sc,N,e,h=>by
  have hh:=av h;clear h;obtain⟨⟨x,as⟩,q,h⟩:=hh;obtain⟨p,cp,rfl,h4⟩:=jo q;obtain⟨h1,h2,h3,h0,h6⟩:=iG h;cases aA h1;obtain⟨a,r,rfl⟩:=rG h0;obtain⟨h4,h5⟩:=all1 h4;obtain⟨ta,pa,ja⟩:=sA l h6;obtain⟨r,q1,q2⟩:=Fb.ok (c:=c) (lv:=lv) (t:=t) (va:=va) (K:=K) f;exact⟨_,λZ E=>q1 Z E h2 h3 h4 h5 (pa Z E),Tb q2 ja⟩
 |.ca f l,sc,N,e,h=>by
  have hh:=av h;clear h;obtain⟨⟨x,as⟩,q,h⟩:=hh;obtain⟨p,cp,rfl,mD⟩:=jo q;have hh:=av h;clear h;obtain⟨i,hf,h⟩:=hh;obtain⟨h1,h2,h3,h4,h5,jP,h0,h8⟩:=zN h;obtain⟨a,r,rfl⟩:=rG h0;obtain⟨h6,h7⟩:=all1 mD;have h1:=aA h1;obtain⟨ta,pa,ja⟩:=sA l h8;have hl:=yo (t:=t) h8;rw[show(a::r).length=i.ar from aA h5]at hl;refine⟨xh (mj K i.ar (FT.f t[f]?)) [] E0 ta,λZ E=>?_,Oz ja hl⟩;obtain⟨F,hF,q⟩:=E.fs f i hf;cases F with
  |io l F=>rw[eE,aA jP]at q;cases q.1.1
  |oo F=>rw[eE,aA jP]at q;cases q.1
  |al F=>rw[eE,aA jP]at q;cases q.1
  |x F=>rw[eE,aA jP]at q;cases q.1
  |p F =>
   obtain⟨_,a,fd,ps,k1,k2,k3,k4⟩:=q;rw[←h1]at k2;rw[hF,←E.k];exact @NW _ _ _ _ _ _ _ _ _ _ _ _ _ _ _ _ k1 (E.rm.mono (aA h4)) (E.gl h2) k2 k3 k4.1 .nil cT (pa Z E) (nb h3) (bu h6) (fK h7 _)
 |.cp i ix t' d,sc,N,e,h=>by
  have hh:=av h;clear h;obtain⟨⟨el,x,px,it,ifs,aj,ep⟩,q,h⟩:=hh;cases wg q;obtain⟨h1,h2,h3,h4,h5⟩:=iG h;have h1:=wL h1;obtain⟨ti,pi,ji⟩:=sI i h3;obtain⟨te,pe,je⟩:=sX d h5;have h4:(ifs.isEmpty=true∧zM t'=true)∨(on (l1 ifs) λy=>kT c lv t' (rl sc aj) (ns N x ix) y)=true:=by simpa using h4
  rcases h4 with⟨w1,w2⟩|h4
  ·cases gK.mp w1;cases t'<;>first|exact absurd w2 aU|skip
   exact⟨_,λZ E=>@rD _ (ns N x ix) _ _ ix _ _ _ _ _ _ _ _ (by rw[E.n,E.sc];exact h1) E.calm (pi Z (.Name x px) E (λz=>absurd z aU)) (λC s₂ H₂ fp pn=>rC) (λC s₂ H₂ fp pn=>pe _ E.bG) (k9 h2),rE ji Cu je⟩
  ·have hh:=av h4;clear h4;obtain⟨y,q,h4⟩:=hh;cases j2 q;obtain⟨tq,pq,jq⟩:=sT t' h4;exact⟨_,λZ E=>@rD _ (ns N x ix) _ _ ix _ _ _ _ _ _ _ _ (by rw[E.n,E.sc];exact h1) E.calm (pi Z (.Name x px) E (λz=>absurd z aU)) (λC s₂ H₂ fp pn=>B8 (pq _ E.bG)) (λC s₂ H₂ fp pn=>pe _ E.bG) (k9 h2),rE ji jq je⟩
theorem V5:∀(l:Pp) {sc:Scope}{N:List Str}{ks:List (Option Expr)}{vs:List Expr},Hv c lv l sc N ks vs=true→∃ts,(∀Z pos,CE c lv K t va sc N Z→ux Z pos ks vs ts∧ks.all (·.isSome)=true∧ks.length=vs.length)∧uN K ts (He t l)
 |.n,_,_,ks,vs,h=>by
  obtain⟨h1,h2⟩:=bL h;cases gK.mp h1;cases gK.mp h2;exact⟨_,λ_ _ _=>⟨N5,rfl,rfl⟩,.nil⟩
 |.c a b l,sc,N,ks,vs,h=>by
  have hh:=av h;clear h;obtain⟨⟨k,ks⟩,q,h⟩:=hh;cases jj q;have hh:=av h;clear h;obtain⟨k1,q,h⟩:=hh;have q:k=some k1:=q;subst q;have hh:=av h;clear h;obtain⟨⟨v,vs⟩,q,h⟩:=hh;cases jj q;obtain⟨h1,h2,h3⟩:=eZ h;obtain⟨ta,pa,ja⟩:=sX a h1;obtain⟨tb,pb,jb⟩:=sX b h2;obtain⟨tl,pl,jl⟩:=V5 l h3;exact⟨_,λZ pos E=>(let ⟨x,y,z⟩:=pl Z pos E;⟨MF (pa Z E) (pb Z E) x,y,by rw[b7,b7,z]⟩),.cons ja jb jl⟩
theorem sA:∀(l:A) {sc:Scope}{N:List Str}{es:List Expr},kA c lv l sc N es=true→∃ta,(∀Z,CE c lv K t va sc N Z→PA Z es ta)∧eY K ta (eA t l)
 |.n,_,_,es,h=>by
  cases gK.mp h;exact⟨_,λ_ _=>jX,Ci⟩
 |.c a l,sc,N,es,h=>by
  have hh:=av h;clear h;obtain⟨⟨e,r⟩,q,h⟩:=hh;cases jj q;obtain⟨h0,h1,h2⟩:=eZ h;obtain⟨ta,pa,ja⟩:=sX a h1;obtain⟨tl,pl,jl⟩:=sA l h2;exact⟨_,λZ E=>@jf _ _ _ _ _ (pa Z E) (pl Z E) (bu h0),Bk ja jl⟩
theorem sT:∀(q:T) {sc:Scope}{N:List Str}{e:Expr},kT c lv q sc N e=true→∃tt,(∀Z,CE c lv K t va sc N Z→PT Z e tt)∧dM K tt (eT t q)
 |.b x,sc,N,e,h=>by
  obtain⟨h1,h2⟩:=bL h;obtain⟨ta,pa,ja⟩:=sX x h2;exact⟨_,λZ E=>@Ls _ K _ _ E.k (pa Z E) (Rx h1),Lx ja⟩
 |.c o a b,sc,N,e,h=>by
  have hh:=av h;clear h;obtain⟨⟨l,op,r⟩,q,h⟩:=hh;obtain⟨p,rfl⟩:=ph q;obtain⟨h1,h0,h2,h3⟩:=eF h;cases aA h1;obtain⟨ta,pa,ja⟩:=sX a h2;obtain⟨tb,pb,jb⟩:=sX b h3;obtain⟨r,o1,o2⟩:=o.ok (K:=K);exact⟨_,λZ E=>NT (o1 Z E.k E.rm.units) (pa Z E) (pb Z E) (k8 h0),Bj (r9 o2 ja jb)⟩
 |.d n a b,sc,N,e,h=>by
  have hh:=av h;clear h;obtain⟨⟨l,op,r⟩,q,h⟩:=hh;obtain⟨p,rfl⟩:=ph q;obtain⟨h1,h0,h2,h3⟩:=eF h;cases aA h1;obtain⟨ta,pa,ja⟩:=sX a h2;obtain⟨tb,pb,jb⟩:=sX b h3;cases n with
  |false=>exact⟨_,λZ E=>@rN _ _ _ _ _ _ (De (rY E.rm) (pa Z E) (pb Z E)) (k8 h0),pG (Rk ja jb)⟩
  |true=>exact⟨_,λZ E=>@rN _ _ _ _ _ _ (A4 (rY E.rm) (pa Z E) (pb Z E)) (k8 h0),pG (L0 ja jb)⟩
 |.t n a b,sc,N,e,h=>by
  have hh:=av h;clear h;obtain⟨⟨l,op,r⟩,q,h⟩:=hh;obtain⟨p,rfl⟩:=ph q;obtain⟨h1,h0,h2,h3⟩:=eF h;cases aA h1;obtain⟨ta,pa,ja⟩:=sX a h2;obtain⟨tb,pb,jb⟩:=sX b h3;cases n with
  |false=>exact⟨_,λZ E=>@rN _ _ _ _ _ _ (De (rY E.rm) (pa Z E) (pb Z E)) (k8 h0),pG (Rm ja jb)⟩
  |true=>exact⟨_,λZ E=>@rN _ _ _ _ _ _ (A4 (rY E.rm) (pa Z E) (pb Z E)) (k8 h0),pG (L5 ja jb)⟩
 |.h o p a b d,sc,N,e,h=>by
  have hh:=av h;clear h;obtain⟨⟨l,op,op',m,r⟩,q,h⟩:=hh;obtain⟨p',rfl⟩:=DM q;obtain⟨h1,h2,h3,h4,h5,h6⟩:=uX h;cases aA h1;cases aA h2;obtain⟨ta,pa,ja⟩:=sX a h4;obtain⟨tb,pb,jb⟩:=sX b h5;obtain⟨td,pd,jd⟩:=sX d h6;obtain⟨r,o1,o2⟩:=o.ok (K:=K);obtain⟨r',zO,qK⟩:=p.ok (K:=K);exact⟨_,λZ E=>@Mx _ _ _ _ _ _ _ _ _ _ _ _ (o1 Z E.k E.rm.units) (zO Z E.k E.rm.units) (pa Z E) (pb Z E) (pd Z E) (nb h3),Bj (Bl o2 qK ja jb jd)⟩
 |.an a b,sc,N,e,h=>by
  have hh:=av h;clear h;obtain⟨⟨x,y⟩,q,h⟩:=hh;obtain⟨m,rest,pos,rfl,w⟩:=rF q;obtain⟨h1,h2⟩:=bL h;obtain⟨ta,pa,ja⟩:=sT a h1;obtain⟨tb,pb,jb⟩:=sT b h2;refine⟨_,λZ E=>@PW.pt _ _ _ (@PR _ _ _ _ _ tb _ (pa Z E) ?_),Oi ja jb⟩;rcases w with⟨rfl,rfl⟩|rfl
  ·exact @NK _ _ _ _ (pb Z E)
  ·exact ER (pb Z E)
 |.or a b,sc,N,e,h=>by
  have hh:=av h;clear h;obtain⟨⟨x,y⟩,q,h⟩:=hh;obtain⟨m,rest,pos,rfl,w⟩:=rF q;obtain⟨h1,h2⟩:=bL h;obtain⟨ta,pa,ja⟩:=sT a h1;obtain⟨tb,pb,jb⟩:=sT b h2;refine⟨_,λZ E=>@PW.pt _ _ _ (@Sq _ _ _ _ _ tb _ (pa Z E) ?_),QF ja jb⟩;rcases w with⟨rfl,rfl⟩|rfl
  ·exact @PQ _ _ _ _ (pb Z E)
  ·exact ER (pb Z E)
 |.nt a,sc,N,e,h=>by
  have hh:=av h;clear h;obtain⟨⟨op,r⟩,q,h⟩:=hh;obtain⟨p,rfl⟩:=wM q;obtain⟨h1,h2⟩:=bL h;cases aA h1;obtain⟨ta,pa,ja⟩:=sT a h2;exact⟨_,λZ E=>PV (pa Z E),Oj ja⟩
 |.y,sc,N,e,h=>absurd h aU
theorem sP:∀(l:P) {sc:Scope}{N:List Str}{e:Option Expr},kP c lv l sc N e=true→∃ta,(∀Z,CE c lv K t va sc N Z→PO Z e ta)∧qy K ta (eP t l)
 |.n,_,_,o,h=>by
  cases o with
  |some _=>cases h
  |none=>exact⟨_,λ_ _=>NZ,MT⟩
 |.s x,sc,N,o,h=>by
  have hh:=av h;clear h;obtain⟨e,rfl,h⟩:=hh;obtain⟨ta,pa,ja⟩:=sX x h;exact⟨_,λZ E=>N0 (pa Z E),MV ja⟩
theorem sI:∀(i:I) {tg:Bool}{sc:Scope}{N:List Str}{e:Expr},kI c lv i tg sc N e=true→∃ti,(∀Z g,CE c lv K t va sc N Z→(tg=true→xC g=true)→PI Z g e ti)∧JI K ti (eI t i)
 |.r1 l,tg,sc,N,e,h=>by
  have hh:=av h;clear h;obtain⟨⟨x,as⟩,q,h⟩:=hh;obtain⟨p,cp,rfl,h4⟩:=jo q;obtain⟨h1,h2,h3,h0,h5⟩:=iG h;cases aA h1;obtain⟨a,rfl⟩:=FW (aA h0);obtain⟨ta,pa,ja⟩:=sA l h5;exact⟨_,λZ g E _=>@Ld _ _ _ _ _ _ (E.gl h2) (E.mg h3) (pa Z E) (bu (all1 h4).1),Ow ja⟩
 |.en l,tg,sc,N,e,h=>by
  have hh:=av h;clear h;obtain⟨⟨x,as⟩,q,h⟩:=hh;obtain⟨p,cp,rfl,h4⟩:=jo q;obtain⟨h0,h1,h2,h3,h6,h5⟩:=uX h;cases aA h1;obtain⟨a,rfl⟩:=FW (aA h6);obtain⟨ta,pa,ja⟩:=sA l h5;refine⟨_,λZ g E hg=>?_,O4 ja⟩;have hg:=hg h0;cases g<;>first|exact absurd hg aU|skip
  exact @Nb _ K _ _ _ _ _ _ _ E.k (E.gl h2) (E.mg h3) (pa Z E) (bu (all1 h4).1)
 |.s x,tg,sc,N,e,h=>by
  obtain⟨ta,pa,ja⟩:=sX x (e:=e) h;exact⟨_,λZ g E _=>Qq (pa Z E),Rg ja⟩
 |.t x,tg,sc,N,e,h=>by
  obtain⟨ta,pa,ja⟩:=sX x (e:=e) h;exact⟨_,λZ g E _=>O6 E.k (pa Z E),QM ja⟩
 |.l x,tg,sc,N,e,h=>by
  obtain⟨ta,pa,ja⟩:=sX x (e:=e) h;exact⟨_,λZ g E _=>MH E.k (pa Z E),Ov ja⟩
end
end
noncomputable def loc(sc:Scope)(x:Str):Bool:=match sc.names.lookup x with
 |some .local=>true
 |some .cell=>true
 |_=>false
theorem pw{sc:Scope}{x:Str}(h:loc sc x=true):L2.Loc sc x:=by
 unfold loc at h;unfold L2.Loc;split at h<;>first|exact absurd h aU|simp_all
mutual
noncomputable def kG:G→Scope→List Str→Expr→Bool
 |.n i,sc,N,e=>on (jO e) λx=>decide (N[i]?=some x)&&loc sc x
 |.t k l,sc,N,e=>on (qI e) λes=>decide (es.length=k)&&es.all b9&&uZ l sc N es
 |.l k l,sc,N,e=>on (qI e) λes=>decide (es.length=k)&&es.all b9&&uZ l sc N es
noncomputable def uZ:Gs→Scope→List Str→List Expr→Bool
 |.n,_,_,es=>es.isEmpty
 |.c g l,sc,N,es=>on (kR es) λq=>b9 q.1&&kG g sc N q.1&&uZ l sc N q.2
end
noncomputable def FX:Expr→Bool
 |.List [] _=>true
 |_=>false
theorem Pr{e:Expr}(h:FX e=true):∃p,e=.List [] p:=by
 cases e with
 |List es p=>cases es<;>cases h;exact⟨_,rfl⟩
 |_=>cases h
noncomputable def u3:Stmt→Option (Expr×Expr×Pos)
 |.Assign [tg] e pos=>some (tg,e,pos)
 |_=>none
def mE(st:Stmt):Option (Str×Expr):=(u3 st).bind λq=>(jO q.1).map λx=>(x,q.2.1)
noncomputable def zP:Stmt→Option Expr
 |.Raise (some e) none _=>some e
 |_=>none
noncomputable def zQ:Stmt→Option (Stmt×Str×Option Str×List Stmt)
 |.Try [st] [.ExceptHandler (some (.Name cn _)) nm (b::suite) _] [] [] _=>some (st,cn,nm,b::suite)
 |_=>none
theorem RK{st:Stmt}{e:Expr}(h:zP st=some e):∃p,st=.Raise (some e) none p:=by
 unfold zP at h;split at h
 ·cases h;exact⟨_,rfl⟩
 ·cases h
theorem RL{st s1:Stmt}{cn:Str}{nm:Option Str}{su:List Stmt}(h:zQ st=some (s1,cn,nm,su)):∃b suite np hp p,su=b::suite∧st=.Try [s1] [.ExceptHandler (some (.Name cn np)) nm (b::suite) hp] [] [] p:=by
 unfold zQ at h;split at h
 ·cases h;exact⟨_,_,_,_,_,rfl,rfl⟩
 ·cases h
def V6(e:Xk):Bool:=pU e.ns (cu e.st)&&!e.ns.isEmpty&&decide (e.ns.length≤100)&&e.ns.all okN&&decide ((aW e.st).kind=.function∧(aW e.st).isCoroutine=false∧(aW e.st).isGenerator=false∧(("self" : Str)::e.ns).Nodup∧(∀y∈(aW e.st).names,y.2≠.free)∧∀n∈("self" : Str)::e.ns,(aW e.st).names.lookup n=some .local)
noncomputable def zR:Stmt→Option Expr
 |.Expr e _=>some e
 |_=>none
noncomputable def Hy:Stmt→Option (Option Expr)
 |.Return e _=>some e
 |_=>none
noncomputable def Hz:Stmt→Option (Expr×List Stmt×List Stmt)
 |.If e a b _=>some (e,a,b)
 |_=>none
noncomputable def HB:Stmt→Option (Expr×Expr×List Stmt)
 |.For tg it b [] _=>some (tg,it,b)
 |_=>none
noncomputable def V7:Stmt→Nat
 |.Raise ..=>1
 |.Pass _=>2
 |.Break _=>3
 |.Continue _=>4
 |_=>0
theorem wO{st:Stmt}{q:Expr×Expr×Pos}(h:u3 st=some q):st=.Assign [q.1] q.2.1 q.2.2:=by
 cases st with
 |Assign ts e p=>rcases ts with _|⟨a,_|⟨b,l⟩⟩<;>cases h;rfl
 |_=>cases h
theorem m3{st:Stmt}{y:Str}{e:Expr}(h:mE st=some (y,e)):∃p pos,st=.Assign [.Name y p] e pos:=by
 obtain⟨q,h1,h⟩:=fm h;obtain⟨x,h2,h⟩:=pf h;cases h;obtain⟨p,e⟩:=iK h2;exact⟨p,q.2.2,by rw[wO h1,e]⟩
theorem DQ{st:Stmt}{e:Expr}(h:zR st=some e):∃p,st=.Expr e p:=by
 cases st<;>cases h;exact⟨_,rfl⟩
theorem RM{st:Stmt}{e:Option Expr}(h:Hy st=some e):∃p,st=.Return e p:=by
 cases st<;>cases h;exact⟨_,rfl⟩
theorem RN{st:Stmt}{e:Expr}{a b:List Stmt}(h:Hz st=some (e,a,b)):∃p,st=.If e a b p:=by
 cases st<;>cases h;exact⟨_,rfl⟩
theorem RP{st:Stmt}{a b:Expr}{l:List Stmt}(h:HB st=some (a,b,l)):∃p,st=.For a b l [] p:=by
 cases st with
 |For a b l o p=>cases o<;>cases h;exact⟨_,rfl⟩
 |_=>cases h
noncomputable def u5(c:Cf)(lv:Nat)(f:Nat)(l:A)(sc:Scope)(N:List Str)(e:Expr):Bool :=
 on (eN e) λq=>on c.fs[f]? λi=>decide (q.1=i.nm)&&gl sc q.1&&!(q.1 == "__debug__")&&decide (i.lv≤lv)&&decide (q.2.length=i.ar)&&decide (i.io=some [1001])&&!q.2.isEmpty&&kA c lv l sc N q.2
def zS(c:Cf)(lv:Nat):L→Scope→List Str→Stmt→Bool
 |.xc .d f l,sc,N,st=>on (zR st) λe=>u5 c lv f l sc N e
 |.xc (.s i) f l,sc,N,st=>on (mE st) λs=>decide (N[i]?=some s.1)&&loc sc s.1&&u5 c lv f l sc N s.2
 |.xc (.p i a) f l,sc,N,st=>on (mE st) λs=>on (qI s.2) λes=>on (l2 es) λz=>decide (N[i]?=some s.1)&&loc sc s.1&&kX c lv (.ks a) sc N z.1&&u5 c lv f l sc N z.2
 |_,_,_,_=>false
def kL(c:Cf)(lv:Nat):L→Scope→List Str→Stmt→Bool
 |.xc k f l,sc,N,st=>zS c lv (.xc k f l) sc N st
 |.rz n ns l,sc,N,st=>on (zP st) λe=>on (eN e) λq=>decide (q.1=n)&&gl sc n&&!(n == "__debug__")&&c.xs.any (λx=>decide (x.nm=n)&&decide (x.ns=ns)&&V6 x)&&decide (2≤lv)&&!q.2.isEmpty&&kA c lv l sc N q.2
 |.rt x,sc,N,st=>on (Hy st) λo=>on o λe=>kX c lv x sc N e
 |.nv,_,_,st=>decide (V7 st=1)
 |.st i x,sc,N,st=>on (mE st) λs=>decide (N[i]?=some s.1)&&loc sc s.1&&pI s.2&&kX c lv x sc N s.2
 |.sc j i ix q e,sc,N,st=>on (mE st) λs=>decide (N[j]?=some s.1)&&loc sc s.1&&kX c lv (.cp i ix q e) sc N s.2
 |.as g x,sc,N,st=>on (u3 st) λs=>xC s.1&&qH s.2.1&&kG g sc N s.1&&kX c lv x sc N s.2.1
 |.si k i x,sc,N,st=>on (u3 st) λs=>on (uW s.1) λu=>uU u.2&&pI s.2.1&&kX c lv (.v k) sc N u.1&&kX c lv i sc N u.2&&kX c lv x sc N s.2.1
 |.ap k x,sc,N,st=>on (zR st) λe=>on (eM "append" e) λq=>on (l1 q.2) λa=>kX c lv (.v k) sc N q.1&&kX c lv x sc N a
 |.ne i it,sc,N,st=>on (mE st) λs=>on (yn s.2) λq=>decide (N[i]?=some s.1)&&loc sc s.1&&q.2.2.2.2.1.isEmpty&&FX q.1&&zI N (ns N q.2.1 []) sc q.2.2.2.2.2.1 q.2.1 []&&(ia q.2.2.2.1&&kI c lv it false sc N q.2.2.2.1)
mutual
noncomputable def u6:X→Bool
 |.v _=>true
 |.ks _=>true
 |.kb _=>true
 |.kn=>true
 |.tu l=>tQ l
 |.li l=>tQ l
 |.xa a _ _=>u6 a
 |_=>false
noncomputable def tQ:A→Bool
 |.n=>true
 |.c a l=>u6 a&&tQ l
end
def zT(c:Cf)(lv:Nat):List (Nat×X)→Scope→List Str→List Stmt→Bool
 |[],_,_,[]=>true
 | (i,x)::h,sc,N,st::ss=>on (mE st) (λs=>decide (N[i]?=some s.1)&&loc sc s.1&&pI s.2&&u6 x&&kX c lv x sc N s.2)&&zT c lv h sc N ss
 |_,_,_,_=>false
noncomputable def V8(sc:Scope)(N:List Str):Option Nat→Option Str→Bool
 |some i,some n=>decide (N[i]?=some n)&&decide (sc.names.lookup n=some .local)
 |none,none=>true
 |_,_=>false
mutual
noncomputable def kS(c:Cf)(lv:Nat):S→Scope→List Str→Stmt→Bool
 |.tr b i cs h,sc,N,st=>on (zQ st) λq=>zS c lv b sc N q.1&&gl sc q.2.1&&!(q.2.1 == "__debug__")&&c.xs.any (·.nm==q.2.1)&&decide (cs=(c.xs.filter λe=>e.up.contains q.2.1).map (·.nm))&&V8 sc N i q.2.2.1&&zT c lv h sc N q.2.2.2
 |.l x,sc,N,st=>kL c lv x sc N st
 |.ie t a b,sc,N,st=>on (Hz st) λq=>kT c lv t sc N q.1&&kB c lv a sc N q.2.1&&kB c lv b sc N q.2.2
 |.fo i g b,sc,N,st=>on (HB st) λq=>kI c lv i (xC q.1) sc N q.2.1&&ia q.2.1&&kG g sc N q.1&&kB c lv b sc N q.2.2
 |.fz _ s,sc,N,st=>kS c lv s sc N st
noncomputable def kB(c:Cf)(lv:Nat):B→Scope→List Str→List Stmt→Bool
 |.n,_,_,ss=>ss.isEmpty
 |.o s,sc,N,ss=>on (l1 ss) λst=>kS c lv s sc N st
 |.c s b,sc,N,ss=>on (kR ss) λq=>kS c lv s sc N q.1&&kB c lv b sc N q.2
end
structure CS (c:Cf)(lv:Nat)(K:PySem.W.Frag)(Z0:XK)(t:List FT)(va:List V)(sc:Scope)(N:List Str)(Z:Cx):Prop where
 e:CE c lv K t va sc N Z
 nd:N.Nodup
 fn:∀x,Z.fn x=true
 po:PassesOwn (model Z.prog Z.w) Z.A Z.env Z.xe
 kd:sc.kind=.function
 V9:Lv Z Z0
 xc:∀st ts,jI Z st ts→PS Z st (ts λ_=>Z0)
 HC:Z.stack=Z.env::Z.outer∧Z.env.frame=some Z.env.locals
section
variable {c:Cf}{lv:Nat}{K:PySem.W.Frag}{t:List FT}{va:List V}
theorem sV{k:Nat}{sc:Scope}{N:List Str}{e:Expr}(h:kX c lv (.v k) sc N e=true)(Z:Cx)(E:CE c lv K t va sc N Z):PE Z e (pN k):=by
 have hh:=av h;clear h;obtain⟨x,q,h⟩:=hh;obtain⟨p,rfl⟩:=iK q;obtain⟨h1,h2,h3,h4⟩:=eF h;have h1:=aA h1;have h2:=wK h2;exact @lb _ _ _ _ (E.n▸h1) (E.sc▸h2) (nb h3) (nb h4)
theorem A9{e:Expr}(h:b9 e=true){es:List Expr}{env:Env}:assignEach (e::es) env=(false,assign e env)::assignEach es env:=by
 cases e<;>first|rfl|cases h
theorem oO{env:Env}:∀{es:List Expr},es.all b9=true→(assignEach es env).length=es.length∧(assignEach es env).findIdx? (λx=>x.1)=none
 |[],_=>⟨rfl,rfl⟩
 |e::es,h=>by
  rw[lP,jA]at h;obtain⟨h1,h2⟩:=oO (env:=env) h.2;rw[A9 h.1];refine⟨by simp[h1],?_⟩;rw[List.findIdx?_cons,h2];rfl
mutual
theorem sG:∀(g:G) {sc:Scope}{N:List Str}{e:Expr},kG g sc N e=true→∃tg,(∀Z,CS c lv K Z0 t va sc N Z→PG Z e tg)∧JG K tg (eG g)
 |.n i,sc,N,e,h=>by
  have hh:=av h;clear h;obtain⟨x,q,h⟩:=hh;obtain⟨p,rfl⟩:=iK q;obtain⟨h1,h2⟩:=bL h;have h1:=aA h1;exact⟨_,λZ E=>@BV _ _ i _ (E.e.n▸E.nd) (E.e.n▸h1) (E.e.sc▸pw h2) (.inl (E.fn _)),Ox⟩
 |.t k l,sc,N,e,h=>by
  have hh:=av h;clear h;obtain⟨es,q,h⟩:=hh;obtain⟨k',p,rfl⟩:=pj q;obtain⟨h1,h2,h3⟩:=eZ h;cases aA h1;obtain⟨tg,pg,jg⟩:=zU l h3;exact⟨_,λZ E=>E.e.k▸@P1 _ _ _ _ _ _ E.e.calm (pg Z E) (oO h2).1 (oO h2).2,QN jg⟩
 |.l k l,sc,N,e,h=>by
  have hh:=av h;clear h;obtain⟨es,q,h⟩:=hh;obtain⟨k',p,rfl⟩:=pj q;obtain⟨h1,h2,h3⟩:=eZ h;cases aA h1;obtain⟨tg,pg,jg⟩:=zU l h3;exact⟨_,λZ E=>E.e.k▸@Qp _ _ _ _ _ _ E.e.calm (pg Z E) (oO h2).1 (oO h2).2,Rb jg⟩
theorem zU:∀(l:Gs) {sc:Scope}{N:List Str}{es:List Expr},uZ l sc N es=true→∃tg,(∀Z,CS c lv K Z0 t va sc N Z→nW Z es tg)∧oa K tg (uT l)
 |.n,_,_,es,h=>by
  cases gK.mp h;exact⟨_,λ_ _=>NR,Oy⟩
 |.c g l,sc,N,es,h=>by
  have hh:=av h;clear h;obtain⟨⟨e,r⟩,q,h⟩:=hh;cases jj q;obtain⟨h0,h1,h2⟩:=eZ h;obtain⟨ta,pa,ja⟩:=sG g h1;obtain⟨tl,pl,jl⟩:=zU l h2;exact⟨_,λZ E=>@Mu _ _ _ _ _ (pa Z E) (pl Z E) (by rw[A9 h0];rfl),M3 ja jl⟩
end
theorem ng{e:Expr}{o:Option Expr}{n:Nat}{env:Env}(h:pI e=true):swapsWith e o n env=pure false:=by
 cases e<;>first|rfl|cases h
end
end C
set_option maxHeartbeats 4000000
namespace C
open PySem PySem.Spec L2 J
section
variable {c:Cf}{lv:Nat}{K:PySem.W.Frag}{t:List FT}{va:List V}
theorem CF{el:Expr}{gs:List Comprehension}{aj:Scope}{ep py:Pos}{y:Str}{n:Nat}{env:Env} :
  swapsWith (.ListComp el gs aj ep) (some (.Name y py)) n env=pure true∧env.scope.names.lookup y=some .local∨swapsWith (.ListComp el gs aj ep) (some (.Name y py)) n env=pure false:=by
 have e:swapsWith (.ListComp el gs aj ep) (some (.Name y py)) n env=pure (env.blockKind==.function&&env.kindOf y==some .local&&py.line==ep.line&&!(aj.names.any λx=>match x with | (n,k)=>n==y&&(k==NameKind.local||k==NameKind.cell))):=rfl
 rw[e];generalize hb:(env.blockKind==.function&&env.kindOf y==some .local&&py.line==ep.line&&!(aj.names.any λx=>match x with | (n,k)=>n==y&&(k==NameKind.local||k==NameKind.cell)))=b
 cases b with
 |false=>exact .inr rfl
 |true =>
  obtain⟨_,h,_,_⟩:=eF hb;exact .inl ⟨rfl,by simpa[Env.kindOf]using h⟩
theorem Wa{i:I}{ix:List Nat}{t':T}{d:X}{sc:Scope}{N:List Str}{e:Expr}(h:kX c lv (.cp i ix t' d) sc N e=true) :
  ∃el x px it ifs aj ep wi tc te,e=.ListComp el [⟨.Name x px,it,ifs,0⟩] aj ep∧(∀Z,CE c lv K t va sc N Z→jh Z.N (ns N x ix) Z.env.scope aj x ix∧PI Z (.Name x px) it wi∧(∀C s₂ H₂ fp pn,kE (Z.bG (ns N x ix) aj C s₂ H₂ fp pn) ifs tc)∧(∀C s₂ H₂ fp pn,PE (Z.bG (ns N x ix) aj C s₂ H₂ fp pn) el te))∧ia it=true∧JT K (m6 wi ix tc te) (eX t (.cp i ix t' d)):=by
 have hh:=av h;clear h;obtain⟨⟨el,x,px,it,ifs,aj,ep⟩,q,h⟩:=hh;cases wg q;obtain⟨h1,h2,h3,h4,h5⟩:=iG h;have h1:=wL h1;obtain⟨ti,pi,ji⟩:=sI i h3;obtain⟨te,pe,je⟩:=sX d h5;have h4:(ifs.isEmpty=true∧zM t'=true)∨(on (l1 ifs) λy=>kT c lv t' (rl sc aj) (ns N x ix) y)=true:=by simpa using h4
 rcases h4 with⟨w1,w2⟩|h4
 ·cases gK.mp w1;cases t'<;>first|exact absurd w2 aU|skip
  exact⟨el,x,px,it,[],aj,ep,_,_,_,rfl,λZ E=>⟨by rw[E.n,E.sc];exact h1,pi Z (.Name x px) E (λz=>absurd z aU),(λC s₂ H₂ fp pn=>rC),(λC s₂ H₂ fp pn=>pe _ E.bG)⟩,h2,rE ji Cu je⟩
 ·have hh:=av h4;clear h4;obtain⟨y,q,h4⟩:=hh;cases j2 q;obtain⟨tq,pq,jq⟩:=sT t' h4;exact⟨el,x,px,it,[y],aj,ep,_,_,_,rfl,λZ E=>⟨by rw[E.n,E.sc];exact h1,pi Z (.Name x px) E (λz=>absurd z aU),(λC s₂ H₂ fp pn=>B8 (pq _ E.bG)),(λC s₂ H₂ fp pn=>pe _ E.bG)⟩,h2,rE ji jq je⟩
theorem RQ{e:Expr}(h:qH e=true):pI e=true:=by
 cases e<;>first|rfl|cases h
theorem RT{e:Expr}{es:List Expr}{k:Nat}{p:Pos}{env:Env}(h:qH e=true):swappedStores [.Tuple es k p] e env=pure none:=by
 cases e<;>first|rfl|cases h
theorem zm{o a:Expr}{ap cp:Pos}{to ta:TE}{Z:Cx}(k:Z.K=K)(ho:PE Z o to)(ha:PE Z a ta)(h4:kQ o=true)(h5:(ap.endLine==cp.line)=true)(h6:b9 a=true):PE Z (.Call (.Attribute o "append" ap) [a] [] cp) (nZ K "list" vU to (jZ ta j5)) :=
 k▸@lq _ _ _ _ _ _ _ _ _ _ _ _ PySem.F.plainAttrs_list PySem.F.slot_list_append PySem.F.type_list_append A2 ho (@jf _ _ _ _ _ ha jX (bu h6)) (fq h4) (mY h6) h5 (bu h6) mZ
theorem lV{o a b:Expr}{ap cp:Pos}{to ta tb:TE}{Z:Cx}(k:Z.K=K)(ho:PE Z o to)(ha:PE Z a ta)(hb:PE Z b tb)(h4:kQ o=true)(h5:(ap.endLine==cp.line)=true)(h6:b9 a=true)(h7:b9 b=true):PE Z (.Call (.Attribute o "insert" ap) [a,b] [] cp) (nZ K "list" CD to (jZ ta (jZ tb j5))) :=
 k▸@lq _ _ _ _ _ _ _ _ _ _ _ _ PySem.F.plainAttrs_list PySem.F.slot_list_insert PySem.F.type_list_insert L8 ho (@jf _ _ _ _ _ ha (@jf _ _ _ _ _ hb jX (bu h7)) (bu h6)) (fq h4) (by rw[bu h6,bu h7];rfl) h5 (bu h6) (by rw[bu h7];rfl)
theorem yp{Z:Cx}{sc:Scope}{N:List Str}{e:Expr}{te:TE}{pos py:Pos}{y:Str}{i:Nat}(E:CS c lv K Z0 t va sc N Z)(h1:N[i]?=some y)(h2:loc sc y=true)(h:PE Z e te)(hs:swapsWith e (some (Expr.Name y py)) pos.line Z.env=pure false):fI Z (.Assign [.Name y py] e pos) (g8 te (iL i)) :=
 @Ri _ _ _ _ _ _ i (E.e.n▸E.nd) (E.e.n▸h1) (E.e.sc▸pw h2) h hs (.inl (E.fn _))
theorem RV{sc:Scope}{N:List Str}{Z:Cx}(E:CE c lv K t va sc N Z):CE c lv K t va sc N Z.iT:=⟨E.k,E.sc,E.n,E.calm,E.rm,E.bl,E.gv,E.xt,E.xm,E.fs⟩
theorem zV{f:Nat}{l:A}{sc:Scope}{N:List Str}{e:Expr}(h:u5 c lv f l sc N e=true):∃ta n,(∀Z,CE c lv K t va sc N Z→PX Z e (wD (uO K n (FT.r t[f]?)) ta))∧eY K ta (eA t l)∧∀e aw,eA t l e=some aw→aw.length=n:=by
 have hh:=av h;clear h;obtain⟨⟨x,as⟩,q,h⟩:=hh;obtain⟨p,cp,rfl,mD⟩:=jo q;have hh:=av h;clear h;obtain⟨i,hf,h⟩:=hh;obtain⟨h1,h2,h3,h4,h5,jP,h0,h8⟩:=zN h;obtain⟨a,r,rfl⟩:=rG h0;obtain⟨h6,h7⟩:=all1 mD;have h1:=aA h1;obtain⟨ta,pa,ja⟩:=sA l h8;have hl:=yo (t:=t) h8;rw[show(a::r).length=i.ar from aA h5]at hl;refine⟨ta,i.ar,λZ E=>?_,ja,hl⟩;obtain⟨F,hF,q⟩:=E.fs f i hf;cases F with
 |io l F=>rw[eE,aA jP]at q;exact absurd (eR q.1.1).symm q.1.2.2.2
 |oo F=>rw[eE,aA jP]at q;cases q.1
 |al F=>rw[eE,aA jP]at q;cases q.1
 |p F=>rw[eE,aA jP]at q;cases q.1
 |x F =>
  obtain⟨_,a,fd,ps,k1,k2,k3,k4⟩:=q;rw[←h1]at k2;rw[hF,←E.k];exact Oc k1 (E.rm.mono (aA h4)) (E.gl h2) k2 k3 k4.1 (pa _ (RV E)) (nb h3) (bu h6) (fK h7 _)
theorem HD{e:Expr}{q:Str×List Expr}(h:eN e=some q){o:Option Expr}{n:Nat}{env:Env}:swapsWith e o n env=pure false:=by
 obtain⟨p,cp,rfl,_⟩:=jo (x:=q.1) (as:=q.2) h;exact ng rfl
theorem HF:∀(s:L) {sc:Scope}{N:List Str}{st:Stmt},zS c lv s sc N st=true→∃tb,(∀Z,CS c lv K Z0 t va sc N Z→jI Z st tb)∧oj K tb (eL t s)
 |.xc .d f l,sc,N,st,h=>by
  have hh:=av h;clear h;obtain⟨e,q,h⟩:=hh;obtain⟨pos,rfl⟩:=DQ q;obtain⟨ta,n,pa,ja,hl⟩:=zV (K:=K) (t:=t) (va:=va) h;obtain⟨_,qn,_⟩:=av h;exact⟨_,λZ E=>MS (pa Z E.e) (HD qn),xB ja hl Pm⟩
 |.xc (.s i) f l,sc,N,st,h=>by
  have hh:=av h;clear h;obtain⟨⟨y,e⟩,q,h⟩:=hh;obtain⟨py,pos,rfl⟩:=m3 q;obtain⟨h1,h2,h⟩:=eZ h;obtain⟨ta,n,pa,ja,hl⟩:=zV (K:=K) (t:=t) (va:=va) h;obtain⟨_,qn,_⟩:=av h;exact⟨_,λZ E=>Cd (E.e.n▸E.nd) (E.e.n▸aA h1) (E.e.sc▸pw h2) (pa Z E.e) (HD qn) (.inl (E.fn _)),xB ja hl Rt⟩
 |.xc (.p i a) f l,sc,N,st,h=>by
  have hh:=av h;clear h;obtain⟨⟨y,e⟩,q,h⟩:=hh;obtain⟨py,pos,rfl⟩:=m3 q;have hh:=av h;clear h;obtain⟨es,q,h⟩:=hh;obtain⟨k,p,rfl⟩:=pj q;have hh:=av h;clear h;obtain⟨⟨z1,z2⟩,q,h⟩:=hh;cases sJ q;obtain⟨h1,h2,h3,h⟩:=eF h;obtain⟨ta,n,pa,ja,hl⟩:=zV (K:=K) (t:=t) (va:=va) h;obtain⟨_,qn,_⟩:=av h;have hh:=av h3;clear h3;obtain⟨kk,q,h3⟩:=hh;obtain⟨j,p3,rfl⟩:=j1 q;have hh:=av h3;clear h3;obtain⟨y3,q,h3⟩:=hh;cases xD q;cases aA h3;obtain⟨p',X2,rfl,_⟩:=jo qn;exact⟨_,λZ E=>Cd (E.e.n▸E.nd) (E.e.n▸aA h1) (E.e.sc▸pw h2) (Od (ta:=tC (.str a)) wy (pa Z E.e) (bu rfl) (bu rfl)) (ng rfl) (.inl (E.fn _)),xB ja hl Pn⟩
theorem sL:∀(s:L) {sc:Scope}{N:List Str}{st:Stmt},kL c lv s sc N st=true→∃ts,(∀Z,CS c lv K Z0 t va sc N Z→fI Z st ts)∧JS K Z0 ts (eL t s)
 |.rt x,sc,N,st,h=>by
  have hh:=av h;clear h;obtain⟨o,q,h⟩:=hh;obtain⟨p,rfl⟩:=RM q;have hh:=av h;clear h;obtain⟨e,rfl,h⟩:=hh;obtain⟨te,pe,je⟩:=sX x h;exact⟨_,λZ E=>Rh (pe Z E.e),QI je⟩
 |.nv,sc,N,st,h=>⟨_,λZ E=>Ni,Nj⟩
 |.xc k f l,sc,N,st,h=>by
  obtain⟨tb,p,j⟩:=HF (K:=K) (Z0:=Z0) (t:=t) (va:=va) (.xc k f l) h;exact⟨_,λZ E=>⟨E.xc _ _ (p Z E)⟩,j.js⟩
 |.rz n ns l,sc,N,st,h=>by
  have hh:=av h;clear h;obtain⟨e,q,h⟩:=hh;obtain⟨pos,rfl⟩:=RK q;have hh:=av h;clear h;obtain⟨⟨x,as⟩,q,h⟩:=hh;obtain⟨p,cp,rfl,mD⟩:=jo q;obtain⟨h1,h2,h3,h4,h5,h0,h8⟩:=uY h;cases aA h1;obtain⟨a,r,rfl⟩:=rG h0;obtain⟨h6,h7⟩:=all1 mD;obtain⟨e,he,h4⟩:=uf.mp h4;obtain⟨k1,k2,k3⟩:=eZ h4;cases aA k1;cases aA k2;obtain⟨b1,b2,b3,b4,b5⟩:=iG k3;obtain⟨c1,c2,c3,c4,c5,c6⟩:=aA b5;have iA:e.ns≠[]:=by simpa using b2
  obtain⟨ta,pa,ja⟩:=sA l h8;by_cases hv:XT K c.xs
  ·obtain⟨C,hC,x⟩:=hv.at_ e he;obtain⟨f,fd,qual,xc,fu,hb⟩:=x.ini iA;refine⟨zr C e.ns Z0 ta,λZ E=>⟨?_⟩,Tv hC ja⟩;have HG:gQ Z.K C f e.ns:=by rw[E.e.k];exact xc
   have Wb:iZ Z.K "__init__" qual e.st f fd:=by rw[E.e.k];exact fu
   have jJ:Binds Z.K fd (("self" : Str)::e.ns) []:=by rw[E.e.k];exact hb
   have Wc:PySem.W.keepIn Z.K (.ref C)=true:=by rw[E.e.k];exact x.kp
   exact MP (k:=1) HG (Wb.ini HG ⟨c1,c2,c3,c4,List.take_length,λn hn=>.inl (c6 n hn),c5⟩ b1 (List.length_pos_iff.mpr iA) (aA b3) (λn hn=>bY.mp b4 n hn) c6) (E.e.rm.mono (aA h5)) jJ cT (aA b3) (E.e.gl h2) (E.e.xm e he C hC) Wc (pa Z E.e) E.V9 (nb h3) (bu h6) (fK h7 _)
  ·exact⟨λ_ _ _=>True,λZ E=>absurd E.e.xt hv,λ_ _ _ _ _ _ _ _ _ _ _=>trivial⟩
 |.st i x,sc,N,st,h=>by
  have hh:=av h;clear h;obtain⟨⟨y,e⟩,q,h⟩:=hh;obtain⟨py,pos,rfl⟩:=m3 q;obtain⟨h1,h2,h3,h4⟩:=eF h;obtain⟨te,pe,je⟩:=sX x h4;exact⟨_,λZ E=>yp E (aA h1) h2 (pe Z E.e) (ng h3),wG je⟩
 |.sc j i ix t' d,sc,N,st,h=>by
  have hh:=av h;clear h;obtain⟨⟨y,e⟩,q,h⟩:=hh;obtain⟨py,pos,rfl⟩:=m3 q;obtain⟨h1,h2,h3⟩:=eZ h;have h1:=aA h1;obtain⟨el,z,pz,it,ifs,aj,ep,wi,tc,te,e,pe,ns,je⟩:=Wa h3;have e:_=Expr.ListComp el [⟨.Name z pz,it,ifs,0⟩] aj ep:=e;subst e;refine⟨_,λZ E=>?_,wG je⟩;obtain⟨p1,p2,p3,p4⟩:=pe Z E.e;rcases CF (el:=el) (gs:=[⟨.Name z pz,it,ifs,0⟩]) (aj:=aj) (ep:=ep) (py:=py) (y:=y) (n:=pos.line) (env:=Z.env) with⟨w,l⟩|w
  ·exact @Ay _ _ _ _ _ _ _ _ _ _ _ _ _ j _ _ _ (E.e.n▸E.nd) (E.e.n▸h1) l p1 E.e.calm p2 p3 p4 w (k9 ns)
  ·exact yp E h1 h2 (@rD _ _ _ _ _ _ _ _ _ _ _ _ _ p1 E.e.calm p2 p3 p4 (k9 ns)) w
 |.as g x,sc,N,st,h=>by
  have hh:=av h;clear h;obtain⟨⟨tg,e,pos⟩,q,h⟩:=hh;cases wO q;obtain⟨h1,h2,h3,h4⟩:=eF h;obtain⟨te,pe,je⟩:=sX x h4;obtain⟨Wf,pg,jg⟩:=sG g h3;refine⟨_,λZ E=>@DH _ _ _ _ _ _ (pe Z E.e) (pg Z E) ?_ ?_ ?_,QO je jg⟩
  ·exact(show swapsWith e (some tg) pos.line Z.env=pure false from ng (RQ h2))
  ·cases tg<;>first|exact absurd h1 aU|skip
   exact RT h2
  ·cases tg<;>first|rfl|exact absurd h1 aU
 |.si k i x,sc,N,st,h=>by
  have hh:=av h;clear h;obtain⟨⟨tg,e,pos⟩,q,h⟩:=hh;cases wO q;have hh:=av h;clear h;obtain⟨⟨o,ie⟩,q,h⟩:=hh;obtain⟨p,r⟩:=wN q;have r:tg=_:=r;subst r;obtain⟨h1,h2,h3,h4,h5⟩:=iG h;obtain⟨ti,pi,ji⟩:=sX i h4;obtain⟨te,pe,je⟩:=sX x h5;refine⟨_,λZ E=>@DH _ _ _ _ _ _ (pe Z E.e) (@P2 _ _ _ _ _ _ _ (sV h3 Z E.e) (pi Z E.e) set_list (Rv h1)) ?_ ?_ rfl,MY je ji⟩
  ·exact(show swapsWith e (some (Expr.Subscript o ie p)) pos.line Z.env=pure false from ng h2)
  ·cases e<;>rfl
 |.ap k x,sc,N,st,h=>by
  have hh:=av h;clear h;obtain⟨e,q,h⟩:=hh;obtain⟨pos,rfl⟩:=DQ q;have hh:=av h;clear h;obtain⟨⟨o,as⟩,q,h⟩:=hh;obtain⟨ap,cp,rfl,h2,h3,h4⟩:=EJ q;have hh:=av h;clear h;obtain⟨a,q1,h⟩:=hh;cases j2 q1;obtain⟨h5,h6⟩:=bL h;obtain⟨te,pe,je⟩:=sX x h6;exact⟨_,λZ E=>@Ph _ _ _ _ (zm E.e.k (sV h5 Z E.e) (pe Z E.e) h2 h3 (all1 h4).1) rfl,QK je⟩
 |.ne i it,sc,N,st,h=>by
  have hh:=av h;clear h;obtain⟨⟨y,e⟩,q,h⟩:=hh;obtain⟨py,pos,rfl⟩:=m3 q;have hh:=av h;clear h;obtain⟨⟨el,z,pz,ie,ifs,aj,ep⟩,q,h⟩:=hh;have r:e=_:=wg q;subst r;obtain⟨h1,h2,q1,q2,h6,h7⟩:=uX h;obtain⟨h4,h5⟩:=bL h7;have h1:=aA h1;obtain⟨lp,r⟩:=Pr q2;have r:el=_:=r;subst r;cases gK.mp q1;have h6:=wL h6;obtain⟨ti,pi,ji⟩:=sI it h5;refine⟨_,λZ E=>?_,Pk (ix:=[]) ji⟩;have p1:jh Z.N (ns N z []) Z.env.scope aj z []:=by rw[E.e.n,E.e.sc];exact h6
  have p2:=pi Z (.Name z pz) E.e (λz=>absurd z aU);rcases CF (el:=.List [] lp) (gs:=[⟨.Name z pz,ie,[],0⟩]) (aj:=aj) (ep:=ep) (py:=py) (y:=y) (n:=pos.line) (env:=Z.env) with⟨w,l⟩|w
  ·exact @Ay _ _ _ _ _ _ _ _ _ _ _ _ _ i _ _ _ (E.e.n▸E.nd) (E.e.n▸h1) l p1 E.e.calm p2 (λC s₂ H₂ fp pn=>rC) (λC s₂ H₂ fp pn=>rO jX) w (k9 h4)
  ·exact yp E h1 h2 (@rD _ _ _ _ _ _ _ _ _ _ _ _ _ p1 E.e.calm p2 (λC s₂ H₂ fp pn=>rC) (λC s₂ H₂ fp pn=>rO jX) (k9 h4)) w
structure CH (c:Cf)(K:PySem.W.Frag)(sc:Scope)(N:List Str)(Z:Cx):Prop where
 k:Z.K=K
 sc:Z.env.scope=sc
 n:Z.N=N
 nd:N.Nodup
 fn:∀x,Z.fn x=true
mutual
theorem zW:∀(x:X) {sc:Scope}{N:List Str}{e:Expr},u6 x=true→kX c lv x sc N e=true→XT K c.xs→∃te,(∀Z,CH c K sc N Z→PE Z e te)∧JT K te (eX t x)
 |.v i,sc,N,e,_,h,_=>by
  have hh:=av h;clear h;obtain⟨x,q,h⟩:=hh;obtain⟨p,rfl⟩:=iK q;obtain⟨h1,h2,h3,h4⟩:=eF h;have h1:=aA h1;have h2:=wK h2;exact⟨_,λZ E=>@lb _ _ _ _ (E.n▸h1) (E.sc▸h2) (nb h3) (nb h4),Dm⟩
 |.ks i,sc,N,e,_,h,_=>by
  have hh:=av h;clear h;obtain⟨k,q,h⟩:=hh;obtain⟨j,p,rfl⟩:=j1 q;have hh:=av h;clear h;obtain⟨y,q,h⟩:=hh;cases xD q;cases aA h;exact⟨_,λZ E=>wy,jw rfl⟩
 |.kb i,sc,N,e,_,h,_=>by
  have hh:=av h;clear h;obtain⟨k,q,h⟩:=hh;obtain⟨j,p,rfl⟩:=j1 q;have hh:=av h;clear h;obtain⟨y,q,h⟩:=hh;cases EH q;cases aA h;exact⟨_,λZ E=>Eb,jw rfl⟩
 |.kn,sc,N,e,_,h,_=>by
  have hh:=av h;clear h;obtain⟨k,q,h⟩:=hh;obtain⟨j,p,rfl⟩:=j1 q;cases EI h;exact⟨_,λZ E=>C4,jw rfl⟩
 |.tu l,sc,N,e,hi,h,xt=>by
  have hh:=av h;clear h;obtain⟨es,q,h⟩:=hh;obtain⟨k,p,rfl⟩:=pj q;obtain⟨ta,pa,ja⟩:=zX l hi h xt;exact⟨_,λZ E=>C8 (pa Z E),Dq ja⟩
 |.li l,sc,N,e,hi,h,xt=>by
  have hh:=av h;clear h;obtain⟨es,q,h⟩:=hh;obtain⟨p,rfl⟩:=DN q;obtain⟨ta,pa,ja⟩:=zX l hi h xt;exact⟨_,λZ E=>rO (pa Z E),Dp ja⟩
 |.xa a f cs,sc,N,e,hi,h,xt=>by
  have hh:=av h;clear h;obtain⟨⟨o,f'⟩,q,h⟩:=hh;obtain⟨p,rfl⟩:=DK q;obtain⟨h1,h2,h3,h4,h5⟩:=iG h;cases aA h1;cases aA h3;obtain⟨ta,pa,ja⟩:=zW a hi h5 xt;exact⟨uP K ta f',λZ E=>E.k▸EF (pa Z E) (fq h2),EE (xt.Hw h4) ja⟩
theorem zX:∀(l:A) {sc:Scope}{N:List Str}{es:List Expr},tQ l=true→kA c lv l sc N es=true→XT K c.xs→∃ta,(∀Z,CH c K sc N Z→PA Z es ta)∧eY K ta (eA t l)
 |.n,sc,N,es,_,h,_=>by
  cases gK.mp h;exact⟨_,λZ E=>jX,Ci⟩
 |.c a l,sc,N,es,hi,h,xt=>by
  have hh:=av h;clear h;obtain⟨⟨e,r⟩,q,h⟩:=hh;cases jj q;obtain⟨h0,h1,h2⟩:=eZ h;obtain⟨i1,i2⟩:=bL hi;obtain⟨ta,pa,ja⟩:=zW a i1 h1 xt;obtain⟨tl,pl,jl⟩:=zX l i2 h2 xt;exact⟨_,λZ E=>@jf _ _ _ _ _ (pa Z E) (pl Z E) (bu h0),Bk ja jl⟩
end
theorem HJ(xt:XT K c.xs):∀(h:List (Nat×X)) {sc:Scope}{N:List Str}{ss:List Stmt},zT c lv h sc N ss=true→∃ts,(∀Z,CH c K sc N Z→cR Z ss ts)∧JS K E0 ts (eH t h)
  |[],sc,N,[],_=>⟨_,λZ E=>BU,Cm⟩
  |[],sc,N,_::_,h=>by cases h
  | (i,x)::r,sc,N,[],h=>by cases h
  | (i,x)::r,sc,N,st::ss,h=>by
    obtain⟨h0,h9⟩:=bL h;have hh:=av h0;clear h0;obtain⟨⟨y,e⟩,q,hq⟩:=hh;obtain⟨py,pos,rfl⟩:=m3 q;obtain⟨h1,h2,h3,h4,h5⟩:=iG hq;obtain⟨te,pe,je⟩:=zW (t:=t) x h4 h5 xt;obtain⟨tr,pr,jr⟩:=HJ xt r h9;exact⟨_,λZ E=>Bg (C6 (E.n▸E.nd) (E.n▸aA h1) (E.sc▸pw h2) (pe Z E) (ng h3) (.inl (E.fn _))) (pr Z E),Dr (wG je) jr⟩
theorem UN{b:L}{i:Option Nat}{cs:List Str}{h:List (Nat×X)}{sc:Scope}{N:List Str}{st:Stmt}(hk:kS c lv (.tr b i cs h) sc N st=true):∃ts,(∀Z,CS c lv K Z0 t va sc N Z→fI Z st ts)∧JS K Z0 ts (Hf i cs (eL t b) (eH t h)):=by
 have hh:=av hk;clear hk;obtain⟨⟨s1,cn,nm,su⟩,q,hk⟩:=hh;obtain⟨b0,suite,np,hp,p,e1,rfl⟩:=RL q;subst e1;obtain⟨h1,h2,h3,h4,h5,h6,h7⟩:=uY hk;obtain⟨tb,pb,jb⟩:=HF (K:=K) (Z0:=Z0) (t:=t) (va:=va) b h1;obtain⟨e',he,hn⟩:=uf.mp h4;cases beq_iff_eq.mp hn;cases aA h5;by_cases hv:XT K c.xs
 ·obtain⟨C',hC,x⟩:=hv.at_ e' he;obtain⟨ts,ps,js⟩:=HJ (t:=t) hv h h7;have ch:∀(Z:Cx) (e:Addr),CS c lv K Z0 t va sc N Z→CH c K sc N (Z.iD e):=λZ e E=>⟨E.e.k,E.e.sc,E.e.n,E.nd,E.fn⟩;have xc:∀Z:Cx,CS c lv K Z0 t va sc N Z→n8 Z.K C':=λZ E=>by rw[E.e.k];exact x.ex
  cases i with
  |some i =>
   cases nm with
   |none=>cases h6
   |some nm =>
    obtain⟨k1,k2⟩:=bL h6;exact⟨x5 K C' i tb ts,λZ E=>⟨E.e.k▸Qs E.HC (pb Z E) (E.e.gl h2) (E.e.xm e' he C' hC) (xc Z E) (λe=>ps _ (ch Z e E)) (E.e.n▸E.nd) (E.e.n▸aA k1) (E.e.sc▸aA k2) (nb h3)⟩,Ru (hv.Hx he hC) jb js⟩
  |none =>
   cases nm with
   |some nm=>cases h6
   |none=>exact⟨xr K C' tb ts,λZ E=>⟨E.e.k▸Og E.HC (pb Z E) (E.e.gl h2) (E.e.xm e' he C' hC) (xc Z E) (λe=>ps _ (ch Z e E)) (nb h3)⟩,Pq (hv.Hx he hC) jb js⟩
 ·exact⟨λ_ _ _=>True,λZ E=>absurd E.e.xt hv,λ_ _ _ _ _ _ _ _ _ _ _=>trivial⟩
mutual
theorem sS:∀(s:S) {sc:Scope}{N:List Str}{st:Stmt},kS c lv s sc N st=true→∃ts,(∀Z,CS c lv K Z0 t va sc N Z→fI Z st ts)∧JS K Z0 ts (eS t s)
 |.tr b i cs h',sc,N,st,h=>UN (st:=st) h
 |.l x,sc,N,st,h=>sL x (st:=st) h
 |.ie t' a b,sc,N,st,h=>by
  have hh:=av h;clear h;obtain⟨⟨e,as,bs⟩,q,h⟩:=hh;obtain⟨p,rfl⟩:=RN q;obtain⟨h1,h2,h3⟩:=eZ h;obtain⟨tq,pq,jq⟩:=sT t' h1;obtain⟨ta,pa,ja⟩:=sB a h2;obtain⟨tb,pb,jb⟩:=sB b h3;exact⟨_,λZ E=>Tt (pq Z E.e) (pa Z E) (pb Z E),Te jq ja jb⟩
 |.fo i g b,sc,N,st,h=>by
  have hh:=av h;clear h;obtain⟨⟨tg,it,body⟩,q,h⟩:=hh;obtain⟨p,rfl⟩:=RP q;obtain⟨h1,h2,h3,h4⟩:=eF h;obtain⟨ti,pi,ji⟩:=sI i h1;obtain⟨Wf,pg,jg⟩:=sG g h3;obtain⟨tb,pb,jb⟩:=sB b h4;exact⟨_,λZ E=>@Rj _ _ _ _ _ _ _ _ E.po E.e.calm (pi Z tg E.e id) (pg Z E) (pb Z E) (k9 h2),QP ji jg jb⟩
 |.fz k s,sc,N,st,h=>by
  obtain⟨ts,ps,js⟩:=sS s (st:=st) h;exact⟨_,ps,QL js⟩
theorem sB:∀(b:B) {sc:Scope}{N:List Str}{ss:List Stmt},kB c lv b sc N ss=true→∃ts,(∀Z,CS c lv K Z0 t va sc N Z→ke Z ss ts)∧JS K Z0 ts (eB t b)
 |.n,_,_,ss,h=>by
  cases gK.mp h;exact⟨_,λ_ _=>Pb,Cm⟩
 |.o s,_,_,ss,h=>by
  have hh:=av h;clear h;obtain⟨st,q,h⟩:=hh;cases j2 q;obtain⟨ts,ps,js⟩:=sS s h;exact⟨_,λZ E=>Pg (ps Z E),js⟩
 |.c s b,_,_,ss,h=>by
  have hh:=av h;clear h;obtain⟨⟨st,r⟩,q,h⟩:=hh;cases jj q;obtain⟨h1,h2⟩:=bL h;obtain⟨ts,ps,js⟩:=sS s h1;obtain⟨tb,pb,jb⟩:=sB b h2;exact⟨_,λZ E=>Nh (ps Z E) (pb Z E),Dr js jb⟩
end
end
end C
namespace C
open PySem PySem.Spec L2 J My
def dQ(P:Program)(w:World)(K:PySem.W.Frag)(mg:Str→Option Value)(base:Heap)(fs:List Fi)(t:List FT):Prop :=
 ∀(i:Nat) fi,fs[i]?=some fi→∃F,t[i]?=some F∧eE P w K mg base fi F
structure oA (K:PySem.W.Frag)(mg:Str→Option Value)(x:Str)(st:Stmt)(ps:List Str)(df:Option (Option Int))(f:Addr)(fd:FuncData):Prop where
 mg:mg x=some (.ref f)
 fn:tO K x st f fd
 bd:Binds K fd ps []
 jN:∀n,df=some n→∃t,Binds K fd ps [qE n t]
def kF(c:Cf)(lv:Nat)(N ps:List Str)(st:Stmt)(b:B):Bool :=
 decide ((aW st).kind=.function∧(aW st).isCoroutine=false∧(aW st).isGenerator=false∧N.Nodup∧N.take ps.length=ps ∧
  (∀x∈ps,(aW st).names.lookup x=some .local∨(aW st).names.lookup x=some .cell)∧(∀y∈(aW st).names,y.2≠.free))&&kB c lv b (aW st) N (cu st)
section
variable {P:Program}{w:World}{K:PySem.W.Frag}{mg:Str→Option Value}{base:Heap}{t:List FT}{va:List V}
def XM(K:PySem.W.Frag)(mg:Str→Option Value)(xs:List Xk):Prop:=XT K xs∧∀e∈xs,∀C,PySem.W.nsIn K mainGlobals e.nm=some (some (.ref C))→mg e.nm=some (.ref C)
theorem dQ.nil:dQ P w K mg base [] t:=λi fi h=>by simp at h
theorem dQ.cons{fs:List Fi}{f:Fi}{F:FT}(h:dQ P w K mg base fs t)(q:eE P w K mg base f F):dQ P w K mg base (f::fs) (F::t)
 |0,fi,e=>by cases e;exact⟨F,rfl,q⟩
 |i+1,fi,e=>h i fi e
theorem ctx{bs:List String}{gs:List (Str×Gv)}{fs:List Fi}{xs:List Xk}{lv:Nat}{N ps:List Str}{st:Stmt}{b:B}{qual:Str}{f:Addr}{cd:Value}{A:Around}{outer:List Env}{s:Shared}{H:Hp}{E:XK}(h:dQ P w K mg base fs t)(hb:∀x∈bs,mg (Str.ofString x)=none)(hg:GV K mg va gs)(hx:XM K mg xs)(k:kF ⟨bs,gs,fs,xs⟩ lv N ps st b=true)
  (hr:bS lv (A.deeper (PyProof.Rows.envOfC qual (aW st) s.heap.objs.size f cd))):CS ⟨bs,gs,fs,xs⟩ lv K E0 t va (aW st) N ((dC (cI P w) P w K mg base N qual (aW st) f cd A outer s H E).iT):=by
 obtain⟨k1,k2⟩:=bL k;obtain⟨h1,h2,h3,h4,h5,h6,h7⟩:=aA k1;exact⟨⟨rfl,rfl,rfl,rfl,hr,hb,hg,hx.1,hx.2,h⟩,h4,λ_=>rfl,PassesOwn.never,h1,Uz,λ_ _=>UA,rfl,rfl⟩
theorem UO{bs:List String}{gs:List (Str×Gv)}{fs:List Fi}{xs:List Xk}{lv:Nat}{N ps:List Str}{st:Stmt}{b:B}{qual:Str}{f:Addr}{cd:Value}{A:Around}{outer:List Env}{s:Shared}{H:Hp}{E:XK}(h:dQ P w K mg base fs t)(hb:∀x∈bs,mg (Str.ofString x)=none)(hg:GV K mg va gs)(hx:XM K mg xs)(k:kF ⟨bs,gs,fs,xs⟩ lv N ps st b=true)
  (hr:bS lv (A.deeper (PyProof.Rows.envOfC qual (aW st) s.heap.objs.size f cd))):CS ⟨bs,gs,fs,xs⟩ lv K E t va (aW st) N ((dC (cI P w) P w K mg base N qual (aW st) f cd A outer s H E).wish (XD (dC (cI P w) P w K mg base N qual (aW st) f cd A outer s H E) E)):=by
 obtain⟨k1,k2⟩:=bL k;obtain⟨h1,h2,h3,h4,h5,h6,h7⟩:=aA k1;exact⟨⟨rfl,rfl,rfl,rfl,hr,hb,hg,hx.1,hx.2,h⟩,h4,λ_=>rfl,MQ (X:=dC (cI P w) P w K mg base N qual (aW st) f cd A outer s H E) ⟨rfl,rfl⟩,h1,Ux,λ_ _=>Uy,rfl,rfl⟩
theorem nG{c:Cf}{lv:Nat}{N ps:List Str}{st:Stmt}{b:B}(k:kF c lv N ps st b=true):mQ N ps (aW st):=by
 obtain⟨h1,h2,h3,h4,h5,h6,h7⟩:=aA (bL k).1;exact⟨h1,h2,h3,h4,h5,h6,h7⟩
theorem TB{bs:List String}{gs:List (Str×Gv)}{fs:List Fi}{xs:List Xk}{lv:Nat}{N ps:List Str}{x:Str}{st:Stmt}{b:B}{f:Addr}{fd:FuncData}(h:dQ P w K mg base fs t)(hb:∀x∈bs,mg (Str.ofString x)=none)(hg:GV K mg va gs)(hx:XM K mg xs){df:Option (Option Int)}(Df:oA K mg x st ps df f fd)(k:kF ⟨bs,gs,fs,xs⟩ lv N ps st b=true) :
  eE P w K mg base ⟨x,ps.length,lv+1,none,df⟩ (.p (fn N.length (eB t b))):=by
 refine⟨rfl,f,fd,ps,?_,Df.mg,Df.fn.kp,Df.bd,Df.jN⟩;refine Df.fn.ok (nG k) (λvs H Q E h=>h.1) (λaL A outer s H vs Q E hr q=>?_);obtain⟨ts,p1,p2⟩:=sB (Z0:=E0) (t:=t) (va:=va) (K:=K) b (bL k).2;exact⟨ts,(p1 _ (ctx h hb hg hx k hr)).go,vX p2 q⟩
theorem TC{bs:List String}{gs:List (Str×Gv)}{fs:List Fi}{xs:List Xk}{lv:Nat}{N ps:List Str}{x:Str}{st:Stmt}{b:B}{f:Addr}{fd:FuncData}(io:List Nat)(hn:io≠[]∧io≠[1000]∧io≠[1001])(h:dQ P w K mg base fs t)(hb:∀x∈bs,mg (Str.ofString x)=none)(hg:GV K mg va gs)(hx:XM K mg xs){df:Option (Option Int)}(Df:oA K mg x st ps df f fd)(k:kF ⟨bs,gs,fs,xs⟩ lv N ps st b=true) :
  eE P w K mg base ⟨x,ps.length,lv+1,some io,df⟩ (.io io (yf N.length io (eB t b))):=by
 refine⟨⟨rfl,hn⟩,f,fd,ps,?_,Df.mg,Df.fn.kp,Df.bd,Df.jN⟩;refine Df.fn.ok (nG k) (λvs H Q E h=>h.1) (λaL A outer s H vs Q E hr q=>?_);obtain⟨ts,p1,p2⟩:=sB (Z0:=E0) (t:=t) (va:=va) (K:=K) b (bL k).2;exact⟨ts,(p1 _ (ctx h hb hg hx k hr)).go,LR p2 q⟩
theorem TF{bs:List String}{gs:List (Str×Gv)}{fs:List Fi}{xs:List Xk}{lv:Nat}{N ps:List Str}{x:Str}{st:Stmt}{b:B}{f:Addr}{fd:FuncData}(h:dQ P w K mg base fs t)(hb:∀x∈bs,mg (Str.ofString x)=none)(hg:GV K mg va gs)(hx:XM K mg xs){df:Option (Option Int)}(Df:oA K mg x st ps df f fd)(k:kF ⟨bs,gs,fs,xs⟩ lv N ps st b=true) :
  eE P w K mg base ⟨x,ps.length,lv+1,some [1000],df⟩ (.al (zE N.length (eB t b))):=by
 refine⟨rfl,f,fd,ps,?_,Df.mg,Df.fn.kp,Df.bd,Df.jN⟩;refine Df.fn.ok (nG k) (λvs H Q E h=>h.1) (λaL A outer s H vs Q E hr q=>?_);obtain⟨ts,p1,p2⟩:=sB (Z0:=E0) (t:=t) (va:=va) (K:=K) b (bL k).2;exact⟨ts,(p1 _ (ctx h hb hg hx k hr)).go,Nk p2 q⟩
theorem UQ{bs:List String}{gs:List (Str×Gv)}{fs:List Fi}{xs:List Xk}{lv:Nat}{N ps:List Str}{x:Str}{st:Stmt}{b:B}{f:Addr}{fd:FuncData}(h:dQ P w K mg base fs t)(hb:∀x∈bs,mg (Str.ofString x)=none)(hg:GV K mg va gs)(hx:XM K mg xs){df:Option (Option Int)}(Df:oA K mg x st ps df f fd)(k:kF ⟨bs,gs,fs,xs⟩ lv N ps st b=true) :
  eE P w K mg base ⟨x,ps.length,lv+1,some [1001],df⟩ (.x (fnX N.length (eB t b))):=by
 refine⟨rfl,f,fd,ps,?_,Df.mg,Df.fn.kp,Df.bd,Df.jN⟩;obtain⟨oc,od,dV,kV,doc,pm,an,aL,ct,du,rfl,lk,eC⟩:=Df.fn.ex;refine xj lk eC (nG k) (λvs H Q E h=>h.1) λA outer s H vs Q E hr q=>?_;obtain⟨ts,p1,p2⟩:=sB (Z0:=E) (t:=t) (va:=va) (K:=K) b (bL k).2;exact⟨ts,Qu (p1 _ (UO h hb hg hx k hr)).go,body_okX p2 q⟩
theorem TH{bs:List String}{gs:List (Str×Gv)}{fs:List Fi}{xs:List Xk}{lv:Nat}{N ps:List Str}{x:Str}{st:Stmt}{b:B}{f:Addr}{fd:FuncData}(h:dQ P w K mg base fs t)(hb:∀x∈bs,mg (Str.ofString x)=none)(hg:GV K mg va gs)(hx:XM K mg xs){df:Option (Option Int)}(Df:oA K mg x st ps df f fd)(k:kF ⟨bs,gs,fs,xs⟩ lv N ps st b=true) :
  eE P w K mg base ⟨x,ps.length,lv+1,some [],df⟩ (.oo (yk N.length (eB t b))):=by
 refine⟨rfl,f,fd,ps,?_,Df.mg,Df.fn.kp,Df.bd,Df.jN⟩;refine Df.fn.ok (nG k) (λvs H Q E h=>h.1) (λaL A outer s H vs Q E hr q=>?_);obtain⟨ts,p1,p2⟩:=sB (Z0:=E0) (t:=t) (va:=va) (K:=K) b (bL k).2;exact⟨ts,(p1 _ (ctx h hb hg hx k hr)).go,L4 p2 q⟩
end
structure Dd where
 nm:Str
 st:Stmt
 ps:List Str
 N:List Str
 lv:Nat
 io:Option (List Nat)
 b:B
 df:Option (Option Int):=none
def lK(t:List FT)(d:Dd):FT:=match d.io with
 |none=>.p (fn d.N.length (eB t d.b))
 |some []=>.oo (yk d.N.length (eB t d.b))
 |some (i::io)=>if i::io=[1000] then .al (zE d.N.length (eB t d.b))else if i::io=[1001] then .x (fnX d.N.length (eB t d.b))else .io (i::io) (yf d.N.length (i::io) (eB t d.b))
noncomputable def p6(d:Dd):Fi:=⟨d.nm,d.ps.length,d.lv+1,d.io,d.df⟩
def tab:List Dd→List FT
 |[]=>[]
 |d::ds=>lK (tab ds) d::tab ds
def sM(bs:List String)(gs:List (Str×Gv))(xs:List Xk):List Dd→Bool
 |[]=>true
 |d::ds=>kF ⟨bs,gs,ds.map p6,xs⟩ d.lv d.N d.ps d.st d.b&&sM bs gs xs ds
def BA(d:Str)(s:Stmt)(ps:List Str):Prop:=∀(kV doc pm:Value) (an:Option Addr) (aL ct:Value) (us:List Value),us.length=ps.length→bindArgs (PySem.W.fnOf d d (dy s) (cu s) (aW s) .none kV doc pm an aL ct) ⟨us,[]⟩=pure (ps.zip us)
theorem dw{d:Str}{s:Stmt}{p0:Str}(h:∀k o p n c t u0,bindArgs (PySem.W.fnOf d d (dy s) (cu s) (aW s) .none k o p n c t) ⟨[u0],[]⟩=pure (List.zip [p0] [u0])):BA d s [p0]:=by
 intro _ _ _ _ _ _ us hl;obtain _|⟨_,us⟩:=us
 ·cases hl
 obtain _|_:=us
 ·exact h _ _ _ _ _ _ _
 ·simp at hl
theorem oB{d:Str}{s:Stmt}{p0 p1:Str}(h:∀k o p n c t u0 u1,bindArgs (PySem.W.fnOf d d (dy s) (cu s) (aW s) .none k o p n c t) ⟨[u0,u1],[]⟩=pure (List.zip [p0,p1] [u0,u1])):BA d s [p0,p1]:=by
 intro _ _ _ _ _ _ us hl;obtain _|⟨_,us⟩:=us
 ·cases hl
 obtain _|⟨_,us⟩:=us
 ·cases hl
 obtain _|_:=us
 ·exact h _ _ _ _ _ _ _ _
 ·simp at hl
theorem HK{d:Str}{s:Stmt}{p0 p1 p2:Str}(h:∀k o p n c t u0 u1 u2,bindArgs (PySem.W.fnOf d d (dy s) (cu s) (aW s) .none k o p n c t) ⟨[u0,u1,u2],[]⟩=pure (List.zip [p0,p1,p2] [u0,u1,u2])):BA d s [p0,p1,p2]:=by
 intro _ _ _ _ _ _ us hl;obtain _|⟨_,us⟩:=us
 ·cases hl
 obtain _|⟨_,us⟩:=us
 ·cases hl
 obtain _|⟨_,us⟩:=us
 ·cases hl
 obtain _|_:=us
 ·exact h _ _ _ _ _ _ _ _ _
 ·simp at hl
def Wg(d:Str)(s:Stmt)(ps:List Str)(n:Option Int):Prop:=∀(K:PySem.W.Frag) (a:Addr) (tk:Tok) (o:Value) (p:Option Addr) (k:Nat) (sl:Array (Option Value)) (kV doc pm:Value) (an:Option Addr) (aL ct:Value),K.lookup a=some ⟨o,p,.seq #[qE n tk] k,sl⟩ →
 Binds K (PySem.W.fnOf d d (dy s) (cu s) (aW s) (.ref a) kV doc pm an aL ct) ps []∧Binds K (PySem.W.fnOf d d (dy s) (cu s) (aW s) (.ref a) kV doc pm an aL ct) ps [qE n tk]
noncomputable def HL(d:Str)(s:Stmt)(ps:List Str):Option (Option Int)→Prop
 |none=>BA d s ps
 |some n=>Wg d s ps n
def u9:List Dd→Prop
 |[]=>True
 |d::ds=>HL d.nm d.st d.ps d.df∧u9 ds
def HM(K:PySem.W.Frag)(d:Str)(s:Stmt)(dV:Value):Prop:=∃(f:Addr) (oc:Value) (od:Option Addr) (kV dc pm:Value) (an:Option Addr) (cd ct:Value) (sl:Array (Option Value)),
 PySem.W.nsIn K mainGlobals d=some (some (.ref f))∧K.lookup f=some ⟨oc,od,.func (PySem.W.fnOf d d (dy s) (cu s) (aW s) dV kV dc pm an cd ct),sl⟩∧PySem.W.codeIn K cd d=true∧PySem.W.keepIn K (.ref f)=true
def DE(K:PySem.W.Frag)(d:Str)(s:Stmt):Option (Option Int)→Prop
 |none=>HM K d s .none
 |some n=>∃(a:Addr) (tk:Tok) (o:Value) (p:Option Addr) (k:Nat) (sl:Array (Option Value)),HM K d s (.ref a)∧K.lookup a=some ⟨o,p,.seq #[qE n tk] k,sl⟩
theorem UR{K:PySem.W.Frag}{d:Str}{s:Stmt}{f:Addr}{oc:Value}{od:Option Addr}{kV dc pm:Value}{an:Option Addr}{cd ct:Value}{sl:Array (Option Value)}(a:PySem.W.nsIn K mainGlobals d=some (some (.ref f)))(l:K.lookup f=some ⟨oc,od,.func (PySem.W.fnOf d d (dy s) (cu s) (aW s) .none kV dc pm an cd ct),sl⟩)(c:PySem.W.codeIn K cd d=true)(k:PySem.W.keepIn K (.ref f)=true):DE K d s none :=
 ⟨f,oc,od,kV,dc,pm,an,cd,ct,sl,a,l,c,k⟩
noncomputable def vd(K:PySem.W.Frag):List Dd→Prop
 |[]=>True
 |d::ds=>DE K d.nm d.st d.df∧vd K ds
noncomputable def vf(K:PySem.W.Frag):List String→Prop
 |[]=>True
 |b::bs=>PySem.W.nsIn K mainGlobals (Str.ofString b)=some none∧vf K bs
def GE(K:PySem.W.Frag)(x:Str):Gv→Prop
 |.s y=>∃tk,PySem.W.nsIn K mainGlobals x=some (some (.str y tk))
 |.t l=>∃(a:Addr) (it:Array Value) (n:Nat) (sl:Array (Option Value)),PySem.W.nsIn K mainGlobals x=some (some (.ref a))∧K.lookup a=some ⟨.type "tuple",none,.seq it n,sl⟩∧it.toList.map nA=l.map (λy=>some (V.str y))∧l.length≤1000
theorem HN{K:PySem.W.Frag}{x y:Str}{tk:Tok}(a:PySem.W.nsIn K mainGlobals x=some (some (.str y tk))):GE K x (.s y):=⟨tk,a⟩
theorem HQ {K:PySem.W.Frag}{x:Str}{l:List Str}{a:Addr}{it:Array Value}{n:Nat}{sl:Array (Option Value)} (h:PySem.W.nsIn K mainGlobals x=some (some (.ref a))) (q:K.lookup a=some ⟨.type "tuple",none,.seq it n,sl⟩) (v:it.toList.map nA=l.map (λy=>some (V.str y))) (z:l.length≤1000):GE K x (.t l):=⟨a,it,n,sl,h,q,v,z⟩
noncomputable def vg(K:PySem.W.Frag):List (Str×Gv)→Prop
 |[]=>True
 |g::gs=>GE K g.1 g.2∧vg K gs
section
variable {P:Program}{w:World}{K:PySem.W.Frag}{mg:Str→Option Value}{base:Heap}
theorem DS{h:Heap}(X:K.In h)(G:h.Ns mainGlobals mg):∀{bs:List String},vf K bs→∀x∈bs,mg (Str.ofString x)=none
 |[],_,_,m=>nomatch m
 |b::bs,q,x,m=>by
  rcases cH.mp m with rfl|m
  ·exact PySem.W.mg_none_of X G q.1
  ·exact DS X G q.2 x m
theorem EV{h:Heap}(X:K.In h)(G:h.Ns mainGlobals mg):∀{gs:List (Str×Gv)},vg K gs→∃va,GV K mg va gs
  |[],_=>⟨[],λi g e=>by simp at e⟩
  | (x,g)::gs,q=>by
    obtain⟨va,r⟩:=EV X G q.2;have one:∃v u,mg x=some u∧RelV v u∧GJ K v g:=by
      cases g with
      |s y =>
        obtain⟨tk,e⟩:=q.1;exact⟨.str y,_,nP X G e,⟨_,rfl⟩,jw rfl⟩
      |t l =>
        obtain⟨a,it,n,sl,e,lk,m,hl⟩:=q.1;exact⟨.ref a,_,nP X G e,rfl,⟨a,rfl,it,n,sl,lk,vK m⟩,λh4=>Rf (O9 lk m ⟨h4,hl⟩) λ_ _=>vw l⟩
    obtain⟨v,u,h1,h2,h3⟩:=one;refine⟨v::va,λi g' e=>?_⟩;cases i with
    |zero=>cases e;exact⟨v,u,rfl,h1,h2,h3⟩
    |succ i=>exact r i g' e
theorem TJ{h:Heap}{d:Str}{s:Stmt}{ps:List Str}{df:Option (Option Int)}(X:K.In h)(G:h.Ns mainGlobals mg)(e:DE K d s df)(b:HL d s ps df):∃f fd,oA K mg d s ps df f fd:=by
 cases df with
 |none =>
  obtain⟨f,oc,od,kV,dc,pm,an,cd,ct,sl,q1,q2,q3,q4⟩:=e;exact⟨f,_,nP X G q1,⟨⟨_,_,_,_,_,_,_,_,_,_,rfl,q2,q3⟩,q4⟩,(wB q2 q3 q4).binds b,λn z=>nomatch z⟩
 |some n =>
  obtain⟨a,tk,o,p,k,sD,⟨f,oc,od,kV,dc,pm,an,cd,ct,sl,q1,q2,q3,q4⟩,e⟩:=e;have z:=b K a tk o p k sD kV dc pm an cd ct e;exact⟨f,_,nP X G q1,⟨⟨_,_,_,_,_,_,_,_,_,_,rfl,q2,q3⟩,q4⟩,z.1,λm w=>by cases w;exact⟨tk,z.2⟩⟩
theorem EW{h:Heap}{bs:List String}{gs:List (Str×Gv)}{xs:List Xk}{va:List V}(X:K.In h)(G:h.Ns mainGlobals mg)(hb:∀x∈bs,mg (Str.ofString x)=none)(hg:GV K mg va gs)(hx:XM K mg xs):∀{ds:List Dd},vd K ds→u9 ds→sM bs gs xs ds=true→dQ P w K mg base (ds.map p6) (tab ds)
 |[],_,_,_=>dQ.nil
 |d::ds,q,b,k=>by
  obtain⟨k1,k2⟩:=bL k;have r:=EW X G hb hg hx q.2 b.2 k2;obtain⟨f,fd,D⟩:=TJ X G q.1 b.1;refine dQ.cons r ?_;obtain⟨nm,st,ps,N,lv,io,bd,df⟩:=d;cases io with
  |none=>exact TB r hb hg hx D k1
  |some io=>cases io with
   |nil=>exact TH r hb hg hx D k1
   |cons i io =>
    by_cases z:i::io=[1000]
    ·rw[z];rw[z]at k1;exact TF r hb hg hx D k1
    ·by_cases z':i::io=[1001]
     ·unfold lK p6;dsimp only;rw[if_neg z,if_pos z',z'];rw[z']at k1;exact UQ r hb hg hx D k1
     ·unfold lK p6;dsimp only;rw[if_neg z,if_neg z'];exact TC (i::io) ⟨List.cons_ne_nil _ _,z,z'⟩ r hb hg hx D k1
theorem bZ{d:Dd}{ds:List Dd}{t:List FT}{g:Ev→Option Fl}{F:List D→Option (M×D)}(e:tab ds=t)(h:d.io=none)(q:eB t d.b=g)(r:fn d.N.length g=F):tab (d::ds)=.p F::t:=by
 subst e q r;show lK (tab ds) d::tab ds=_;unfold lK;rw[h]
theorem TK{d:Dd}{ds:List Dd}{t:List FT}{g:Ev→Option Fl}{F:List D→Option Rs}(e:tab ds=t)(h:d.io=some [1001])(q:eB t d.b=g)(r:fnX d.N.length g=F):tab (d::ds)=.x F::t:=by
 subst e q r;show lK (tab ds) d::tab ds=_;unfold lK;rw[h];dsimp only;rw[if_neg (by decide),if_pos rfl]
theorem TN {h:Heap}{bs:List String}{gs:List (Str×Gv)}{xs:List Xk}{ds:List Dd}{st:Stmt}{N:List Str}{lv:Nat}{b:B}{t:List FT}{F:List D→Option (M×D)}{x:Str}{fa:Addr} (X:K.In h) (G:h.Ns mainGlobals mg) (zY:mg "law" = some (.ref fa)) (hb:vf K bs) (hg:vg K gs) (xt:XT K xs) (q:vd K (⟨"law",st,[x],N,lv,none,b,none⟩::ds)) (ba:u9 (⟨"law",st,[x],N,lv,none,b,none⟩::ds)) (k:sM bs gs xs (⟨"law",st,[x],N,lv,none,b,none⟩::ds)=true)
  (e:tab (⟨"law",st,[x],N,lv,none,b,none⟩::ds)=.p F::t) (hs:∀(kV doc pm:Value) (an:Option Addr) (aL ct:Value) (s:Shared) (v:Value),BindsTo s (PySem.W.fnOf "law" "law" (dy st) (cu st) (aW st) .none kV doc pm an aL ct) ⟨[v],[]⟩ [(x,v)]) :
  ∃fd:FuncData,(∀(s:Shared) (v:Value),BindsTo s fd ⟨[v],[]⟩ [(x,v)])∧∀base:Heap,K.In base→base.Ns mainGlobals mg→fQ P w K mg base (cI P w) (lv+1) fa fd [x] (mj K 1 F):=by
 obtain⟨k1,k2⟩:=bL k;have hb:=DS X G hb;obtain⟨va,hg⟩:=EV X G hg;have hx:XM K mg xs:=⟨xt,λe he C hC=>nP X G hC⟩;obtain⟨⟨f,oc,od,kV,dc,pm,an,cd,ct,sl,q1,q2,q3,q4⟩,qs⟩:=q;have ef:=zY.symm.trans (nP X G q1);cases ef;refine⟨_,λs v=>hs kV dc pm an cd ct s v,λbase _ _=>?_⟩;have r:dQ P w K mg base (ds.map p6) (tab ds):=EW X G hb hg hx qs ba.2 k2;have ht:fn N.length (eB (tab ds) b)=F:=by
  have e:FT.p (fn N.length (eB (tab ds) b))::tab ds=.p F::t:=e;cases e;rfl
 have fk:=wB (x := "law") (qual := "law") (st:=st) q2 q3 q4;refine fk.GB (nG k1) (λvs H Q E h=>h.1) (λaL A outer s H vs Q E hr q=>?_);obtain⟨ts,p1,p2⟩:=sB (Z0:=E0) (t:=tab ds) (va:=va) (K:=K) b (bL k1).2;rw[←ht]at q;exact⟨ts,(p1 _ (ctx r hb hg hx k1 hr)).go,vX p2 q⟩
end
noncomputable def jQ(s:Stmt):Stmt:=match s with
 |.ClassDef _ _ _ body _ _ _ _ _ _ _=>(body.find? λs=>match s with
  |.FunctionDef n ..=>n == "__init__"
  |_=>false).getD (.Pass ⟨0,0,0,0⟩)
 |s=>s
noncomputable def FY(K:PySem.W.Frag)(C:Addr):Bool :=
 PySem.W.findIn K (.ref C) "__getattribute__" == some (some (.builtin "BaseException.__getattribute__"))&&PySem.W.findIn K (.ref C) "__getattr__" == some none&&PySem.W.mroIn K C (.type "BaseException")==some true&&PySem.W.mroIn K C (.type "object")==some true &&
 PySem.W.hasDictIn K C&&PySem.W.findIn K (.ref C) "__class__" == some (some (.builtin "object.__class__"))&&PySem.W.specialIn K (.builtin "object.__class__") "__get__" == some (some (.builtin "getset_descriptor.__get__"))&&PySem.W.takesIn K (.builtin "object.__class__")==some true
theorem CG{K:PySem.W.Frag}{C:Addr}(h:FY K C=true):i5 K C:=by
 obtain⟨h1,h2,h3,h4,h5,h6,h7,h8⟩:=zN h;exact⟨beq_iff_eq.mp h1,beq_iff_eq.mp h2,beq_iff_eq.mp h3,beq_iff_eq.mp h4,h5,beq_iff_eq.mp h6,beq_iff_eq.mp h7,beq_iff_eq.mp h8⟩
noncomputable def adr:Option (Option Value)→Option Addr
 |some (some (.ref C))=>some C
 |_=>none
theorem DT{o:Option (Option Value)}{C:Addr}(h:adr o=some C):o=some (some (.ref C)):=by
 unfold adr at h;split at h
 ·cases h;rfl
 ·cases h
abbrev cA(K:PySem.W.Frag)(e:Xk):Option Addr:=adr (PySem.W.nsIn K mainGlobals e.nm)
noncomputable def zZ(K:PySem.W.Frag)(C:Addr):Bool:=match K.lookup C with
 |some ⟨.type "type",_,.cls _,_⟩=>true
 |_=>false
theorem RW{K:PySem.W.Frag}{C:Addr}(h:zZ K C=true):∃od cd sl,K.lookup C=some ⟨.type "type",od,.cls cd,sl⟩:=by
 unfold zZ at h;split at h
 ·rename_i q;exact⟨_,_,_,q⟩
 ·cases h
def HR(K:PySem.W.Frag)(xs:List Xk)(e:Xk)(C:Addr):Bool :=
 PySem.W.keepIn K (.ref C)&&zZ K C&&FY K C&&xs.all (λe'=>e'.ns.all λf=>PySem.W.findIn K (.ref C) f==some none)&&PySem.W.kitOne K (.ref C) (.type "ValueError")==some (e.up.contains "ValueError")&&ot.all (λt=>PySem.W.kitOne K (.type t) (.ref C)==some false) &&
 xs.all λe'=>on (cA K e') λC'=>PySem.W.mroIn K C (.ref C')==some (e.up.contains e'.nm)&&PySem.W.kitOne K (.ref C) (.ref C')==some (e.up.contains e'.nm)
def z4(K:PySem.W.Frag)(xs:List Xk):Bool:=xs.all (λe=>on (cA K e) λC=>HR K xs e C)&&ot.all (λt=>PySem.W.kitOne K (.type t) (.type "ValueError")==some false)&&decide (xs.map (·.nm)).Nodup
structure IE (K:PySem.W.Frag)(e:Xk):Prop where
 ex:∃(C f:Addr) (oc:Value) (od:Option Addr) (kV doc pm:Value) (an:Option Addr) (aL ct:Value) (du:Array (Option Value)) (dd:Option Addr) (cd:ClassData) (k0 k1 k2 k3 k5:Option Value) (bm:List Value),
  PySem.W.nsIn K mainGlobals e.nm=some (some (.ref C))∧K.lookup C=some ⟨.type "type",dd,.cls cd,#[k0,k1,k2,k3,some (.builtin "ValueError.__new__"),k5]⟩∧cd.mro=.ref C::bm∧cd.hasDel=false∧cd.hasDict=true∧PySem.W.tailIn K jH bm=true∧PySem.W.nsOkIn K cd.ns=true∧PySem.W.nsIn K cd.ns "__init__" = some (some (.ref f)) ∧
  K.lookup f=some ⟨oc,od,.func (PySem.W.fnOf "__init__" e.qn (dy e.st) (cu e.st) (aW e.st) .none kV doc pm an aL ct),du⟩∧PySem.W.codeIn K aL e.qn=true∧PySem.W.keepIn K (.ref f)=true∧PySem.W.isFn K (.ref f)=true∧PySem.W.findIn K (.ref C) "__setattr__" = some (some (.builtin "object.__setattr__"))
def BI(e:Xk):Prop:=∀(kV doc pm:Value) (an:Option Addr) (aL ct:Value) (us:List Value),us.length=(("self" : Str)::e.ns).length→bindArgs (PySem.W.fnOf "__init__" e.qn (dy e.st) (cu e.st) (aW e.st) .none kV doc pm an aL ct) ⟨us,[]⟩=pure ((("self" : Str)::e.ns).zip us)
noncomputable def vh(K:PySem.W.Frag):List Xk→Prop
 |[]=>True
 |e::r=>(e.ns=[]∨IE K e)∧vh K r
noncomputable def vi:List Xk→Prop
 |[]=>True
 |e::r=>(e.ns=[]∨BI e)∧vi r
theorem ies{K:PySem.W.Frag}:∀{xs:List Xk},vh K xs→vi xs→∀e∈xs,e.ns≠[]→IE K e∧BI e
 |[],_,_,e,h=>nomatch h
 |a::r,h,b,e,he=>λhn=>by
  rcases cH.mp he with rfl|he
  ·exact⟨h.1.resolve_left hn,b.1.resolve_left hn⟩
  ·exact ies h.2 b.2 e he hn
theorem TQ{K:PySem.W.Frag}{xs:List Xk}(h:z4 K xs=true)(hi:vh K xs)(hb:vi xs):XT K xs:=by
 obtain⟨h1,h2,h3⟩:=eZ h;have at_:∀e∈xs,∃C,PySem.W.nsIn K mainGlobals e.nm=some (some (.ref C))∧HR K xs e C=true:=λe he=>by
  obtain⟨C,q,r⟩:=av (bY.mp h1 e he);exact⟨C,DT q,r⟩
 refine⟨λe he=>?_,λe he e' mC C C' hC Wh=>?_,λt ht=>beq_iff_eq.mp (bY.mp h2 t ht),aA h3⟩
 ·obtain⟨C,hC,r⟩:=at_ e he;obtain⟨r1,r2,r3,r4,r5,r6,r7⟩:=uY r;refine⟨C,hC,r1,⟨RW r2,(CG r3).be⟩,CG r3,λe' mC f hf=>beq_iff_eq.mp (bY.mp (bY.mp r4 e' mC) f hf),beq_iff_eq.mp r5,λt ht=>beq_iff_eq.mp (bY.mp r6 t ht),λhn=>?_⟩;obtain⟨i,b⟩:=ies hi hb e he hn;obtain⟨C2,f,oc,od,kV,doc,pm,an,aL,ct,du,dd,cd,k0,k1,k2,k3,k5,bm,q1,q2,q3,q4,q5,q6,q7,q8,q9,Wi,Wj,Wk,Wm⟩:=i.ex;rw[hC]at q1;cases q1;have fu:=wB (x := "__init__") (qual:=e.qn) (st:=e.st) q9 Wi Wj;exact⟨f,_,e.qn,⟨⟨dd,cd,k0,k1,k2,k3,k5,bm,q2,q3,q4,q5,q6,q7,q8⟩,Wk,Wm,λn hn=>beq_iff_eq.mp (bY.mp (bY.mp r4 e he) n hn)⟩,fu,fu.binds b⟩
 ·obtain⟨C2,HS,r⟩:=at_ e he;rw[hC]at HS;cases HS;obtain⟨_,_,_,_,_,_,r7⟩:=uY r;have z:=bY.mp r7 e' mC;obtain⟨C3,q,r⟩:=av z;have q:=DT q;rw[Wh]at q;cases q;obtain⟨z1,z2⟩:=bL r;exact⟨beq_iff_eq.mp z1,beq_iff_eq.mp z2⟩
theorem yq{K:PySem.W.Frag}{e:Xk}{C f:Addr}{oc:Value}{od:Option Addr}{kV doc pm:Value}{an:Option Addr}{aL ct:Value}{du:Array (Option Value)}{dd:Option Addr}{cd:ClassData}{k0 k1 k2 k3 k5:Option Value}{bm:List Value}
  (a:PySem.W.nsIn K mainGlobals e.nm=some (some (.ref C))) (l:K.lookup C=some ⟨.type "type",dd,.cls cd,#[k0,k1,k2,k3,some (.builtin "ValueError.__new__"),k5]⟩) (m:cd.mro=.ref C::bm∧cd.hasDel=false∧cd.hasDict=true) (tl:PySem.W.tailIn K jH bm=true) (ok:PySem.W.nsOkIn K cd.ns=true) (i:PySem.W.nsIn K cd.ns "__init__" = some (some (.ref f)))
  (lf:K.lookup f=some ⟨oc,od,.func (PySem.W.fnOf "__init__" e.qn (dy e.st) (cu e.st) (aW e.st) .none kV doc pm an aL ct),du⟩) (c:PySem.W.codeIn K aL e.qn=true) (k:PySem.W.keepIn K (.ref f)=true) (fn:PySem.W.isFn K (.ref f)=true) (sa:PySem.W.findIn K (.ref C) "__setattr__" = some (some (.builtin "object.__setattr__"))):IE K e :=
 ⟨C,f,oc,od,kV,doc,pm,an,aL,ct,du,dd,cd,k0,k1,k2,k3,k5,bm,a,l,m.1,m.2.1,m.2.2,tl,ok,i,lf,c,k,fn,sa⟩
end C
namespace L2
open PySem
theorem TR{P:Program}{w:World}{o H s e s'}(h:cI P w o H s (λ_ _ _=>False) e s'):False:=by
 obtain⟨_,_,_,_,_,_,_,_,_,_,z⟩:=h;exact z
end L2
namespace bB
open PySem PySem.Spec L2 My J
noncomputable def top(i:Nat):PySem.Stmt:=PySem.Challenge.pw_lazyhoist_k15_texts_refused.main.body.getD i (.Pass ⟨0,0,0,0⟩)
noncomputable def bs:List String:=["ValueError", "abs", "all", "bool", "enumerate", "int", "isinstance", "len", "max", "range", "str", "tuple"]
noncomputable def gs:List (Str×C.Gv):=[("SIGNS",(.t ["+", "-", "*", "&", "|", "^", "<", "="])),("ROW_WORDS",(.t ["say", "go", "part", "end"])),("LETTERS",(.s "abcdefghijklmnopqrstuvwxyz")),("FIGURES",(.s "0123456789"))]
noncomputable def jQ(s:PySem.Stmt):PySem.Stmt:=C.jQ s
def xs:List C.Xk:=[⟨"HoistError",[],jQ (top 1),["HoistError", "ValueError"], "HoistError.__init__"⟩,⟨"NoText",["line"],jQ (top 2),["NoText", "HoistError", "ValueError"], "NoText.__init__"⟩,⟨"NoProgram",["word", "at"],jQ (top 3),["NoProgram", "HoistError", "ValueError"], "NoProgram.__init__"⟩,⟨"NoPaper",["word", "at", "way"],jQ (top 4),["NoPaper", "HoistError", "ValueError"], "NoPaper.__init__"⟩]
noncomputable def e0:C.tab []=[]:=rfl
def AA:Ev→Option Fl :=
 (au (aS (jB (ag jK (jV 1) (aD aY (ae (jV 0) ah))))
  (aE (ag aC (jV 0) (jV 1)))
  aP)
 (au (aJ 2 (aD aY (ae (jV 0) ah)))
 (au (aS (jB (ag aO (jV 2) (jC (.int 0))))
  (aE (ag gE (jV 1) (jC (.int 7919))))
  aP)
 (aE (ag a6 (ag gE (ag bM (aD pW (ae (ag aC (jV 0) (ag bM (jV 1) (jV 2))) ah)) (jC (.int 1000003))) (ag a6 (jV 1) (jC (.int 2)))) (ag gE (jV 1) (jC (.int 7919))))))))
def mI:List D→Option (M×D):=fn 3 AA
def d1:C.Dd:=⟨"_law_cell",top 26,["_law_script", "_law_k"],["_law_script", "_law_k", "_law_many_here"],0,none,(.c (.ie (.c .lt (.v 1) (.fb .len (.c (.v 0) .n))) (.o (.l (.rt (.ix (.v 0) (.v 1))))) .n) (.c (.l (.st 2 (.fb .len (.c (.v 0) .n)))) (.c (.ie (.c .eq (.v 2) (.ki 0)) (.o (.l (.rt (.bo .mul (.v 1) (.ki 7919))))) .n) (.o (.l (.rt (.bo .add (.bo .mul (.bo .mod (.fb .abs (.c (.ix (.v 0) (.bo .mod (.v 1) (.v 2))) .n)) (.ki 1000003)) (.bo .add (.v 1) (.ki 2))) (.bo .mul (.v 1) (.ki 7919))))))))),none⟩
def e1:=C.bZ (d:=d1) (F:=mI) e0 rfl rfl rfl
def qP:Ev→Option Fl :=
 (au (eO 3 (ag bM (jV 2) (jV 4)))
 (aJ 2 (ag cz (jV 2) (jV 4))))
def Af:Ev→Option Fl :=
 (au (aJ 2 (ag bM (ag gE (jV 0) (jC (.int 48271))) (jC (.int 2147483647))))
 (au (aJ 3 (bh ah))
 (au (pX 1 (fU (kN (jV 1)) (gN 4)
  qP))
 (aE (jV 3)))))
def qT:List D→Option (M×D):=fn 5 Af
def d2:C.Dd:=⟨"_law_digits",top 28,["_law_cell_here", "_law_sizes"],["_law_cell_here", "_law_sizes", "_law_number", "_law_found", "_law_size"],0,none,(.c (.l (.st 2 (.bo .mod (.bo .mul (.v 0) (.ki 48271)) (.ki 2147483647)))) (.c (.l (.st 3 (.li .n))) (.c (.fz 1 (.fo (.l (.v 1)) (.n 4) (.c (.l (.ap 3 (.bo .mod (.v 2) (.v 4)))) (.o (.l (.st 2 (.bo .div (.v 2) (.v 4)))))))) (.o (.l (.rt (.v 3))))))),none⟩
def e2:=C.bZ (d:=d2) (F:=qT) e1 rfl rfl rfl
def Ac:Ev→Option Fl :=
 (au (aS (jB (ag jK (jV 0) (aD aY (ae (jV 2) ah))))
  (aE (ag aC (jV 2) (jV 0)))
  aP)
 (au (aS (jB (ag aO (jV 0) (aD aY (ae (jV 2) ah))))
  (aE (ag bM (jV 1) (jC (.int 3))))
  aP)
 (au (aS (jB (ag aO (ag bM (jV 1) (jC (.int 3))) (jC (.int 0))))
  (aE (ag j8 (jC (.int 18446744073709551615)) (ag bM (ag cz (jV 1) (jC (.int 3))) (jC (.int 9)))))
  aP)
 (aE (ag bM (ag gE (jV 1) (jC (.int 48271))) (jC (.int 18446744073709551616)))))))
def oH:List D→Option (M×D):=fn 3 Ac
def d3:C.Dd:=⟨"_law_operand",top 29,["_law_digit", "_law_cell_here", "_law_names_here"],["_law_digit", "_law_cell_here", "_law_names_here"],0,none,(.c (.ie (.c .lt (.v 0) (.fb .len (.c (.v 2) .n))) (.o (.l (.rt (.ix (.v 2) (.v 0))))) .n) (.c (.ie (.c .eq (.v 0) (.fb .len (.c (.v 2) .n))) (.o (.l (.rt (.bo .mod (.v 1) (.ki 3))))) .n) (.c (.ie (.c .eq (.bo .mod (.v 1) (.ki 3)) (.ki 0)) (.o (.l (.rt (.bo .sub (.ki 18446744073709551615) (.bo .mod (.bo .div (.v 1) (.ki 3)) (.ki 9)))))) .n) (.o (.l (.rt (.bo .mod (.bo .mul (.v 1) (.ki 48271)) (.ki 18446744073709551616)))))))),none⟩
def e3:=C.bZ (d:=d3) (F:=oH) e2 rfl rfl rfl
def AF:Ev→Option Fl :=
 (au (aJ 2 (ag a6 (aD aY (ae (jV 1) ah)) (jC (.int 2))))
 (au (tJ (gL 5 (di (gN 3) (di (gN 4) (di (gN 5) (di (gN 6) (di (gN 7) jm)))))) (aB qT (ae (jV 0) (ae (bh (ae (jC (.int 8)) (ae (aD aY (ae (jV 1) ah)) (ae (jC (.int 8)) (ae (jV 2) (ae (jV 2) ah)))))) ah))))
 (au (aJ 8 (bh (ae (aD hV (ae (aB oH (ae (jV 6) (ae (jV 0) (ae (jV 1) ah)))) ah)) (ae (aD hV (ae (aB oH (ae (jV 7) (ae (ag cz (jV 0) (jC (.int 7))) (ae (jV 1) ah)))) ah)) ah))))
 (au (aS (jB (ag jK (jV 3) (jC (.int 3))))
  (aE (bh (ae (ag aC (jV 1) (jV 4)) (ae (jC (.str "=")) (ae (ag aC (jV 8) (jC (.int 0))) (ae (ag aC (jC (.str "+-*&|^<=")) (jV 5)) (ae (ag aC (jV 8) (jC (.int 1))) ah)))))))
  aP)
 (au (aS (jB (ag jK (jV 3) (jC (.int 5))))
  (aE (bh (ae (ag aC (jV 1) (jV 4)) (ae (jC (.str "=")) (ae (ag aC (jV 8) (jC (.int 0))) ah)))))
  aP)
 (aE (ag aC (bh (ae (bh (ae (jC (.str "say")) (ae (ag aC (jV 8) (jC (.int 0))) ah))) (ae (bh (ae (jC (.str "go")) (ae (aD hV (ae (ag bM (jV 0) (jC (.int 70))) ah)) ah))) (ae (bh (ae (jC (.str "part")) (ae (ag aC (jV 8) (jC (.int 0))) (ae (aD hV (ae (ag bM (jV 0) (jC (.int 70))) ah)) ah)))) ah)))) (ag j8 (jV 3) (jC (.int 5))))))))))
def mK:List D→Option (M×D):=fn 9 AF
def d4:C.Dd:=⟨"_law_line",top 30,["_law_cell_here", "_law_names_here"],["_law_cell_here", "_law_names_here", "_law_wide", "_law_kind", "_law_x", "_law_s", "_law_one", "_law_other", "_law_words"],1,none,(.c (.l (.st 2 (.bo .add (.fb .len (.c (.v 1) .n)) (.ki 2)))) (.c (.l (.as (.l 5 (.c (.n 3) (.c (.n 4) (.c (.n 5) (.c (.n 6) (.c (.n 7) .n)))))) (.ca 1 (.c (.v 0) (.c (.li (.c (.ki 8) (.c (.fb .len (.c (.v 1) .n)) (.c (.ki 8) (.c (.v 2) (.c (.v 2) .n)))))) .n))))) (.c (.l (.st 8 (.li (.c (.fb .str (.c (.ca 0 (.c (.v 6) (.c (.v 0) (.c (.v 1) .n)))) .n)) (.c (.fb .str (.c (.ca 0 (.c (.v 7) (.c (.bo .div (.v 0) (.ki 7)) (.c (.v 1) .n)))) .n)) .n))))) (.c (.ie (.c .lt (.v 3) (.ki 3)) (.o (.l (.rt (.li (.c (.ix (.v 1) (.v 4)) (.c (.ks "=") (.c (.ix (.v 8) (.ki 0)) (.c (.ix (.ks "+-*&|^<=") (.v 5)) (.c (.ix (.v 8) (.ki 1)) .n))))))))) .n) (.c (.ie (.c .lt (.v 3) (.ki 5)) (.o (.l (.rt (.li (.c (.ix (.v 1) (.v 4)) (.c (.ks "=") (.c (.ix (.v 8) (.ki 0)) .n))))))) .n) (.o (.l (.rt (.ix (.li (.c (.li (.c (.ks "say") (.c (.ix (.v 8) (.ki 0)) .n))) (.c (.li (.c (.ks "go") (.c (.fb .str (.c (.bo .mod (.v 0) (.ki 70)) .n)) .n))) (.c (.li (.c (.ks "part") (.c (.ix (.v 8) (.ki 0)) (.c (.fb .str (.c (.bo .mod (.v 0) (.ki 70)) .n)) .n)))) .n)))) (.bo .sub (.v 3) (.ki 5))))))))))),none⟩
def e4:=C.bZ (d:=d4) (F:=mK) e3 rfl rfl rfl
def AG:Ev→Option Fl :=
 (aE (aD aY (ae (fA (kN (jV 0)) [] (jB (ag c9 (bp a8 jY (ag aC (bp a8 dA (jV 0) (ae (jC (.str "#")) ah)) (jC (.int 0))) (ae (jC (.str " ")) ah)) (jC (.str "")))) (jV 0)) ah)))
def jT:List D→Option (M×D):=fn 1 AG
def d5:C.Dd:=⟨"_law_many",top 34,["_law_lines"],["_law_lines"],0,none,(.o (.l (.rt (.fb .len (.c (.cp (.l (.v 0)) [] (.c .ne (.ms .strip (.ix (.ms .split (.v 0) (.c (.ks "#") .n)) (.ki 0)) (.c (.ks " ") .n)) (.ks "")) (.v 0)) .n))))),none⟩
def e5:=C.bZ (d:=d5) (F:=jT) e4 rfl rfl rfl
def vx:Ev→Option Fl :=
 (aE (ag a6 (jV 0) (fA (j9 (ae (aD lF (ae (ag j8 (jV 2) (aB jT (ae (jV 0) ah))) (ae (jC (.int 0)) ah))) ah)) [1] eQ (bp a8 bJ (jC (.str " ")) (ae (jV 1) ah)))))
def vy:List D→Option (M×D):=fn 3 vx
def d6:C.Dd:=⟨"_law_more",top 35,["_law_lines", "_law_words", "_law_many_here"],["_law_lines", "_law_words", "_law_many_here"],1,none,(.o (.l (.rt (.bo .add (.v 0) (.cp (.r1 (.c (.fb .max (.c (.bo .sub (.v 2) (.ca 0 (.c (.v 0) .n))) (.c (.ki 0) .n))) .n)) [1] .y (.ms .join (.ks " ") (.c (.v 1) .n))))))),none⟩
def e6:=C.bZ (d:=d6) (F:=vy) e5 rfl rfl rfl
def qR:Ev→Option Fl :=
 (au (rQ 5 (jV 4) (ag aC (jV 2) (ag bM (ag a6 (ag cz (jV 0) (jC (.int 64))) (jV 7)) (jC (.int 26)))))
 (au (aJ 8 (bp a8 bJ (jC (.str "")) (ae (jV 5) ah)))
 (au (aS (jB (ag (hU false) (jV 8) (hR (ae (jC (.str "say")) (ae (jC (.str "go")) (ae (jC (.str "part")) (ae (jC (.str "end")) ah)))))))
  (aJ 8 (ag a6 (jV 8) (jC (.str "0"))))
  aP)
 (eO 6 (jV 8)))))
def An:Ev→Option Fl :=
 (au (aJ 2 (jC (.str "abcdefghijklmnopqrstuvwxyz0123456789")))
 (au (aJ 3 (ag a6 (jC (.int 1)) (ag bM (jV 0) (jC (.int 8)))))
 (au (aJ 4 (ag bM (ag cz (jV 0) (jC (.int 8))) (jV 3)))
 (au (aJ 5 (fA (j9 (ae (jV 3) ah)) [2,0] eQ (ag aC (jV 1) (ag bM (ag cz (jV 2) (ag a6 (jC (.int 64)) (ag gE (jC (.int 5)) (jV 0)))) (ag aC (bh (ae (jC (.int 26)) (ae (jC (.int 36)) ah))) (aD lE (ae (ag f7 (jV 0) (jC (.int 0))) ah)))))))
 (au (aJ 6 (bh ah))
 (au (fU (j9 (ae (jV 1) ah)) (gN 7)
  qR)
 (aE (jV 6))))))))
def qU:List D→Option (M×D):=fn 9 An
def d7:C.Dd:=⟨"_law_names",top 27,["_law_cell_here", "_law_many_here"],["_law_cell_here", "_law_many_here", "_law_signs", "_law_size", "_law_spot", "_law_some", "_law_found", "_law_k", "_law_name"],0,none,(.c (.l (.st 2 (.ks "abcdefghijklmnopqrstuvwxyz0123456789"))) (.c (.l (.st 3 (.bo .add (.ki 1) (.bo .mod (.v 0) (.ki 8))))) (.c (.l (.st 4 (.bo .mod (.bo .div (.v 0) (.ki 8)) (.v 3)))) (.c (.l (.sc 5 (.r1 (.c (.v 3) .n)) [2,0] .y (.ix (.v 1) (.bo .mod (.bo .div (.v 2) (.bo .add (.ki 64) (.bo .mul (.ki 5) (.v 0)))) (.ix (.li (.c (.ki 26) (.c (.ki 36) .n))) (.fb .int (.c (.co .gt (.v 0) (.ki 0)) .n))))))) (.c (.l (.st 6 (.li .n))) (.c (.fo (.r1 (.c (.v 1) .n)) (.n 7) (.c (.l (.si 5 (.v 4) (.ix (.v 2) (.bo .mod (.bo .add (.bo .div (.v 0) (.ki 64)) (.v 7)) (.ki 26))))) (.c (.l (.st 8 (.ms .join (.ks "") (.c (.v 5) .n)))) (.c (.ie (.c .qG (.v 8) (.tu (.c (.ks "say") (.c (.ks "go") (.c (.ks "part") (.c (.ks "end") .n)))))) (.o (.l (.st 8 (.bo .add (.v 8) (.ks "0"))))) .n) (.o (.l (.ap 6 (.v 8)))))))) (.o (.l (.rt (.v 6)))))))))),none⟩
def e7:=C.bZ (d:=d7) (F:=qU) e6 rfl rfl rfl
def vo:Ev→Option Fl :=
 (au (aJ 1 (aD hV (ae (ag a6 (jC (.int 18446744073709551616)) (ag bM (ag cz (jV 0) (jC (.int 12))) (jC (.int 9)))) ah)))
 (au (aJ 2 (bh (ae (jC (.str "A")) (ae (jC (.str "9a")) (ae (jC (.str "abcdefghi")) (ae (jC (.str "007")) (ae (jC (.str "-1")) (ae (jC (.str "+")) (ae (jC (.str "=")) (ae (jC (.str "a_b")) (ae (jV 1) (ae (jC (.str "x.")) (ae (jC (.str "1e3")) (ae (jC (.str "end")) (ae (jC (.str "+1")) (ae (jC (.str "1_0")) (ae (jC (.str "01")) (ae (jC (.str "-0")) ah))))))))))))))))))
 (aE (ag aC (jV 2) (ag bM (jV 0) (jC (.int 16)))))))
def vp:List D→Option (M×D):=fn 3 vo
def d8:C.Dd:=⟨"_law_bad_word",top 31,["_law_cell_here"],["_law_cell_here", "_law_far", "_law_some"],0,none,(.c (.l (.st 1 (.fb .str (.c (.bo .add (.ki 18446744073709551616) (.bo .mod (.bo .div (.v 0) (.ki 12)) (.ki 9))) .n)))) (.c (.l (.st 2 (.li (.c (.ks "A") (.c (.ks "9a") (.c (.ks "abcdefghi") (.c (.ks "007") (.c (.ks "-1") (.c (.ks "+") (.c (.ks "=") (.c (.ks "a_b") (.c (.v 1) (.c (.ks "x.") (.c (.ks "1e3") (.c (.ks "end") (.c (.ks "+1") (.c (.ks "1_0") (.c (.ks "01") (.c (.ks "-0") .n))))))))))))))))))) (.o (.l (.rt (.ix (.v 2) (.bo .mod (.v 0) (.ki 16)))))))),none⟩
def e8:=C.bZ (d:=d8) (F:=vp) e7 rfl rfl rfl
def vz:Ev→Option Fl :=
 (au (aJ 2 (bh (ae (jC (.str "x")) (ae (jC (.str "x =")) (ae (jC (.str "= 3")) (ae (jC (.str "x = 3 +")) (ae (jC (.str "x = + 3")) (ae (jC (.str "x = 3 4")) (ae (jC (.str "x == 3")) (ae (jC (.str "say")) (ae (jC (.str "say x y")) (ae (jC (.str "go")) (ae (jC (.str "go x")) (ae (jC (.str "go 1 2")) ah))))))))))))))
 (au (aJ 2 (ag a6 (jV 2) (bh (ae (jC (.str "part 1")) (ae (jC (.str "part x y")) (ae (jC (.str "end 0")) (ae (jC (.str "End")) (ae (jC (.str "x=3")) (ae (jC (.str "say = 3")) (ae (jC (.str "x = y > z")) (ae (jC (.str "go 01")) (ae (jC (.str "part x 1 2")) (ae (jC (.str "go -1")) ah)))))))))))))
 (au (aJ 3 (aB mK (ae (ag cz (jV 0) (jC (.int 7))) (ae (jV 1) ah))))
 (au (aJ 4 (ag bM (jV 0) (jC (.int 7))))
 (au (aJ 5 (ag bM (ag cz (jV 0) (jC (.int 7))) (aD aY (ae (jV 3) ah))))
 (au (aS (jB (ag aO (jV 4) (jC (.int 0))))
  (aE (bp a8 bJ (jC (.str " ")) (ae (ag a6 (jV 3) (bh (ae (jC (.str "x")) ah))) ah)))
  aP)
 (au (aS (bW (jB (ag aO (jV 4) (jC (.int 1)))) (cw (jB (ag c9 (aD aY (ae (jV 3) ah)) (jC (.int 5)))) (jB (ag aO (jV 5) (jC (.int 1))))))
  (aE (bp a8 bJ (jC (.str " ")) (ae (ag a6 (de cS (jV 3) dS (cy (n9 tK (jC (.int 1))))) (bh (ae (jC (.str "!")) ah))) ah)))
  aP)
 (au (aS (jB (ag aO (jV 4) (jC (.int 1))))
  (aE (bp a8 bJ (jC (.str " ")) (ae (ag a6 (de cS (jV 3) dS (cy (jV 5))) (de cS (jV 3) (cy (ag a6 (jV 5) (jC (.int 1)))) dS)) ah)))
  aP)
 (au (aS (bW (jB (ag aO (jV 4) (jC (.int 2)))) (bW (jB (ag c9 (jV 5) (jC (.int 1)))) (bW (jB (ag c9 (ag aC (jV 3) (jC (.int 0))) (jC (.str "part")))) (cE (bW (jB (ag aO (aD aY (ae (jV 3) ah)) (jC (.int 5)))) (jB (ag aO (jV 5) (jC (.int 3)))))))))
  (aE (bp a8 bJ (jC (.str " ")) (ae (ag a6 (ag a6 (de cS (jV 3) dS (cy (jV 5))) (bh (ae (aB vp (ae (ag cz (jV 0) (jC (.int 49))) ah)) ah))) (de cS (jV 3) (cy (ag a6 (jV 5) (jC (.int 1)))) dS)) ah)))
  aP)
 (au (aJ 2 (ag a6 (jV 2) (bh (ae (jC (.str "x = 3 +- 4")) (ae (jC (.str "x = 3 *| 4")) (ae (jC (.str "x = 3 + + 4")) (ae (jC (.str "go +1")) (ae (jC (.str "go 1_0")) (ae (jC (.str "part x 01")) (ae (jC (.str "say -0")) (ae (jC (.str "x = +1")) ah)))))))))))
 (au (aJ 2 (ag a6 (jV 2) (bh (ae (jC (.str "sa 3")) (ae (jC (.str "saysay 3")) (ae (jC (.str "part x, 3")) (ae (jC (.str "x = 3, 4")) (ae (jC (.str "end end")) (ae (jC (.str "g 3")) ah)))))))))
 (aE (ag aC (jV 2) (ag bM (ag cz (jV 0) (jC (.int 7))) (jC (.int 36))))))))))))))))
def vA:List D→Option (M×D):=fn 6 vz
def d9:C.Dd:=⟨"_law_none",top 32,["_law_cell_here", "_law_names_here"],["_law_cell_here", "_law_names_here", "_law_some", "_law_words", "_law_way", "_law_spot"],2,none,(.c (.l (.st 2 (.li (.c (.ks "x") (.c (.ks "x =") (.c (.ks "= 3") (.c (.ks "x = 3 +") (.c (.ks "x = + 3") (.c (.ks "x = 3 4") (.c (.ks "x == 3") (.c (.ks "say") (.c (.ks "say x y") (.c (.ks "go") (.c (.ks "go x") (.c (.ks "go 1 2") .n))))))))))))))) (.c (.l (.st 2 (.bo .add (.v 2) (.li (.c (.ks "part 1") (.c (.ks "part x y") (.c (.ks "end 0") (.c (.ks "End") (.c (.ks "x=3") (.c (.ks "say = 3") (.c (.ks "x = y > z") (.c (.ks "go 01") (.c (.ks "part x 1 2") (.c (.ks "go -1") .n)))))))))))))) (.c (.l (.st 3 (.ca 4 (.c (.bo .div (.v 0) (.ki 7)) (.c (.v 1) .n))))) (.c (.l (.st 4 (.bo .mod (.v 0) (.ki 7)))) (.c (.l (.st 5 (.bo .mod (.bo .div (.v 0) (.ki 7)) (.fb .len (.c (.v 3) .n))))) (.c (.ie (.c .eq (.v 4) (.ki 0)) (.o (.l (.rt (.ms .join (.ks " ") (.c (.bo .add (.v 3) (.li (.c (.ks "x") .n))) .n))))) .n) (.c (.ie (.an (.c .eq (.v 4) (.ki 1)) (.or (.c .ne (.fb .len (.c (.v 3) .n)) (.ki 5)) (.c .eq (.v 5) (.ki 1)))) (.o (.l (.rt (.ms .join (.ks " ") (.c (.bo .add (.sl (.v 3) .n (.s (.uo .neg (.ki 1)))) (.li (.c (.ks "!") .n))) .n))))) .n) (.c (.ie (.c .eq (.v 4) (.ki 1)) (.o (.l (.rt (.ms .join (.ks " ") (.c (.bo .add (.sl (.v 3) .n (.s (.v 5))) (.sl (.v 3) (.s (.bo .add (.v 5) (.ki 1))) .n)) .n))))) .n) (.c (.ie (.an (.c .eq (.v 4) (.ki 2)) (.an (.c .ne (.v 5) (.ki 1)) (.an (.c .ne (.ix (.v 3) (.ki 0)) (.ks "part")) (.nt (.an (.c .eq (.fb .len (.c (.v 3) .n)) (.ki 5)) (.c .eq (.v 5) (.ki 3))))))) (.o (.l (.rt (.ms .join (.ks " ") (.c (.bo .add (.bo .add (.sl (.v 3) .n (.s (.v 5))) (.li (.c (.ca 0 (.c (.bo .div (.v 0) (.ki 49)) .n)) .n))) (.sl (.v 3) (.s (.bo .add (.v 5) (.ki 1))) .n)) .n))))) .n) (.c (.l (.st 2 (.bo .add (.v 2) (.li (.c (.ks "x = 3 +- 4") (.c (.ks "x = 3 *| 4") (.c (.ks "x = 3 + + 4") (.c (.ks "go +1") (.c (.ks "go 1_0") (.c (.ks "part x 01") (.c (.ks "say -0") (.c (.ks "x = +1") .n)))))))))))) (.c (.l (.st 2 (.bo .add (.v 2) (.li (.c (.ks "sa 3") (.c (.ks "saysay 3") (.c (.ks "part x, 3") (.c (.ks "x = 3, 4") (.c (.ks "end end") (.c (.ks "g 3") .n)))))))))) (.o (.l (.rt (.ix (.v 2) (.bo .mod (.bo .div (.v 0) (.ki 7)) (.ki 36))))))))))))))))),none⟩
def e9:=C.bZ (d:=d9) (F:=vA) e8 rfl rfl rfl
def Ba:Ev→Option Fl :=
 (au (aS (cw (cE (jB (aD bx (ae (jV 0) (ae (jC (.ty "str")) ah))))) (cw (jB (ag jK (aD aY (ae (jV 0) ah)) (jC (.int 1)))) (jB (ag f7 (aD aY (ae (jV 0) ah)) (jC (.int 8))))))
  (aE (jC (.bl false)))
  aP)
 (au (aS (cw (jB (ag (hU false) (jV 0) (jC (.tup [.str "say",.str "go",.str "part",.str "end"])))) (jB (ag (dE true) (ag aC (jV 0) (jC (.int 0))) (jC (.str "abcdefghijklmnopqrstuvwxyz")))))
  (aE (jC (.bl false)))
  aP)
 (aE (aD lJ (ae (fA (oh (jV 0)) [] eQ (kK (ag (dE false) (jV 0) (jC (.str "abcdefghijklmnopqrstuvwxyz"))) (ag (dE false) (jV 0) (jC (.str "0123456789"))))) ah)))))
def mM:List D→Option (M×D):=fn 1 Ba
def HV:C.Dd:=⟨"is_name",top 10,["thing"],["thing"],0,none,(.c (.ie (.or (.nt (.b (.fb .i9 (.c (.v 0) (.c (.ty "str") .n))))) (.or (.c .lt (.fb .len (.c (.v 0) .n)) (.ki 1)) (.c .gt (.fb .len (.c (.v 0) .n)) (.ki 8)))) (.o (.l (.rt (.kb false)))) .n) (.c (.ie (.or (.c .qG (.v 0) (.gc 1 (.t ["say", "go", "part", "end"]))) (.c .uS (.ix (.v 0) (.ki 0)) (.gc 2 (.s "abcdefghijklmnopqrstuvwxyz")))) (.o (.l (.rt (.kb false)))) .n) (.o (.l (.rt (.fb .all (.c (.cp (.s (.v 0)) [] .y (.or (.co .ou (.v 0) (.gc 2 (.s "abcdefghijklmnopqrstuvwxyz"))) (.co .ou (.v 0) (.gc 3 (.s "0123456789"))))) .n))))))),none⟩
def Wn:=C.bZ (d:=HV) (F:=mM) e9 rfl rfl rfl
def Ao:Ev→Option Fl :=
 (aE (cC (aD bx (ae (jV 0) (ae (jC (.ty "int")) ah))) (nB (aD bx (ae (jV 0) (ae (jC (.ty "bool")) ah))))))
def oM:List D→Option (M×D):=fn 1 Ao
def HW:C.Dd:=⟨"is_number",top 11,["thing"],["thing"],0,none,(.o (.l (.rt (.an (.fb .i9 (.c (.v 0) (.c (.ty "int") .n))) (.nt (.fb .i9 (.c (.v 0) (.c (.ty "bool") .n)))))))),none⟩
def Wo:=C.bZ (d:=HW) (F:=oM) Wn rfl rfl rfl
def AH:Ev→Option Fl :=
 (aE (cC (aB oM (ae (jV 0) ah)) (o7 uI jK (jC (.int 0)) (jV 0) (ag pV (jC (.int 2)) (jC (.int 64))))))
def qX:List D→Option (M×D):=fn 1 AH
def HX:C.Dd:=⟨"is_worth",top 12,["thing"],["thing"],1,none,(.o (.l (.rt (.an (.ca 0 (.c (.v 0) .n)) (.ch .le .lt (.ki 0) (.v 0) (.bo .pow (.ki 2) (.ki 64))))))),none⟩
def Wq:=C.bZ (d:=HX) (F:=qX) Wo rfl rfl rfl
def Ag:Ev→Option Fl :=
 (aE (kK (aB mM (ae (jV 0) ah)) (aB qX (ae (jV 0) ah))))
def jS:List D→Option (M×D):=fn 1 Ag
def HY:C.Dd:=⟨"is_operand",top 13,["thing"],["thing"],2,none,(.o (.l (.rt (.or (.ca 2 (.c (.v 0) .n)) (.ca 0 (.c (.v 0) .n)))))),none⟩
def Wr:=C.bZ (d:=HY) (F:=jS) Wq rfl rfl rfl
def Bb:Ev→Option Fl :=
 (aE (cC (aD bx (ae (jV 0) (ae (jC (.ty "str")) ah))) (ag (hU false) (jV 0) (jC (.tup [.str "+",.str "-",.str "*",.str "&",.str "|",.str "^",.str "<",.str "="])))))
def ra:List D→Option (M×D):=fn 1 Bb
def HZ:C.Dd:=⟨"is_sign",top 14,["thing"],["thing"],0,none,(.o (.l (.rt (.an (.fb .i9 (.c (.v 0) (.c (.ty "str") .n))) (.gi 0 ["+", "-", "*", "&", "|", "^", "<", "="] (.v 0)))))),none⟩
def Ws:=C.bZ (d:=HZ) (F:=ra) Wr rfl rfl rfl
def Ab:Ev→Option Fl :=
 (aE (cC (aB ra (ae (ag aC (jV 0) (jC (.int 0))) ah)) (cC (aB jS (ae (ag aC (jV 0) (jC (.int 1))) ah)) (aB jS (ae (ag aC (jV 0) (jC (.int 2))) ah)))))
def qQ:List D→Option (M×D):=fn 1 Ab
def Ia:C.Dd:=⟨"is_reckoning",top 17,["three"],["three"],3,none,(.o (.l (.rt (.an (.ca 0 (.c (.ix (.v 0) (.ki 0)) .n)) (.an (.ca 1 (.c (.ix (.v 0) (.ki 1)) .n)) (.ca 1 (.c (.ix (.v 0) (.ki 2)) .n))))))),none⟩
def Wt:=C.bZ (d:=Ia) (F:=qQ) Ws rfl rfl rfl
def Ap:Ev→Option Fl :=
 (aE (cC (aB oM (ae (jV 0) ah)) (ag uJ (jV 0) (jC (.int 0)))))
def oN:List D→Option (M×D):=fn 1 Ap
def Ib:C.Dd:=⟨"is_target",top 15,["thing"],["thing"],1,none,(.o (.l (.rt (.an (.ca 4 (.c (.v 0) .n)) (.co .ge (.v 0) (.ki 0)))))),none⟩
def Wu:=C.bZ (d:=Ib) (F:=oN) Wt rfl rfl rfl
def By:Ev→Option Fl :=
 (au (aS (cw (cE (jB (aD bx (ae (jV 0) (ae (jC (.ty "tuple")) ah))))) (cw (jB (ag aO (aD aY (ae (jV 0) ah)) (jC (.int 0)))) (cE (jB (aD bx (ae (ag aC (jV 0) (jC (.int 0))) (ae (jC (.ty "str")) ah)))))))
  (aE (jC (.bl false)))
  aP)
 (au (aJ 1 (ag aC (jV 0) (jC (.int 0))))
 (au (aS (jB (ag aO (jV 1) (jC (.str "reckon"))))
  (aE (cC (ag aO (aD aY (ae (jV 0) ah)) (jC (.int 5))) (cC (aB mM (ae (ag aC (jV 0) (jC (.int 1))) ah)) (aB qQ (ae (de cS (jV 0) (cy (jC (.int 2))) dS) ah)))))
  aP)
 (au (aS (jB (ag aO (jV 1) (jC (.str "copy"))))
  (aE (cC (ag aO (aD aY (ae (jV 0) ah)) (jC (.int 3))) (cC (aB mM (ae (ag aC (jV 0) (jC (.int 1))) ah)) (aB jS (ae (ag aC (jV 0) (jC (.int 2))) ah)))))
  aP)
 (au (aS (jB (ag aO (jV 1) (jC (.str "say"))))
  (aE (cC (ag aO (aD aY (ae (jV 0) ah)) (jC (.int 2))) (aB jS (ae (ag aC (jV 0) (jC (.int 1))) ah))))
  aP)
 (au (aS (jB (ag aO (jV 1) (jC (.str "go"))))
  (aE (cC (ag aO (aD aY (ae (jV 0) ah)) (jC (.int 2))) (aB oN (ae (ag aC (jV 0) (jC (.int 1))) ah))))
  aP)
 (au (aS (jB (ag aO (jV 1) (jC (.str "part"))))
  (aE (cC (ag aO (aD aY (ae (jV 0) ah)) (jC (.int 3))) (cC (aB jS (ae (ag aC (jV 0) (jC (.int 1))) ah)) (aB oN (ae (ag aC (jV 0) (jC (.int 2))) ah)))))
  aP)
 (aE (cC (ag aO (jV 1) (jC (.str "end"))) (ag aO (aD aY (ae (jV 0) ah)) (jC (.int 1))))))))))))
def k6:List D→Option (M×D):=fn 2 By
def Ic:C.Dd:=⟨"is_row",top 16,["thing"],["thing", "word"],4,none,(.c (.ie (.or (.nt (.b (.fb .i9 (.c (.v 0) (.c (.ty "tuple") .n))))) (.or (.c .eq (.fb .len (.c (.v 0) .n)) (.ki 0)) (.nt (.b (.fb .i9 (.c (.ix (.v 0) (.ki 0)) (.c (.ty "str") .n))))))) (.o (.l (.rt (.kb false)))) .n) (.c (.l (.st 1 (.ix (.v 0) (.ki 0)))) (.c (.ie (.c .eq (.v 1) (.ks "reckon")) (.o (.l (.rt (.an (.co .eq (.fb .len (.c (.v 0) .n)) (.ki 5)) (.an (.ca 6 (.c (.ix (.v 0) (.ki 1)) .n)) (.ca 1 (.c (.sl (.v 0) (.s (.ki 2)) .n) .n))))))) .n) (.c (.ie (.c .eq (.v 1) (.ks "copy")) (.o (.l (.rt (.an (.co .eq (.fb .len (.c (.v 0) .n)) (.ki 3)) (.an (.ca 6 (.c (.ix (.v 0) (.ki 1)) .n)) (.ca 3 (.c (.ix (.v 0) (.ki 2)) .n))))))) .n) (.c (.ie (.c .eq (.v 1) (.ks "say")) (.o (.l (.rt (.an (.co .eq (.fb .len (.c (.v 0) .n)) (.ki 2)) (.ca 3 (.c (.ix (.v 0) (.ki 1)) .n)))))) .n) (.c (.ie (.c .eq (.v 1) (.ks "go")) (.o (.l (.rt (.an (.co .eq (.fb .len (.c (.v 0) .n)) (.ki 2)) (.ca 0 (.c (.ix (.v 0) (.ki 1)) .n)))))) .n) (.c (.ie (.c .eq (.v 1) (.ks "part")) (.o (.l (.rt (.an (.co .eq (.fb .len (.c (.v 0) .n)) (.ki 3)) (.an (.ca 3 (.c (.ix (.v 0) (.ki 1)) .n)) (.ca 0 (.c (.ix (.v 0) (.ki 2)) .n))))))) .n) (.o (.l (.rt (.an (.co .eq (.v 1) (.ks "end")) (.co .eq (.fb .len (.c (.v 0) .n)) (.ki 1))))))))))))),none⟩
def Wv:=C.bZ (d:=Ic) (F:=k6) Wu rfl rfl rfl
def oJ:Ev→Option Fl :=
 (aJ 1 (ag a6 (ag gE (jV 1) (jC (.int 10))) (bp a8 mW (jC (.str "0123456789")) (ae (jV 2) ah))))
def Aq:Ev→Option Fl :=
 (au (aJ 1 (jC (.int 0)))
 (au (pX 0 (fU (oh (jV 0)) (gN 2)
  oJ))
 (aE (jV 1))))
def qV:List D→Option (M×D):=fn 3 Aq
def Ie:C.Dd:=⟨"number_of",top 24,["word"],["word", "number", "sign"],0,none,(.c (.l (.st 1 (.ki 0))) (.c (.fz 0 (.fo (.s (.v 0)) (.n 2) (.o (.l (.st 1 (.bo .add (.bo .mul (.v 1) (.ki 10)) (.ms .index (.gc 3 (.s "0123456789")) (.c (.v 2) .n)))))))) (.o (.l (.rt (.v 1)))))),none⟩
def Ww:=C.bZ (d:=Ie) (F:=qV) Wv rfl rfl rfl
def Aa:Ev→Option Fl :=
 (au (aS (jB (ag aO (ag aC (jV 0) (jC (.int 0))) (jC (.str "0"))))
  (aE (ag aO (jV 0) (jC (.str "0"))))
  aP)
 (aE (aD lJ (ae (fA (oh (jV 0)) [] eQ (ag (dE false) (jV 0) (jC (.str "0123456789")))) ah))))
def oG:List D→Option (M×D):=fn 1 Aa
def Ig:C.Dd:=⟨"writes_number",top 23,["word"],["word"],0,none,(.c (.ie (.c .eq (.ix (.v 0) (.ki 0)) (.ks "0")) (.o (.l (.rt (.co .eq (.v 0) (.ks "0"))))) .n) (.o (.l (.rt (.fb .all (.c (.cp (.s (.v 0)) [] .y (.co .ou (.v 0) (.gc 3 (.s "0123456789")))) .n)))))),none⟩
def Wx:=C.bZ (d:=Ig) (F:=oG) Ww rfl rfl rfl
def AI:Ev→Option Fl :=
 (au (aS (jB (aB oG (ae (jV 0) ah)))
  (aE (aB qV (ae (jV 0) ah)))
  aP)
 (aE (jV 0)))
def gq:List D→Option (M×D):=fn 1 AI
def Ih:C.Dd:=⟨"value_of",top 22,["word"],["word"],1,none,(.c (.ie (.b (.ca 0 (.c (.v 0) .n))) (.o (.l (.rt (.ca 1 (.c (.v 0) .n))))) .n) (.o (.l (.rt (.v 0))))),none⟩
def Wy:=C.bZ (d:=Ih) (F:=gq) Wx rfl rfl rfl
def vM:Ev→Option Fl :=
 (au (aJ 1 (aD aY (ae (jV 0) ah)))
 (au (aS (bW (jB (ag aO (jV 1) (jC (.int 5)))) (jB (ag aO (ag aC (jV 0) (jC (.int 1))) (jC (.str "=")))))
  (aE (hR (ae (jC (.str "reckon")) (ae (ag aC (jV 0) (jC (.int 0))) (ae (ag aC (jV 0) (jC (.int 3))) (ae (aB gq (ae (ag aC (jV 0) (jC (.int 2))) ah)) (ae (aB gq (ae (ag aC (jV 0) (jC (.int 4))) ah)) ah)))))))
  aP)
 (au (aS (bW (jB (ag aO (jV 1) (jC (.int 3)))) (jB (ag aO (ag aC (jV 0) (jC (.int 1))) (jC (.str "=")))))
  (aE (hR (ae (jC (.str "copy")) (ae (ag aC (jV 0) (jC (.int 0))) (ae (aB gq (ae (ag aC (jV 0) (jC (.int 2))) ah)) ah)))))
  aP)
 (au (aS (bW (jB (ag aO (jV 1) (jC (.int 3)))) (jB (ag aO (ag aC (jV 0) (jC (.int 0))) (jC (.str "part")))))
  (aE (hR (ae (jC (.str "part")) (ae (aB gq (ae (ag aC (jV 0) (jC (.int 1))) ah)) (ae (aB gq (ae (ag aC (jV 0) (jC (.int 2))) ah)) ah)))))
  aP)
 (au (aS (bW (jB (ag aO (jV 1) (jC (.int 2)))) (cw (jB (ag aO (ag aC (jV 0) (jC (.int 0))) (jC (.str "say")))) (jB (ag aO (ag aC (jV 0) (jC (.int 0))) (jC (.str "go"))))))
  (aE (hR (ae (ag aC (jV 0) (jC (.int 0))) (ae (aB gq (ae (ag aC (jV 0) (jC (.int 1))) ah)) ah))))
  aP)
 (au (aS (bW (jB (ag aO (jV 1) (jC (.int 1)))) (jB (ag aO (ag aC (jV 0) (jC (.int 0))) (jC (.str "end")))))
  (aE (hR (ae (jC (.str "end")) ah)))
  aP)
 (aE (jC .non))))))))
def mP:List D→Option (M×D):=fn 2 vM
def Ii:C.Dd:=⟨"row_of",top 21,["words"],["words", "size"],2,none,(.c (.l (.st 1 (.fb .len (.c (.v 0) .n)))) (.c (.ie (.an (.c .eq (.v 1) (.ki 5)) (.c .eq (.ix (.v 0) (.ki 1)) (.ks "="))) (.o (.l (.rt (.tu (.c (.ks "reckon") (.c (.ix (.v 0) (.ki 0)) (.c (.ix (.v 0) (.ki 3)) (.c (.ca 0 (.c (.ix (.v 0) (.ki 2)) .n)) (.c (.ca 0 (.c (.ix (.v 0) (.ki 4)) .n)) .n))))))))) .n) (.c (.ie (.an (.c .eq (.v 1) (.ki 3)) (.c .eq (.ix (.v 0) (.ki 1)) (.ks "="))) (.o (.l (.rt (.tu (.c (.ks "copy") (.c (.ix (.v 0) (.ki 0)) (.c (.ca 0 (.c (.ix (.v 0) (.ki 2)) .n)) .n))))))) .n) (.c (.ie (.an (.c .eq (.v 1) (.ki 3)) (.c .eq (.ix (.v 0) (.ki 0)) (.ks "part"))) (.o (.l (.rt (.tu (.c (.ks "part") (.c (.ca 0 (.c (.ix (.v 0) (.ki 1)) .n)) (.c (.ca 0 (.c (.ix (.v 0) (.ki 2)) .n)) .n))))))) .n) (.c (.ie (.an (.c .eq (.v 1) (.ki 2)) (.or (.c .eq (.ix (.v 0) (.ki 0)) (.ks "say")) (.c .eq (.ix (.v 0) (.ki 0)) (.ks "go")))) (.o (.l (.rt (.tu (.c (.ix (.v 0) (.ki 0)) (.c (.ca 0 (.c (.ix (.v 0) (.ki 1)) .n)) .n)))))) .n) (.c (.ie (.an (.c .eq (.v 1) (.ki 1)) (.c .eq (.ix (.v 0) (.ki 0)) (.ks "end"))) (.o (.l (.rt (.tu (.c (.ks "end") .n))))) .n) (.o (.l (.rt .kn))))))))),none⟩
def Wz:=C.bZ (d:=Ii) (F:=mP) Wy rfl rfl rfl
def AJ:Ev→Option Fl :=
 (aE (fA (kN (bp a8 dA (ag aC (bp a8 mH (jV 0) (ae (jC (.str "#")) ah)) (jC (.int 0))) (ae (jC (.str " ")) ah))) [] (jB (ag c9 (jV 0) (jC (.str "")))) (jV 0)))
def kW:List D→Option (M×D):=fn 1 AJ
def Ij:C.Dd:=⟨"words_of",top 20,["line"],["line"],0,none,(.o (.l (.rt (.cp (.l (.ms .split (.ix (.ms .partition (.v 0) (.c (.ks "#") .n)) (.ki 0)) (.c (.ks " ") .n))) [] (.c .ne (.v 0) (.ks "")) (.v 0))))),none⟩
def WB:=C.bZ (d:=Ij) (F:=kW) Wz rfl rfl rfl
def vN:Ev→Option Fl :=
 (au (aJ 4 (aB kW (ae (jV 3) ah)))
 (aS (jB (ag f7 (aD aY (ae (jV 4) ah)) (jC (.int 0))))
  (au (aJ 5 (aB mP (ae (jV 4) ah)))
 (au (aS (cE (jB (aB k6 (ae (jV 5) ah))))
  (mB "NoText" ["line"] (ae (jV 2) ah))
  aP)
 (eO 1 (jV 5))))
  aP))
def pA:Ev→Option Fl :=
 (au (aJ 1 (bh ah))
 (au (fU (jM (ae (bp a8 dA (jV 0) (ae (jC (.str "\n")) ah)) ah)) (gT 2 (di (gN 2) (di (gN 3) jm)))
  vN)
 (au (aS (jB (ag aO (aD aY (ae (jV 1) ah)) (jC (.int 0))))
  (mB "NoText" ["line"] (ae (jC (.int 0)) ah))
  aP)
 (aE (jV 1)))))
def lj:List D→Option Rs:=fnX 6 pA
def Ik:C.Dd:=⟨"read",top 19,["text"],["text", "rows", "line", "written", "words", "row"],5,some [1001],(.c (.l (.st 1 (.li .n))) (.c (.fo (.en (.c (.ms .split (.v 0) (.c (.ks "\n") .n)) .n)) (.t 2 (.c (.n 2) (.c (.n 3) .n))) (.c (.l (.st 4 (.ca 0 (.c (.v 3) .n)))) (.o (.ie (.c .gt (.fb .len (.c (.v 4) .n)) (.ki 0)) (.c (.l (.st 5 (.ca 1 (.c (.v 4) .n)))) (.c (.ie (.nt (.b (.ca 5 (.c (.v 5) .n)))) (.o (.l (.rz "NoText" ["line"] (.c (.v 2) .n)))) .n) (.o (.l (.ap 1 (.v 5)))))) .n)))) (.c (.ie (.c .eq (.fb .len (.c (.v 1) .n)) (.ki 0)) (.o (.l (.rz "NoText" ["line"] (.c (.ki 0) .n)))) .n) (.o (.l (.rt (.v 1))))))),none⟩
def WC:=C.TK (d:=Ik) (F:=lj) WB rfl rfl rfl
def vq:Ev→Option Fl :=
 (au (aJ 2 (jC .non))
 (au (pY 3 (List.contains ["HoistError", "NoText", "NoProgram", "NoPaper"]) (om lj (ae (jV 0) ah) (C.Kx.g (.s 2))) (au (aJ 2 (jV 3)) aP))
 (au (aS (cw (cE (jB (hX (λn=>List.lookup n [("HoistError",false),("NoText",true),("NoProgram",false),("NoPaper",false)]) (jV 2)))) (cw (jB (hX (λn=>List.lookup n [("HoistError",false),("NoText",false),("NoProgram",true),("NoPaper",false)]) (jV 2))) (jB (hX (λn=>List.lookup n [("HoistError",false),("NoText",false),("NoProgram",false),("NoPaper",true)]) (jV 2)))))
  (aE (jC (.bl false)))
  aP)
 (aE (cC (hX (λn=>List.lookup n [("HoistError",true),("NoText",true),("NoProgram",true),("NoPaper",true)]) (jV 2)) (cC (ag aO (qF (List.contains ["HoistError", "NoText", "NoProgram", "NoPaper"]) "line" (jV 2)) (jV 1)) (nB (aD bx (ae (qF (List.contains ["HoistError", "NoText", "NoProgram", "NoPaper"]) "line" (jV 2)) (ae (jC (.ty "bool")) ah))))))))))
def fj:List D→Option (M×D):=fn 4 vq
def Il:C.Dd:=⟨"_law_refused",top 33,["_law_text", "_law_line_here"],["_law_text", "_law_line_here", "_law_told", "e"],6,none,(.c (.l (.st 2 .kn)) (.c (.tr (.xc (.s 2) 0 (.c (.v 0) .n)) (some 3) ["HoistError", "NoText", "NoProgram", "NoPaper"] [(2,(.v 3))]) (.c (.ie (.or (.nt (.b (.is (.v 2) "NoText" [("HoistError",false),("NoText",true),("NoProgram",false),("NoPaper",false)]))) (.or (.b (.is (.v 2) "NoProgram" [("HoistError",false),("NoText",false),("NoProgram",true),("NoPaper",false)])) (.b (.is (.v 2) "NoPaper" [("HoistError",false),("NoText",false),("NoProgram",false),("NoPaper",true)])))) (.o (.l (.rt (.kb false)))) .n) (.o (.l (.rt (.an (.is (.v 2) "ValueError" [("HoistError",true),("NoText",true),("NoProgram",true),("NoPaper",true)]) (.an (.co .eq (.xa (.v 2) "line" ["HoistError", "NoText", "NoProgram", "NoPaper"]) (.v 1)) (.nt (.fb .i9 (.c (.xa (.v 2) "line" ["HoistError", "NoText", "NoProgram", "NoPaper"]) (.c (.ty "bool") .n)))))))))))),none⟩
def WD:=C.bZ (d:=Il) (F:=fj) WC rfl rfl rfl
def AK:Ev→Option Fl :=
 (au (aJ 4 (aB kW (ae (jV 3) ah)))
 (aS (jB (ag f7 (aD aY (ae (jV 4) ah)) (jC (.int 0))))
  (au (aJ 5 (aB mP (ae (jV 4) ah)))
 (au (aS (cE (jB (aB k6 (ae (jV 5) ah))))
  mX
  aP)
 (eO 1 (jV 5))))
  aP))
def vO:Ev→Option Fl :=
 (au (aJ 1 (bh ah))
 (au (fU (jM (ae (bp a8 dA (jV 0) (ae (jC (.str "\n")) ah)) ah)) (gT 2 (di (gN 2) (di (gN 3) jm)))
  AK)
 (au (aS (jB (ag aO (aD aY (ae (jV 1) ah)) (jC (.int 0))))
  mX
  aP)
 (aE (jV 1)))))
def k7:List D→Option (M×D):=fn 6 vO
def Im:C.Dd:=⟨"read",top 19,["text"],["text", "rows", "line", "written", "words", "row"],5,none,(.c (.l (.st 1 (.li .n))) (.c (.fo (.en (.c (.ms .split (.v 0) (.c (.ks "\n") .n)) .n)) (.t 2 (.c (.n 2) (.c (.n 3) .n))) (.c (.l (.st 4 (.ca 2 (.c (.v 3) .n)))) (.o (.ie (.c .gt (.fb .len (.c (.v 4) .n)) (.ki 0)) (.c (.l (.st 5 (.ca 3 (.c (.v 4) .n)))) (.c (.ie (.nt (.b (.ca 7 (.c (.v 5) .n)))) (.o (.l .nv)) .n) (.o (.l (.ap 1 (.v 5)))))) .n)))) (.c (.ie (.c .eq (.fb .len (.c (.v 1) .n)) (.ki 0)) (.o (.l .nv)) .n) (.o (.l (.rt (.v 1))))))),none⟩
def WG:=C.bZ (d:=Im) (F:=k7) WD rfl rfl rfl
def oU:Ev→Option Fl :=
 (au (aS (jB (ag aO (ag bM (jV 5) (jC (.int 6))) (jC (.int 5))))
  (eO 3 (ag aC (bh (ae (jC (.str "")) (ae (jC (.str "  ")) (ae (jC (.str "# x = = y")) (ae (jC (.str "   # 7")) ah))))) (ag bM (ag cz (jV 5) (jC (.int 6))) (jC (.int 4)))))
  aP)
 (eO 3 (bp a8 bJ (jC (.str " ")) (ae (aB mK (ae (ag cz (jV 5) (jC (.int 6))) (ae (jV 1) ah))) ah))))
def xE:Ev→Option Fl :=
 (au (aJ 1 (aB qU (ae (aB mI (ae (jV 0) (ae (jC (.int 0)) ah))) (ae (jC (.int 4)) ah))))
 (au (aJ 2 (aB mI (ae (jV 0) (ae (jC (.int 1)) ah))))
 (au (aJ 3 (bh ah))
 (au (fU (jM (ae (de cS (jV 0) (cy (jC (.int 3))) (cy (jC (.int 59)))) ah)) (gT 2 (di (gN 4) (di (gN 5) jm)))
  oU)
 (au (aJ 6 (aB vy (ae (jV 3) (ae (bh (ae (jC (.str "end")) ah)) (ae (ag a6 (jC (.int 60)) (ag bM (jV 2) (jC (.int 100)))) ah)))))
 (au (aJ 7 (ag a6 (jV 6) (bh (ae (jC (.str "go 3")) ah))))
 (au (aJ 8 (aB vA (ae (aB mI (ae (jV 0) (ae (jC (.int 2)) ah))) (ae (jV 1) ah))))
 (au (aJ 9 (ag bM (ag cz (jV 2) (jC (.int 4))) (ag a6 (aD aY (ae (jV 3) ah)) (jC (.int 1)))))
 (au (aJ 10 (bp a8 bJ (jC (.str "\n")) (ae (ag a6 (ag a6 (de cS (jV 3) dS (cy (jV 9))) (bh (ae (jV 8) ah))) (de cS (jV 3) (cy (jV 9)) dS)) ah)))
 (au (aJ 11 (bp a8 bJ (jC (.str "\n")) (ae (de cS (bh (ae (jC (.str "")) (ae (jC (.str " ")) (ae (jC (.str "#x = 3")) (ae (jC (.str "  # end")) ah))))) dS (cy (ag bM (ag cz (jV 2) (jC (.int 4))) (jC (.int 5))))) ah)))
 (au (aS (cw (cE (jB (aB fj (ae (jV 10) (ae (jV 9) ah))))) (cE (jB (aB fj (ae (jV 11) (ae (jC (.int 0)) ah))))))
  (aE (jC (.bl false)))
  aP)
 (au (aS (cw (jB (ag c9 (aD aY (ae (aB k7 (ae (bp a8 bJ (jC (.str "\n")) (ae (jV 7) ah)) ah)) ah)) (ag a6 (jC (.int 61)) (ag bM (jV 2) (jC (.int 100)))))) (cE (jB (aB fj (ae (bp a8 bJ (jC (.str "\n")) (ae (ag a6 (jV 7) (bh (ae (jV 8) ah))) ah)) (ae (aD aY (ae (jV 7) ah)) ah))))))
  (aE (jC (.bl false)))
  aP)
 (au (aS (cE (jB (aB fj (ae (bp a8 bJ (jC (.str "\n")) (ae (ag a6 (ag a6 (ag a6 (de cS (jV 3) dS (cy (jV 9))) (bh (ae (jV 8) ah))) (de cS (jV 7) (cy (jV 9)) dS)) (bh (ae (jV 8) ah))) ah)) (ae (jV 9) ah)))))
  (aE (jC (.bl false)))
  aP)
 (au (aS (bW (jB (ag f7 (aD aY (ae (jV 3) ah)) (jC (.int 0)))) (jB (ag c9 (aD aY (ae (aB k7 (ae (bp a8 bJ (jC (.str "\n")) (ae (jV 3) ah)) ah)) ah)) (aB jT (ae (jV 3) ah)))))
  (aE (jC (.bl false)))
  aP)
 (aE (aB fj (ae (jV 10) (ae (jV 9) ah))))))))))))))))))
def xF:List D→Option (M×D):=fn 12 xE
def Io:C.Dd:=⟨"law",top 36,["_law_script"],["_law_script", "_law_names_here", "_law_cell_here", "_law_lines", "_law_k", "_law_one", "_law_full", "_law_over", "_law_bad", "_law_spot", "_law_text", "_law_empty"],7,none,(.c (.l (.st 1 (.ca 18 (.c (.ca 24 (.c (.v 0) (.c (.ki 0) .n))) (.c (.ki 4) .n))))) (.c (.l (.st 2 (.ca 24 (.c (.v 0) (.c (.ki 1) .n))))) (.c (.l (.st 3 (.li .n))) (.c (.fo (.en (.c (.sl (.v 0) (.s (.ki 3)) (.s (.ki 59))) .n)) (.t 2 (.c (.n 4) (.c (.n 5) .n))) (.c (.ie (.c .eq (.bo .mod (.v 5) (.ki 6)) (.ki 5)) (.o (.l (.ap 3 (.ix (.li (.c (.ks "") (.c (.ks "  ") (.c (.ks "# x = = y") (.c (.ks "   # 7") .n))))) (.bo .mod (.bo .div (.v 5) (.ki 6)) (.ki 4)))))) .n) (.o (.l (.ap 3 (.ms .join (.ks " ") (.c (.ca 21 (.c (.bo .div (.v 5) (.ki 6)) (.c (.v 1) .n))) .n))))))) (.c (.l (.st 6 (.ca 19 (.c (.v 3) (.c (.li (.c (.ks "end") .n)) (.c (.bo .add (.ki 60) (.bo .mod (.v 2) (.ki 100))) .n)))))) (.c (.l (.st 7 (.bo .add (.v 6) (.li (.c (.ks "go 3") .n))))) (.c (.l (.st 8 (.ca 16 (.c (.ca 24 (.c (.v 0) (.c (.ki 2) .n))) (.c (.v 1) .n))))) (.c (.l (.st 9 (.bo .mod (.bo .div (.v 2) (.ki 4)) (.bo .add (.fb .len (.c (.v 3) .n)) (.ki 1))))) (.c (.l (.st 10 (.ms .join (.ks "\n") (.c (.bo .add (.bo .add (.sl (.v 3) .n (.s (.v 9))) (.li (.c (.v 8) .n))) (.sl (.v 3) (.s (.v 9)) .n)) .n)))) (.c (.l (.st 11 (.ms .join (.ks "\n") (.c (.sl (.li (.c (.ks "") (.c (.ks " ") (.c (.ks "#x = 3") (.c (.ks "  # end") .n))))) .n (.s (.bo .mod (.bo .div (.v 2) (.ki 4)) (.ki 5)))) .n)))) (.c (.ie (.or (.nt (.b (.ca 1 (.c (.v 10) (.c (.v 9) .n))))) (.nt (.b (.ca 1 (.c (.v 11) (.c (.ki 0) .n)))))) (.o (.l (.rt (.kb false)))) .n) (.c (.ie (.or (.c .ne (.fb .len (.c (.ca 0 (.c (.ms .join (.ks "\n") (.c (.v 7) .n)) .n)) .n)) (.bo .add (.ki 61) (.bo .mod (.v 2) (.ki 100)))) (.nt (.b (.ca 1 (.c (.ms .join (.ks "\n") (.c (.bo .add (.v 7) (.li (.c (.v 8) .n))) .n)) (.c (.fb .len (.c (.v 7) .n)) .n)))))) (.o (.l (.rt (.kb false)))) .n) (.c (.ie (.nt (.b (.ca 1 (.c (.ms .join (.ks "\n") (.c (.bo .add (.bo .add (.bo .add (.sl (.v 3) .n (.s (.v 9))) (.li (.c (.v 8) .n))) (.sl (.v 7) (.s (.v 9)) .n)) (.li (.c (.v 8) .n))) .n)) (.c (.v 9) .n))))) (.o (.l (.rt (.kb false)))) .n) (.c (.ie (.an (.c .gt (.fb .len (.c (.v 3) .n)) (.ki 0)) (.c .ne (.fb .len (.c (.ca 0 (.c (.ms .join (.ks "\n") (.c (.v 3) .n)) .n)) .n)) (.ca 20 (.c (.v 3) .n)))) (.o (.l (.rt (.kb false)))) .n) (.o (.l (.rt (.ca 1 (.c (.v 10) (.c (.v 9) .n)))))))))))))))))))),none⟩
def WH:=C.bZ (d:=Io) (F:=xF) WG rfl rfl rfl
def yr:List C.Dd:=[Io,Im,Il,Ik,Ij,Ii,Ih,Ig,Ie,Ic,Ib,Ia,HZ,HY,HX,HW,HV,d9,d8,d7,d6,d5,d4,d3,d2,d1]
theorem ok:C.sM bs gs xs yr=true:=by decide +kernel
theorem ba:C.u9 yr:=⟨C.dw λ_ _ _ _ _ _ _=>rfl,C.dw λ_ _ _ _ _ _ _=>rfl,C.oB λ_ _ _ _ _ _ _ _=>rfl,C.dw λ_ _ _ _ _ _ _=>rfl,C.dw λ_ _ _ _ _ _ _=>rfl,C.dw λ_ _ _ _ _ _ _=>rfl,C.dw λ_ _ _ _ _ _ _=>rfl,C.dw λ_ _ _ _ _ _ _=>rfl,C.dw λ_ _ _ _ _ _ _=>rfl,C.dw λ_ _ _ _ _ _ _=>rfl,C.dw λ_ _ _ _ _ _ _=>rfl,C.dw λ_ _ _ _ _ _ _=>rfl,C.dw λ_ _ _ _ _ _ _=>rfl,C.dw λ_ _ _ _ _ _ _=>rfl,C.dw λ_ _ _ _ _ _ _=>rfl,C.dw λ_ _ _ _ _ _ _=>rfl,C.dw λ_ _ _ _ _ _ _=>rfl,C.oB λ_ _ _ _ _ _ _ _=>rfl,C.dw λ_ _ _ _ _ _ _=>rfl,C.oB λ_ _ _ _ _ _ _ _=>rfl,C.HK λ_ _ _ _ _ _ _ _ _=>rfl,C.dw λ_ _ _ _ _ _ _=>rfl,C.oB λ_ _ _ _ _ _ _ _=>rfl,C.HK λ_ _ _ _ _ _ _ _ _=>rfl,C.oB λ_ _ _ _ _ _ _ _=>rfl,C.oB λ_ _ _ _ _ _ _ _=>rfl,trivial⟩
theorem bi:C.vi xs:=⟨.inl rfl,.inr λ_ _ _ _ _ _ us h=>match us,h with|[_,_],_=>rfl,.inr λ_ _ _ _ _ _ us h=>match us,h with|[_,_,_],_=>rfl,.inr λ_ _ _ _ _ _ us h=>match us,h with|[_,_,_,_],_=>rfl,trivial⟩
end bB
namespace bB
open PySem L2 J
local macro_rules|`($m \ $x)=>`(some ($m,$x))
local macro_rules|`($f∘$x)=>`(D.lst (($x).map $f))
local macro_rules|`(↥$x)=>`(D.int (($x):Int))
local macro_rules|`(tactic|simp! [$xs,*])=>`(tactic|simp -implicitDefEqProofs only [$xs,*])
local macro_rules|`(tactic|simp! [$xs,*]$l:location)=>`(tactic|simp -implicitDefEqProofs only [$xs,*]$l:location)
local macro_rules|`(∅)=>`((by omega))
theorem gz{α:Type}{a:α}{l:List α}:(a::l)[0]?=some a:=rfl
theorem gy{α:Type}{a:α}{l:List α}{i:Nat}:(a::l)[i+1]?=l[i]?:=List.getElem?_cons_succ
theorem oq{α β:Type}{a:α}{f:α→Option β}:(some a).bind f=f a:=rfl
theorem tz{α:Type}{a b:α}{l:List α}:(a::l).set 0 b=b::l:=rfl
theorem tq{α:Type}{a b:α}{l:List α}{i:Nat}:(a::l).set (i+1) b=a::l.set i b:=rfl
theorem mq{α β:Type}{a:α}{l:List α}{f:α→β}:(a::l).map f=f a::l.map f:=rfl
theorem mn{α β:Type}{f:α→β}:[].map f=[]:=rfl
theorem oy{α β:Type}{a:α}{f:α→β}:(some a).map f=some (f a):=rfl
theorem ln{α β:Type}{l:List α}{f:α→β}:(l.map f).length=l.length:=iq _
theorem cj{n:Nat}:(([]:List D).map (λd=>some (M.al,d))++List.replicate (n+1-([]:List D).length) none:Ev)=none::(([]:List D).map (λd=>some (M.al,d))++List.replicate (n-([]:List D).length) none):=rfl
theorem ku:(([]:List D).map (λd=>some (M.al,d))++List.replicate (0-([]:List D).length) none:Ev)=[]:=rfl
set_option hygiene false
local macro_rules|`(tactic| walk_at "ev")=>`(tactic| simp! [au,aS,jB,ag,n9,jV,aD,ae,ah,aE,Td,aJ,aP,jC,aB,cC,kK,nB,bW,cw,cE,x8,hR,bh,sj,g6,eO,rQ,tJ,gL,di,jm,bp,a8,pX,cQ,fU,kN,j9,gR,jx,own,gN,ya,fC,eQ,List.map_cons,List.map_nil,List.length_cons,List.length_nil,List.cons_append,List.nil_append,List.replicate,List.getElem?_cons_zero,List.getElem?_cons_succ,List.set_cons_zero,List.set_cons_succ,List.all_cons,List.all_nil,Option.bind_some,Option.bind_none,Option.map_some,Option.map_none,id_eq,cV,Eu,Ti,m8,sx,lh,Dx,Ex,Tj,pH,Tn,Ey,sC,Ez,j0,sF,Tp,Tq,Tr,dm,QY,wa,OX,Cv,Dy,Dz,QZ,Q0,Q5,Q6,Q7,ye,tM,UE,UG,DC,DF,Q8,Q9,if_true,if_false,Bool.and_self,Bool.and_true,Bool.true_and,Bool.false_eq_true,decide_true,decide_false,reduceIte,reduceCtorEq,List.length_map,Nat.reduceAdd,Nat.reduceSub,Bool.not_true,Bool.not_false,VL,UH,Nat.reduceLeDiff,mul_r,dz,div_ii,Ew,Int.reducePow,Int.reduceNeg,Int.reduceLT,Int.reduceLE,Int.reduceToNat,and_self,and_true,true_and,Nat.reduceLT,ne_eq,not_false_eq_true,de,cy,dS,o7,oh,UJ,Pa,EA,UK,Ew,JZ,J0,Jt,Je,J1,J2,Ju,Jf,KD,KG,J3,Jv,J4,J5,Jw,Jg,J6,J7,Jh,J8,J9,Ji,KH,KJ,Jx,KL,KN,Jy,IW,IZ,Jj,Jz,Ja,Jk,Jb,JA,Ka,KP,JB,Kc,Jl,Kd,KQ,LW,Ke,KR,JC,KS,LX,Ng,KW,LY,Jc,JD,Kf,KY,JF,Kg,Jm,Kh,KZ,LZ,Ki,K0,Int.reduceEq,Int.reduceSub,Int.reduceAdd])
theorem bo{α β:Type}{o:Option α}{a:α}{k:α→Option β}{r:Option β}(h:o=some a)(h2:k a=r):o.bind k=r:=by rw[h];exact h2
theorem bl{f:Ev→Option (M×D)}{e:Ev}{m:M}{b c:Bool}(h:f e=some (m,.bl b))(h2:b=c):jB f e=some c:=bo h (bX some h2)
theorem o2{g:M×D→M×D→Option (M×D)}{fa fb:Ev→Option (M×D)}{e:Ev}{x y:M×D}{r:Option (M×D)}(h:fa e=some x)(h2:fb e=some y)(h3:g x y=r):ag g fa fb e=r:=bo h (bo h2 h3)
theorem u1{g:M×D→Option (M×D)}{f:Ev→Option (M×D)}{e:Ev}{x:M×D}{r:Option (M×D)}(h:f e=some x)(h2:g x=r):n9 g f e=r:=bo h h2
theorem cn{f:Ev→Option (M×D)}{g:Ev→Option (List (M×D))}{e:Ev}{x:M×D}{l:List (M×D)}(h:f e=some x)(h2:g e=some l):ae f g e=some (x::l):=bo h (bo h2 rfl)
theorem cb{g:List (M×D)→Option (M×D)}{fs:Ev→Option (List (M×D))}{e:Ev}{l:List (M×D)}{r:Option (M×D)}(h:fs e=some l)(h2:g l=r):aD g fs e=r:=bo h h2
theorem ca{F:List D→Option (M×D)}{fs:Ev→Option (List (M×D))}{e:Ev}{xs:List (M×D)}{r:Option (M×D)}(h:fs e=some xs)(h2:F (xs.map (·.2))=r):aB F fs e=r:=bo h h2
theorem li{fs:Ev→Option (List (M×D))}{e:Ev}{l:List (M×D)}{r:Option (M×D)}(h:fs e=some l)(h2:g6 l=r):bh fs e=r:=bo h h2
theorem se{i:Nat}{f:Ev→Option (M×D)}{e e':Ev}{x y:M×D}(h:f e=some x)(h2:iJ x=some y)(h3:e.set i (some y)=e'):aJ i f e=some (.nx e'):=bo h (bo h2 (by rw[h3]))
theorem re{f:Ev→Option (M×D)}{e:Ev}{m:M}{d:D}(h:f e=some (m,d)):aE f e=some (.rt e m d):=bo h rfl
theorem tR{c:Prop}[Decidable c]{α:Type}{x y r:α}(h:c)(h2:x=r):(if c then x else y)=r:=by rw[if_pos h];exact h2
theorem ap{i:Nat}{f:Ev→Option (M×D)}{e e':Ev}{x:M×D}{y:M×List D}(h:f e=some x)(h1:bU x.1 x.2=true)(h2:jx i e=some y)(h3:y.2.length<sizeLine)(h4:e.set i (some (y.1,.lst (y.2++[x.2])))=e'):eO i f e=some (.nx e'):=bo h (tR h1 (bo h2 (tR h3 (by rw[h4]))))
theorem vj{f g:Ev→Option Bool}{e:Ev}{b c:Bool}(h:f e=some b)(h2:g e=some c):bW f g e=some (b&&c):=bo h (by cases b;rfl;exact h2)
theorem Ip{f g:Ev→Option Bool}{e:Ev}{b c:Bool}(h:f e=some b)(h2:g e=some c):cw f g e=some (b||c):=bo h (by cases b;exact h2;rfl)
theorem Iq{f g:Ev→Option Bool}{e:Ev}(h:f e=some false):bW f g e=some false:=bo h rfl
theorem bat{f g:Ev→Option Bool}{e:Ev}{c:Bool}(h:f e=some true)(h2:g e=some c):bW f g e=some c:=bo h h2
theorem Ir{f g:Ev→Option Bool}{e:Ev}{c:Bool}(h:f e=some false)(h2:g e=some c):cw f g e=some c:=bo h h2
theorem bn{f:Ev→Option Bool}{e:Ev}{b c:Bool}(h:f e=some b)(h2:(!b)=c):cE f e=some c:=bo h (bX some h2)
theorem nc{ds:List D}{k:Int}{d:D}{m n:M}(h:L2.aM ds k=some d):aC (m,.lst ds) (n,.int k)=some (aN m,d):=by rw[sC,h];rfl
theorem j3{α:Type}{l:List α}{f:α→D}{m:M}:aY [(m,f∘l)]=some (.fr,.int (l.length:Int)):=by rw[j0,ln]
noncomputable abbrev gf:Str := "abcdefghijklmnopqrstuvwxyz"
noncomputable abbrev dP:Str := "0123456789"
noncomputable abbrev z5:List V:=[.str "say",.str "go",.str "part",.str "end"]
noncomputable abbrev vk:List V:=[.str "+",.str "-",.str "*",.str "&",.str "|",.str "^",.str "<",.str "="]
def cv(c:Nat):Bool:=fV gf ⟨#[c]⟩
def dh(c:Nat):Bool:=fV dP ⟨#[c]⟩
def qL:List Nat→Bool
 |c::_=>cv c
 |[]=>false
def nameS(z:Str):Bool:=decide (1≤z.length)&&(decide (z.length≤8)&&(!dJ (.str z) z5&&(qL z.cps.toList&&z.cps.toList.all λc=>cv c||dh c)))
def bE:D→Bool
 |.str z=>nameS z
 |_=>false
def Ok(d:D):Prop:=dN d ≠ "type" ∧ ∀z,d=.str z→z.length≤1000
theorem RX{z:Str}(h:Ok (.str z)):z.length≤1000:=h.2 z rfl
theorem Nn(z:Str):cU eQ (kK (ag (dE false) (jV 0) (jC (D.str gf))) (ag (dE false) (jV 0) (jC (D.str dP)))) M.fr [] (gS z)=some (((z.cps.toList.map λc=>cv c||dh c).map D.bl).map λx=>(M.fr,x)):=by
 have:=vD (fe:=kK (ag (dE false) (jV 0) (jC (D.str gf))) (ag (dE false) (jV 0) (jC (D.str dP)))) (m:=.fr) (fr:=[]) (F:=λd=>match d with|.str z=>.bl (fV gf z||fV dP z)|_=>.non) (ds:=gS z) (λd hd=>by
  obtain⟨c,hc,rfl⟩:=cX.mp hd;simp! [kK,ag,jV,jC,dE,gz,oq,id_eq,dm,if_false,Bool.false_eq_true];cases fV gf ⟨#[c]⟩<;>simp)
 rw[this];congr 1;unfold gS;rw[fF,fF,fF,fF];rfl
theorem vB{d:D}(h:Ok d):mM [d]=some (.fr,.bl (bE d)):=by
 unfold mM fn Ba;cases d with
 |ty n=>exact absurd rfl h.1
 |exc a b c=>exact absurd rfl h.1
 |str z =>
  have hz:=RX h;have Iu:z.length≤sizeLine:=aQ hz (by decide);walk_at "ev";simp! [EA Iu,oq,Ex,pH,dm];by_cases h1:1≤z.length
  ·have e1:decide ((z.length:Int)<1)=false:=bF ∅;simp! [e1];walk_at "ev";by_cases h8:z.length≤8
   ·have e8:decide ((8:Int)<(z.length:Int))=false:=bF ∅;simp! [e8];walk_at "ev";simp! [hU,c7,lI,kc,oq,dm,if_false,Bool.false_eq_true];cases hw:dJ (.str z) z5 with
    |true =>
     walk_at "ev";simp! [bE,nameS,hw,Bool.not_true,Bool.false_and,Bool.and_false]
    |false =>
     obtain⟨c,cs,ec⟩:∃c cs,z.cps.toList=c::cs:=by
      cases e:z.cps.toList with
      |nil =>
       have:z.length=0:=by have:=bX List.length e;simpa[Str.length]using this
       omega
      |cons c cs=>exact⟨c,cs,rfl⟩
     have ea:L2.aM z.cps.toList 0=some c:=by rw[ec];exact mR (k:=0) (l:=c::cs) (Nat.succ_pos _)
     walk_at "ev";rw[sE Iu,ea];walk_at "ev";simp! [dE,oq,dm,if_true];cases hl:cv c with
     |false =>
      have kr:fV gf ⟨#[c]⟩=false:=hl;rw[show fV (Str.ofString "abcdefghijklmnopqrstuvwxyz") ⟨#[c]⟩=false from kr];walk_at "ev";simp! [bE,nameS,qL,ec,hl,Bool.false_and,Bool.and_false]
     |true =>
      have kr:fV gf ⟨#[c]⟩=true:=hl;rw[show fV (Str.ofString "abcdefghijklmnopqrstuvwxyz") ⟨#[c]⟩=true from kr];walk_at "ev";simp! [fA];walk_at "ev";have hn:=Nn z;rw[show(Str.ofString "abcdefghijklmnopqrstuvwxyz")=gf from rfl,show(Str.ofString "0123456789")=dP from rfl,hn,oq,wc (by rw[ln,ln];exact hz),oq];simp! [lJ,vL,oq];walk_at "ev";have:bE (.str z)=z.cps.toList.all λc=>cv c||dh c:=by
       simp only[bE,nameS,decide_eq_true h1,decide_eq_true h8,hw,qL,ec,hl,Bool.true_and,Bool.not_false]
      rw[this,List.all_map];rfl
   ·have e8:decide ((8:Int)<(z.length:Int))=true:=bR ∅;simp! [e8];walk_at "ev";simp! [bE,nameS,decide_eq_false h8,Bool.false_and,Bool.and_false]
  ·have e1:decide ((z.length:Int)<1)=true:=bR ∅;simp! [e1];walk_at "ev";simp! [bE,nameS,decide_eq_false h1,Bool.false_and]
 |_=>walk_at "ev"; simp! [bE]
noncomputable def nH:D→Bool
 |.int _=>true
 |_=>false
noncomputable def cK:D→Bool
 |.int i=>decide (0≤i)&&decide (i<18446744073709551616)
 |_=>false
def bH(d:D):Bool:=bE d||cK d
def fN:D→Bool
 |.str z=>dJ (.str z) vk
 |_=>false
noncomputable def fB:D→Bool
 |.int i=>decide (0≤i)
 |_=>false
theorem Ah {d:D} (h:dN d ≠ "type"):oM [d]=some (.fr,.bl (nH d)):=by
 unfold oM fn Ao;cases d with
 |ty n=>exact absurd rfl h
 |exc a b c=>exact absurd rfl h
 |_=>walk_at "ev"; simp! [nH]
theorem Kj {d:D} (h:dN d ≠ "type"):qX [d]=some (.fr,.bl (cK d)):=by
 unfold qX fn AH;walk_at "ev";rw[Ah h];cases d with
 |ty n=>exact absurd rfl h
 |exc a b c=>exact absurd rfl h
 |int i =>
  simp! [nH,cK];walk_at "ev";by_cases h0:0≤i
  ·simp! [decide_eq_true h0];walk_at "ev"
  ·simp! [decide_eq_false h0,Bool.false_and];walk_at "ev"
 |_=>simp! [nH,cK];walk_at "ev"
theorem oK{d:D}(h:Ok d):jS [d]=some (.fr,.bl (bH d)):=by
 unfold jS fn Ag;walk_at "ev";rw[vB h];unfold bH;cases bE d with
 |true=>walk_at "ev"; rfl
 |false =>
  walk_at "ev";rw[Kj h.1];walk_at "ev";rfl
theorem K1{d:D}(h:Ok d):ra [d]=some (.fr,.bl (fN d)):=by
 unfold ra fn Bb;cases d with
 |ty n=>exact absurd rfl h.1
 |exc a b c=>exact absurd rfl h.1
 |str z =>
  walk_at "ev";simp! [hU,c7,lI,kc,oq,dm,if_false,Bool.false_eq_true,fN];rfl
 |_=>walk_at "ev"; simp! [fN]
theorem Ai {d:D} (h:dN d ≠ "type"):oN [d]=some (.fr,.bl (fB d)):=by
 unfold oN fn Ap;walk_at "ev";rw[Ah h];cases d with
 |ty n=>exact absurd rfl h
 |exc a b c=>exact absurd rfl h
 |int i =>
  simp! [nH,fB];walk_at "ev"
 |_=>simp! [nH,fB];walk_at "ev"
theorem IY{s a b:D}(hs:Ok s)(ha:Ok a)(hb:Ok b):qQ [.tup [s,a,b]]=some (.fr,.bl (fN s&&(bH a&&bH b))):=by
 have e0:L2.aM [s,a,b] 0=some s:=rfl;have e1:L2.aM [s,a,b] 1=some a:=rfl;have e2:L2.aM [s,a,b] 2=some b:=rfl;unfold qQ fn Ab;walk_at "ev";rw[e0];walk_at "ev";rw[K1 hs];cases fN s with
 |false=>walk_at "ev"; rfl
 |true =>
  walk_at "ev";rw[e1];walk_at "ev";rw[oK ha];cases bH a with
  |false=>walk_at "ev"; rfl
  |true =>
   walk_at "ev";rw[e2];walk_at "ev";rw[oK hb];walk_at "ev"
def aT:D→Bool
 |.tup (.str w::r) =>
  if w = "reckon" then (match r with|[x,s,a,b]=>bE x&&(fN s&&(bH a&&bH b))|_=>false)
  else if w = "copy" then (match r with|[x,a]=>bE x&&bH a|_=>false)
  else if w = "say" then (match r with|[a]=>bH a|_=>false)
  else if w = "go" then (match r with|[t]=>fB t|_=>false)
  else if w = "part" then (match r with|[a,t]=>bH a&&fB t|_=>false)
  else decide (w = "end")&&r.isEmpty
 |_=>false
set_option tactic.hygienic true in
theorem Ma{d:D}(h:Ok d)(ht:∀ds,d=.tup ds→∀e∈ds,Ok e):k6 [d]=some (.fr,.bl (aT d)):=by
 unfold k6 fn By;cases d with
 |ty n=>exact absurd rfl h.1
 |exc a b c=>exact absurd rfl h.1
 |tup ds =>
  have ht:=ht ds rfl;cases ds with
  |nil =>
   walk_at "ev";simp! [show decide (((0:Nat):Int)=0)=true from rfl];walk_at "ev";simp! [aT]
  |cons e r =>
   have ea:L2.aM (e::r) 0=some e:=mR (k:=0) (l:=e::r) (Nat.succ_pos _);have e0:decide (((r.length+1:Nat):Int)=0)=false:=bF ∅;have he:=ht e bC;walk_at "ev";simp! [e0];walk_at "ev";rw[ea];cases e with
   |ty n=>exact absurd rfl he.1
   |exc a b c=>exact absurd rfl he.1
   |str w =>
    walk_at "ev";rw[ea];walk_at "ev";by_cases h1:w = "reckon"
    ·subst h1;walk_at "ev";rcases r with _|⟨x,_|⟨s,_|⟨a,_|⟨b,_|⟨t,r⟩⟩⟩⟩⟩
     ·(try walk_at "ev");rfl
     ·(try walk_at "ev");rfl
     ·(try walk_at "ev");rfl
     ·(try walk_at "ev");rfl
     ·have e1:L2.aM [D.str "reckon",x,s,a,b] 1=some x:=rfl;have e2:cut [D.str "reckon",x,s,a,b] (some 2) none=[s,a,b]:=rfl;have hx:Ok x:=ht x (by simp);have hs:Ok s:=ht s (by simp);have ha:Ok a:=ht a (by simp);have hb:Ok b:=ht b (by simp);have hr:aT (.tup [.str "reckon",x,s,a,b])=(bE x&&(fN s&&(bH a&&bH b))):=rfl;rw[hr];walk_at "ev";simp! [show decide (((4+1:Nat):Int)=5)=true from rfl,show decide (((5:Nat):Int)=5)=true from rfl];walk_at "ev";rw[e1];walk_at "ev";rw[vB hx];cases bE x with
      |false=>(try walk_at "ev");rfl
      |true =>
       walk_at "ev";rw[e2]
       (try walk_at "ev")
       rw[IY hs ha hb];walk_at "ev"
     ·have e6:decide (((r.length+1+1+1+1+1+1:Nat):Int)=5)=false:=bF ∅;walk_at "ev";simp! [e6];walk_at "ev";rfl
    by_cases h2:w = "copy"
    ·subst h2;walk_at "ev";rcases r with _|⟨x,_|⟨a,_|⟨t,r⟩⟩⟩
     ·(try walk_at "ev");rfl
     ·(try walk_at "ev");rfl
     ·have e1:L2.aM [D.str "copy",x,a] 1=some x:=rfl;have e2:L2.aM [D.str "copy",x,a] 2=some a:=rfl;have hx:Ok x:=ht x (by simp);have ha:Ok a:=ht a (by simp);have hr:aT (.tup [.str "copy",x,a])=(bE x&&bH a):=rfl;rw[hr];walk_at "ev";simp! [show decide (((3:Nat):Int)=3)=true from rfl];walk_at "ev";rw[e1];walk_at "ev";rw[vB hx];cases bE x with
      |false=>(try walk_at "ev");rfl
      |true =>
       walk_at "ev";rw[e2]
       (try walk_at "ev")
       rw[oK ha];walk_at "ev"
     ·have e6:decide (((r.length+1+1+1+1:Nat):Int)=3)=false:=bF ∅;walk_at "ev";simp! [e6];walk_at "ev";rfl
    by_cases h3:w = "say"
    ·subst h3;walk_at "ev";rcases r with _|⟨a,_|⟨t,r⟩⟩
     ·(try walk_at "ev");rfl
     ·have e1:L2.aM [D.str "say",a] 1=some a:=rfl;have ha:Ok a:=ht a (by simp);have hr:aT (.tup [.str "say",a])=bH a:=rfl;rw[hr];walk_at "ev";simp! [show decide (((2:Nat):Int)=2)=true from rfl];walk_at "ev";rw[e1];walk_at "ev";rw[oK ha];walk_at "ev"
     ·have e6:decide (((r.length+1+1+1:Nat):Int)=2)=false:=bF ∅;walk_at "ev";simp! [e6];walk_at "ev";rfl
    by_cases h4:w = "go"
    ·subst h4;walk_at "ev";rcases r with _|⟨a,_|⟨t,r⟩⟩
     ·(try walk_at "ev");rfl
     ·have e1:L2.aM [D.str "go",a] 1=some a:=rfl;have ha:Ok a:=ht a (by simp);have hr:aT (.tup [.str "go",a])=fB a:=rfl;rw[hr];walk_at "ev";simp! [show decide (((2:Nat):Int)=2)=true from rfl];walk_at "ev";rw[e1];walk_at "ev";rw[Ai ha.1];walk_at "ev"
     ·have e6:decide (((r.length+1+1+1:Nat):Int)=2)=false:=bF ∅;walk_at "ev";simp! [e6];walk_at "ev";rfl
    by_cases h5:w = "part"
    ·subst h5;walk_at "ev";rcases r with _|⟨x,_|⟨a,_|⟨t,r⟩⟩⟩
     ·(try walk_at "ev");rfl
     ·(try walk_at "ev");rfl
     ·have e1:L2.aM [D.str "part",x,a] 1=some x:=rfl;have e2:L2.aM [D.str "part",x,a] 2=some a:=rfl;have hx:Ok x:=ht x (by simp);have ha:Ok a:=ht a (by simp);have hr:aT (.tup [.str "part",x,a])=(bH x&&fB a):=rfl;rw[hr];walk_at "ev";simp! [show decide (((3:Nat):Int)=3)=true from rfl];walk_at "ev";rw[e1];walk_at "ev";rw[oK hx];cases bH x with
      |false=>(try walk_at "ev");rfl
      |true =>
       walk_at "ev";rw[e2]
       (try walk_at "ev")
       rw[Ai ha.1];walk_at "ev"
     ·have e6:decide (((r.length+1+1+1+1:Nat):Int)=3)=false:=bF ∅;walk_at "ev";simp! [e6];walk_at "ev";rfl
    repeat (simp! [decide_eq_false h1,decide_eq_false h2,decide_eq_false h3,decide_eq_false h4,decide_eq_false h5];walk_at "ev")
    have hr:aT (.tup (.str w::r))=(decide (w = "end")&&r.isEmpty):=by simp only[aT,if_neg h1,if_neg h2,if_neg h3,if_neg h4,if_neg h5]
    rw[hr];by_cases h6:w = "end"
    ·simp! [decide_eq_true h6];walk_at "ev";cases r with
     |nil=>rfl
     |cons t r =>
      have e6:decide (((r.length+1+1:Nat):Int)=1)=false:=bF ∅;simp! [List.length_cons,e6];rfl
    ·simp! [decide_eq_false h6,Bool.false_and];walk_at "ev"
   |_=>(try walk_at "ev");rfl
 |_=>walk_at "ev"; simp! [aT]
noncomputable def sp(c:Nat):List Nat→List (List Nat)
 |[]=>[[]]
 |x::l=>if x=c then []::sp c l else match sp c l with
  |h::t=>(x::h)::t
  |[]=>[[x]]
theorem sN(c:Nat):∀l,∃h t,sp c l=h::t
 |[]=>⟨_,_,rfl⟩
 |x::l=>by
  obtain⟨h,t,e⟩:=sN c l;by_cases q:x=c
  ·exact⟨[],sp c l,by simp only[sp,if_pos q]⟩
  ·exact⟨x::h,t,by simp only[sp,if_neg q,e]⟩
theorem wQ(c:Nat)(b:List Nat):∀a:List Nat,sp c (a++c::b)=sp c a++sp c b
 |[]=>by simp only[List.nil_append,sp,if_pos,List.cons_append]
 |x::a=>by
  have ih:=wQ c b a;obtain⟨h,t,e⟩:=sN c a;by_cases q:x=c
  ·simp only[List.cons_append,sp,if_pos q,ih]
  ·simp only[List.cons_append,sp,if_neg q,ih,e]
theorem rH(c:Nat):∀a:List Nat,c∉a→sp c a=[a]
 |[],_=>rfl
 |x::a,h=>by
  have q:¬x=c:=λz=>h (z▸bC);simp only[sp,if_neg q,rH c a (λm=>h (List.mem_cons_of_mem _ m))]
noncomputable def jn(c:Nat):List (List Nat)→List Nat
 |[]=>[]
 |[x]=>x
 |x::y::r=>x++c::jn c (y::r)
theorem xG(c:Nat):∀ps:List (List Nat),ps≠[]→(∀p∈ps,c∉p)→sp c (jn c ps)=ps
 |[],h,_=>absurd rfl h
 |[x],_,h=>rH c x (h x bC)
 |x::y::r,_,h=>by
  rw[jn,wQ,rH c x (h x bC),xG c (y::r) (List.cons_ne_nil _ _) λp m=>h p (b6 _ m)];rfl
noncomputable def ch(s:Str):List Nat:=s.cps.toList
noncomputable def mk(l:List Nat):Str:=⟨l.toArray⟩
theorem sO(l:List Nat):ch (mk l)=l:=rfl
theorem pJ(s:Str):mk (ch s)=s:=by
 obtain⟨⟨l⟩⟩:=s;rfl
theorem wR{a b:Str}(h:ch a=ch b):a=b:=by rw[←pJ a,h,pJ]
theorem DU(a b:Str):ch (a++b)=ch a++ch b:=by
 show(a.cps++b.cps).toList=_;rw[Array.toList_append];rfl
theorem ft(s:Str):(ch s).length=s.length:=by obtain⟨⟨l⟩⟩:=s;rfl
theorem wj(c:Nat):∀ps:List Str,ch (Str.join ⟨#[c]⟩ ps)=jn c (ps.map ch)
 |[]=>rfl
 |[x]=>rfl
 |x::y::r=>by
  show ch (x++⟨#[c]⟩++Str.join ⟨#[c]⟩ (y::r))=ch x++c::jn c ((y::r).map ch);rw[DU,DU,wj c (y::r),List.append_assoc];rfl
theorem rq(c:Nat)(ps:List Str):ch (Txt.join ⟨#[c]⟩ ps)=jn c (ps.map ch):=by
 show ch (Builtin.Str.glued ⟨#[c]⟩ ps)=_;rw[StrLaws.glued_eq_join,wj]
theorem Np(x y:Str):Txt.split x y≠[]:=by
 unfold Txt.split;split
 ·exact List.cons_ne_nil _ _
 ·split
  ·exact List.cons_ne_nil _ _
  ·rw[StrLaws.partsBetween_eq];obtain⟨p,r,e⟩:=StrLaws.partsFrom_ne x y.length 0 (Builtin.Str.occurrences x y 0 x.length (x.length+1));rw[e];exact List.cons_ne_nil _ _
theorem oR(x:Str)(c:Nat):Txt.split x ⟨#[c]⟩=(sp c (ch x)).map mk:=by
 have h1:=StrLaws.join_split x ⟨#[c]⟩;have h2:=StrLaws.split_free x c;have e:ch x=jn c ((Txt.split x ⟨#[c]⟩).map ch):=by rw[←wj,h1]
 rw[e,xG c _ (by simpa using Np x ⟨#[c]⟩) (λp m=>by
  obtain⟨q,hq,rfl⟩:=cX.mp m;exact h2 q hq),fF]
 conv=>lhs;rw[←List.map_id (Txt.split x ⟨#[c]⟩)]
 exact yP λs _=>(pJ s).symm
theorem pB(c:Nat):∀l,(sp c l).length≤l.length+1
 |[]=>by simp[sp]
 |x::l=>by
  have ih:=pB c l;obtain⟨h,t,e⟩:=sN c l;rw[e]at ih;by_cases q:x=c
  ·simp only[sp,if_pos q,e,List.length_cons]at ih ⊢;omega
  ·simp only[sp,if_neg q,e,List.length_cons]at ih ⊢;omega
theorem wU(x:Str)(c i:Nat):StrLaws.At x ⟨#[c]⟩ x.length i↔(ch x)[i]?=some c:=StrLaws.subAt_one x c i
theorem CJ(c:Nat):∀(l:List Nat) (i:Nat),l[i]?=some c→(∀k,k<i→l[k]?≠some c)→l.take i=l.takeWhile (·≠c)
 |[],i,h,_=>by simp at h
 |x::l,0,h,_=>by
  have:x=c:=by simpa using h
  simp[List.takeWhile,this]
 |x::l,i+1,h,hn=>by
  have q:x≠c:=λz=>hn 0 (Nat.succ_pos _) (by simp[z]);rw[List.take_succ_cons,CJ c l i (by simpa using h) (λk hk=>by simpa using hn (k+1) (Nat.succ_lt_succ hk)),List.takeWhile_cons_of_pos (by simpa using q)]
theorem wV(c:Nat):∀l:List Nat,c∉l→l.takeWhile (·≠c)=l
 |[],_=>rfl
 |x::l,h=>by
  have q:x≠c:=λz=>h (z▸bC);rw[List.takeWhile_cons_of_pos (by simpa using q),wV c l λm=>h (b6 _ m)]
theorem Pt(x:Str)(c:Nat):ch (Txt.partition x ⟨#[c]⟩).1=(ch x).takeWhile (·≠c):=by
 unfold Txt.partition;rcases StrLaws.occ_head x ⟨#[c]⟩ 1 (a7 1) with⟨h0,hn⟩|⟨i,r,h0,ha,hn⟩
 ·rw[h0];refine(wV c (ch x) λm=>?_).symm;obtain⟨i,hi⟩:=List.getElem?_of_mem m;exact hn i ((wU x c i).mpr hi)
 ·rw[h0];show ch (Builtin.Str.strSub x 0 i)=_;have e:ch (Builtin.Str.strSub x 0 i)=(ch x).take i:=by
   show(Builtin.Str.strSub x 0 i).cps.toList=_;rw[StrLaws.strSub_toList];simp[ch]
  rw[e];exact CJ c (ch x) i ((wU x c i).mp ha) λk hk=>λz=>hn k hk ((wU x c k).mpr z)
noncomputable def W(l:List Nat):List (List Nat):=(sp 32 l).filter λw=>!w.isEmpty
theorem EX(a b:List Nat):W (a++32::b)=W a++W b:=by unfold W;rw[wQ,List.filter_append]
theorem FZ(l:List Nat):W (32::l)=W l:=EX [] l
theorem EY{w:List Nat}(h:w≠[])(hf:32∉w):W w=[w]:=by
 unfold W;rw[rH 32 w hf];cases w with
 |nil=>exact absurd rfl h
 |cons x w=>rfl
theorem F0:∀ws:List (List Nat),(∀w∈ws,w≠[]∧32∉w)→W (jn 32 ws)=ws
  |[],_=>rfl
  |[x],h=>by
    obtain⟨a,b⟩:=h x bC;exact EY a b
  |x::y::r,h=>by
    obtain⟨a,b⟩:=h x bC;rw[jn,EX,EY a b,F0 (y::r) λw m=>h w (b6 _ m)];rfl
noncomputable def wl(l:List Nat):List (List Nat):=W (l.takeWhile (·≠35))
noncomputable def dg(n:Nat):List Nat:=if n<10 then [48+n] else dg (n/10)++[48+n%10]
theorem nh{n:Nat}(h:n<10):dg n=[48+n]:=by rw[dg,if_pos h]
theorem pK{n:Nat}(h:¬n<10):dg n=dg (n/10)++[48+n%10]:=by rw[dg,if_neg h]
theorem DV:∀n,n<10→(Nat.digitChar n).toNat=48+n:=by decide
theorem Mb(n:Nat):(Nat.toDigits 10 n).map Char.toNat=dg n:=by
 induction n using Nat.strongRecOn with
 |ind n ih =>
  by_cases h:n<10
  ·rw[Nat.toDigits_of_lt_base h,nh h];simp[DV n h]
  ·rw[Nat.toDigits_of_base_le (by decide) ∅,pK h,kl,ih (n/10) ∅];simp[DV (n%10) ∅]
theorem R0(n:Nat):ch (Str.ofString (toString (n:Int)))=dg n:=by
 rw[Str.ofString_eq_toList];show((Nat.repr n).toList.map Char.toNat)=dg n;unfold Nat.repr;rw[String.toList_ofList,Mb]
theorem str_int{i:Int}(h:0≤i):ch (Str.ofString (toString i))=dg i.toNat:=by
 obtain⟨n,rfl⟩:=Int.eq_ofNat_of_zero_le h;rw[R0];rfl
theorem rR(n:Nat):∀c∈dg n,48≤c∧c<58:=by
 induction n using Nat.strongRecOn with
 |ind n ih =>
  by_cases h:n<10
  ·rw[nh h];intro c m;have:c=48+n:=by simpa using m
   omega
  ·rw[pK h];intro c m;rcases ic.mp m with m|m
   ·exact ih (n/10) ∅ c m
   ·have:c=48+n%10:=by simpa using m
    omega
theorem EZ(n:Nat):∃c r,dg n=c::r∧(c=48→n=0):=by
 induction n using Nat.strongRecOn with
 |ind n ih =>
  by_cases h:n<10
  ·exact⟨48+n,[],nh h,by omega⟩
  ·obtain⟨c,r,e,z⟩:=ih (n/10) ∅;exact⟨c,r++[48+n%10],by rw[pK h,e];rfl,λq=>by have:=z q;omega⟩
noncomputable def nv(l:List Nat)(a:Int):Int:=l.foldl (λ(x:Int) (c:Nat)=>x*10+((c:Int)-48)) a
theorem TV(n:Nat):nv (dg n) 0=n:=by
 induction n using Nat.strongRecOn with
 |ind n ih =>
  by_cases h:n<10
  ·rw[nh h];simp only[nv,List.foldl_cons,List.foldl_nil];omega
  ·have e:=ih (n/10) ∅;rw[pK h];unfold nv at e ⊢;rw[List.foldl_append,e];simp only[List.foldl_cons,List.foldl_nil];omega
theorem R7(n:Nat):∀k,n<10^k→0<k→(dg n).length≤k:=by
 induction n using Nat.strongRecOn with
 |ind n ih =>
  intro k hk h0;by_cases h:n<10
  ·rw[nh h];exact h0
  ·obtain⟨m,rfl⟩:∃m,k=m+1:=⟨k-1,by omega⟩;have hm:0<m:=by
    rcases Nat.eq_zero_or_pos m with rfl|h
    ·simp at hk;omega
    ·exact h
   have:=ih (n/10) ∅ m (by rw[Nat.pow_succ]at hk;omega) hm;rw[pK h,bN];simp;omega
theorem R8:∀d,d<10→Builtin.Str.occurrences dP ⟨#[48+d]⟩ 0 dP.length 1=[d]:=by decide +kernel
theorem R9{m n:M}{c:Nat}(h0:48≤c)(h1:c<58):mW (m,.str dP) [(n,.str ⟨#[c]⟩)]=some (.fr,.int ((c:Int)-48)):=by
 have e:=R8 (c-48) ∅;rw[show 48+(c-48)=c by omega]at e;unfold mW;simp only[e];congr 3;omega
theorem Bz(w:Str):∀(l:List Nat) (a:Int) (o:Option (M×D)),(∀c∈l,48≤c∧c<58)→∃o',forL (gN 2) oJ .fr (l.map λc=>.str ⟨#[c]⟩) [.al\.str w,.fr\.int a,o]=some (.nx [.al\.str w,.fr\.int (nv l a),o'])
 |[],a,o,_=>⟨o,rfl⟩
 |c::l,a,o,h=>by
  obtain⟨h0,h1⟩:=h c bC;obtain⟨o',ih⟩:=Bz w l (a*10+((c:Int)-48)) (.fr\.str ⟨#[c]⟩) λx m=>h x (b6 _ m);refine⟨o',?_⟩;have b:oJ [.al\.str w,.fr\.int a,.fr\.str ⟨#[c]⟩]=some (.nx [.al\.str w,.fr\.int (a*10+((c:Int)-48)),.fr\.str ⟨#[c]⟩]):=by
   unfold oJ;walk_at "ev";rw[show(Str.ofString "0123456789")=dP from rfl,R9 h0 h1];walk_at "ev"
  rw[mq,forL];show(((gN 2) (.fr,D.str ⟨#[c]⟩) [.al\.str w,.fr\.int a,o]).bind _)=_;simp only[gN,oq,tq,tz,b];exact ih
theorem K5(w:Str)(hw:∀c∈ch w,48≤c∧c<58):qV [.str w]=some (.fr,.int (nv (ch w) 0)):=by
 unfold qV fn Aq;obtain⟨o',h⟩:=Bz w (ch w) 0 none hw;simp! [mq,mn,List.length_cons,List.length_nil,Nat.reduceAdd,Nat.reduceSub,List.replicate,List.cons_append,List.nil_append];rw[aG (e':=[.al\.str w,.fr\.int 0,none]) rfl,aG (e':=[.al\.str w,.fr\.int (nv (ch w) 0),o'])]
 ·walk_at "ev"
 ·show forL (gN 2) oJ .fr (gS w) _=_;exact h
theorem rJ(c:Nat):dh c=true↔48≤c∧c<58:=by
 have e:dh c=decide (c∈dP.cps.toList):=StrLaws.found_one dP c;rw[e,ug,show dP.cps.toList=[48,49,50,51,52,53,54,55,56,57] by decide +kernel];simp only[List.mem_cons,List.not_mem_nil,or_false];omega
theorem wo(c:Nat):cv c=true↔97≤c∧c<123:=by
 have e:cv c=decide (c∈gf.cps.toList):=StrLaws.found_one gf c;rw[e,ug,show gf.cps.toList=[97,98,99,100,101,102,103,104,105,106,107,108,109,110,111,112,113,114,115,116,117,118,119,120,121,122] by decide +kernel];simp only[List.mem_cons,List.not_mem_nil,or_false];omega
theorem Pu(z:Str):cU eQ (ag (dE false) (jV 0) (jC (D.str dP))) M.fr [] (gS z)=some (((z.cps.toList.map dh).map D.bl).map λx=>(M.fr,x)):=by
 have:=vD (fe:=ag (dE false) (jV 0) (jC (D.str dP))) (m:=.fr) (fr:=[]) (F:=λd=>match d with|.str z=>.bl (fV dP z)|_=>.non) (ds:=gS z) (λd hd=>by
  obtain⟨c,hc,rfl⟩:=cX.mp hd;simp! [ag,jV,jC,dE,gz,oq,id_eq,if_false,Bool.false_eq_true])
 rw[this];congr 1;unfold gS;rw[fF,fF,fF,fF];rfl
theorem Sb{c d:Nat}:decide ((⟨#[c]⟩:Str)=⟨#[d]⟩)=decide (c=d):=by
 by_cases h:c=d
 ·rw[h];simp
 ·rw[bF h];exact bF λz=>h (by simpa using z)
theorem Md{w:Str}{c:Nat}{r:List Nat}(hw:ch w=c::r)(hl:w.length≤1000):oG [.str w]=some (.fr,.bl (if c=48 then decide (r=[])else (c::r).all dh)):=by
 have hs:w.length≤sizeLine:=aQ hl (by decide);have e0:L2.aM w.cps.toList 0=some c:=by
  rw[show w.cps.toList=c::r from hw];exact mR (k:=0) (l:=c::r) (Nat.succ_pos _)
 unfold oG fn Aa;walk_at "ev";rw[sE hs,e0];walk_at "ev";rw[show(Str.ofString "0")=(⟨#[48]⟩:Str) by decide +kernel,Sb];by_cases h:c=48
 ·simp only[h];walk_at "ev";have:decide (w=(⟨#[48]⟩:Str))=decide (r=[]):=by
   by_cases q:r=[]
   ·rw[bR q];exact bR (wR (by rw[hw,h,q];rfl))
   ·rw[bF q];exact bF λz=>q (by rw[z]at hw;have:[48]=c::r:=hw;simp at this;exact this.2)
  rw[this]
 ·simp only[h];walk_at "ev";simp! [fA];walk_at "ev";rw[show(Str.ofString "0123456789")=dP from rfl,Pu,oq,wc (by rw[ln,ln];exact hl),oq];simp! [lJ,vL,oq];walk_at "ev";rw[show w.cps.toList=c::r from hw,List.all_map];rfl
def wn(w:Str):Bool:=match ch w with
 |[]=>false
 |c::r=>if c=48 then decide (r=[])else (c::r).all dh
noncomputable def aX(w:Str):D:=if wn w=true then .int (nv (ch w) 0)else .str w
set_option tactic.hygienic true in
theorem Mf{w:Str}(hw:ch w≠[])(hl:w.length≤1000):gq [.str w]=some (.fr,aX w):=by
 have t:oG [.str w]=some (.fr,.bl (wn w)):=by
  unfold wn;split
  ·rename_i e;exact absurd e hw
  ·rename_i c r e;exact Md e hl
 have hd:wn w=true→∀c∈ch w,48≤c∧c<58:=by
  intro h c m;unfold wn at h;split at h
  ·cases h
  ·rename_i d r e;rw[e]at m;split at h
   ·rename_i q;rw[aA h,List.mem_singleton]at m;omega
   ·exact(rJ c).mp (bY.mp h c m)
 unfold gq fn AI;walk_at "ev";rw[t];unfold aX;cases q:wn w with
 |true =>
  walk_at "ev";rw[K5 w (hd q)];walk_at "ev"
 |false =>
  walk_at "ev";simp only[out,D.b8,if_true]
theorem cT{e:Ev}:aP e=some (.nx e):=rfl
theorem tA{L:D}{k n:Int}{T:Ev→Option Bool}(h:k≠n):bW (jB (ag aO (jV 1) (jC (.int n)))) T [.al\L,.fr\.int k]=some false:=by
 simp! [bW,jB,ag,jV,jC,gz,gy,oq,id_eq,cV,dm,decide_eq_false h,if_false,Bool.false_eq_true]
theorem tB{L:D}{n:Int}{T:Ev→Option Bool}:bW (jB (ag aO (jV 1) (jC (.int n)))) T [.al\L,.fr\.int n]=T [.al\L,.fr\.int n]:=by
 simp! [bW,jB,ag,jV,jC,gz,gy,oq,id_eq,cV,dm,decide_true,if_true]
theorem oC{ws:List Str}{o:Option (M×D)}(i:Int){w:Str}(h:L2.aM (ws.map D.str) i=some (.str w)):(ag aC (jV 0) (jC (.int i))) [.al\.str∘ws,o]=some (.al,.str w):=by
 simp! [ag,jV,jC,gz,oq,id_eq,sC,DC,h,oy]
theorem oE{ws:List Str}{o:Option (M×D)}(i:Int){w:Str}(s:Str)(h:L2.aM (ws.map D.str) i=some (.str w)):(jB (ag aO (ag aC (jV 0) (jC (.int i))) (jC (.str s)))) [.al\.str∘ws,o]=some (decide (w=s)):=by
 have e:=oC (o:=o) i h;rw[jB,ag,e];simp! [jC,oq,Eu,dm]
theorem pL{ws:List Str}{o:Option (M×D)}(i:Int){w:Str}{d:D}(h:L2.aM (ws.map D.str) i=some (.str w))(hv:gq [.str w]=.fr\d):(aB gq (ae (ag aC (jV 0) (jC (.int i))) ah)) [.al\.str∘ws,o]=some (.fr,d):=by
 have e:=oC (o:=o) i h;simp! [aB,ae,ah,e,oq,mq,mn,hv]
theorem Nq{ws:List Str}(hl:ws.length≤200):aJ 1 (aD aY (ae (jV 0) ah)) [.al\.str∘ws,none]=some (.nx [.al\.str∘ws,.fr\.int ws.length]):=by
 simp! [aJ,aD,ae,ah,jV,gz,oq,id_eq,j0,ln,wa,tq,tz]
theorem pC{fs:Ev→Option (List (M×D))}{e:Ev}{aw:List (M×D)}(h:fs e=some aw)(hl:aw.length≤10)(hs:(aw.all λx=>bU x.1 x.2)=true):aE (hR fs) e=some (.rt e .fr (.tup (aw.map (·.2)))):=by
 simp only[aE,hR,h,oq];unfold sj;rw[if_pos (aQ hl (by decide)),if_pos hs];rfl
theorem cons_of{f:Ev→Option (M×D)}{g:Ev→Option (List (M×D))}{e:Ev}{x:M×D}{l:List (M×D)}(h1:f e=some x)(h2:g e=some l):ae f g e=some (x::l):=by simp only[ae,h1,h2,oq]
theorem TX{f g:Ev→Option Bool}{e:Ev}(h:f e=some true):cw f g e=some true:=by simp[cw,h]
theorem sQ{f g:Ev→Option Bool}{e:Ev}(h:f e=some false):cw f g e=g e:=by simp[cw,h]
theorem sR(w:Str):bU .fr (aX w)=true:=by unfold aX;split<;>rfl
def aI:List Str→D
 |[a,b,c,d,e]=>if b = "=" then .tup [.str "reckon",.str a,.str d,aX c,aX e] else .non
 |[a,b,c]=>if b = "=" then .tup [.str "copy",.str a,aX c] else if a = "part" then .tup [.str "part",aX b,aX c] else .non
 |[a,b]=>if a = "say" then .tup [.str a,aX b] else if a = "go" then .tup [.str a,aX b] else .non
 |[a]=>if a = "end" then .tup [.str "end"] else .non
 |_=>.non
theorem rS{ws:List Str}{f g:Ev→Option Fl}{T:Ev→Option Bool}{n:Int}(h:(ws.length:Int)≠n):au (aS (bW (jB (ag aO (jV 1) (jC (.int n)))) T) f aP) g [.al\.str∘ws,.fr\.int ws.length]=g [.al\.str∘ws,.fr\.int ws.length]:=aG ((bO (tA h)).trans cT)
theorem p7{e:Ev}:ah e=some []:=rfl
theorem Pw{ws:List Str}(hw:∀w∈ws,ch w≠[]∧w.length≤1000)(hl:ws.length≤200):mP [.str∘ws]=some (.fr,aI ws):=by
  show(vM [.al\.str∘ws,none]).bind out=_;unfold vM;rw[aG (Nq hl)];have V:∀w∈ws,gq [.str w]=some (.fr,aX w):=λw m=>Mf (hw w m).1 (hw w m).2;clear hw hl
  match ws,V with
  |[],V=>rw[rS (by simp),rS (by simp),rS (by simp),rS (by simp),rS (by simp)];rfl
  |[a],V =>
    rw[rS (by simp),rS (by simp),rS (by simp),rS (by simp)];rw[show(([a]:List Str).length:Int)=1 from rfl];have t:=oE (ws:=[a]) (o:=.fr\.int 1) 0 "end" rfl;by_cases h:a = "end"
    · rw[bR h]at t
      rw[gY ((dU (tB.trans t)).trans (pC (cons_of rfl p7) (Nat.le_of_ble_eq_true rfl) rfl))];simp only[aI,if_pos h];rfl
    · rw[bF h]at t
      rw[aG ((bO (tB.trans t)).trans cT)];simp only[aI,if_neg h];rfl
  |[a,b],V =>
    rw[rS (by simp),rS (by simp),rS (by simp)];rw[show(([a,b]:List Str).length:Int)=2 from rfl];have t:=oE (ws:=[a,b]) (o:=.fr\.int 2) 0 "say" rfl;have t2:=oE (ws:=[a,b]) (o:=.fr\.int 2) 0 "go" rfl;have i0:=oC (ws:=[a,b]) (o:=.fr\.int 2) 0 rfl;have v1:=pL (ws:=[a,b]) (o:=.fr\.int 2) 1 rfl (V b (by simp));have T:=pC (cons_of i0 (cons_of v1 p7)) (Nat.le_of_ble_eq_true rfl) (by simp only[List.all_cons,List.all_nil,sR];rfl);by_cases h:a = "say"
    · rw[bR h]at t
      rw[gY ((dU (tB.trans (TX t))).trans T)];simp only[aI,if_pos h];rfl
    · rw[bF h]at t
      by_cases h2:a = "go"
      · rw[bR h2]at t2
        rw[gY ((dU (tB.trans ((sQ t).trans t2))).trans T)];simp only[aI,if_neg h,if_pos h2];rfl
      · rw[bF h2]at t2
        rw[aG ((bO (tB.trans ((sQ t).trans t2))).trans cT)];rw[aG ((bO (tA (by decide))).trans cT)];simp only[aI,if_neg h,if_neg h2];rfl
  |[a,b,c],V =>
    rw[rS (by simp)];rw[show(([a,b,c]:List Str).length:Int)=3 from rfl];have t:=oE (ws:=[a,b,c]) (o:=.fr\.int 3) 1 "=" rfl;have t2:=oE (ws:=[a,b,c]) (o:=.fr\.int 3) 0 "part" rfl;have i0:=oC (ws:=[a,b,c]) (o:=.fr\.int 3) 0 rfl;have v1:=pL (ws:=[a,b,c]) (o:=.fr\.int 3) 1 rfl (V b (by simp));have v2:=pL (ws:=[a,b,c]) (o:=.fr\.int 3) 2 rfl (V c (by simp));by_cases h:b = "="
    · rw[bR h]at t
      rw[gY ((dU (tB.trans t)).trans (pC (cons_of rfl (cons_of i0 (cons_of v2 p7))) (Nat.le_of_ble_eq_true rfl) (by simp only[List.all_cons,List.all_nil,sR];rfl)))];simp only[aI,if_pos h];rfl
    · rw[bF h]at t
      rw[aG ((bO (tB.trans t)).trans cT)];by_cases h2:a = "part"
      · rw[bR h2]at t2
        rw[gY ((dU (tB.trans t2)).trans (pC (cons_of rfl (cons_of v1 (cons_of v2 p7))) (Nat.le_of_ble_eq_true rfl) (by simp only[List.all_cons,List.all_nil,sR];rfl)))];simp only[aI,if_neg h,if_pos h2];rfl
      · rw[bF h2]at t2
        rw[aG ((bO (tB.trans t2)).trans cT),aG ((bO (tA (by decide))).trans cT),aG ((bO (tA (by decide))).trans cT)];simp only[aI,if_neg h,if_neg h2];rfl
  |[a,b,c,d],V=>rw[rS (by simp),rS (by simp),rS (by simp),rS (by simp),rS (by simp)];rfl
  |[a,b,c,d,e],V =>
    rw[show(([a,b,c,d,e]:List Str).length:Int)=5 from rfl];have t:=oE (ws:=[a,b,c,d,e]) (o:=.fr\.int 5) 1 "=" rfl;have i0:=oC (ws:=[a,b,c,d,e]) (o:=.fr\.int 5) 0 rfl;have i3:=oC (ws:=[a,b,c,d,e]) (o:=.fr\.int 5) 3 rfl;have v2:=pL (ws:=[a,b,c,d,e]) (o:=.fr\.int 5) 2 rfl (V c (by simp));have v4:=pL (ws:=[a,b,c,d,e]) (o:=.fr\.int 5) 4 rfl (V e (by simp));by_cases h:b = "="
    · rw[bR h]at t
      rw[gY ((dU (tB.trans t)).trans (pC (cons_of rfl (cons_of i0 (cons_of i3 (cons_of v2 (cons_of v4 p7))))) (Nat.le_of_ble_eq_true rfl) (by simp only[List.all_cons,List.all_nil,sR];rfl)))];simp only[aI,if_pos h];rfl
    · rw[bF h]at t
      rw[aG ((bO (tB.trans t)).trans cT),aG ((bO (tA (by decide))).trans cT),aG ((bO (tA (by decide))).trans cT),aG ((bO (tA (by decide))).trans cT),aG ((bO (tA (by decide))).trans cT)];simp only[aI,if_neg h];rfl
  |a::b::c::d::e::f::r,V=>rw[rS (by simp only[List.length_cons];omega),rS (by simp only[List.length_cons];omega),rS (by simp only[List.length_cons];omega),rS (by simp only[List.length_cons];omega),rS (by simp only[List.length_cons];omega)];rfl
noncomputable def a9(w:Str):List Str:=(wl (ch w)).map mk
theorem CK(m:M):∀ls:List Str,cU (jB (ag c9 (jV 0) (jC (.str "")))) (jV 0) m [] (ls.map D.str)=some ((ls.filter λw=>!(ch w).isEmpty).map λw=>(m,D.str w))
 |[]=>rfl
 |w::ls=>by
  have ih:=CK m ls;have t:(jB (ag c9 (jV 0) (jC (.str "")))) (some (m,D.str w)::[])=some (!(ch w).isEmpty):=by
   simp! [jB,ag,jV,jC,gz,oq,id_eq,sx,dm];congr 2;cases e:ch w with
   |nil=>exact bR (wR (by rw[e];decide +kernel))
   |cons c r=>exact bF λz=>by rw[z]at e;revert e;rw[show ch (Str.ofString "")=[] by decide +kernel];intro e;cases e
  rw[mq,cU,t,oq,List.filter_cons];cases q:!(ch w).isEmpty with
  |false=>simp only[Bool.false_eq_true,if_false,ih]
  |true =>
   simp only[if_true,ih,oq,mq];rfl
theorem wq{m:M}(hm:m=.fr∨m=.al)(ls:List Str)(h:ls.length≤1000000):g6 (ls.map λw=>(m,D.str w))=some (.un,.str∘ls):=by
 unfold g6;rw[if_pos (by rw[ln];exact aQ h (by decide)),if_pos (by rw[List.all_map];exact bY.mpr λ_ _=>by rcases hm with rfl|rfl<;>rfl),fF];rfl
theorem DW:(Str.ofString "#")=⟨#[35]⟩:=by decide +kernel
theorem oV:(Str.ofString " ")=⟨#[32]⟩:=by decide +kernel
theorem yt:(Str.ofString "\n")=⟨#[10]⟩:=by decide +kernel
theorem rT(c:Nat)(l:List Nat):(l.takeWhile (·≠c)).length≤l.length:=(List.takeWhile_sublist _).length_le
theorem Mg(ps:List (List Nat)):((ps.map mk).filter λw=>!(ch w).isEmpty)=(ps.filter λw=>!w.isEmpty).map mk:=by
 rw[List.filter_map];rfl
theorem Nr(w:Str)(hl:w.length≤100000):kW [.str w]=some (.un,.lst ((a9 w).map .str)):=by
 have hp:=Pt w 35;have WK:(Txt.partition w ⟨#[35]⟩).1.length≤100000:=by
  rw[←ft,hp];have:=rT 35 (ch w);rw[ft]at this;omega
 have hs:=oR (Txt.partition w ⟨#[35]⟩).1 32;have hsl:(Txt.split (Txt.partition w ⟨#[35]⟩).1 ⟨#[32]⟩).length≤100001:=by
  rw[hs,ln];have:=pB 32 (ch (Txt.partition w ⟨#[35]⟩).1);rw[ft]at this;omega
 have z1:w.length≤sizeLine:=aQ hl (by decide);have z2:(Txt.partition w ⟨#[35]⟩).1.length≤sizeLine:=aQ WK (by decide);have z3:(Txt.split (Txt.partition w ⟨#[35]⟩).1 ⟨#[32]⟩).length≤sizeLine:=aQ hsl (by decide);have gp:mH (.al,.str w) [(.fr,.str ⟨#[35]⟩)]=some (.fr,.tup [.str (Txt.partition w ⟨#[35]⟩).1,.str (Txt.partition w ⟨#[35]⟩).2.1,.str (Txt.partition w ⟨#[35]⟩).2.2]):=by
  unfold mH;simp only[];rw[if_pos ⟨rfl,z1⟩]
 have gs:dA (.fr,.str (Txt.partition w ⟨#[35]⟩).1) [(.fr,.str ⟨#[32]⟩)]=some (.un,.lst ((Txt.split (Txt.partition w ⟨#[35]⟩).1 ⟨#[32]⟩).map D.str)):=by
  unfold dA;simp only[];rw[if_pos ⟨rfl,z2,z3⟩]
 unfold kW fn AJ;simp! [DW,oV,aE,fA,kN,bp,ag,jV,jC,ae,ah,a8,mq,mn,List.length_cons,List.length_nil,Nat.reduceAdd,Nat.reduceSub,List.replicate,List.append_nil,gz,oq,id_eq,if_true,gp,Ez];rw[show L2.aM [D.str (Txt.partition w ⟨#[35]⟩).1,.str (Txt.partition w ⟨#[35]⟩).2.1,.str (Txt.partition w ⟨#[35]⟩).2.2] 0=some (.str (Txt.partition w ⟨#[35]⟩).1)from rfl];simp! [oy,oq,DF,a8,if_true,gs,gR];rw[show iF [.al\D.str w] []=[] from rfl,CK,oq,wq (.inl rfl)]
 ·simp! [oq,Dz];rw[hs,Mg,hp];rfl
 ·exact aQ (yQ _ _) ∅
theorem Ok.str{z:Str}(h:z.length≤1000):Ok (.str z):=⟨by simp[dN],λy e=>by cases e;exact h⟩
theorem Ok.int{i:Int}:Ok (.int i):=⟨by simp[dN],λy e=>by cases e⟩
theorem Ok.non:Ok .non:=⟨by decide,λy e=>by cases e⟩
theorem Ok.tup{l:List D}:Ok (.tup l):=⟨by simp[dN],λy e=>by cases e⟩
theorem lL{w:Str}(h:w.length≤1000):Ok (aX w):=by
 unfold aX;split
 ·exact Ok.int
 ·exact Ok.str h
theorem CL{ws:List Str}(h:∀w∈ws,w.length≤1000):Ok (aI ws)∧∀ds,aI ws=.tup ds→∀e∈ds,Ok e:=by
 have T:∀l:List D,(∀e∈l,Ok e)→Ok (.tup l)∧∀ds,D.tup l=.tup ds→∀e∈ds,Ok e:=λl q=>⟨Ok.tup,λds e=>by cases e;exact q⟩;have N:Ok .non∧∀ds,D.non=.tup ds→∀e∈ds,Ok e:=⟨Ok.non,λ_ e=>nomatch e⟩;have L:∀s:Str,decide (s.length≤1000)=true→Ok (.str s):=λs q=>Ok.str (aA q);unfold aI;split
 ·split
  ·exact T _ λe m=>by
    simp only[List.mem_cons,List.not_mem_nil,or_false]at m;rcases m with rfl|rfl|rfl|rfl|rfl
    ·exact L _ (by decide +kernel)
    ·exact Ok.str (h _ (by simp))
    ·exact Ok.str (h _ (by simp))
    ·exact lL (h _ (by simp))
    ·exact lL (h _ (by simp))
  ·exact N
 ·split
  ·exact T _ λe m=>by
    simp only[List.mem_cons,List.not_mem_nil,or_false]at m;rcases m with rfl|rfl|rfl
    ·exact L _ (by decide +kernel)
    ·exact Ok.str (h _ (by simp))
    ·exact lL (h _ (by simp))
  ·split
   ·exact T _ λe m=>by
     simp only[List.mem_cons,List.not_mem_nil,or_false]at m;rcases m with rfl|rfl|rfl
     ·exact L _ (by decide +kernel)
     ·exact lL (h _ (by simp))
     ·exact lL (h _ (by simp))
   ·exact N
 ·split
  ·exact T _ λe m=>by
    simp only[List.mem_cons,List.not_mem_nil,or_false]at m;rcases m with rfl|rfl
    ·exact Ok.str (h _ (by simp))
    ·exact lL (h _ (by simp))
  ·split
   ·exact T _ λe m=>by
     simp only[List.mem_cons,List.not_mem_nil,or_false]at m;rcases m with rfl|rfl
     ·exact Ok.str (h _ (by simp))
     ·exact lL (h _ (by simp))
   ·exact N
 ·split
  ·exact T _ λe m=>by
    simp only[List.mem_cons,List.not_mem_nil,or_false]at m;subst m;exact L _ (by decide +kernel)
  ·exact N
 ·exact N
set_option tactic.hygienic true in
theorem CM(c:Nat):∀l:List Nat,∀p∈sp c l,p.length≤l.length
 |[],p,m=>by simp only[sp,List.mem_singleton]at m;rw[m];exact a7 _
 |x::l,p,m=>by
  have ih:=CM c l;unfold sp at m;split at m
  ·rcases cH.mp m with rfl|m
   ·exact kj _
   ·exact Nat.le_succ_of_le (ih p m)
  ·split at m
   ·rename_i h t e;rcases cH.mp m with rfl|m
    ·exact Nat.succ_le_succ (ih h (by rw[e];exact bC))
    ·exact Nat.le_succ_of_le (ih p (by rw[e];exact b6 _ m))
   ·simp only[List.mem_singleton]at m;rw[m];simp
theorem CN{w v:Str}(h:v∈a9 w):ch v≠[]∧v.length≤w.length:=by
 unfold a9 wl W at h;obtain⟨p,m,rfl⟩:=cX.mp h;obtain⟨m,q⟩:=lM.mp m;refine⟨λz=>(by rw[sO]at z;rw[z]at q;cases q),?_⟩;have:=CM 32 _ p m;have t:=rT 35 (ch w);rw[ft]at t;rw[←ft,sO];omega
theorem Px(w:Str):(a9 w).length≤w.length+1:=by
 unfold a9 wl W;rw[ln];have a:=yQ (λw:List Nat=>!w.isEmpty) (sp 32 ((ch w).takeWhile (·≠35)));have b:=pB 32 ((ch w).takeWhile (·≠35));have t:=rT 35 (ch w);rw[ft]at t;omega
def gd(w:Str):Bool:=aT (aI (a9 w))
def BD(R:Ev→Option Fl):Ev→Option Fl:=au (aJ 4 (aB kW (ae (jV 3) ah)))
 (aS (jB (ag f7 (aD aY (ae (jV 4) ah)) (jC (.int 0))))
  (au (aJ 5 (aB mP (ae (jV 4) ah)))
 (au (aS (cE (jB (aB k6 (ae (jV 5) ah)))) R aP) (eO 1 (jV 5))))
  aP)
theorem wW{f g:Ev→Option Fl}{e:Ev}{d:D}(h:f e=some (.rz d)):au f g e=some (.rz d):=by simp[au,h]
section
variable {R:Ev→Option Fl}{w:Str}{T:D}{rs:List D}{n:Int}{o4 o5:Option (M×D)}
theorem jN(hl:w.length≤199):aJ 4 (aB kW (ae (jV 3) ah)) [.al\T,.bo\.lst rs,.fr\.int n,.fr\.str w,o4,o5]=some (.nx [.al\T,.bo\.lst rs,.fr\.int n,.fr\.str w,.bo\.lst ((a9 w).map .str),o5]):=by
 simp! [aJ,aB,ae,ah,jV,gz,gy,oq,id_eq,mq,mn,Nr w (Nat.le_trans hl (by decide)),Cv,tq,tz]
theorem Iw:(jB (ag f7 (aD aY (ae (jV 4) ah)) (jC (.int 0)))) [.al\T,.bo\.lst rs,.fr\.int n,.fr\.str w,.bo\.lst ((a9 w).map .str),o5]=some (decide ((0:Int)<(a9 w).length)):=by
 simp! [jB,ag,aD,ae,ah,jV,jC,gz,gy,oq,id_eq,j0,ln,pH,dm]
theorem Nt(hl:w.length≤199)(h:a9 w=[]):BD R [.al\T,.bo\.lst rs,.fr\.int n,.fr\.str w,o4,o5]=some (.nx [.al\T,.bo\.lst rs,.fr\.int n,.fr\.str w,.bo\.lst [],o5]):=by
 unfold BD;rw[aG (jN hl),bO (Iw.trans (by rw[h];rfl)),h];rfl
theorem DX(hl:w.length≤199)(h:a9 w≠[]):BD R [.al\T,.bo\.lst rs,.fr\.int n,.fr\.str w,o4,o5]=au (aS (λ_=>some (!gd w)) R aP) (eO 1 (jV 5)) [.al\T,.bo\.lst rs,.fr\.int n,.fr\.str w,.bo\.lst ((a9 w).map .str),.fr\aI (a9 w)]:=by
 have hm:=Px w;have hp:∀v∈a9 w,ch v≠[]∧v.length≤1000:=λv m=>⟨(CN m).1,by have:=(CN m).2;omega⟩;unfold BD;rw[aG (jN hl),dU (Iw.trans (bX some (bR (by
  cases e:a9 w with
  |nil=>exact absurd e h
  |cons a b=>simp only[List.length_cons];omega))))]
 have s5:aJ 5 (aB mP (ae (jV 4) ah)) [.al\T,.bo\.lst rs,.fr\.int n,.fr\.str w,.bo\.lst ((a9 w).map .str),o5]=some (.nx [.al\T,.bo\.lst rs,.fr\.int n,.fr\.str w,.bo\.lst ((a9 w).map .str),.fr\aI (a9 w)]):=by
  simp! [aJ,aB,ae,ah,jV,gz,gy,oq,id_eq,mq,mn,Pw hp ∅,wa,tq,tz]
 have t2:(cE (jB (aB k6 (ae (jV 5) ah)))) [.al\T,.bo\.lst rs,.fr\.int n,.fr\.str w,.bo\.lst ((a9 w).map .str),.fr\aI (a9 w)]=some (!gd w):=by
  have r:=Ma (CL λv m=>(hp v m).2).1 (CL λv m=>(hp v m).2).2;simp! [cE,jB,aB,ae,ah,jV,gz,gy,oq,id_eq,mq,mn,r,dm];rfl
 rw[aG s5];unfold au aS;rw[t2]
end
noncomputable def fJ:Nat→List Str→List D
 |_,[]=>[]
 |k,w::r=>.tup [.int (k:Nat),.str w]::fJ (k+1) r
theorem DY:∀(ls:List Str) (k:Nat),(ls.map D.str).mapIdx (λi d=>D.tup [.int ((k+i:Nat):Int),d])=fJ k ls
 |[],_=>rfl
 |w::ls,k=>by
  rw[mq,List.mapIdx_cons,fJ,←DY ls (k+1)];congr 1;apply bX (λf=>List.mapIdx f (ls.map D.str));funext i d;rw[show k+(i+1)=k+1+i by omega]
theorem Sd(ls:List Str):iM (ls.map D.str)=fJ 0 ls:=by
 rw[←DY ls 0];unfold iM;apply bX (λf=>List.mapIdx f (ls.map D.str));funext i d;rw[Nat.zero_add]
def jR(w:Str):List D:=if a9 w=[] then [] else [aI (a9 w)]
def g7(ls:List Str):List D:=ls.flatMap jR
def kU(w:Str):Prop:=w.length≤199∧(a9 w≠[]→gd w=true)
abbrev GL:=gT 2 (di (gN 2) (di (gN 3) jm))
theorem TY{e:Ev}{rs:List D}{d:D}(h1:e[1]?=some (.bo\.lst rs))(h5:jV 5 e=.fr\d)(hl:rs.length≤100000):eO 1 (jV 5) e=some (.nx (e.set 1 (.bo\.lst (rs++[d])))):=by
 have hs:rs.length<sizeLine:=lQ hl (by decide);have st:bU .fr d=true:=rfl;simp only[eO,h5,oq,st,if_true,jx,h1,own,hs]
theorem T1{R:Ev→Option Fl}{w:Str}{T:D}{rs:List D}{n:Int}{o4 o5:Option (M×D)}(h:kU w)(hl:rs.length≤100000):∃mF mG,BD R [.al\T,.bo\.lst rs,.fr\.int n,.fr\.str w,o4,o5]=some (.nx [.al\T,.bo\.lst (rs++jR w),.fr\.int n,.fr\.str w,mF,mG]):=by
 by_cases q:a9 w=[]
 ·rw[Nt h.1 q,show jR w=[] from if_pos q,ip];exact⟨_,_,rfl⟩
 ·rw[DX h.1 q,show jR w=[aI (a9 w)] from if_neg q];rw[aG ((bO (by rw[h.2 q];rfl)).trans cT),TY rfl rfl hl];exact⟨_,_,rfl⟩
theorem wt{R:Ev→Option Fl}{T:D}:∀(ls:List Str) (k:Nat) (rs:List D) (o2 o3 o4 o5:Option (M×D)),(∀w∈ls,kU w)→rs.length+ls.length≤100000→∃qK WL mF mG,∀r,forL GL (BD R) .fr (fJ k ls++r) [.al\T,.bo\.lst rs,o2,o3,o4,o5]=forL GL (BD R) .fr r [.al\T,.bo\.lst (rs++g7 ls),qK,WL,mF,mG]
 |[],k,rs,o2,o3,o4,o5,_,_=>⟨o2,o3,o4,o5,λr=>by rw[show g7 []=[] from rfl,ip];rfl⟩
 |w::ls,k,rs,o2,o3,o4,o5,h,hl=>by
  rw[b7]at hl;obtain⟨mF,mG,b⟩:=T1 (R:=R) (T:=T) (rs:=rs) (n:=(k:Nat)) (o4:=o4) (o5:=o5) (h w bC) ∅;have h1:(jR w).length≤1:=by unfold jR;split<;>simp
  obtain⟨p2,p3,p4,p5,ih⟩:=wt (R:=R) (T:=T) ls (k+1) (rs++jR w) (.fr\.int (k:Nat)) (.fr\.str w) mF mG (λv m=>h v (b6 _ m)) (by rw[bN];omega);refine⟨p2,p3,p4,p5,λr=>?_⟩;rw[fJ,yK,forL];rw[show GL (.fr,D.tup [.int (k:Nat),.str w]) [.al\T,.bo\.lst rs,o2,o3,o4,o5]=some [.al\T,.bo\.lst rs,.fr\.int (k:Nat),.fr\.str w,o4,o5] from rfl,oq,b,oq];have:=ih r;rw[List.append_assoc]at this;exact this
theorem CP:∀(a b:List Str) (k:Nat),fJ k (a++b)=fJ k a++fJ (k+a.length) b
 |[],b,k=>rfl
 |w::a,b,k=>by
  rw[yK,fJ,fJ,CP a b (k+1),b7,show k+1+a.length=k+(a.length+1) by omega];rfl
theorem Nu{T:D}{a b:List Str}{w:Str}{o2 o3 o4 o5:Option (M×D)}(h:∀v∈a,kU v)(hl:a.length≤100000)(h1:w.length≤199)(h2:a9 w≠[])(h3:gd w=false) :
  forL GL (BD (mB "NoText" ["line"] (ae (jV 2) ah))) .fr (fJ 0 (a++w::b)) [.al\T,.bo\.lst [],o2,o3,o4,o5]=some (.rz (.exc "NoText" ["line"] [.int (a.length:Nat)])):=by
 obtain⟨p2,p3,p4,p5,e⟩:=wt (R:=mB "NoText" ["line"] (ae (jV 2) ah)) (T:=T) a 0 [] o2 o3 o4 o5 h (by simpa using hl);rw[CP,e,fJ,forL,Nat.zero_add];rw[show GL (.fr,D.tup [.int (a.length:Nat),.str w]) [.al\T,.bo\.lst ([]++g7 a),p2,p3,p4,p5]=some [.al\T,.bo\.lst ([]++g7 a),.fr\.int (a.length:Nat),.fr\.str w,p4,p5] from rfl,oq,DX h1 h2,wW (d:=.exc "NoText" ["line"] [.int (a.length:Nat)]) ((dU (by rw[h3];rfl)).trans rfl)];rfl
theorem xH{t:Str}(hl:t.length≤90000):dA (.al,.str t) [(.fr,.str ⟨#[10]⟩)]=.un\.lst ((Txt.split t ⟨#[10]⟩).map D.str)∧(Txt.split t ⟨#[10]⟩).length≤90001:=by
 have hsl:(Txt.split t ⟨#[10]⟩).length≤90001:=by
  rw[oR,ln];have:=pB 10 (ch t);rw[ft]at this;omega
 refine⟨?_,hsl⟩;unfold dA;simp only[];rw[if_pos ⟨rfl,aQ hl (by decide),aQ hsl (by decide)⟩]
theorem E1{R:Ev→Option Fl}{t:Str}(hl:t.length≤90000){o:Option Fl}(h:forL GL (BD R) .fr (fJ 0 (Txt.split t ⟨#[10]⟩)) [.al\.str t,.bo\.lst [],none,none,none,none]=o):fU (jM (ae (bp a8 dA (jV 0) (ae (jC (.str "\n")) ah)) ah)) GL (BD R) [.al\.str t,.bo\.lst [],none,none,none,none]=o:=by
 simp! [fU,jM,bp,ae,ah,jV,jC,yt,gz,oq,id_eq,a8,if_true,(xH hl).1,gR,oy];rw[Sd];exact h
abbrev RZ:=mB "NoText" ["line"] (ae (jV 2) ah)
theorem Nv{t w:Str}{a b:List Str}(hl:t.length≤90000)(hs:Txt.split t ⟨#[10]⟩=a++w::b)(h:∀v∈a,kU v)(h1:w.length≤199)(h2:a9 w≠[])(h3:gd w=false):lj [.str t]=some (.ex (.exc "NoText" ["line"] [.int (a.length:Nat)])):=by
 have hn:=(xH hl).2;rw[hs,bN]at hn;show(pA [.al\.str t,none,none,none,none,none]).bind tP=_;unfold pA;rw[aG (e':=[.al\.str t,.bo\.lst [],none,none,none,none]) rfl];have f:=E1 (R:=RZ) (o:=some (.rz (.exc "NoText" ["line"] [.int (a.length:Nat)]))) hl (by rw[hs];exact Nu h ∅ h1 h2 h3);rw[show vN=BD RZ from rfl,wW f];rfl
theorem BE{R:Ev→Option Fl}{t:Str}(hl:t.length≤90000)(h:∀v∈Txt.split t ⟨#[10]⟩,kU v):∃o2 o3 o4 o5,fU (jM (ae (bp a8 dA (jV 0) (ae (jC (.str "\n")) ah)) ah)) GL (BD R) [.al\.str t,.bo\.lst [],none,none,none,none]=some (.nx [.al\.str t,.bo\.lst (g7 (Txt.split t ⟨#[10]⟩)),o2,o3,o4,o5]):=by
 have hn:=(xH hl).2;obtain⟨o2,o3,o4,o5,e⟩:=wt (R:=R) (T:=.str t) (Txt.split t ⟨#[10]⟩) 0 [] none none none none h (by simp only[List.length_nil];omega);refine⟨o2,o3,o4,o5,E1 hl ?_⟩;have:=e [];rw[ip]at this;exact this
theorem sF{T:D}{rs:List D}{o2 o3 o4 o5:Option (M×D)}:(jB (ag aO (aD aY (ae (jV 1) ah)) (jC (.int 0)))) [.al\T,.bo\.lst rs,o2,o3,o4,o5]=some (decide ((rs.length:Int)=0)):=by
 simp! [jB,ag,aD,ae,ah,jV,jC,gz,gy,oq,id_eq,j0,cV,dm]
theorem Mh{t:Str}(hl:t.length≤90000)(h:∀v∈Txt.split t ⟨#[10]⟩,kU v)(hr:g7 (Txt.split t ⟨#[10]⟩)=[]):lj [.str t]=some (.ex (.exc "NoText" ["line"] [.int 0])):=by
 obtain⟨o2,o3,o4,o5,f⟩:=BE (R:=RZ) hl h;show(pA [.al\.str t,none,none,none,none,none]).bind tP=_;unfold pA;rw[aG (e':=[.al\.str t,.bo\.lst [],none,none,none,none]) rfl,show vN=BD RZ from rfl,aG f,hr];rw[wW (d:=.exc "NoText" ["line"] [.int 0]) ((dU (sF.trans rfl)).trans rfl)];rfl
theorem Mi{t:Str}(hl:t.length≤90000)(h:∀v∈Txt.split t ⟨#[10]⟩,kU v)(hr:g7 (Txt.split t ⟨#[10]⟩)≠[]):k7 [.str t]=some (.un,.lst (g7 (Txt.split t ⟨#[10]⟩))):=by
 obtain⟨o2,o3,o4,o5,f⟩:=BE (R:=mX) hl h;show(vO [.al\.str t,none,none,none,none,none]).bind out=_;unfold vO;rw[aG (e':=[.al\.str t,.bo\.lst [],none,none,none,none]) rfl,show AK=BD mX from rfl,aG f];rw[aG ((bO (sF.trans (bX some (bF (by
  cases e:g7 (Txt.split t ⟨#[10]⟩) with
  |nil=>exact absurd e hr
  |cons a b=>simp only[List.length_cons];omega))))).trans cT)]
 rfl
theorem AO {t:Str}{n:Int} (h:lj [.str t]=some (.ex (.exc "NoText" ["line"] [.int n]))):fj [.str t,.int n]=some (.fr,.bl true):=by
 show(vq [.al\.str t,.al\.int n,none,none]).bind out=_;unfold vq;rw[aG (e':=[.al\.str t,.al\.int n,.fr\.non,none]) rfl];have x:om lj (ae (jV 0) ah) (C.Kx.g (.s 2)) [.al\.str t,.al\.int n,.fr\.non,none]=some (.rz (.exc "NoText" ["line"] [.int n])):=by
  simp! [om,ae,ah,jV,gz,oq,id_eq,mq,mn,h]
 have y:pY 3 (List.contains ["HoistError", "NoText", "NoProgram", "NoPaper"]) (om lj (ae (jV 0) ah) (C.Kx.g (.s 2))) (au (aJ 2 (jV 3)) aP) [.al\.str t,.al\.int n,.fr\.non,none]=some (.nx [.al\.str t,.al\.int n,.fr\.exc "NoText" ["line"] [.int n],none]):=by
  unfold pY;rw[x,oq];show(if _ then _ else _)=_;rw[if_pos (by show(List.contains _ _)=true;decide +kernel)];rfl
 rw[aG y];have q:∀(l:List (Str×Bool)) (b:Bool),List.lookup ("NoText" : Str) l=some b→(hX (λn=>List.lookup n l) (jV 2)) [.al\.str t,.al\.int n,.fr\.exc "NoText" ["line"] [.int n],none]=some (.fr,.bl b):=λl b e=>by
  show(List.lookup ("NoText" : Str) l).bind _=_;rw[e];rfl
 have c:(cw (cE (jB (hX (λn=>List.lookup n [("HoistError",false),("NoText",true),("NoProgram",false),("NoPaper",false)]) (jV 2)))) (cw (jB (hX (λn=>List.lookup n [("HoistError",false),("NoText",false),("NoProgram",true),("NoPaper",false)]) (jV 2))) (jB (hX (λn=>List.lookup n [("HoistError",false),("NoText",false),("NoProgram",false),("NoPaper",true)]) (jV 2))))) [.al\.str t,.al\.int n,.fr\.exc "NoText" ["line"] [.int n],none]=some false:=by
  have b1:=q [("HoistError",false),("NoText",true),("NoProgram",false),("NoPaper",false)] true (by decide +kernel);have b2:=q [("HoistError",false),("NoText",false),("NoProgram",true),("NoPaper",false)] false (by decide +kernel);have b3:=q [("HoistError",false),("NoText",false),("NoProgram",false),("NoPaper",true)] false (by decide +kernel);rw[sQ (by simp only[cE,jB,b1,oq,dm];rfl),sQ (by simp only[jB,b2,oq,dm])];simp only[jB,b3,oq,dm]
 rw[aG ((bO c).trans cT)];have l:(qF (List.contains ["HoistError", "NoText", "NoProgram", "NoPaper"]) "line" (jV 2)) [.al\.str t,.al\.int n,.fr\.exc "NoText" ["line"] [.int n],none]=some (.fr,.int n):=by
  show(if (List.contains (["HoistError", "NoText", "NoProgram", "NoPaper"]:List Str) ("NoText" : Str))=true then (uQ "line" ["line"] [D.int n]).bind (λd=>some (M.fr,d))else none)=_;rw[if_pos (by decide +kernel)];rfl
 have b4:(hX (λn=>List.lookup n [("HoistError",true),("NoText",true),("NoProgram",true),("NoPaper",true)]) (jV 2)) [.al\.str t,.al\.int n,.fr\.exc "NoText" ["line"] [.int n],none]=some (.fr,.bl true):=by
  exact q [("HoistError",true),("NoText",true),("NoProgram",true),("NoPaper",true)] true (by decide +kernel)
 simp! [aE,cC,b4,ag,nB,aD,ae,ah,jV,jC,l,oq,dm,if_true,cV,gz,gy,id_eq,decide_true];rfl
def F1(s:Str):Bool:=decide (s.length≤199)&&(!(a9 s).isEmpty&&!gd s)
noncomputable abbrev Iy:List Str:=["x", "x =", "= 3", "x = 3 +", "x = + 3", "x = 3 4", "x == 3", "say", "say x y", "go", "go x", "go 1 2", "part 1", "part x y", "end 0", "End", "x=3", "say = 3", "x = y > z", "go 01", "part x 1 2", "go -1"]
noncomputable abbrev Iz:List Str:=["x = 3 +- 4", "x = 3 *| 4", "x = 3 + + 4", "go +1", "go 1_0", "part x 01", "say -0", "x = +1", "sa 3", "saysay 3", "part x, 3", "x = 3, 4", "end end", "g 3"]
theorem Se:((Iy++Iz).all λs=>F1 s&&!(ch s).contains 10&&!(ch s).contains 35)=true:=by decide +kernel
theorem Mj:(([ "", "  ", "# x = = y", "   # 7", " ", "#x = 3", "  # end"]:List Str).all λs=>decide (s.length≤199)&&(a9 s).isEmpty&&!(ch s).contains 10)=true:=by decide +kernel
theorem E2(c:Nat):∀l:List Nat,∃t,sp c l=l.takeWhile (·≠c)::t
 |[]=>⟨[],rfl⟩
 |x::l=>by
  obtain⟨t,e⟩:=E2 c l;by_cases q:x=c
  ·refine⟨sp c l,?_⟩;rw[sp,if_pos q,List.takeWhile_cons,if_neg (by simpa using q)]
  ·refine⟨t,?_⟩;rw[sp,if_neg q,e,List.takeWhile_cons,if_pos (by simpa using q)]
theorem F5:∀l:List Nat,(∀c∈l,c=32)→W l=[]
 |[],_=>rfl
 |x::l,h=>by rw[h x bC,FZ,F5 l λc m=>h c (b6 _ m)]
theorem DZ:∀l:List Nat,W l=[]→∀c∈l,c=32
 |[],_,c,m=>nomatch m
 |x::l,h,c,m=>by
  by_cases q:x=32
  ·rw[q,FZ]at h;rcases cH.mp m with rfl|m
   ·exact q
   ·exact DZ l h c m
  ·obtain⟨a,t,e⟩:=sN 32 l;unfold W at h;rw[sp,if_neg q,e]at h;simp at h
theorem E3(p:Nat→Bool):∀l:List Nat,(∃c∈l,p c=false)→(l.takeWhile p).length<l.length
 |[],⟨_,m,_⟩=>nomatch m
 |x::l,⟨c,m,q⟩=>by
  rw[List.takeWhile_cons];cases e:p x with
  |false=>simp
  |true =>
   simp only[if_true,List.length_cons];rcases cH.mp m with rfl|m
   ·rw[q]at e;cases e
   ·exact Nat.succ_lt_succ (E3 p l ⟨c,m,q⟩)
theorem E4(p:Nat→Bool):∀l:List Nat,(∃c∈l,p c=false)→∃c t,l.drop (l.takeWhile p).length=c::t∧p c=false
 |[],⟨_,m,_⟩=>nomatch m
 |x::l,⟨c,m,q⟩=>by
  rw[List.takeWhile_cons];cases e:p x with
  |false=>exact⟨x,l,by simp,e⟩
  |true =>
   simp only[if_true,List.length_cons,List.drop_succ_cons];rcases cH.mp m with rfl|m
   ·rw[q]at e;cases e
   ·exact E4 p l ⟨c,m,q⟩
theorem Sf(c:Nat):((⟨#[32]⟩:Str).cps.contains c)=true↔c=32:=by simp
theorem Sg(x:Str)(i j:Nat):ch (Builtin.Str.strSub x i j)=((ch x).drop i).take (j-i):=by
 show(x.cps.extract i j).toList=_;rw[Array.toList_extract,List.extract_eq_take_drop];rfl
theorem E5(p:Nat→Bool):∀l:List Nat,(∀c∈l,p c=true)→l.takeWhile p=l
 |[],_=>rfl
 |x::l,h=>by rw[List.takeWhile_cons,if_pos (h x bC),E5 p l λc m=>h c (b6 _ m)]
theorem Ml(x:Str):ch (Txt.stripChars x ⟨#[32]⟩)=[]↔∀c∈ch x,c=32:=by
 have P:=Sf;generalize hp:(⟨#[32]⟩:Str).cps.contains=p at P;have all:(∀c∈ch x,c=32)→stripLo p true x=(ch x).length:=λh=>by
  show((ch x).takeWhile p).length=_;rw[E5 p (ch x) λc m=>(P c).mpr (h c m)]
 unfold Txt.stripChars Txt.stripBy;rw[hp];split
 ·rename_i q;simp only[stripSame,Bool.and_eq_true,beq_iff_eq]at q;refine⟨λh c m=>(by rw[h]at m;cases m),λh=>?_⟩;have:=all h;exact List.eq_nil_of_length_eq_zero ∅
 ·rw[stripped,Sg];constructor
  ·intro h;by_cases q:∃c∈ch x,p c=false
   ·exfalso;obtain⟨c,t,e,pc⟩:=E4 p (ch x) q;have zb:stripLo p true x=((ch x).takeWhile p).length:=rfl;have WM:stripHi p true x (stripLo p true x)=x.length-((c::t).reverse.takeWhile p).length:=by
     show x.length-(((ch x).drop (stripLo p true x)).reverse.takeWhile p).length=_;rw[zb,e]
    have l1:=E3 p (c::t).reverse ⟨c,List.mem_reverse.mpr bC,pc⟩;have l2:(c::t).length=(ch x).length-((ch x).takeWhile p).length:=by rw[←e,List.length_drop]
    rw[WM,zb,e]at h;rw[List.length_reverse]at l1;have l3:=ft x;have l4:(c::t).length=t.length+1:=rfl;obtain⟨k,hk⟩:∃k,x.length-((c::t).reverse.takeWhile p).length-((ch x).takeWhile p).length=k+1:=⟨x.length-((c::t).reverse.takeWhile p).length-((ch x).takeWhile p).length-1,by omega⟩;rw[hk]at h;cases h
   ·intro c m;cases e:p c with
    |true=>exact(P c).mp e
    |false=>exact absurd ⟨c,m,e⟩ q
  ·intro h;rw[all h,yN,List.take_nil]
def ib(w:Str):Bool:=!(a9 w).isEmpty
theorem Py(w:Str):a9 w=[]↔∀c∈(ch w).takeWhile (·≠35),c=32:=by
 unfold a9 wl;rw[List.map_eq_nil_iff];exact⟨DZ _,F5 _⟩
theorem T2{m:M}{w:Str}(hm:m=.fr∨m=.al)(hl:w.length≤199):(jB (ag c9 (bp a8 jY (ag aC (bp a8 dA (jV 0) (ae (jC (.str "#")) ah)) (jC (.int 0))) (ae (jC (.str " ")) ah)) (jC (.str "")))) [some (m,D.str w)]=some (ib w):=by
 obtain⟨t,e⟩:=E2 35 (ch w);have hs:=oR w 35;rw[e,mq]at hs;have n:=pB 35 (ch w);rw[ft]at n;have gs:dA (m,.str w) [(.fr,.str ⟨#[35]⟩)]=some (.un,.lst ((Txt.split w ⟨#[35]⟩).map D.str)):=by
  unfold dA;simp only[];rw[if_pos ⟨rfl,aQ hl (by decide),by rw[oR,ln];exact aQ (aQ n (Nat.succ_le_succ hl)) (by decide)⟩]
 have gx:aC (.un,.lst ((Txt.split w ⟨#[35]⟩).map D.str)) (.fr,.int 0)=some (aN .un,.str (mk ((ch w).takeWhile (·≠35)))):=by
  rw[hs,sC,mq,show L2.aM (D.str (mk ((ch w).takeWhile (·≠35)))::(t.map mk).map D.str) 0=some (D.str (mk ((ch w).takeWhile (·≠35))))from L2.mR (j:=0) (xs:=D.str (mk ((ch w).takeWhile (·≠35)))::(t.map mk).map D.str) rfl];rfl
 have tl:=rT 35 (ch w);rw[ft]at tl;have gt:jY (aN .un,.str (mk ((ch w).takeWhile (·≠35)))) [(.fr,.str ⟨#[32]⟩)]=some (.fr,.str (Txt.stripChars (mk ((ch w).takeWhile (·≠35))) ⟨#[32]⟩)):=by
  unfold jY;simp only[];rw[if_pos (by rw[←ft,sO];exact aQ (aQ tl hl) (by decide))]
 simp! [jB,ag,bp,jV,jC,ae,ah,DW,oV,gz,oq,id_eq,a8,if_true,gs,gx,gt,sx,dm];congr 1;have q:=Ml (mk ((ch w).takeWhile (·≠35)));rw[sO,←Py]at q;unfold ib;cases z:a9 w with
 |nil =>
  rw[bR (wR ((q.mpr z).trans (by decide +kernel)))];rfl
 |cons a b =>
  rw[bF λk=>by
   have:=q.mp (by rw[k];decide +kernel);rw[z]at this;cases this]
  rfl
theorem BF{m:M}(hm:m=.fr∨m=.al):∀ls:List Str,(∀w∈ls,w.length≤199)→cU (jB (ag c9 (bp a8 jY (ag aC (bp a8 dA (jV 0) (ae (jC (.str "#")) ah)) (jC (.int 0))) (ae (jC (.str " ")) ah)) (jC (.str "")))) (jV 0) m [] (ls.map D.str)=some ((ls.filter ib).map λw=>(m,D.str w))
 |[],_=>rfl
 |w::ls,h=>by
  have ih:=BF hm ls λv z=>h v (b6 _ z);rw[mq,cU,T2 hm (h w bC),oq,List.filter_cons];cases q:ib w with
  |false=>simp only[Bool.false_eq_true,if_false,ih]
  |true =>
   simp only[if_true,ih,oq,mq];rfl
theorem CQ{ls:List Str}(h:∀w∈ls,w.length≤199)(hl:ls.length≤100000):jT [.str∘ls]=some (.fr,.int (ls.filter ib).length):=by
 have c:=BF (m:=.al) (.inr rfl) ls h;unfold jT fn AG;simp! [aE,aD,ae,ah,fA,kN,jV,mq,mn,List.length_cons,List.length_nil,Nat.reduceAdd,Nat.reduceSub,List.replicate,List.append_nil,gz,oq,id_eq,gR,oy];rw[show iF [.al\D.str∘ls] []=[] from rfl];rw[c,oq,wq (.inr rfl) _ (aQ (yQ _ _) ∅)];simp! [oq,j0,ln];rfl
noncomputable abbrev SG:Str := "abcdefghijklmnopqrstuvwxyz0123456789"
theorem wu(ns:List Int)(k:Int)(h0:0≤k)(h1:k≤1000):∃c,mI [.int∘ns,.int k]=some (.fr,.int c):=by
 unfold mI fn AA;walk_at "ev";by_cases h:k<ns.length
 ·obtain⟨c,hc⟩:=Bp h0 h;refine⟨c,?_⟩;simp only[h,hc];walk_at "ev";simp only[DB,ye]
 ·simp only[h];walk_at "ev";by_cases hz:(ns.length:Int)=0
  ·simp only[hz];walk_at "ev";simp[mul_r,Dy]
  ·have hp:(0:Int)<ns.length:=by omega
   simp only[hz];walk_at "ev";rw[dz hp];walk_at "ev";obtain⟨c,hc⟩:=Bp (ns:=ns) (k:=k%ns.length) (cY _ ∅) (dr _ hp);simp only[hc];walk_at "ev";rw[mul_r ∅];walk_at "ev";exact⟨_,rfl⟩
noncomputable def one(c:Nat):Str:=⟨#[c]⟩
theorem BG:∀(cs:List Nat) (acc:Array Nat),(cs.map one).foldl (λacc p=>acc++("" : Str).cps++p.cps) acc=acc++cs.toArray
 |[],acc=>by simp
 |c::cs,acc=>by
  rw[mq,List.foldl_cons,BG cs];have e:("" : Str).cps=#[]:=by decide +kernel
  rw[e];simp[one]
theorem join_one(cs:List Nat):Txt.join "" (cs.map one)=⟨cs.toArray⟩:=by
 cases cs with
 |nil=>rfl
 |cons c cs =>
  show(⟨((c::cs).map one).tail.foldl (λacc p=>acc++("" : Str).cps++p.cps) #[c]⟩:Str)=_;rw[mq,List.tail_cons,BG];simp
theorem Sh(cs:List Nat):(⟨cs.toArray⟩:Str).length=cs.length:=by
 show cs.toArray.size=_;simp
theorem Pz{m n:M}{cs:List Nat}(hl:cs.length≤1000):bJ (m,.str "") [(n,.lst ((cs.map one).map D.str))]=some (.fr,.str ⟨cs.toArray⟩):=by
 simp only[bJ,vC,oq];rw[if_pos,join_one];have h1:∀y∈cs.map one,y.length=1:=λy hy=>by obtain⟨c,_,rfl⟩:=cX.mp hy;rfl
 rw[Bs h1,ln];have:("" : Str).length=0:=by decide
 rw[this,Nat.mul_zero,Nat.add_zero];exact aQ hl (by decide)
theorem D0:SG.cps.toList.length=36:=by decide +kernel
theorem T3:SG.length≤sizeLine:=by decide
theorem UU:∀i:Nat,i<26→cv (SG.cps.toList.getD i 0)=true:=by
 have h:∀i∈List.range 26,decide (SG.cps.toList.getD i 0∈gf.cps.toList)=true:=by decide +kernel
 intro i hi;unfold cv;rw[wd];exact h i (lN.mpr hi)
theorem UW:∀i:Nat,i<36→(cv (SG.cps.toList.getD i 0)||dh (SG.cps.toList.getD i 0))=true:=by
 have h:∀i∈List.range 36,(decide (SG.cps.toList.getD i 0∈gf.cps.toList)||decide (SG.cps.toList.getD i 0∈dP.cps.toList))=true:=by decide +kernel
 intro i hi;unfold cv dh;rw[wd,wd];exact h i (lN.mpr hi)
theorem E6{m n:M}{i:Int}(h0:0≤i)(h1:i<36):∃c,aC (m,.str SG) (n,.int i)=.fr\.str ⟨#[c]⟩∧(cv c||dh c)=true∧(i<26→cv c=true):=by
 have hl:i.toNat<SG.cps.toList.length:=by rw[D0];omega
 refine⟨SG.cps.toList.getD i.toNat 0,?_,UW _ ∅,λh=>UU _ ∅⟩;rw[sE T3,jU h0 (by rw[D0];omega),yI,iR hl];rfl
def Nm(cs:List Nat):Prop:=(∀c∈cs,(cv c||dh c)=true)∧qL cs=true
theorem PB{cs:List Nat}(h8:cs.length≤8)(h:Nm cs)(hw:dJ (.str ⟨cs.toArray⟩) z5=false):nameS ⟨cs.toArray⟩=true:=by
 have h1:1≤cs.length:=by
  cases cs with
  |nil=>exact absurd h.2 (by decide)
  |cons c cs=>simp
 have e:(⟨cs.toArray⟩:Str).cps.toList=cs:=by simp
 simp only[nameS,Sh,decide_eq_true h1,decide_eq_true h8,hw,e,h.2,List.all_eq_true.mpr h.1,Bool.not_false,Bool.and_self]
theorem Nm.set{cs:List Nat}{c k:Nat}(h:Nm cs)(hc:cv c=true):Nm (cs.set k c):=by
 refine⟨λx hx=>?_,?_⟩
 ·rcases List.mem_or_eq_of_mem_set hx with h'|rfl
  ·exact h.1 x h'
  ·rw[hc];rfl
 ·cases cs with
  |nil=>exact h.2
  |cons a cs =>
   cases k with
   |zero=>exact hc
   |succ k=>exact h.2
theorem T4 {z:Str} (h:dJ (.str z) [.str "say",.str "go",.str "part",.str "end"]=true):nameS (z ++ "0")=true∧z.length≤10:=by
 unfold dJ at h;simp only[List.any_cons,List.any_nil,Bool.or_false,Bool.or_eq_true,iX,beq_iff_eq]at h;rcases h with rfl|rfl|rfl|rfl<;>decide +kernel
theorem Mm(c j:Int)(h0:0≤j)(h1:j<8):∃x,(ag aC (jV 1) (ag bM (ag cz (jV 2) (ag a6 (jC (.int 64)) (ag gE (jC (.int 5)) (jV 0)))) (ag aC (bh (ae (jC (.int 26)) (ae (jC (.int 36)) ah))) (aD lE (ae (ag f7 (jV 0) (jC (.int 0))) ah))))) [.fr\.int j,.fr\.str SG,.al\.int c]=.fr\.str (one x)∧(cv x||dh x)=true∧(j=0→cv x=true):=by
 have hm:∃k,(k=26∨(k=36∧j≠0))∧L2.aM [D.int 26,D.int 36] (if decide (0<j)=true then 1 else 0)=some (.int k):=by
  by_cases h:0<j
  ·exact⟨36,.inr ⟨rfl,by omega⟩,by simp[h];rfl⟩
  ·exact⟨26,.inl rfl,by simp[h];rfl⟩
 obtain⟨k,hk,ek⟩:=hm;have kp:0<k:=by omega
 have q0:=cY (c/(64+5*j)) (show k≠0 by omega);have q1:=dr (c/(64+5*j)) kp;obtain⟨d,e1,e2,e3⟩:=E6 (m:=.fr) (n:=.fr) q0 ∅;refine⟨d,?_,e2,λhj=>e3 ∅⟩;walk_at "ev";rw[mul_r ∅,ek];walk_at "ev";rw[div_ii ∅];walk_at "ev";rw[dz kp];walk_at "ev";exact e1
theorem BH{fe:Ev→Option (M×D)}{m:M}{fr:Ev}:∀{ds:List D}{P:Nat→Nat→Prop},(∀(k:Nat) d,ds[k]?=some d→∃x,fe (some (m,d)::fr)=.fr\.str (one x)∧P k x)→∃cs:List Nat,cU eQ fe m fr ds=some (((cs.map one).map D.str).map λx=>(M.fr,x))∧cs.length=ds.length∧∀(k:Nat) x,cs[k]?=some x→P k x
 |[],P,_=>⟨[],rfl,rfl,λk x h=>by simp at h⟩
 |d::ds,P,h=>by
  obtain⟨x,h2,h3⟩:=h 0 d rfl;obtain⟨cs,q1,q2,q3⟩:=BH (ds:=ds) (P:=λk x=>P (k+1) x) λk e he=>h (k+1) e (by simpa using he);refine⟨x::cs,?_,by rw[b7,b7,q2],λk y hy=>?_⟩
  ·rw[cU,show eQ (some (m,d)::fr)=some true from rfl,oq,if_pos rfl,h2,oq,q1,oq];rfl
  ·cases k with
   |zero=>simp at hy;subst hy;exact h3
   |succ k=>exact q3 k y (by simpa using hy)
theorem K6(c:Int)(sz kf:Int)(cs:List Nat)(hy:Nm cs)(hl:cs.length≤8)(hs:0≤kf∧kf<cs.length)(fs:List Str)(hf:fs.length≤60)(j:Int)(many:M×D)(o:Option (M×D)) :
  ∃(cq:List Nat) (z:Str),Nm cq∧cq.length=cs.length∧nameS z=true∧qR [.al\.int c,some many,.fr\.str SG,.fr\.int sz,.fr\.int kf,.bo\.lst ((cs.map one).map .str),.bo\.str∘fs,.fr\.int j,o] =
   some (.nx [.al\.int c,some many,.fr\.str SG,.fr\.int sz,.fr\.int kf,.bo\.lst ((cq.map one).map .str),.bo\.lst ((fs++[z]).map .str),.fr\.int j,.fr\.str z]):=by
 have q0:=cY (c/64+j) (show(26:Int)≠0 by decide);have q1:=dr (c/64+j) (show(0:Int)<26 by decide);obtain⟨cp,e1,_,e2⟩:=E6 (m:=.fr) (n:=.fr) q0 ∅;have e2:=e2 q1;have hx:fY ((cs.map one).map D.str).length kf=some kf.toNat:=by
  unfold fY;rw[ln,ln,if_pos hs.1,if_pos hs.2]
 let cq:=cs.set kf.toNat cp
 have qv:Nm cq:=hy.set e2;have kr:cq.length=cs.length:=nL;have ez:=Pz (m:=.fr) (n:=.bo) (cs:=cq) ∅;have es:((cs.map one).map D.str).set kf.toNat (.str ⟨#[cp]⟩)=(cq.map one).map D.str:=by rw[List.map_set,List.map_set];rfl
 have ef:∀w:Str,fs.map D.str++[D.str w]=(fs++[w]).map D.str:=λw=>by rw[kl];rfl
 unfold qR;by_cases hz:dJ (.str ⟨cq.toArray⟩) [.str "say",.str "go",.str "part",.str "end"]=true
 ·obtain⟨hn,hw⟩:=T4 hz;refine⟨cq,⟨cq.toArray⟩ ++ "0",qv,kr,hn,?_⟩;have UX:∀{m n:M},a6 (m,.str ⟨cq.toArray⟩) (n,.str "0")=some (.fr,.str (⟨cq.toArray⟩ ++ "0")):=λ{m n}=>QV (by
   have:("0" : Str).length=1:=by decide
   rw[this];exact aQ (show _+1≤1000 by omega) (by decide))
  walk_at "ev";rw[e1];walk_at "ev";simp! [ln]at hx;rw[hx];walk_at "ev";rw[es,ez];walk_at "ev";simp! [hU,c7,lI,kc,hz,oq];walk_at "ev";rw[UX];walk_at "ev";rw[if_pos (lQ hf (by decide)),ef]
 ·have IA:dJ (.str ⟨cq.toArray⟩) [.str "say",.str "go",.str "part",.str "end"]=false:=by simpa using hz
  refine⟨cq,⟨cq.toArray⟩,qv,kr,PB ∅ qv IA,?_⟩;walk_at "ev";rw[e1];walk_at "ev";simp! [ln]at hx;rw[hx];walk_at "ev";rw[es,ez];walk_at "ev";simp! [hU,c7,lI,kc,IA,oq];walk_at "ev";rw[if_pos (lQ hf (by decide)),ef]
theorem Nw(c:Int)(k:Nat)(hk:k≤50):∃fs:List Str,fs.length=k∧(∀z∈fs,nameS z=true)∧qU [.int c,.int k]=some (.un,.str∘fs):=by
 have a0:=cY c (show(8:Int)≠0 by decide);have a1:=dr c (show(0:Int)<8 by decide);generalize nY:(1:Int)+c%8=sz;have s0:0<sz:=by omega
 have s1:sz≤8:=by omega
 have p0:=cY (c/8) (show sz≠0 by omega);have p1:=dr (c/8) s0;obtain⟨cs,ex,xl,xo⟩:=BH (fe:=ag aC (jV 1) (ag bM (ag cz (jV 2) (ag a6 (jC (.int 64)) (ag gE (jC (.int 5)) (jV 0)))) (ag aC (bh (ae (jC (.int 26)) (ae (jC (.int 36)) ah))) (aD lE (ae (ag f7 (jV 0) (jC (.int 0))) ah))))) (m:=.fr) (fr:=[.fr\.str SG,.al\.int c]) (P:=λk x=>(cv x||dh x)=true∧(k=0→cv x=true)) (ds:=cZ 0 sz.toNat) (λi d hi=>by
  obtain⟨h1,rfl⟩:=DG hi;obtain⟨x,e1,e2,e3⟩:=Mm c (0+(i:Int)) ∅ ∅;exact⟨x,e1,e2,λh=>e3 ∅⟩)
 rw[Cw]at xl;have GQ:cs.length≤8:=by omega
 have WN:Nm cs:=by
  refine⟨λx hx=>?_,?_⟩
  ·obtain⟨i,hi⟩:=List.mem_iff_getElem?.mp hx;exact(xo i x hi).1
  ·cases cs with
   |nil=>simp at xl;omega
   |cons a cs=>exact(xo 0 a rfl).2 rfl
 have eL:g6 (((cs.map one).map D.str).map λx=>(M.fr,x))=some (.un,.lst ((cs.map one).map D.str)):=wc (by rw[ln,ln];omega);obtain⟨e',l1,cq,fs,o,o2,g1,g2,g3,g4,rfl⟩:=vJ (g:=gN 7) (b:=qR) (m:=.fr) (ds:=cZ 0 k) (e:=[.al\.int c,.al\↥k,.fr\.str SG,.fr\.int sz,.fr\.int (c/8%sz),.bo\.lst ((cs.map one).map .str),.bo\.lst [],none,none])
  (λi e=>∃(cq:List Nat) (fs:List Str) (o o2:Option (M×D)),Nm cq∧cq.length=cs.length∧fs.length=i∧(∀z∈fs,nameS z=true)∧e=[.al\.int c,.al\↥k,.fr\.str SG,.fr\.int sz,.fr\.int (c/8%sz),.bo\.lst ((cq.map one).map .str),.bo\.str∘fs,o,o2])
  ⟨cs,[],none,none,WN,rfl,rfl,(λ_ h=>nomatch h),rfl⟩
  (λi d e hd ⟨cq,fs,o,o2,g1,g2,g3,g4,he⟩=>by
   obtain⟨hi,rfl⟩:=DG hd;subst he;obtain⟨WO,z,q1,q2,qn,q3⟩:=K6 c sz (c/8%sz) cq g1 ∅ ⟨p0,by omega⟩ fs ∅ (0+(i:Int)) (.al,↥k) o2;refine⟨_,_,rfl,q3,WO,fs++[z],_,_,q1,by omega,by rw[bN,g3];rfl,λy hy=>?_,rfl⟩;rcases ic.mp hy with h|h
   ·exact g4 y h
   ·rw[List.mem_singleton]at h;subst h;exact qn)
 rw[Cw]at g3;refine⟨fs,g3,g4,?_⟩;have hr:-4611686018427387904≤(k:Int)∧(k:Int)<4611686018427387904:=by omega
 have ht:(k:Int).toNat=k:=by omega
 have WQ:-4611686018427387904≤sz∧sz<4611686018427387904:=by omega
 generalize (k:Int)=kk at l1 hr ht ⊢;unfold qU fn An;walk_at "ev";rw[nY,dz s0,show(Str.ofString "abcdefghijklmnopqrstuvwxyz0123456789")=SG from rfl];walk_at "ev";simp! [fA];walk_at "ev";rw[if_pos WQ];walk_at "ev";have ef:iF [.al\D.int c,.al\D.int kk,.fr\D.str SG,.fr\D.int sz,.fr\D.int (c/8%sz),none,none,none,none] [2,0]=[.fr\.str SG,.al\.int c]:=rfl;show(((((cU _ _ M.fr (iF [.al\D.int c,.al\D.int kk,.fr\D.str SG,.fr\D.int sz,.fr\D.int (c/8%sz),none,none,none,none] [2,0]) _).bind _).bind _).bind _).bind _)=_;rw[ef,ex];simp! [oq,eL];walk_at "ev";rw[if_pos hr,ht];walk_at "ev";rw[l1];walk_at "ev"
theorem Bc{z:Str}(h:nameS z=true):z.length≤8:=by
 simp only[nameS,Bool.and_eq_true,decide_eq_true_eq]at h;exact h.2.1
theorem Ok.bl{b:Bool}:Ok (.bl b):=⟨by simp[dN],λy e=>by cases e⟩
theorem Ok.lst{ds:List D}:Ok (.lst ds):=⟨by simp[dN],λy e=>by cases e⟩
theorem Ok.dk{ds:List (Key×D)}:Ok (.dk ds):=⟨by simp[dN],λy e=>by cases e⟩
def z6(d:D):Prop:=bH d=true∧Ok d∧d.b8=true
theorem Nx{z:Str}(h:nameS z=true):z6 (.str z):=⟨by simp only[bH,bE,h,Bool.true_or],.str (by have:=Bc h;omega),tM⟩
theorem rK{i:Int}(h0:0≤i)(h1:i<18446744073709551616):z6 (.int i):=⟨by simp only[bH,bE,cK,decide_eq_true h0,decide_eq_true h1];rfl,.int,ye⟩
noncomputable abbrev qM:Str := "+-*&|^<="
theorem Si{m n:M}{i:Int}(h0:0≤i)(h1:i<8):∃s:Str,aC (m,.str qM) (n,.int i)=.fr\.str s∧fN (.str s)=true∧s.length≤1000:=by
 have hl:qM.cps.toList.length=8:=by decide +kernel
 have hs:∀i∈List.range 8,fN (.str ⟨#[qM.cps.toList.getD i 0]⟩)=true:=by decide +kernel
 refine⟨⟨#[qM.cps.toList.getD i.toNat 0]⟩,?_,hs _ (lN.mpr ∅),by show 1≤1000;decide⟩;have ck:i.toNat<qM.cps.toList.length:=by omega
 rw[sE (by decide),jU h0 (by rw[hl];omega),yI,iR ck];rfl
def eJ(k:Ko):Prop:=z6 (kD k)
theorem oQ{ns:List Str}{k:Int}(h0:0≤k)(h1:k<ns.length):∃c,L2.aM (ns.map D.str) k=some (.str c)∧c∈ns:=by
 rw[jU h0 (by simpa using h1)];exact⟨ns[k.toNat]'∅,by simp,List.getElem_mem _⟩
theorem Kk(c n s:Int)(ms:D)(hs:0<s∧s<1000000)(fs:List Int)(hf:fs.length≤60) :
  qP [.al\.int c,.al\ms,.fr\.int n,.bo\.int∘fs,.al\.int s]=some (.nx [.al\.int c,.al\ms,.fr\.int (n/s),.bo\.lst ((fs++[n%s]).map .int),.al\.int s]):=by
 have ef:fs.map D.int++[D.int (n%s)]=(fs++[n%s]).map D.int:=by rw[kl];rfl
 unfold qP;walk_at "ev";rw[dz hs.1];walk_at "ev";rw[if_pos (lQ hf (by decide)),ef];walk_at "ev";rw[div_ii ∅];walk_at "ev"
theorem Mp(c:Int)(ms:List Int)(hm:∀m∈ms,0<m∧m<1000000)(hl:ms.length≤50):∃ds:List Int,qT [.int c,.int∘ms]=.un\.int∘ds∧Paired (λm d=>0≤d∧d<m) ms ds:=by
 obtain⟨e',l1,n,fs,o,g1,rfl⟩:=vJ (g:=gN 4) (b:=qP) (m:=.al) (ds:=ms.map D.int) (e:=[.al\.int c,.al\.int∘ms,.fr\.int (c*48271%2147483647),.bo\.lst [],none])
  (λi e=>∃(n:Int) (fs:List Int) (o:Option (M×D)),Paired (λm d=>0≤d∧d<m) (ms.take i) fs∧e=[.al\.int c,.al\.int∘ms,.fr\.int n,.bo\.int∘fs,o])
  ⟨_,[],none,by rw[List.take_zero];exact .nil,rfl⟩
  (λi d e hd ⟨n,fs,o,g1,he⟩=>by
   subst he;rw[jy]at hd;cases vm:ms[i]? with
   |none=>rw[vm]at hd;cases hd
   |some s =>
    rw[vm]at hd;cases hd;have hs:=hm s (fE vm);have iC:fs.length≤60:=by
     rw[←fD g1,kg];omega
    refine⟨_,_,rfl,Kk c n s _ hs fs iC,_,_,_,?_,rfl⟩;rw[My.take_snoc vm];exact Paired.snoc g1 ⟨cY _ ∅,dr _ hs.1⟩)
 rw[ln,List.take_of_length_le (a7 _)]at g1;refine⟨fs,?_,g1⟩;unfold qT fn Af;walk_at "ev";rw[l1];walk_at "ev"
theorem AQ(d c:Int)(ns:List Str)(hv:∀z∈ns,nameS z=true)(h0:0≤d):∃k:Ko,oH [.int d,.int c,.str∘ns]=.fr\kD k∧eJ k:=by
 unfold oH fn Ac;walk_at "ev";by_cases h:d<ns.length
 ·obtain⟨z,hz,hm⟩:=oQ h0 h;refine⟨.inr z,?_,Nx (hv z hm)⟩;simp only[h,hz];walk_at "ev";simp only[DB,tM];rfl
 ·simp only[h];walk_at "ev";by_cases h2:d=ns.length
  ·simp only[h2];walk_at "ev";have q0:=cY c (show(3:Int)≠0 by decide);have q1:=dr c (show(0:Int)<3 by decide);exact⟨.inl _,rfl,rK q0 ∅⟩
  ·simp only[h2];walk_at "ev";by_cases h3:c%3=0
   ·simp only[h3];walk_at "ev";have q0:=cY (c/3) (show(9:Int)≠0 by decide);have q1:=dr (c/3) (show(0:Int)<9 by decide);exact⟨.inl _,rfl,rK ∅ ∅⟩
   ·simp only[h3];walk_at "ev";exact⟨.inl _,rfl,rK (cY _ (by decide)) (dr _ (by decide))⟩
theorem T5(n:Nat)(w:Str)(hw:ch w=dg n):aX w=.int n:=by
 obtain⟨c,r,e,z⟩:=EZ n;have t:wn w=true:=by
  unfold wn;rw[hw,e];show(if c=48 then decide (r=[])else (c::r).all dh)=true;by_cases h:c=48
  ·have hn:=z h;subst hn;have:dg 0=[48]:=nh (by decide);rw[this]at e;rw[if_pos h,show r=[] by simp at e;exact e.2];rfl
  ·rw[if_neg h];exact bY.mpr λx m=>(rJ x).mpr (rR n x (e▸m))
 unfold aX;rw[if_pos t,hw,TV]
theorem vF{z:Str}(h:nameS z=true):∃c r,ch z=c::r∧cv c=true∧∀x∈c::r,(cv x||dh x)=true:=by
 simp only[nameS,Bool.and_eq_true]at h;obtain⟨_,_,_,h1,h2⟩:=h;have e:ch z=z.cps.toList:=rfl;cases q:z.cps.toList with
 |nil=>rw[q]at h1;simp[qL]at h1
 |cons c r =>
  rw[q]at h1 h2;exact⟨c,r,e.trans q,h1,λx m=>bY.mp h2 x m⟩
theorem D1{z:Str}(h:nameS z=true):aX z=.str z:=by
 obtain⟨c,r,e,hc,_⟩:=vF h;have lU:=(wo c).mp hc;have t:wn z=false:=by
  unfold wn;rw[e];show(if c=48 then decide (r=[])else (c::r).all dh)=false;rw[if_neg ∅];have:dh c=false:=by
   cases q:dh c with
   |false=>rfl
   |true=>have:=(rJ c).mp q;omega
  rw[lP,this];rfl
 unfold aX;rw[if_neg (by rw[t];exact aU)]
noncomputable def kw:Ko→Str
 |.inl i=>Str.ofString (toString i)
 |.inr x=>x
theorem xI{i:Int}(h:0≤i):aX (Str.ofString (toString i))=.int i:=by
 rw[T5 i.toNat _ (str_int h),Int.toNat_of_nonneg h]
theorem T6{k:Ko}(h:eJ k):aX (kw k)=kD k:=by
 cases k with
 |inl i =>
  have:(bE (.int i)||cK (.int i))=true:=h.1;have q:0≤i∧i<18446744073709551616:=by simpa[bE,cK]using this
  exact xI q.1
 |inr x =>
  have:(bE (.str x)||cK (.str x))=true:=h.1;have q:nameS x=true:=by simpa[bE,cK]using this
  exact D1 q
def Wd(w:Str):Prop:=ch w≠[]∧(∀c∈ch w,c≠32∧c≠35∧c≠10)∧w.length≤30
theorem CT{c d:Nat}(eC:d≠c):∀ps:List (List Nat),(∀p∈ps,d∉p)→d∉jn c ps
 |[],_=>λm=>nomatch m
 |[x],h=>h x bC
 |x::y::r,h=>λm=>by
  rw[jn]at m;rcases ic.mp m with m|m
  ·exact h x bC m
  ·rcases cH.mp m with e|m
   ·exact eC e
   ·exact CT eC (y::r) (λp q=>h p (b6 _ q)) m
theorem AU{ws:List Str}{d:Nat}(hd:d≠32)(h:∀w∈ws,d∉ch w):d∉ch (Txt.join " " ws):=by
 rw[oV,rq];exact CT hd _ λp m=>by
  obtain⟨w,q,rfl⟩:=cX.mp m;exact h w q
theorem BJ{ws:List Str}(h:∀w∈ws,Wd w):a9 (Txt.join " " ws)=ws:=by
 have f:35∉ch (Txt.join " " ws):=AU (by decide) λw m z=>((h w m).2.1 35 z).2.1 rfl;unfold a9 wl;rw[wV 35 _ f,oV,rq,F0]
 ·rw[fF];exact(yP λw _=>pJ w).trans (List.map_id ws)
 ·intro p m;obtain⟨w,q,rfl⟩:=cX.mp m;exact⟨(h w q).1,λz=>((h w q).2.1 32 z).1 rfl⟩
theorem CV{ws:List Str}(h:∀w∈ws,Wd w):10∉ch (Txt.join " " ws):=AU (by decide) λw m z=>((h w m).2.1 10 z).2.2 rfl
theorem xJ{z:Str}(h:nameS z=true):Wd z:=by
 obtain⟨c,r,e,_,q⟩:=vF h;have l:=Bc h;refine⟨by rw[e];exact List.cons_ne_nil _ _,λx m=>?_,by omega⟩;have:=q x (e▸m);rw[Bool.or_eq_true]at this;rcases this with k|k
 ·have:=(wo x).mp k;omega
 ·have:=(rJ x).mp k;omega
theorem tS{i:Int}(h0:0≤i)(h1:i<10^30):Wd (Str.ofString (toString i)):=by
 have a:=str_int h0;obtain⟨c,r,e,_⟩:=EZ i.toNat;refine⟨by rw[a,e];exact List.cons_ne_nil _ _,λx m=>?_,?_⟩
 ·rw[a]at m;have:=rR _ x m;omega
 ·rw[←ft,a];refine R7 _ 30 ?_ (by decide);have e:(10:Int)^30=((10^30:Nat):Int):=by decide
  rw[e]at h1;omega
theorem p8{k:Ko}(h:eJ k):Wd (kw k):=by
 cases k with
 |inl i =>
  have:(bE (.int i)||cK (.int i))=true:=h.1;have q:0≤i∧i<18446744073709551616:=by simpa[bE,cK]using this
  exact tS q.1 (Int.lt_trans q.2 (by decide))
 |inr x =>
  have:(bE (.str x)||cK (.str x))=true:=h.1;have q:nameS x=true:=by simpa[bE,cK]using this
  exact xJ q
theorem p9{k:Ko}(h:eJ k):bH (aX (kw k))=true:=by rw[T6 h];exact h.1
theorem g5{x s:Str}{a b:Ko}(hx:nameS x=true)(hs:dJ (.str s) vk=true)(ha:eJ a)(hb:eJ b):aT (aI [x, "=",kw a,s,kw b])=true:=by
 rw[aI,if_pos rfl];show(nameS x&&(dJ (.str s) vk&&(bH (aX (kw a))&&bH (aX (kw b)))))=true;rw[hx,hs,p9 ha,p9 hb];rfl
theorem g3{x:Str}{a:Ko}(hx:nameS x=true)(ha:eJ a):aT (aI [x, "=",kw a])=true:=by
 rw[aI,if_pos rfl];simp! [aT];rw[if_neg (by decide +kernel),if_pos trivial];show(nameS x&&bH (aX (kw a)))=true;rw[hx,p9 ha];rfl
theorem yu{k:Ko}(h:eJ k):kw k ≠ "=" := λz=>by
 have e:ch (kw k)=[61]:=by rw[z];decide +kernel
 cases k with
 |inl i =>
  have:(bE (.int i)||cK (.int i))=true:=h.1;have q:0≤i∧i<18446744073709551616:=by simpa[bE,cK]using this
  have m:=rR i.toNat 61 (by rw[←str_int q.1];show 61∈ch (kw (.inl i));rw[e];exact bC);omega
 |inr x =>
  have:(bE (.str x)||cK (.str x))=true:=h.1;have q:nameS x=true:=by simpa[bE,cK]using this
  obtain⟨c,r,e2,hc,_⟩:=vF q;have:c::r=[61]:=e2.symm.trans e;have lU:=(wo c).mp hc;simp at this;omega
theorem D2{t:Int}(h:0≤t):fB (aX (Str.ofString (toString t)))=true:=by rw[xI h];exact bR h
theorem WR{a:Ko}{t:Int}(ha:eJ a)(ht:0≤t):aT (aI ["part",kw a,Str.ofString (toString t)])=true:=by
 rw[aI,if_neg (yu ha),if_pos rfl];simp! [aT];rw[if_neg (by decide +kernel),if_neg (by decide +kernel),if_neg (by decide +kernel),if_neg (by decide +kernel),if_pos trivial];show(bH (aX (kw a))&&fB (aX (Str.ofString (toString t))))=true;rw[p9 ha,D2 ht];rfl
theorem WT{a:Ko}(ha:eJ a):aT (aI ["say",kw a])=true:=by
 rw[aI,if_pos rfl];simp! [aT];rw[if_neg (by decide +kernel),if_neg (by decide +kernel),if_pos trivial];exact p9 ha
theorem WU{t:Int}(ht:0≤t):aT (aI ["go",Str.ofString (toString t)])=true:=by
 rw[aI,if_neg (by decide +kernel),if_pos rfl];simp! [aT];rw[if_neg (by decide +kernel),if_neg (by decide +kernel),if_neg (by decide +kernel),if_pos trivial];exact D2 ht
def LG(ws:List Str):Prop:=(∀w∈ws,Wd w)∧ws.length≤5∧ws≠[]∧aT (aI ws)=true
theorem xK{k:Ko}{m:M}(h:eJ k):hV [(m,kD k)]=some (.fr,.str (kw k)):=by
 cases k with
 |inl i =>
  have:(bE (.int i)||cK (.int i))=true:=h.1;have q:0≤i∧i<18446744073709551616:=by simpa[bE,cK]using this
  show(if i.natAbs.log2<1920 then some (M.fr,D.str (toString i))else none)=_;rw[if_pos]
  ·rfl
  ·have:i.natAbs<2^64:=by omega
   by_cases z:i.natAbs=0
   ·rw[z];decide
   ·exact Nat.lt_trans ((Nat.log2_lt z).mpr this) (by decide)
 |inr x=>rfl
theorem gF(w:Str)(h:(decide (ch w≠[])&&(ch w).all (λc=>c != 32&&c != 35&&c != 10)&&decide (w.length≤30))=true):Wd w:=by
 simp only[Bool.and_eq_true,decide_eq_true_eq]at h;refine⟨h.1.1,λc m=>?_,h.2⟩;have:=bY.mp h.1.2 c m;simp only[Bool.and_eq_true,bne_iff_ne,ne_eq]at this;exact⟨this.1.1,this.1.2,this.2⟩
theorem IC{a b:Str}(ha:Wd a)(hb:Wd b)(h:aT (aI [a,b])=true):LG [a,b]:=⟨λw m=>by
 simp only[List.mem_cons,List.not_mem_nil,or_false]at m;rcases m with rfl|rfl
 ·exact ha
 ·exact hb,by show 2≤5;decide,List.cons_ne_nil _ _,h⟩
theorem IG{a b c:Str}(ha:Wd a)(hb:Wd b)(hc:Wd c)(h:aT (aI [a,b,c])=true):LG [a,b,c]:=⟨λw m=>by
 simp only[List.mem_cons,List.not_mem_nil,or_false]at m;rcases m with rfl|rfl|rfl
 ·exact ha
 ·exact hb
 ·exact hc,by show 3≤5;decide,List.cons_ne_nil _ _,h⟩
theorem WV{a b c d e:Str}(ha:Wd a)(hb:Wd b)(hc:Wd c)(hd:Wd d)(he:Wd e)(h:aT (aI [a,b,c,d,e])=true):LG [a,b,c,d,e]:=⟨λw m=>by
 simp only[List.mem_cons,List.not_mem_nil,or_false]at m;rcases m with rfl|rfl|rfl|rfl|rfl
 ·exact ha
 ·exact hb
 ·exact hc
 ·exact hd
 ·exact he,by show 5≤5;decide,List.cons_ne_nil _ _,h⟩
theorem PD{s:Str}(h:fN (.str s)=true):Wd s:=by
 simp only[fN,dJ,vk]at h;simp only[List.any_cons,List.any_nil,Bool.or_false,Bool.or_eq_true,iX,beq_iff_eq]at h;rcases h with rfl|rfl|rfl|rfl|rfl|rfl|rfl|rfl<;>exact gF _ (by decide +kernel)
inductive LS:List Str→Prop
 |r {x s:Str}{a b:Ko} (hx:nameS x=true) (hs:fN (.str s)=true) (ha:eJ a) (hb:eJ b):LS [x, "=",kw a,s,kw b]
 |c {x:Str}{a:Ko} (hx:nameS x=true) (ha:eJ a):LS [x, "=",kw a]
 |s {a:Ko} (ha:eJ a):LS ["say",kw a]
 |g {t:Int} (h0:0≤t) (h1:t<70):LS ["go",Str.ofString (toString t)]
 |p {a:Ko}{t:Int} (ha:eJ a) (h0:0≤t) (h1:t<70):LS ["part",kw a,Str.ofString (toString t)]
theorem LS.lg{ws:List Str}(h:LS ws):LG ws:=by
 have we:Wd "=" := gF _ (by decide +kernel);cases h with
 |r hx hs ha hb=>exact WV (xJ hx) we (p8 ha) (PD hs) (p8 hb) (g5 hx hs ha hb)
 |c hx ha=>exact IG (xJ hx) we (p8 ha) (g3 hx ha)
 |s ha=>exact IC (gF _ (by decide +kernel)) (p8 ha) (WT ha)
 |g h0 h1=>exact IC (gF _ (by decide +kernel)) (tS h0 (Int.lt_trans h1 (by decide))) (WU h0)
 |p ha h0 h1=>exact IG (gF _ (by decide +kernel)) (p8 ha) (tS h0 (Int.lt_trans h1 (by decide))) (WR ha h0)
theorem CW(c:Int)(ns:List Str)(hv:∀z∈ns,nameS z=true)(h1:0<ns.length)(h2:ns.length≤50):∃ws:List Str,(∃m,mK [.int c,.str∘ns]=some (m,.str∘ws)∧(m=.un∨m=.fr))∧LS ws:=by
 obtain⟨ds,ed,hp⟩:=Mp c [8,(ns.length:Int),8,(ns.length:Int)+2,(ns.length:Int)+2] (by
  intro m hm;simp only[List.mem_cons,List.not_mem_nil,or_false]at hm;omega) (by show 5≤50;decide)
 cases hp with|@cons _ dk _ ds hk hp =>
 cases hp with|@cons _ dx _ ds hx hp =>
 cases hp with|@cons _ II _ ds IJ hp =>
 cases hp with|@cons _ da _ ds ha hp =>
 cases hp with|@cons _ db _ ds hb hp =>
 cases hp;obtain⟨ka,ea,va⟩:=AQ da c ns hv ha.1;obtain⟨kb,eb,vb⟩:=AQ db (c/7) ns hv hb.1;obtain⟨x,ex,xm⟩:=oQ hx.1 hx.2;obtain⟨sg,WW,vs,vl⟩:=Si (m:=.fr) (n:=.fr) IJ.1 IJ.2;simp only[mq,mn]at ed;have sa:=xK (m:=.fr) va;have sb:=xK (m:=.fr) vb;unfold mK fn AF;rw[show([D.int c,.str∘ns].map (λd=>some (M.al,d))++List.replicate (9 - [D.int c,.str∘ns].length) none:Ev)=[.al\.int c,.al\.str∘ns,none,none,none,none,none,none,none] from rfl];rw[aG (e':=[.al\.int c,.al\.str∘ns,.fr\.int ((ns.length:Int)+2),none,none,none,none,none,none]) (by walk_at "ev")];rw[aG (e':=[.al\.int c,.al\.str∘ns,.fr\.int ((ns.length:Int)+2),.fr\.int dk,.fr\.int dx,.fr\.int II,.fr\.int da,.fr\.int db,none]) (by walk_at "ev"; rw[ed];walk_at "ev")];rw[aG (e':=[.al\.int c,.al\.str∘ns,.fr\.int ((ns.length:Int)+2),.fr\.int dk,.fr\.int dx,.fr\.int II,.fr\.int da,.fr\.int db,.bo\.lst [.str (kw ka),.str (kw kb)]]) (by walk_at "ev"; rw[ea];walk_at "ev"; rw[sa];walk_at "ev"; rw[eb];walk_at "ev"; rw[sb];walk_at "ev")];have gj:∀{E:Ev},aP E=some (.nx E):=rfl;have a0:L2.aM [D.str (kw ka),.str (kw kb)] 0=some (.str (kw ka)):=rfl;have a1:L2.aM [D.str (kw ka),.str (kw kb)] 1=some (.str (kw kb)):=rfl;by_cases g1:dk<3
 ·refine⟨[x, "=",kw ka,sg,kw kb],⟨.un,?_,.inl rfl⟩,.r (hv x xm) vs va vb⟩;rw[au,dU (by walk_at "ev"; simp only[g1,decide_true])];walk_at "ev";simp only[ex];walk_at "ev";rw[a0];walk_at "ev";rw[WW];walk_at "ev";rw[a1];walk_at "ev"
 rw[aG (by rw[bO (by walk_at "ev"; simp only[g1,decide_false]),gj])];by_cases g2:dk<5
 ·refine⟨[x, "=",kw ka],⟨.un,?_,.inl rfl⟩,.c (hv x xm) va⟩;rw[au,dU (by walk_at "ev"; simp only[g2,decide_true])];walk_at "ev";simp only[ex];walk_at "ev";rw[a0];walk_at "ev"
 rw[aG (by rw[bO (by walk_at "ev"; simp only[g2,decide_false]),gj])];have q0:=cY c (show(70:Int)≠0 by decide);have q1:=dr c (show(0:Int)<70 by decide);have sc:hV [(M.fr,.int (c%70))]=some (.fr,.str (Str.ofString (toString (c%70)))):=xK (k:=.inl (c%70)) (rK q0 ∅);have l0:∀a b d:D,L2.aM [a,b,d] (5-5)=some a:=λ_ _ _=>rfl;have l1:∀a b d:D,L2.aM [a,b,d] (6-5)=some b:=λ_ _ _=>rfl;have l2:∀a b d:D,L2.aM [a,b,d] (7-5)=some d:=λ_ _ _=>rfl;have WX:dk=5∨dk=6∨dk=7:=by omega
 rcases WX with rfl|rfl|rfl
 ·refine⟨["say",kw ka],⟨.fr,?_,.inr rfl⟩,.s va⟩;walk_at "ev";rw[a0];walk_at "ev";rw[sc];walk_at "ev";rfl
 ·refine⟨["go",Str.ofString (toString (c%70))],⟨.fr,?_,.inr rfl⟩,.g q0 q1⟩;walk_at "ev";rw[a0];walk_at "ev";rw[sc];walk_at "ev";rfl
 ·refine⟨["part",kw ka,Str.ofString (toString (c%70))],⟨.fr,?_,.inr rfl⟩,.p va q0 q1⟩;walk_at "ev";rw[a0];walk_at "ev";rw[sc];walk_at "ev";rfl
theorem Be:∀ws:List Str,D.cB (ws.map .str)=true
 |[]=>OY
 |w::ws=>by rw[mq,M9,tM,Be ws];rfl
theorem zD(m:M)(ws:List Str):f9 m (ws.map .str)=some (.un,.str∘ws):=by
 unfold f9;rw[Be];split
 ·rfl
 ·split<;>rfl
theorem CY{α β:Type}(f:α→β)(xs:List α)(lo hi:Option Int):cut (xs.map f) lo hi=(cut xs lo hi).map f:=by
 unfold cut;rw[ln,List.map_take,List.map_drop]
theorem WY{m:M}{ws:List Str}{lo hi:Option Int}:cS (m,.str∘ws) lo hi=some (.un,.lst ((cut ws lo hi).map .str)):=by
 show(match f9 m (cut (ws.map D.str) lo hi) with|some z=>some z|none=>_)=_
 rw[CY,zD]
theorem dW{m n:M}{ws vs:List Str}(hm:aN m≠.rb)(hn:aN n≠.rb)(h:ws.length+vs.length≤1000):a6 (m,.str∘ws) (n,.str∘vs)=some (.un,.lst ((ws++vs).map .str)):=by
 rw[QW hm hn (by rw[ln,ln];exact aQ h (by decide)),←kl,zD]
theorem D3{k:Nat}:∀ws:List Str,(∀w∈ws,w.length≤k)→(ws.map (·.length)).sum≤k*ws.length
 |[],_=>kj _
 |w::ws,h=>by
  have a:=h w bC;have b:=D3 ws λv m=>h v (b6 _ m);rw[mq,List.sum_cons,b7,Nat.mul_succ];omega
theorem E7{m n:M}{z:Str}{ws:List Str}(hz:z.length≤1)(h:∀w∈ws,w.length≤199)(hl:ws.length≤400):bJ (m,.str z) [(n,.str∘ws)]=some (.fr,.str (Txt.join z ws)):=by
 simp only[bJ,vC,oq];rw[if_pos];have a:=D3 ws h;have b:ws.length*z.length≤ws.length*1:=Nat.mul_le_mul_left _ hz;omega
theorem D4{c k:Nat}:∀ps:List (List Nat),(∀p∈ps,p.length≤k)→(jn c ps).length≤(k+1)*ps.length
  |[],_=>kj _
  |[x],h=>by
    have:=h x bC;show x.length≤(k+1)*1;omega
  |x::y::r,h=>by
    have a:=h x bC;have b:=D4 (c:=c) (y::r) λp m=>h p (b6 _ m);rw[jn,bN,b7,b7,Nat.mul_succ];omega
theorem BK{c k:Nat}{ws:List Str}(h:∀w∈ws,w.length≤k):(Txt.join ⟨#[c]⟩ ws).length≤(k+1)*ws.length:=by
 rw[←ft,rq];have:=D4 (c:=c) (ws.map ch) (k:=k) λp m=>by
  obtain⟨w,q,rfl⟩:=cX.mp m;rw[ft];exact h w q
 rw[ln]at this;exact this
structure BL (s:Str):Prop where
 l:s.length≤199
 w:a9 s≠[]
 g:gd s=false
 n:10∉ch s
structure GN (s:Str):Prop where
 l:s.length≤199
 w:a9 s≠[]
 g:gd s=true
 n:10∉ch s
structure Bd (ws:List Str):Prop where
 d:∀w∈ws,Wd w
 l:ws.length≤6
 e:ws≠[]
 g:aT (aI ws)=false
theorem CZ{ws:List Str}(d:∀w∈ws,Wd w)(l:ws.length≤6):(Txt.join " " ws).length≤199:=by
 have:=BK (c:=32) (k:=30) λw m=>(d w m).2.2;rw[oV];omega
theorem Bd.bl{ws:List Str}(h:Bd ws):BL (Txt.join " " ws):=by
 have e:=BJ h.d;refine⟨CZ h.d h.l,by rw[e];exact h.e,?_,CV h.d⟩;unfold gd;rw[e];exact h.g
theorem LG.gn{ws:List Str}(h:LG ws):GN (Txt.join " " ws):=by
 have e:=BJ h.1;refine⟨CZ h.1 (aQ h.2.1 (by decide)),by rw[e];exact h.2.2.1,?_,CV h.1⟩;unfold gd;rw[e];exact h.2.2.2
theorem ni{m n:M}{ws:List Str}(d:∀w∈ws,Wd w)(l:ws.length≤6):bJ (m,.str " ") [(n,.str∘ws)]=some (.fr,.str (Txt.join " " ws)):=E7 (by decide +kernel) (λw q=>aQ (d w q).2.2 (by decide)) (aQ l (by decide))
theorem D5:aT .non=false:=rfl
theorem tT{x s:Str}{a b:D}:aT (.tup [.str "reckon",.str x,.str s,a,b])=(nameS x&&(fN (.str s)&&(bH a&&bH b))):=rfl
theorem yv{x:Str}{a:D}:aT (.tup [.str "copy",.str x,a])=(nameS x&&bH a):=by
 simp! [aT];rw[if_neg (by decide +kernel),if_pos trivial];rfl
theorem UY{a:D}:aT (.tup [.str "say",a])=bH a:=by
 simp! [aT];rw[if_neg (by decide +kernel),if_neg (by decide +kernel),if_pos trivial]
theorem UZ{a:D}:aT (.tup [.str "go",a])=fB a:=by
 simp! [aT];rw[if_neg (by decide +kernel),if_neg (by decide +kernel),if_neg (by decide +kernel),if_pos trivial]
theorem U0{a t:D}:aT (.tup [.str "part",a,t])=(bH a&&fB t):=by
 simp! [aT];rw[if_neg (by decide +kernel),if_neg (by decide +kernel),if_neg (by decide +kernel),if_neg (by decide +kernel),if_pos trivial]
theorem T7{t:Int}(h:0≤t):Str.ofString (toString t) ≠ "=" := λz=>by
 have e:ch (Str.ofString (toString t))=[61]:=by rw[z];decide +kernel
 have m:=rR t.toNat 61 (by rw[←str_int h,e];exact bC);omega
theorem U1:Wd "x" := gF _ (by decide +kernel)
theorem qa:Wd "!" := gF _ (by decide +kernel)
theorem yw:bH (aX "!")=false:=by decide +kernel
theorem F6:fB (aX "!")=false:=by decide +kernel
structure BW (w:Str):Prop where
 d:Wd w
 n:nameS w=false
 o:bH (aX w)=false
 s:w ≠ "say"
 g:w ≠ "go"
def IK(w:Str):Bool:=(decide (ch w≠[])&&(ch w).all (λc=>c != 32&&c != 35&&c != 10)&&decide (w.length≤30))&&(!nameS w&&(!bH (aX w)&&(decide (w ≠ "say")&&decide (w ≠ "go"))))
theorem U2(w:Str)(h:IK w=true):BW w:=by
 simp only[IK,Bool.and_eq_true,Bool.not_eq_true',decide_eq_true_eq]at h;exact⟨gF w (by simp only[Bool.and_eq_true,decide_eq_true_eq];exact h.1),h.2.1,h.2.2.1,h.2.2.2.1,h.2.2.2.2⟩
theorem Sj{r:Int}(h0:0≤r)(h1:r<9):BW (Str.ofString (toString (18446744073709551616+r))):=by
 have v:=xI (i:=18446744073709551616+r) ∅;refine⟨tS ∅ (Int.lt_trans (b:=18446744073709551625) ∅ (by decide)),?_,?_,?_,?_⟩
 ·cases q:nameS (Str.ofString (toString (18446744073709551616+r))) with
  |false=>rfl
  |true=>rw[D1 q]at v;cases v
 ·rw[v];simp only[bH,bE,cK,Bool.false_or,Bool.and_eq_false_iff,decide_eq_false_iff_not];omega
 ·intro z;have:fB (aX (Str.ofString (toString (18446744073709551616+r))))=true:=by rw[v];exact bR ∅
  rw[z]at this;revert this;decide +kernel
 ·intro z;have:fB (aX (Str.ofString (toString (18446744073709551616+r))))=true:=by rw[v];exact bR ∅
  rw[z]at this;revert this;decide +kernel
theorem Kl(c:Int):∃w,vp [.int c]=.fr\.str w∧BW w:=by
 have q0:=cY (c/12) (show(9:Int)≠0 by decide);have q1:=dr (c/12) (show(0:Int)<9 by decide);have p0:=cY c (show(16:Int)≠0 by decide);have p1:=dr c (show(0:Int)<16 by decide);have bf:=Sj q0 q1;have sf:hV [(M.fr,.int (18446744073709551616+c/12%9))]=some (.fr,.str (Str.ofString (toString (18446744073709551616+c/12%9)))):=by
  show(if (18446744073709551616+c/12%9).natAbs.log2<1920 then some (M.fr,D.str (toString (18446744073709551616+c/12%9)))else none)=_;have q:(18446744073709551616+c/12%9).natAbs.log2<1920:=by
   have:(18446744073709551616+c/12%9).natAbs<2^65:=by omega
   exact Nat.lt_trans ((Nat.log2_lt ∅).mpr this) (by decide)
  rw[if_pos q]
 generalize Str.ofString (toString (18446744073709551616+c/12%9))=f at bf sf;have all:∀w∈(["A", "9a", "abcdefghi", "007", "-1", "+", "=", "a_b",f, "x.", "1e3", "end", "+1", "1_0", "01", "-0"]:List Str),BW w:=λw m=>by
  simp only[List.mem_cons,List.not_mem_nil,or_false]at m;rcases m with rfl|rfl|rfl|rfl|rfl|rfl|rfl|rfl|rfl|rfl|rfl|rfl|rfl|rfl|rfl|rfl
  all_goals first|exact bf|exact U2 _ (by decide +kernel)
 obtain⟨w,ew,wm⟩:=oQ (ns:=["A", "9a", "abcdefghi", "007", "-1", "+", "=", "a_b",f, "x.", "1e3", "end", "+1", "1_0", "01", "-0"]) p0 (by show c%16<16;exact p1);refine⟨w,?_,all w wm⟩;show(vo [.al\.int c,none,none]).bind out=_;unfold vo;rw[aG (se (cb (cn (o2 rfl (o2 (o2 rfl rfl (div_ii (by decide))) rfl (dz (by decide))) lh) rfl) sf) rfl rfl)];rw[aG (e':=[.al\.int c,.fr\.str f,.bo\.lst ((["A", "9a", "abcdefghi", "007", "-1", "+", "=", "a_b",f, "x.", "1e3", "end", "+1", "1_0", "01", "-0"]:List Str).map .str)]) rfl];rw[re (o2 (y:=(.fr,.int (c%16))) rfl (o2 rfl rfl (dz (by decide))) (nc ew))];rfl
theorem cF{P:Str→Prop}{a:Str}{l:List Str}(h:P a)(h2:∀w∈l,P w):∀w∈a::l,P w:=λw m=>by
 rcases cH.mp m with rfl|m
 ·exact h
 ·exact h2 w m
theorem cG{P:Str→Prop}{l r:List Str}(h:∀w∈l,P w)(h2:∀w∈r,P w):∀w∈l++r,P w:=λw m=>(ic.mp m).elim (h w) (h2 w)
theorem cN{P:Str→Prop}:∀w∈([]:List Str),P w:=λ_ m=>nomatch m
theorem wx{ws:List Str}(h:LS ws):Bd (ws++(["x"]:List Str)):=by
 refine⟨cG h.lg.1 (cF U1 cN),?_,by simp,?_⟩
 ·have:=h.lg.2.1;simp only[List.length_append,List.length_cons,List.length_nil];omega
 ·cases h with
  |r hx hs ha hb=>rfl
  |c hx ha=>rfl
  |s ha=>show aT (aI ["say",kw _, "x"])=false;rw[aI,if_neg (yu ha),if_neg (by decide +kernel)];rfl
  |g h0 h1=>show aT (aI ["go",_, "x"])=false;rw[aI,if_neg (T7 h0),if_neg (by decide +kernel)];rfl
  |p ha h0 h1=>rfl
theorem rL{ws:List Str}(h:LS ws):Bd (cut ws none (some (-1))++(["!"]:List Str)):=by
 have L:=h.lg;cases h with
 |r hx hs ha hb =>
  refine⟨cG (λw m=>L.1 w (List.mem_of_mem_take (i:=4) m)) (cF qa cN),Nat.le_of_ble_eq_true rfl,by simp,?_⟩;show aT (aI [_, "=",_,_, "!"])=false;rw[aI,if_pos rfl,tT,yw];simp only[Bool.and_false]
 |c hx ha =>
  refine⟨cG (λw m=>L.1 w (List.mem_of_mem_take (i:=2) m)) (cF qa cN),Nat.le_of_ble_eq_true rfl,by simp,?_⟩;show aT (aI [_, "=", "!"])=false;rw[aI,if_pos rfl,yv,yw,Bool.and_false]
 |s ha =>
  refine⟨cG (λw m=>L.1 w (List.mem_of_mem_take (i:=1) m)) (cF qa cN),Nat.le_of_ble_eq_true rfl,by simp,?_⟩;show aT (aI ["say", "!"])=false;rw[aI,if_pos rfl,UY,yw]
 |g h0 h1 =>
  refine⟨cG (λw m=>L.1 w (List.mem_of_mem_take (i:=1) m)) (cF qa cN),Nat.le_of_ble_eq_true rfl,by simp,?_⟩;show aT (aI ["go", "!"])=false;rw[aI,if_neg (by decide +kernel),if_pos rfl,UZ,F6]
 |p ha h0 h1 =>
  refine⟨cG (λw m=>L.1 w (List.mem_of_mem_take (i:=2) m)) (cF qa cN),Nat.le_of_ble_eq_true rfl,by simp,?_⟩;show aT (aI ["part",kw _, "!"])=false;rw[aI,if_neg (yu ha),if_pos rfl,U0,F6,Bool.and_false]
theorem oW{ws:List Str}{lo hi:Option Int}{w:Str}(h:w∈cut ws lo hi):w∈ws:=List.mem_of_mem_drop (List.mem_of_mem_take h)
theorem Sl{ws:List Str}(h:LS ws)(h5:ws.length=5){k:Int}(h0:0≤k)(h1:k<5):Bd (cut ws none (some k)++cut ws (some (k+1)) none):=by
 have L:=h.lg;have D:=cG (λw m=>L.1 w (oW (lo:=none) (hi:=some k) m)) (λw m=>L.1 w (oW (lo:=some (k+1)) (hi:=none) m));cases h with
 |r hx hs ha hb =>
  have:k=0∨k=1∨k=2∨k=3∨k=4:=by omega
  rcases this with rfl|rfl|rfl|rfl|rfl
  all_goals exact⟨D,Nat.le_of_ble_eq_true rfl,List.cons_ne_nil _ _,rfl⟩
 |c=>cases h5
 |s=>cases h5
 |g=>cases h5
 |p=>cases h5
theorem PF {ws:List Str} (h:LS ws) {k:Int} (h0:0≤k) (h1:k<ws.length) (k1:k≠1) (hp:∀r:List Str,ws≠("part" : Str)::r) (k3:ws.length=5→k≠3) {w:Str} (b:BW w):Bd (cut ws none (some k)++[w]++cut ws (some (k+1)) none):=by
 have L:=h.lg;have D:=cG (cG (λw m=>L.1 w (oW (lo:=none) (hi:=some k) m)) (cF b.d cN)) (λw m=>L.1 w (oW (lo:=some (k+1)) (hi:=none) m));cases h with
 |@r x s a c hx hs ha hb =>
  have h1:k<5:=h1;have:k=0∨k=2∨k=4:=by have:=k3 rfl;omega
  rcases this with rfl|rfl|rfl
  ·refine⟨D,Nat.le_of_ble_eq_true rfl,List.cons_ne_nil _ _,?_⟩;show aT (aI [w, "=",kw a,s,kw c])=false;rw[aI,if_pos rfl,tT,b.n,tX]
  ·refine⟨D,Nat.le_of_ble_eq_true rfl,List.cons_ne_nil _ _,?_⟩;show aT (aI [x, "=",w,s,kw c])=false;rw[aI,if_pos rfl,tT,b.o,tX,Bool.and_false,Bool.and_false]
  ·refine⟨D,Nat.le_of_ble_eq_true rfl,List.cons_ne_nil _ _,?_⟩;show aT (aI [x, "=",kw a,s,w])=false;rw[aI,if_pos rfl,tT,b.o,Bool.and_false,Bool.and_false,Bool.and_false]
 |@c x a hx ha =>
  have h1:k<3:=h1;have:k=0∨k=2:=by omega
  rcases this with rfl|rfl
  ·refine⟨D,Nat.le_of_ble_eq_true rfl,List.cons_ne_nil _ _,?_⟩;show aT (aI [w, "=",kw a])=false;rw[aI,if_pos rfl,yv,b.n,tX]
  ·refine⟨D,Nat.le_of_ble_eq_true rfl,List.cons_ne_nil _ _,?_⟩;show aT (aI [x, "=",w])=false;rw[aI,if_pos rfl,yv,b.o,Bool.and_false]
 |@s a ha =>
  have h1:k<2:=h1;have:k=0:=by omega
  subst this;refine⟨D,Nat.le_of_ble_eq_true rfl,List.cons_ne_nil _ _,?_⟩;show aT (aI [w,kw a])=false;rw[aI,if_neg b.s,if_neg b.g,D5]
 |@g t =>
  have h1:k<2:=h1;have:k=0:=by omega
  subst this;refine⟨D,Nat.le_of_ble_eq_true rfl,List.cons_ne_nil _ _,?_⟩;show aT (aI [w,_])=false;rw[aI,if_neg b.s,if_neg b.g,D5]
 |p=>exact absurd rfl (hp _)
theorem iN{f:Ev→Option (M×D)}{l u:Ev→Option (Option Int)}{e:Ev}{m:M}{ws:List Str}{lo hi:Option Int}(h:f e=some (m,.str∘ws))(h1:l e=some lo)(h2:u e=some hi):de cS f l u e=some (.un,.lst ((cut ws lo hi).map .str)):=bo h (bo h1 (bo h2 WY))
theorem iO{f:Ev→Option (M×D)}{e:Ev}{m:M}{i:Int}(h:f e=some (m,.int i)):cy f e=some (some i):=bo h rfl
theorem gG{z:Str}{f:Ev→Option (M×D)}{e:Ev}{m:M}{ws:List Str}{r:Option (M×D)}(h:f e=some (m,.str∘ws))(hr:bJ (.fr,.str z) [(m,.str∘ws)]=r):bp a8 bJ (jC (.str z)) (ae f ah) e=r:=bo (a:=(.fr,.str z)) rfl (tR rfl (bo (cn h rfl) hr))
theorem j4{f:Ev→Option (M×D)}{e:Ev}{m:M}{w:Str}(h:f e=some (m,.str w))(hm:m=.fr∨m=.al):bh (ae f ah) e=some (.un,.lst (([w]:List Str).map .str)):=by
 rcases hm with rfl|rfl<;>exact li (cn h rfl) rfl
noncomputable abbrev gU:List Str:=["x", "x =", "= 3", "x = 3 +", "x = + 3", "x = 3 4", "x == 3", "say", "say x y", "go", "go x", "go 1 2"]
noncomputable abbrev iH:List Str:=["part 1", "part x y", "end 0", "End", "x=3", "say = 3", "x = y > z", "go 01", "part x 1 2", "go -1"]
noncomputable abbrev oF:List Str:=["x = 3 +- 4", "x = 3 *| 4", "x = 3 + + 4", "go +1", "go 1_0", "part x 01", "say -0", "x = +1"]
noncomputable abbrev vn:List Str:=["sa 3", "saysay 3", "part x, 3", "x = 3, 4", "end end", "g 3"]
theorem T8:∀s∈gU++iH++oF++vn,BL s:=λs m=>by
 have:=bY.mp Se s (show s∈Iy++Iz from m);simp only[F1,Bool.and_eq_true,decide_eq_true_eq,Bool.not_eq_true',List.isEmpty_eq_false_iff,List.contains_eq_mem,decide_eq_false_iff_not]at this;exact⟨this.1.1.1,this.1.1.2.1,this.1.1.2.2,this.1.2⟩
theorem PH(c:Int)(ns:List Str)(hv:∀z∈ns,nameS z=true)(h1:0<ns.length)(h2:ns.length≤50):∃s,vA [.int c,.str∘ns]=.fr\.str s∧BL s:=by
 obtain⟨ws,⟨m,el,hm⟩,S⟩:=CW (c/7) ns hv h1 h2;have L:=S.lg;have wp:0<ws.length:=List.length_pos_iff.mpr L.2.2.1;have wl:=L.2.1;obtain⟨n,ts,hn⟩:∃n:M,iJ (m,D.str∘ws)=some (n,D.str∘ws)∧aN n≠.rb:=by
  rcases hm with rfl|rfl
  ·exact⟨.bo,rfl,by decide⟩
  ·exact⟨.fr,rfl,by decide⟩
 have w0:=cY c (show(7:Int)≠0 by decide);have k0:=cY (c/7) (show(ws.length:Int)≠0 by omega);have k1:=dr (c/7) (show(0:Int)<ws.length by omega);show ∃s,(vz [.al\.int c,.al\.str∘ns,none,none,none,none]).bind out=.fr\.str s∧BL s;unfold vz;rw[aG (e':=[.al\.int c,.al\.str∘ns,.bo\.str∘gU,none,none,none]) rfl];rw[aG (e':=[.al\.int c,.al\.str∘ns,.bo\.lst ((gU++iH).map .str),none,none,none]) (se (o2 (x:=(.bo,.str∘gU)) (y:=(.un,.str∘iH)) rfl rfl (dW (by decide) (by decide) (by decide))) rfl rfl)];rw[aG (e':=[.al\.int c,.al\.str∘ns,.bo\.lst ((gU++iH).map .str),some (n,.str∘ws),none,none]) (se (ca (xs:=[(.fr,.int (c/7)),(.al,.str∘ns)]) (cn (o2 rfl rfl (div_ii (by decide))) rfl) el) ts rfl)];rw[aG (se (o2 rfl rfl (dz (by decide))) rfl rfl)];rw[aG (se (o2 (y:=(.fr,.int (ws.length:Int))) (o2 rfl rfl (div_ii (by decide))) (cb rfl j3) (dz ∅)) rfl rfl)];generalize hk:c/7%(ws.length:Int)=k at k0 k1;show ∃s,(au _ _ [.al\.int c,.al\.str∘ns,.bo\.lst ((gU++iH).map .str),some (n,.str∘ws),.fr\.int (c%7),.fr\.int k]).bind out=_∧BL s;have gj:∀{E:Ev},aP E=some (.nx E):=rfl;have sr:∀{f g:Ev→Option Fl}{E:Ev}{s:Str},(f E).bind out=some (.fr,.str s)→(∃m d,f E=some (.rt E m d))→(au f g E).bind out=some (.fr,.str s):=λa ⟨m,d,b⟩=>by rw[gY b,←b];exact a
 by_cases c0:c%7=0
 ·rw[gY ((dU (bl (o2 rfl rfl cV) (bR c0))).trans (re (gG (o2 rfl (j4 rfl (.inl rfl)) (dW hn (by decide) (by simp only[List.length_cons,List.length_nil];omega))) (ni (wx S).d (wx S).l))))];exact⟨_,rfl,(wx S).bl⟩
 rw[aG ((bO (bl (o2 rfl rfl cV) (bF c0))).trans gj)];by_cases c1:c%7=1
 ·by_cases q:ws.length≠5∨k=1
  ·rw[gY ((dU (bat (bl (o2 rfl rfl cV) (bR c1)) (Ip (bl (o2 (cb rfl j3) rfl m8) rfl) (bl (o2 rfl rfl cV) rfl) |>.trans (by
    congr 1;rw[Bool.or_eq_true,Bool.not_eq_true',decide_eq_false_iff_not,ug];exact q.imp (λz h=>z ∅) id)))).trans (re (gG (o2 (iN rfl rfl (iO (u1 rfl Ey))) (j4 rfl (.inl rfl)) (dW (by decide) (by decide) (by have:=(rL S).l;rw[bN]at this;omega))) (ni (rL S).d (rL S).l))))]
   exact⟨_,rfl,(rL S).bl⟩
  ·have q5:ws.length=5:=Decidable.byContradiction λz=>q (.inl z);have qk:k≠1:=λz=>q (.inr z);have B:=Sl S q5 k0 ∅;rw[aG ((bO (bat (bl (o2 rfl rfl cV) (bR c1)) (Ip (bl (o2 (cb rfl j3) rfl m8) rfl) (bl (o2 rfl rfl cV) rfl) |>.trans (by
    congr 1;rw[Bool.or_eq_false_iff,Bool.not_eq_false',ug,decide_eq_false_iff_not];exact⟨by omega,qk⟩)))).trans gj)]
   rw[gY ((dU (bl (o2 rfl rfl cV) (bR c1))).trans (re (gG (o2 (iN rfl rfl (iO rfl)) (iN rfl (iO (o2 rfl rfl lh)) rfl) (dW (by decide) (by decide) (by have:=B.l;rw[bN]at this;omega))) (ni B.d B.l))))];exact⟨_,rfl,B.bl⟩
 rw[aG ((bO (Iq (bl (o2 rfl rfl cV) (bF c1)))).trans gj)];rw[aG ((bO (bl (o2 rfl rfl cV) (bF c1))).trans gj)];obtain⟨a,r,ew⟩:∃a r,ws=a::r:=by cases ws with|nil=>exact absurd rfl L.2.2.1|cons a r=>exact⟨a,r,rfl⟩
 have WZ:L2.aM (ws.map D.str) 0=some (.str a):=by rw[ew];exact L2.mR (j:=0) (xs:=D.str a::r.map D.str) rfl
 have T:∀{E:Ev},E[3]?=some (some (n,.str∘ws))→E[4]?=some (.fr\.int (c%7))→E[5]?=some (.fr\.int k)→(bW (jB (ag aO (jV 4) (jC (.int 2)))) (bW (jB (ag c9 (jV 5) (jC (.int 1)))) (bW (jB (ag c9 (ag aC (jV 3) (jC (.int 0))) (jC (.str "part")))) (cE (bW (jB (ag aO (aD aY (ae (jV 3) ah)) (jC (.int 5)))) (jB (ag aO (jV 5) (jC (.int 3))))))))) E=some (decide (c%7=2)&&(!decide (k=1)&&(!decide (a = "part")&&!(decide ((ws.length:Int)=5)&&decide (k=3))))):=λ{E} e3 e4 e5=>by
  have v3:jV 3 E=some (n,.str∘ws):=by unfold jV;rw[e3];rfl
  have v4:jV 4 E=some (.fr,.int (c%7)):=by unfold jV;rw[e4];rfl
  have v5:jV 5 E=some (.fr,.int k):=by unfold jV;rw[e5];rfl
  exact vj (bl (o2 v4 rfl cV) rfl) (vj (bl (o2 v5 rfl m8) rfl) (vj (bl (o2 (o2 v3 rfl (nc WZ)) rfl sx) rfl) (bn (vj (bl (o2 (cb (cn v3 rfl) j3) rfl cV) rfl) (bl (o2 v5 rfl cV) rfl)) rfl)))
 have T:=T (E:=[.al\.int c,.al\.str∘ns,.bo\.lst ((gU++iH).map .str),some (n,.str∘ws),.fr\.int (c%7),.fr\.int k]) rfl rfl rfl;cases q:(decide (c%7=2)&&(!decide (k=1)&&(!decide (a = "part")&&!(decide ((ws.length:Int)=5)&&decide (k=3))))) with
 |true =>
  rw[q]at T;simp only[Bool.and_eq_true,Bool.not_eq_true',decide_eq_true_eq,decide_eq_false_iff_not,Bool.and_eq_false_iff]at q;obtain⟨_,q1,q2,q3⟩:=q;obtain⟨w,eb,bw⟩:=Kl (c/49);have B:=PF S k0 k1 q1 (λr z=>q2 (by rw[ew]at z;injection z)) (λh5 z=>q3.elim (λy=>y ∅) λy=>y z) bw;have W0:=B.l;rw[bN,bN]at W0;rw[gY ((dU T).trans (re (gG (o2 (o2 (iN rfl rfl (iO rfl)) (j4 (ca (xs:=[(.fr,.int (c/49))]) (cn (o2 rfl rfl (div_ii (by decide))) rfl) eb) (.inl rfl)) (dW (by decide) (by decide) ∅)) (iN rfl (iO (o2 rfl rfl lh)) rfl) (dW (by decide) (by decide) (by rw[bN];omega))) (ni B.d B.l))))];exact⟨_,rfl,B.bl⟩
 |false =>
  rw[q]at T;rw[aG ((bO T).trans gj)];rw[aG (e':=[.al\.int c,.al\.str∘ns,.bo\.lst ((gU++iH++oF).map .str),some (n,.str∘ws),.fr\.int (c%7),.fr\.int k]) (se (o2 (x:=(.bo,.lst ((gU++iH).map .str))) (y:=(.un,.str∘oF)) rfl rfl (dW (by decide) (by decide) (by decide))) rfl rfl)];rw[aG (e':=[.al\.int c,.al\.str∘ns,.bo\.lst ((gU++iH++oF++vn).map .str),some (n,.str∘ws),.fr\.int (c%7),.fr\.int k]) (se (o2 (x:=(.bo,.lst ((gU++iH++oF).map .str))) (y:=(.un,.str∘vn)) rfl rfl (dW (by decide) (by decide) (by decide))) rfl rfl)];have p0:=cY (c/7) (show(36:Int)≠0 by decide);have p1:=dr (c/7) (show(0:Int)<36 by decide);obtain⟨w,ew,wm⟩:=oQ (ns:=gU++iH++oF++vn) p0 (by show c/7%36<36;exact p1);rw[re (o2 (y:=(.fr,.int (c/7%36))) rfl (o2 (o2 rfl rfl (div_ii (by decide))) rfl (dz (by decide))) (nc ew))];exact⟨w,rfl,T8 w wm⟩
theorem ll{α:Type}(ds:List α){i:Nat}(h:i≤ds.length):J.cut ds none (some (i:Int))=ds.take i:=by
 unfold J.cut;rw[HT.Bi,HT.rA,List.drop_zero,Nat.sub_zero,Nat.min_eq_left h]
theorem pD{α:Type}(ds:List α){i:Nat}(h:i≤ds.length):J.cut ds (some (i:Int)) none=ds.drop i:=by
 unfold J.cut;rw[HT.Bi,HT.rA,Nat.min_eq_left h];exact List.take_of_length_le (by rw[List.length_drop];exact a7 _)
theorem vP{ls:List Str}(h0:ls≠[])(h:∀s∈ls,10∉ch s):Txt.split (Txt.join "\n" ls) ⟨#[10]⟩=ls:=by
 rw[oR,yt,rq,xG 10 _ (by simpa using h0) (λp m=>by
  obtain⟨q,hq,rfl⟩:=cX.mp m;exact h q hq),fF]
 exact(yP λw _=>pJ w).trans (List.map_id ls)
theorem wX{ls:List Str}(h:∀s∈ls,s.length≤199)(hl:ls.length≤400):(Txt.join "\n" ls).length≤90000:=by
 have:=BK (c:=10) h;rw[yt];omega
structure LN (s:Str):Prop where
 l:s.length≤199
 n:10∉ch s
 k:kU s
theorem GN.ln{s:Str}(h:GN s):LN s:=⟨h.l,h.n,h.l,λ_=>h.g⟩
theorem GN.has{s:Str}(h:GN s):ib s=true:=by
 unfold ib;cases q:a9 s with
 |nil=>exact absurd q h.w
 |cons a b=>rfl
theorem nr {s:Str} (m:s∈([ "", "  ", "# x = = y", "   # 7", " ", "#x = 3", "  # end"]:List Str)):LN s∧a9 s=[]:=by
 have:=bY.mp Mj s m;simp only[Bool.and_eq_true,decide_eq_true_eq,Bool.not_eq_true',List.isEmpty_iff,List.contains_eq_mem,decide_eq_false_iff_not]at this;exact⟨⟨this.1.1,this.2,this.1.1,λz=>absurd this.1.2 z⟩,this.1.2⟩
def cnt(ls:List Str):Nat:=(ls.filter ib).length
theorem la(a b:List Str):cnt (a++b)=cnt a+cnt b:=by unfold cnt;rw[List.filter_append,bN]
theorem sU{s:Str}(h:GN s):cnt [s]=1:=by unfold cnt;rw[List.filter_cons,h.has];rfl
theorem T9{s:Str}(h:a9 s=[]):cnt [s]=0:=by unfold cnt;rw[List.filter_cons,show ib s=false by unfold ib;rw[h];rfl];rfl
theorem vQ:∀ls:List Str,(g7 ls).length=cnt ls
 |[]=>rfl
 |w::ls=>by
  show(jR w++g7 ls).length=_;rw[bN,vQ ls,show w::ls=[w]++ls from rfl,la];congr 1;unfold cnt jR ib;cases q:a9 w with
  |nil=>rw[if_pos rfl,List.filter_cons,q];rfl
  |cons a b=>rw[if_neg (List.cons_ne_nil _ _),List.filter_cons,q];rfl
theorem wY{a b:List Str}{w:Str}{n:Int}(ha:∀s∈a,LN s)(hb:∀s∈b,s.length≤199∧10∉ch s)(bw:BL w)(hl:a.length+b.length≤399)(hn:n=(a.length:Nat)):fj [.str (Txt.join "\n" (a++w::b)),.int n]=some (.fr,.bl true):=by
 have L:∀s∈a++w::b,s.length≤199∧10∉ch s:=cG (λs m=>⟨(ha s m).l,(ha s m).n⟩) (cF ⟨bw.l,bw.n⟩ hb);subst hn;refine AO (Nv (a:=a) (w:=w) (b:=b) (wX (λs m=>(L s m).1) (by rw[bN,b7];omega)) (vP (by simp) λs m=>(L s m).2) (λs m=>(ha s m).k) bw.l bw.w bw.g)
theorem C1{ls:List Str}(h:∀s∈ls,LN s)(hl:ls.length≤400)(h0:0<cnt ls):∃rs:List D,k7 [.str (Txt.join "\n" ls)]=.un\.lst rs∧rs.length=cnt ls:=by
 have ne:ls≠[]:=λz=>by rw[z]at h0;exact absurd h0 (by decide)
 have e:=vP ne λs m=>(h s m).n;have r:=Mi (t:=Txt.join "\n" ls) (wX (λs m=>(h s m).l) hl) (by rw[e];exactλs m=>(h s m).k) (by
  rw[e];intro z;have:=vQ ls;rw[z]at this;exact absurd this.symm (by simp;omega))
 rw[e]at r;exact⟨_,r,vQ ls⟩
theorem Ny{k:Int}(h0:0≤k)(h1:k<5):fj [.str (Txt.join "\n" (cut (["", " ", "#x = 3", "  # end"]:List Str) none (some k))),.int 0]=some (.fr,.bl true):=by
 have A:∀ls:List Str,(∀s∈ls,s∈([ "", "  ", "# x = = y", "   # 7", " ", "#x = 3", "  # end"]:List Str))→ls≠[]→ls.length≤400→fj [.str (Txt.join "\n" ls),.int 0]=some (.fr,.bl true):=λls m ne hl=>by
  have e:=vP ne λs q=>(nr (m s q)).1.n;refine AO (Mh (wX (λs q=>(nr (m s q)).1.l) hl) (by rw[e];exactλs q=>(nr (m s q)).1.k) ?_);rw[e];refine List.flatMap_eq_nil_iff.mpr λs q=>?_;exact if_pos (nr (m s q)).2
 have:k=0∨k=1∨k=2∨k=3∨k=4:=by omega
 rcases this with rfl|rfl|rfl|rfl|rfl
 ·refine(A [""] (λs q=>?_) (List.cons_ne_nil _ _) (by decide));simp only[List.mem_singleton]at q;subst q;exact bC
 ·refine A [""] (λs q=>?_) (List.cons_ne_nil _ _) (by decide);simp only[List.mem_singleton]at q;subst q;exact bC
 ·refine A ["", " "] (λs q=>?_) (List.cons_ne_nil _ _) (by decide);simp only[List.mem_cons,List.not_mem_nil,or_false]at q ⊢;rcases q with rfl|rfl<;>simp
 ·refine A ["", " ", "#x = 3"] (λs q=>?_) (List.cons_ne_nil _ _) (by decide);simp only[List.mem_cons,List.not_mem_nil,or_false]at q ⊢;rcases q with rfl|rfl|rfl<;>simp
 ·refine A ["", " ", "#x = 3", "  # end"] (λs q=>?_) (List.cons_ne_nil _ _) (by decide);simp only[List.mem_cons,List.not_mem_nil,or_false]at q ⊢;rcases q with rfl|rfl|rfl|rfl<;>simp
theorem BM{fe:Ev→Option (M×D)}{m:M}{fr:Ev}{s:Str}(h:∀d,fe (some (m,d)::fr)=.fr\.str s):∀ds:List D,cU eQ fe m fr ds=some ((List.replicate ds.length s).map λw=>(M.fr,D.str w))
 |[]=>rfl
 |d::ds=>by
  rw[cU];exact bo (a:=true) rfl (tR rfl (bo (h d) (bo (BM h ds) rfl)))
theorem PJ{ls:List Str}{k:Nat}{m n:M}(h:∀s∈ls,s.length≤199)(hl:ls.length≤200)(hk:k≤200):vy [.str∘ls,.lst ([.str "end"]),.int k]=some (.un,.lst ((ls++List.replicate (k-cnt ls) ("end" : Str)).map .str)):=by
 have MO:=CQ h (aQ hl (by decide));show(vx [.al\.str∘ls,.al\.lst [.str "end"],.al\.int k]).bind out=_;unfold vx;have J:∀d,(bp a8 bJ (jC (.str " ")) (ae (jV 1) ah)) (.fr\d::[.al\.lst [.str "end"]])=some (.fr,.str "end"):=λd=>gG (ws:=["end"]) rfl ((ni (ws:=["end"]) (cF (gF _ (by decide +kernel)) cN) (by decide)).trans (by rw[show Txt.join " " (["end"]:List Str) = "end" by decide +kernel]));have E:∀c:Nat,(j9 (ae (aD lF (ae (ag j8 (jV 2) (aB jT (ae (jV 0) ah))) (ae (jC (.int 0)) ah))) ah)) [.al\.str∘ls,.al\.lst [.str "end"],.al\.int k]=some (.fr,cZ 0 (k-cnt ls)):=λ_=>by
  refine bo (cn (cb (cn (o2 rfl (ca (xs:=[(.al,.str∘ls)]) rfl MO) Dx) (cn rfl rfl)) (show lF _=some (M.fr,.int ((k-cnt ls:Nat):Int))from ?_)) rfl) ?_
  ·show some (M.fr,D.int (if (0:Int)>(k:Int)-(cnt ls:Nat)then 0 else (k:Int)-(cnt ls:Nat)))=_;congr 3;split<;>omega
  ·show(if -4611686018427387904≤((k-cnt ls:Nat):Int)∧((k-cnt ls:Nat):Int)<4611686018427387904 then some (M.fr,cZ 0 ((k-cnt ls:Nat):Int).toNat)else none)=_;rw[if_pos ∅,Int.toNat_natCast]
 have C:(fA (j9 (ae (aD lF (ae (ag j8 (jV 2) (aB jT (ae (jV 0) ah))) (ae (jC (.int 0)) ah))) ah)) [1] eQ (bp a8 bJ (jC (.str " ")) (ae (jV 1) ah))) [.al\.str∘ls,.al\.lst [.str "end"],.al\.int k]=some (.un,.lst ((List.replicate (k-cnt ls) ("end" : Str)).map .str)):=by
  refine bo (E 0) (bo (BM J _) ?_);rw[show(cZ 0 (k-cnt ls)).length=k-cnt ls by simp[cZ]];exact wq (.inl rfl) _ (by rw[qe];omega)
 rw[re (o2 rfl C (dW (by decide) (by decide) (by rw[qe];omega)))];rfl
theorem D6:GN "end" := by
 have L:LG ["end"]:=⟨cF (gF _ (by decide +kernel)) cN,by decide,List.cons_ne_nil _ _,by decide +kernel⟩;have:=L.gn;rwa [show Txt.join " " (["end"]:List Str) = "end" by decide +kernel]at this
theorem E8:GN "go 3" := by
 have L:LG ["go", "3"]:=⟨cF (gF _ (by decide +kernel)) (cF (gF _ (by decide +kernel)) cN),by decide,List.cons_ne_nil _ _,by decide +kernel⟩;have:=L.gn;rwa [show Txt.join " " (["go", "3"]:List Str) = "go 3" by decide +kernel]at this
noncomputable abbrev EL(S N:D)(c:Int)(ls:List Str)(o4 o5:Option (M×D)):Ev:=[.al\S,.bo\N,.fr\.int c,.bo\.str∘ls,o4,o5,none,none,none,none,none,none]
theorem yx{S N:D}{c:Int}{ls:List Str}{o4 o5:Option (M×D)}{f:Ev→Option (M×D)}{s:Str}(hl:ls.length≤1000)(h:f (EL S N c ls o4 o5)=.fr\.str s):eO 3 f (EL S N c ls o4 o5)=some (.nx (EL S N c (ls++[s]) o4 o5)) :=
 ap (y:=(.bo,ls.map .str)) h rfl rfl (by rw[ln];exact lQ hl (by decide)) (by show(EL S N c ls o4 o5).set 3 (.bo\.lst (ls.map D.str++([s]:List Str).map D.str))=_;rw[←kl];rfl)
theorem Nz{S:D}{ns:List Str}{c k x:Int}{ls:List Str}(hv:∀z∈ns,nameS z=true)(h1:0<ns.length)(h2:ns.length≤50)(hl:ls.length≤500)(h:∀s∈ls,LN s):∃gW,oU (EL S (.str∘ns) c ls (.fr\.int k) (.fr\.int x))=some (.nx (EL S (.str∘ns) c gW (.fr\.int k) (.fr\.int x)))∧(∀s∈gW,LN s)∧gW.length≤ls.length+2∧cnt gW=cnt ls+1:=by
 obtain⟨ws,⟨m,el,hm⟩,S'⟩:=CW (x/6) ns hv h1 h2;have G:=S'.lg.gn;have p0:=cY (x/6) (show(4:Int)≠0 by decide);have p1:=dr (x/6) (show(0:Int)<4 by decide);have J:∀gW:List Str,(bp a8 bJ (jC (.str " ")) (ae (aB mK (ae (ag cz (jV 5) (jC (.int 6))) (ae (jV 1) ah))) ah)) (EL S (.str∘ns) c gW (.fr\.int k) (.fr\.int x))=some (.fr,.str (Txt.join " " ws)):=λgW=>gG (ca (xs:=[(.fr,.int (x/6)),(.bo,.str∘ns)]) (cn (o2 rfl rfl (div_ii (by decide))) rfl) el) (ni S'.lg.1 (aQ S'.lg.2.1 (by decide)));unfold oU;by_cases q:x%6=5
 ·obtain⟨w,ew,wm⟩:=oQ (ns:=["", "  ", "# x = = y", "   # 7"]) p0 (by show x/6%4<4;exact p1);have B:=nr (s:=w) (by
   simp only[List.mem_cons,List.not_mem_nil,or_false]at wm ⊢;rcases wm with rfl|rfl|rfl|rfl<;>simp)
  refine⟨ls++[w]++[Txt.join " " ws],?_,cG (cG h (cF B.1 cN)) (cF G.ln cN),by simp only[List.length_append,List.length_cons,List.length_nil];omega,by rw[la,la,T9 B.2,sU G]⟩;rw[aG ((dU (bl (o2 (o2 rfl rfl (dz (by decide))) rfl cV) (bR q))).trans (yx (s:=w) ∅ (o2 (y:=(.fr,.int (x/6%4))) (x:=(.un,.lst ((["", "  ", "# x = = y", "   # 7"]:List Str).map .str))) rfl (o2 (o2 rfl rfl (div_ii (by decide))) rfl (dz (by decide))) (nc ew))))];exact yx (by rw[bN];simp only[List.length_cons,List.length_nil];omega) (J _)
 ·refine⟨ls++[Txt.join " " ws],?_,cG h (cF G.ln cN),by simp only[List.length_append,List.length_cons,List.length_nil];omega,by rw[la,sU G]⟩;rw[aG ((bO (bl (o2 (o2 rfl rfl (dz (by decide))) rfl cV) (bF q))).trans rfl)];exact yx ∅ (J _)
abbrev GW:=gT 2 (di (gN 4) (di (gN 5) jm))
theorem BO{S:D}{ns:List Str}{c:Int}(hv:∀z∈ns,nameS z=true)(h1:0<ns.length)(h2:ns.length≤50):∀(L:List (Int×Int)) (ls:List Str) (o4 o5:Option (M×D)),(∀s∈ls,LN s)→ls.length+2*L.length≤500→∃gW mF mG,forL GW oU .fr (L.map λp=>.tup [.int p.1,.int p.2]) (EL S (.str∘ns) c ls o4 o5)=some (.nx (EL S (.str∘ns) c gW mF mG))∧(∀s∈gW,LN s)∧gW.length≤ls.length+2*L.length∧cnt gW=cnt ls+L.length
 |[],ls,o4,o5,h,_=>⟨ls,o4,o5,rfl,h,by simp,rfl⟩
 |p::L,ls,o4,o5,h,hl=>by
  rw[b7]at hl;obtain⟨W2,e1,g1,l1,c1⟩:=Nz (S:=S) (c:=c) (k:=p.1) (x:=p.2) hv h1 h2 ∅ h;obtain⟨W3,q4,q5,e2,g2,l2,c2⟩:=BO (S:=S) (c:=c) hv h1 h2 L W2 (.fr\.int p.1) (.fr\.int p.2) g1 ∅;refine⟨W3,q4,q5,?_,g2,by rw[b7];omega,by rw[b7];omega⟩;rw[mq,forL,show GW (.fr,D.tup [.int p.1,.int p.2]) (EL S (.str∘ns) c ls o4 o5)=some (EL S (.str∘ns) c ls (.fr\.int p.1) (.fr\.int p.2))from rfl,oq,e1,oq];exact e2
theorem Sn(xs:List Int):iM (xs.map D.int)=(xs.mapIdx λi x=>((i:Int),x)).map λp=>D.tup [.int p.1,.int p.2]:=by
 unfold iM;apply List.ext_getElem?;intro i;simp only[List.getElem?_mapIdx,List.getElem?_map];cases xs[i]?<;>rfl
theorem NB(ns:List Int)(hl:ns.length≤63):∃m,xF [.int∘ns]=some (m,.bl true):=by
 obtain⟨c0,e0⟩:=wu ns 0 (by decide) (by decide);obtain⟨c1,e1⟩:=wu ns 1 (by decide) (by decide);obtain⟨c2,e2⟩:=wu ns 2 (by decide) (by decide);obtain⟨fs,fl,hv,en⟩:=Nw c0 4 (by decide);obtain⟨bad,eb,B⟩:=PH c2 fs hv ∅ ∅;have uE:(J.cut ns (some 3) (some 59)).length≤56:=by
  unfold J.cut;rw[kg,show HT.aF ns.length 0 (some 3)=min 3 ns.length from HT.rA ..,show HT.aF ns.length ns.length (some 59)=min 59 ns.length from HT.rA ..];omega
 obtain⟨ls,o4,o5,ef,hG,hn,hc⟩:=BO (S:=.int∘ns) (c:=c1) hv ∅ ∅ ((J.cut ns (some 3) (some 59)).mapIdx λi x=>((i:Int),x)) [] none none cN (by simp only[List.length_mapIdx,List.length_nil];omega);rw[List.length_mapIdx]at hn hc;rw[show cnt []=0 from rfl,Nat.zero_add]at hc;rw[List.length_nil,Nat.zero_add]at hn;have r0:=cY c1 (show(100:Int)≠0 by decide);have r1:=dr c1 (show(0:Int)<100 by decide);obtain⟨k,hk⟩:∃k:Nat,60+c1%100=(k:Int):=⟨(60+c1%100).toNat,by omega⟩;have EM:=PJ (m:=.bo) (n:=.un) (k:=k) (λs m=>(hG s m).l) ∅ ∅;generalize qN:ls++List.replicate (k-cnt ls) ("end" : Str)=full at EM;have X3:full.length≤272:=by rw[←qN,bN,qe];omega
 have W4:∀s∈full,LN s:=by rw[←qN];exact cG hG λs m=>by rw[(List.mem_replicate.mp m).2];exact D6.ln
 have W5:cnt full=k:=by
  have:∀n:Nat,cnt (List.replicate n ("end" : Str))=n:=λn=>by
   induction n with
   |zero=>rfl
   |succ n ih=>rw[qg,show("end" : Str)::List.replicate n ("end" : Str)=(["end"]:List Str)++List.replicate n ("end" : Str)from rfl,la,sU D6,ih];omega
  rw[←qN,la,this];omega
 have qO:∀s∈full++(["go 3"]:List Str),LN s:=cG W4 (cF E8.ln cN);have IL:cnt (full++(["go 3"]:List Str))=k+1:=by rw[la,W5,sU E8]
 have W6:(full++(["go 3"]:List Str)).length≤273:=by rw[bN];simp only[List.length_cons,List.length_nil];omega
 have W7:∀n,n≤ls.length→(full++(["go 3"]:List Str)).take n=ls.take n:=λn h=>by rw[←qN,List.append_assoc,List.take_append_of_le_length h]
 generalize IQ:full++(["go 3"]:List Str)=over at qO IL W6 W7;have z7:ls.length≤over.length:=by rw[←IQ,←qN];simp only[List.length_append];omega
 obtain⟨sp,gM,gX⟩:∃sp:Nat,c1/4%((ls.length:Int)+1)=(sp:Int)∧sp≤ls.length:=by
  have a:=cY (c1/4) (show(ls.length:Int)+1≠0 by omega);have b:=dr (c1/4) (show(0:Int)<(ls.length:Int)+1 by omega);exact⟨(c1/4%((ls.length:Int)+1)).toNat,by omega,by omega⟩
 have z0:=cY (c1/4) (show(5:Int)≠0 by decide);have z1:=dr (c1/4) (show(0:Int)<5 by decide);have TG:∀s∈ls.take sp,LN s:=λs m=>hG s (List.mem_of_mem_take m);have TL:(ls.take sp).length=sp:=by rw[kg];omega
 have LB:∀{l:List Str},(∀s∈l,LN s)→∀s∈l,s.length≤199∧10∉ch s:=λh s m=>⟨(h s m).l,(h s m).n⟩;have R1:=wY (n:=(sp:Int)) (b:=ls.drop sp) TG (LB λs m=>hG s (List.mem_of_mem_drop m)) B (by rw[TL,List.length_drop];omega) (by rw[TL]);have R2:=Ny z0 z1;obtain⟨rs,R3,W8⟩:=C1 qO ∅ ∅;have R4:=wY (n:=(over.length:Int)) (b:=[]) qO cN B (by simp only[List.length_nil];omega) rfl;have R5:=wY (n:=(sp:Int)) (b:=over.drop sp++[bad]) TG (cG (LB λs m=>qO s (List.mem_of_mem_drop m)) (cF ⟨B.l,B.n⟩ cN)) B (by rw[TL,bN,List.length_drop];simp only[List.length_cons,List.length_nil];omega) (by rw[TL]);have LL:∀s∈ls,s.length≤199:=λs m=>(hG s m).l;have MN:=CQ LL ∅;have W9:(Str.ofString "\n").length≤1:=by decide +kernel
 have Xa:(ls.take sp++bad::ls.drop sp).length≤400:=by rw[bN,b7,TL,List.length_drop];omega
 have JL:∀{l:List Str}{m:M},(∀s∈l,s.length≤199)→l.length≤400→bJ (.fr,.str "\n") [(m,.str∘l)]=some (.fr,.str (Txt.join "\n" l)):=λa b=>E7 W9 a b;show ∃m,(xE [.al\.int∘ns,none,none,none,none,none,none,none,none,none,none,none]).bind out=_;unfold xE;rw[aG (e':=[.al\.int∘ns,.bo\.str∘fs,none,none,none,none,none,none,none,none,none,none]) (se (ca (xs:=[(.fr,.int c0),(.fr,.int 4)]) (cn (ca (xs:=[(.al,.int∘ns),(.fr,.int 0)]) rfl e0) rfl) en) rfl rfl)];rw[aG (e':=[.al\.int∘ns,.bo\.str∘fs,.fr\.int c1,none,none,none,none,none,none,none,none,none]) (se (ca (xs:=[(.al,.int∘ns),(.fr,.int 1)]) rfl e1) rfl rfl)];rw[aG (e':=EL (.int∘ns) (.str∘fs) c1 [] none none) rfl];have F:fU (jM (ae (de cS (jV 0) (cy (jC (.int 3))) (cy (jC (.int 59)))) ah)) GW oU (EL (.int∘ns) (.str∘fs) c1 [] none none)=some (.nx (EL (.int∘ns) (.str∘fs) c1 ls o4 o5)):=by
  refine bo (a:=(.fr,iM ((J.cut ns (some 3) (some 59)).map .int))) (bo (cn (x:=(.un,.lst ((J.cut ns (some 3) (some 59)).map .int))) (bo (a:=(.al,.int∘ns)) rfl (bo (a:=some 3) rfl (bo (a:=some 59) rfl ?_))) rfl) rfl) ?_
  ·show(match f9 .al (J.cut (ns.map D.int) (some 3) (some 59)) with|some z=>some z|none=>_)=_
   rw[CY,Ra (A7 _)]
  ·rw[Sn];exact ef
 rw[aG F];rw[aG (e':=[.al\.int∘ns,.bo\.str∘fs,.fr\.int c1,.bo\.str∘ls,o4,o5,.bo\.str∘full,none,none,none,none,none]) (se (ca (xs:=[(.bo,.str∘ls),(.un,.lst [.str "end"]),(.fr,.int k)]) (cn rfl (cn rfl (cn (o2 rfl (o2 rfl rfl (dz (by decide))) (lh.trans (by rw[hk]))) rfl))) EM) rfl rfl)];rw[aG (e':=[.al\.int∘ns,.bo\.str∘fs,.fr\.int c1,.bo\.str∘ls,o4,o5,.bo\.str∘full,.bo\.str∘over,none,none,none,none]) (se (o2 rfl (j4 (w := "go 3") rfl (.inl rfl)) ((dW (by decide) (by decide) (by simp only[List.length_cons,List.length_nil];omega)).trans (by rw[IQ]))) rfl rfl)];rw[aG (e':=[.al\.int∘ns,.bo\.str∘fs,.fr\.int c1,.bo\.str∘ls,o4,o5,.bo\.str∘full,.bo\.str∘over,.fr\.str bad,none,none,none]) (se (ca (xs:=[(.fr,.int c2),(.bo,.str∘fs)]) (cn (ca (xs:=[(.al,.int∘ns),(.fr,.int 2)]) rfl e2) rfl) eb) rfl rfl)];rw[aG (e':=[.al\.int∘ns,.bo\.str∘fs,.fr\.int c1,.bo\.str∘ls,o4,o5,.bo\.str∘full,.bo\.str∘over,.fr\.str bad,.fr\.int sp,none,none]) (se (o2 (y:=(.fr,.int ((ls.length:Int)+1))) (o2 rfl rfl (div_ii (by decide))) (o2 (cb rfl j3) rfl lh) ((dz ∅).trans (by rw[gM]))) rfl rfl)];rw[aG (e':=[.al\.int∘ns,.bo\.str∘fs,.fr\.int c1,.bo\.str∘ls,o4,o5,.bo\.str∘full,.bo\.str∘over,.fr\.str bad,.fr\.int sp,.fr\.str (Txt.join "\n" (ls.take sp++bad::ls.drop sp)),none]) (se (gG (o2 (o2 (iN rfl rfl (iO rfl)) (j4 (w:=bad) rfl (.inl rfl)) (dW (by decide) (by decide) (by rw[ll _ gX,TL];simp only[List.length_cons,List.length_nil];omega))) (iN rfl (iO rfl) rfl) (dW (by decide) (by decide) (by rw[ll _ gX,pD _ gX,bN,TL,List.length_drop];simp only[List.length_cons,List.length_nil];omega))) (by
  rw[ll _ gX,pD _ gX,List.append_assoc];exact JL (cG (λs m=>(TG s m).l) (cF B.l λs m=>LL s (List.mem_of_mem_drop m))) Xa)) rfl rfl)]
 rw[aG (e':=[.al\.int∘ns,.bo\.str∘fs,.fr\.int c1,.bo\.str∘ls,o4,o5,.bo\.str∘full,.bo\.str∘over,.fr\.str bad,.fr\.int sp,.fr\.str (Txt.join "\n" (ls.take sp++bad::ls.drop sp)),.fr\.str (Txt.join "\n" (cut (["", " ", "#x = 3", "  # end"]:List Str) none (some (c1/4%5))))]) (se (gG (iN (ws:=["", " ", "#x = 3", "  # end"]) (m:=.un) rfl rfl (iO (o2 (o2 rfl rfl (div_ii (by decide))) rfl (dz (by decide))))) (JL (λs m=>(nr (s:=s) (by
  have:=oW m;simp only[List.mem_cons,List.not_mem_nil,or_false]at this ⊢;rcases this with rfl|rfl|rfl|rfl<;>simp)).1.l) (by unfold cut;rw[kg,List.length_drop];simp only[List.length_cons,List.length_nil];omega))) rfl rfl)]
 generalize Txt.join "\n" (cut (["", " ", "#x = 3", "  # end"]:List Str) none (some (c1/4%5)))=emp at R2;generalize Txt.join "\n" (ls.take sp++bad::ls.drop sp)=txt at R1;generalize hE:([.al\.int∘ns,.bo\.str∘fs,.fr\.int c1,.bo\.str∘ls,o4,o5,.bo\.str∘full,.bo\.str∘over,.fr\.str bad,.fr\.int sp,.fr\.str txt,.fr\.str emp]:Ev)=E;have v2:jV 2 E=some (.fr,.int c1):=by rw[←hE];rfl
 have v3:jV 3 E=some (.bo,.str∘ls):=by rw[←hE];rfl
 have v7:jV 7 E=some (.bo,.str∘over):=by rw[←hE];rfl
 have v8:jV 8 E=some (.fr,.str bad):=by rw[←hE];rfl
 have v9:jV 9 E=some (.fr,.int sp):=by rw[←hE];rfl
 have v10:jV 10 E=some (.fr,.str txt):=by rw[←hE];rfl
 have v11:jV 11 E=some (.fr,.str emp):=by rw[←hE];rfl
 have z8:∀s∈over,s.length≤199:=λs m=>(qO s m).l;have gj:∀{E:Ev},aP E=some (.nx E):=rfl;have t1:(aB fj (ae (jV 10) (ae (jV 9) ah))) E=some (.fr,.bl true):=ca (xs:=[(.fr,.str txt),(.fr,.int sp)]) (cn v10 (cn v9 rfl)) R1;have t2:(aB fj (ae (jV 11) (ae (jC (.int 0)) ah))) E=some (.fr,.bl true):=ca (xs:=[(.fr,.str emp),(.fr,.int 0)]) (cn v11 (cn rfl rfl)) R2;have t3:(aD aY (ae (aB k7 (ae (bp a8 bJ (jC (.str "\n")) (ae (jV 7) ah)) ah)) ah)) E=some (.fr,.int (61+c1%100)):=cb (cn (ca (xs:=[(.fr,.str (Txt.join "\n" over))]) (cn (gG v7 (JL z8 ∅)) rfl) R3) rfl) (by rw[j0,W8,IL,show((k+1:Nat):Int)=61+c1%100 by omega]);have t4:(aB fj (ae (bp a8 bJ (jC (.str "\n")) (ae (ag a6 (jV 7) (bh (ae (jV 8) ah))) ah)) (ae (aD aY (ae (jV 7) ah)) ah))) E=some (.fr,.bl true):=ca (xs:=[(.fr,.str (Txt.join "\n" (over++[bad]))),(.fr,.int over.length)]) (cn (gG (o2 v7 (j4 v8 (.inl rfl)) (dW (by decide) (by decide) (by simp only[List.length_cons,List.length_nil];omega))) (JL (cG z8 (cF B.l cN)) (by rw[bN];simp only[List.length_cons,List.length_nil];omega))) (cn (cb (cn v7 rfl) j3) rfl)) R4;have t5:(aB fj (ae (bp a8 bJ (jC (.str "\n")) (ae (ag a6 (ag a6 (ag a6 (de cS (jV 3) dS (cy (jV 9))) (bh (ae (jV 8) ah))) (de cS (jV 7) (cy (jV 9)) dS)) (bh (ae (jV 8) ah))) ah)) (ae (jV 9) ah))) E=some (.fr,.bl true):=by
  have w:(ls.take sp++[bad]++over.drop sp++[bad]).length≤400:=by simp only[List.length_append,TL,List.length_drop,List.length_cons,List.length_nil];omega
  refine ca (xs:=[(.fr,.str (Txt.join "\n" (ls.take sp++bad::(over.drop sp++[bad])))),(.fr,.int sp)]) (cn (gG (o2 (o2 (o2 (iN v3 rfl (iO v9)) (j4 v8 (.inl rfl)) (dW (by decide) (by decide) ?_)) (iN v7 (iO v9) rfl) (dW (by decide) (by decide) ?_)) (j4 v8 (.inl rfl)) (dW (by decide) (by decide) ?_)) ?_) (cn v9 rfl)) R5
  ·rw[ll _ gX];simp only[List.length_append]at w;omega
  ·rw[ll _ gX,pD _ (aQ gX z7)];simp only[List.length_append]at w ⊢;omega
  ·rw[ll _ gX,pD _ (aQ gX z7)];simp only[List.length_append]at w ⊢;omega
  ·rw[ll _ gX,pD _ (aQ gX z7),show ls.take sp++bad::(over.drop sp++[bad])=ls.take sp++[bad]++over.drop sp++[bad] by simp];exact JL (cG (cG (cG (λs m=>(TG s m).l) (cF B.l cN)) λs m=>z8 s (List.mem_of_mem_drop m)) (cF B.l cN)) w
 rw[aG ((bO (Ir (bn (bl t1 rfl) rfl) (bn (bl t2 rfl) rfl))).trans gj)];rw[aG ((bO (Ir (bl (o2 t3 (o2 rfl (o2 v2 rfl (dz (by decide))) lh) m8) (by rw[bR rfl];rfl)) (bn (bl t4 rfl) rfl))).trans gj)];rw[aG ((bO (bn (bl t5 rfl) rfl)).trans gj)];have t6:(bW (jB (ag f7 (aD aY (ae (jV 3) ah)) (jC (.int 0)))) (jB (ag c9 (aD aY (ae (aB k7 (ae (bp a8 bJ (jC (.str "\n")) (ae (jV 3) ah)) ah)) ah)) (aB jT (ae (jV 3) ah))))) E=some false:=by
  by_cases q:(0:Int)<ls.length
  ·obtain⟨rs,R6,Xb⟩:=C1 hG ∅ ∅;exact bat (bl (o2 (cb (cn v3 rfl) j3) rfl pH) (bR q)) (bl (o2 (cb (cn (ca (xs:=[(.fr,.str (Txt.join "\n" ls))]) (cn (gG v3 (JL LL ∅)) rfl) R6) rfl) (by rw[j0,Xb])) (ca (xs:=[(.bo,.str∘ls)]) (cn v3 rfl) MN) m8) (by rw[bR (by rfl)];rfl))
  ·exact Iq (bl (o2 (cb (cn v3 rfl) j3) rfl pH) (bF q))
 rw[aG ((bO t6).trans gj)];rw[re t1];exact⟨_,rfl⟩
end bB
namespace bB
open PySem PySem.Spec L2 My J
theorem walk {l:PySem.W.OpenLaw}{q:Program}{loose:List Str}{XP:(Str→Option Value)→Heap→Prop}{YP:World→Heap→Prop}{d:DefRec}{K:Params→PySem.W.Frag} (hn:l.most=some 63) (qu:d.params.defaults=[]) (hd:d.name = "law")
  (hY:∀(w:World) (h:Heap),YP w h→(K w.params).In h) (F:∀(w:World),C.vd (K w.params) yr∧C.vf (K w.params) bs∧C.vg (K w.params) gs∧C.z4 (K w.params) xs=true∧C.vh (K w.params) xs) :
  PySem.W.WalkO q loose XP YP l.row.toRowW d [] (λf vs=>PySem.call f vs) :=
 L2.N6 (n:=63) (k:=8) (x := "_law_script") (CX:=λw=>cI l.prog w) (sp:=λw=>mj (K w.params) 1 xF) hn (by decide) qu ⟨rfl,by decide,by decide⟩ hY (λw mg fa h X G zY=>C.TN X G (hd▸zY) (F w).2.1 (F w).2.2.1 (C.TQ (F w).2.2.2.1 (F w).2.2.2.2 bi) (F w).1 ba ok WH λ_ _ _ _ _ _ _ _=>.of_eq rfl) (λ_ _ a ns hl _ hS=>QT hS (NB ns hl)) λ_ _ _ _ _ z=>TR z
end bB
namespace PySem.W.Fast
def tw6825438395812114812:=0
def tw7330411653048742160:=0
def tw1727361100051018241:=0
def tw7125761647117852055:=0
def tw12387755693132661072:=0
def tw15757123268573887764:=0
def tw2393836075318043895:=0
def tw5409372237159945858:=0
def tw456368300719577251:=0
def tw10360212540037568230:=0
def tw7949943152929281404:=0
def tw17328067074034374630:=0
def tw10731408121376158127:=0
def tw15703124131464058001:=0
def tw8014698326163194857:=0
def tw7992512935638734337:=0
def tw7142506493365539853:=0
def tw4659919284528444395:=0
def tw11372544968748522898:=0
def tw4235501742356589841:=0
def tw11171164017068338350:=0
def tw7423760178618915503:=0
def tw13137645108084012547:=0
def tw9347072382713247594:=0
def tw3557719821663351491:=0
def tw14106479633453452060:=0
def tw14994009434949679507:=0
def tw10352803453473967180:=0
def tw5184074044758854961:=0
def tw18292866872567154450:=0
def tw16815853192600987793:=0
def tw323026591200365591:=0
def tw5584382344598825457:=0
def tw3344424802362222825:=0
def tw15671150432206100517:=0
def tw5236102455633394941:=0
def tw1091846407054516956:=0
def tw15067581906610977427:=0
def tw17324136371634168056:=0
def tw2852339353330696888:=0
def tw16105333555678834612:=0
def tw7749809210326023954:=0
def tw11327964399341929696:=0
def tw13662280771435453121:=0
def tw4980736604757894120:=0
def tw17556895138178304748:=0
def tw4547871840796293284:=0
def tw3202578444865767671:=0
def tw12077850899010304840:=0
def tw5070529862589291878:=0
def tw4373061895331095536:=0
def tw3756013775239408376:=0
def tw14776529743331066054:=0
def tw9435255585663158969:=0
def tw681318772485796081:=0
def tw4663642446889198582:=0
def tw12011751946584399083:=0
def tw9313754357611806973:=0
def tw18327050638416943553:=0
def tw4683175276968584864:=0
def tw13397452511791123993:=0
def tw3908693589043345203:=0
def tw10600001719780560600:=0
def tw16493584413064187417:=0
def tw11313079325202221307:=0
def tw3837021648971809419:=0
def tw2684665864944729200:=0
def tw12158255471680318615:=0
def tw2925471937783128277:=0
def tw178426790627932401:=0
def tw15535035780355877696:=0
def tw13787305422425442600:=0
def tw6571017676049039674:=0
def tw13101808414802188352:=0
def tw14589313541090060431:=0
def tw18440195646560861469:=0
def tw8587719872698474524:=0
def tw15582000642517441577:=0
def tw12690493334623617960:=0
def tw17370750032660215061:=0
def tw14483032247928384119:=0
def tw16195164862504365806:=0
def tw3245982698272854407:=0
def tw7402588385690853676:=0
def tw7028818973096468944:=0
def tw13350164995552386161:=0
def tw12470332896493135176:=0
def tw12534067978969010535:=0
def tw14744064402413658364:=0
def tw9737417107734091792:=0
def tw15554830572096819025:=0
def tw14250053094230849975:=0
def tw8908675970007811169:=0
def tw12823031685891787945:=0
def tw11735469542265116711:=0
def tw1669399312528397314:=0
def tw8574010917714891171:=0
def tw4914755719784498747:=0
def tw17613254102112820669:=0
def tw18366248720396026567:=0
def tw17740760729235200119:=0
def tw5718383302874198250:=0
def tw13877993321351599206:=0
def tw7942433706672037632:=0
def tw13464184239704863722:=0
def tw3978234927615276209:=0
def tw10680970284256295560:=0
def tw9754115319872547874:=0
def tw15749311008895320826:=0
def tw4127460137839836479:=0
def tw6752597271550813140:=0
def tw5067150441877074960:=0
def tw9631653306727890404:=0
def tw3670774469550566368:=0
def tw9299767690286979754:=0
def tw723432447472896741:=0
def tw17431013548515047006:=0
def tw12802362841049159823:=0
def tw11644349664183795805:=0
def tw12326300356004860210:=0
def tw9413744346794830642:=0
def tw2456172109611536466:=0
def tw14960527824721256086:=0
def tw9667599062155744895:=0
def tw1304498832646132418:=0
def tw13580322417106518636:=0
def tw2790736808809247511:=0
def tw14793313303033893038:=0
def tw15784674677043274499:=0
def tw9454934573391228137:=0
def tw430897457706202883:=0
def tw380547849971776323:=0
def tw17712654119453701363:=0
def tw12558336958134986048:=0
def tw11029845799411301206:=0
def tw15259604566783070323:=0
def tw16309636368921776419:=0
def tw3377533834564921798:=0
end PySem.W.Fast
open PySem PySem.W PyProof.Rows
set_option maxRecDepth 100000 in
set_option maxHeartbeats 0 in
theorem PySem.Challenge.cw_lazyhoist_k15_texts_refused_holds : PySem.Challenge.rw_lazyhoist_k15_texts_refused.Holds := by
  w_on; o_law; k_head; (case hw => w_witness2)
  k_fill
  refine bB.walk (l := PySem.Challenge.rw_lazyhoist_k15_texts_refused) rfl rfl rfl (λw h Y => PySem.W.kIn_of Y) ?F
  case F =>
    intro w;refine ⟨⟨(?_:C.DE _ "law" (bB.top 36) none), (?_:C.DE _ "read" (bB.top 19) none), (?_:C.DE _ "_law_refused" (bB.top 33) none), (?_:C.DE _ "read" (bB.top 19) none), (?_:C.DE _ "words_of" (bB.top 20) none), (?_:C.DE _ "row_of" (bB.top 21) none), (?_:C.DE _ "value_of" (bB.top 22) none), (?_:C.DE _ "writes_number" (bB.top 23) none), (?_:C.DE _ "number_of" (bB.top 24) none), (?_:C.DE _ "is_row" (bB.top 16) none), (?_:C.DE _ "is_target" (bB.top 15) none), (?_:C.DE _ "is_reckoning" (bB.top 17) none), (?_:C.DE _ "is_sign" (bB.top 14) none), (?_:C.DE _ "is_operand" (bB.top 13) none), (?_:C.DE _ "is_worth" (bB.top 12) none), (?_:C.DE _ "is_number" (bB.top 11) none), (?_:C.DE _ "is_name" (bB.top 10) none), (?_:C.DE _ "_law_none" (bB.top 32) none), (?_:C.DE _ "_law_bad_word" (bB.top 31) none), (?_:C.DE _ "_law_names" (bB.top 27) none), (?_:C.DE _ "_law_more" (bB.top 35) none), (?_:C.DE _ "_law_many" (bB.top 34) none), (?_:C.DE _ "_law_line" (bB.top 30) none), (?_:C.DE _ "_law_operand" (bB.top 29) none), (?_:C.DE _ "_law_digits" (bB.top 28) none), (?_:C.DE _ "_law_cell" (bB.top 26) none), trivial⟩, ⟨?Xc, ?Xd, ?Xe, ?Xf, ?Xg, ?Xh, ?Xi, ?Xj, ?Xl, ?Xm, ?U3, ?U4, trivial⟩, ⟨?Xn, ?Xo, ?Xp, ?Xq, trivial⟩, ?xt, .inl rfl, .inr (?Xr:C.IE _ ⟨"NoText", ["line"], C.jQ (bB.top 2), ["NoText", "HoistError", "ValueError"], "NoText.__init__"⟩), .inr (?Xs:C.IE _ ⟨"NoProgram", ["word", "at"], C.jQ (bB.top 3), ["NoProgram", "HoistError", "ValueError"], "NoProgram.__init__"⟩), .inr (?Xu:C.IE _ ⟨"NoPaper", ["word", "at", "way"], C.jQ (bB.top 4), ["NoPaper", "HoistError", "ValueError"], "NoPaper.__init__"⟩), trivial⟩
    iterate 26 (refine' C.UR ?a ?l ?c ?k; (case a => k_is); (case l => k_is); (case c => k_is); (case k => k_is))
    case Xc => (show PySem.W.nsIn _ mainGlobals "ValueError" = some none); k_is
    case Xd => (show PySem.W.nsIn _ mainGlobals "abs" = some none); k_is
    case Xe => (show PySem.W.nsIn _ mainGlobals "all" = some none); k_is
    case Xf => (show PySem.W.nsIn _ mainGlobals "bool" = some none); k_is
    case Xg => (show PySem.W.nsIn _ mainGlobals "enumerate" = some none); k_is
    case Xh => (show PySem.W.nsIn _ mainGlobals "int" = some none); k_is
    case Xi => (show PySem.W.nsIn _ mainGlobals "isinstance" = some none); k_is
    case Xj => (show PySem.W.nsIn _ mainGlobals "len" = some none); k_is
    case Xl => (show PySem.W.nsIn _ mainGlobals "max" = some none); k_is
    case Xm => (show PySem.W.nsIn _ mainGlobals "range" = some none); k_is
    case U3 => (show PySem.W.nsIn _ mainGlobals "str" = some none); k_is
    case U4 => (show PySem.W.nsIn _ mainGlobals "tuple" = some none); k_is
    case Xn => (show C.GE _ "SIGNS" (.t ["+", "-", "*", "&", "|", "^", "<", "="])); (refine' C.HQ ?a ?l ?v (by decide)); (case a => k_is); (case l => k_is); (case v => exact rfl)
    case Xo => (show C.GE _ "ROW_WORDS" (.t ["say", "go", "part", "end"])); (refine' C.HQ ?a ?l ?v (by decide)); (case a => k_is); (case l => k_is); (case v => exact rfl)
    case Xp => (show C.GE _ "LETTERS" (.s "abcdefghijklmnopqrstuvwxyz")); (refine' C.HN ?a); (case a => k_is)
    case Xq => (show C.GE _ "FIGURES" (.s "0123456789")); (refine' C.HN ?a); (case a => k_is)
    case Xr => (refine' C.yq ?a ?l ?m ?tl ?ok ?i ?lf ?c ?k ?fn ?sa; (case a => k_is); (case l => k_is); (case m => exact ⟨rfl, rfl, rfl⟩); (case tl => kernel_rfl); (case ok => kernel_rfl); (case i => k_is); (case lf => k_is); (case c => k_is); (case k => k_is); (case fn => k_is); (case sa => k_is))
    case Xs => (refine' C.yq ?a ?l ?m ?tl ?ok ?i ?lf ?c ?k ?fn ?sa; (case a => k_is); (case l => k_is); (case m => exact ⟨rfl, rfl, rfl⟩); (case tl => kernel_rfl); (case ok => kernel_rfl); (case i => k_is); (case lf => k_is); (case c => k_is); (case k => k_is); (case fn => k_is); (case sa => k_is))
    case Xu => (refine' C.yq ?a ?l ?m ?tl ?ok ?i ?lf ?c ?k ?fn ?sa; (case a => k_is); (case l => k_is); (case m => exact ⟨rfl, rfl, rfl⟩); (case tl => kernel_rfl); (case ok => kernel_rfl); (case i => k_is); (case lf => k_is); (case c => k_is); (case k => k_is); (case fn => k_is); (case sa => k_is))
    case xt => (show C.z4 _ bB.xs = true); kernel_rfl
